import PyProof.Rows.All
import Wide.All
import OpenK.AllK
import Wide.FinOn
import Lean
import PyProof.EqAt
import PyProof.EqKinds
import PyProof.TupleCall
import PyProof.NeKinds
import PyProof.ConsumeWalk
import PyProof.ListRange
import PyProof.TupleOfSeq
import PyProof.Rows.SortWalk
import PyProof.CompFree
import PySem.Challenge.RW_kinhearth_k24_facts_kept_and_asked
set_option Elab.async false
set_option linter.all false
set_option maxRecDepth 100000
set_option maxHeartbeats 4000000
open PySem
open PySem.W (instObj methodObj lookIn plainGet hasDictIn handedIn plainGet_of isFn plainOver takerIn makesIn typeIn emptyDict keepIn kitOne kia_one kitx_list kitx_dict callWith_K methodCall_KW cellsFrom_some fnOf codeIn nsIn mg_of mg_none_of kIn_of)
open PySem.F (slot_tuple_add slot_dict_delitem slot_dict_pop slot_dict_get entry_dict_get plainAttrs_dict type_dict_get plainAttrs_list)
abbrev Ya:=@List.length_map
abbrev Yb:=@Heap.get?_push_of_some
abbrev Yc:=@List.getElem?_eq_getElem
abbrev Yd:=@Nat.le_refl
abbrev Ye:=@List.mem_map
abbrev Yf:=@List.getElem?_map
abbrev Yg:=@List.mem_of_getElem?
abbrev Yh:=@List.mem_cons_self
abbrev Yi:=@Bool.false_ne_true
abbrev Yj:=@List.length_append
abbrev Yk:=@List.getD_eq_getElem?_getD
abbrev Yl:=@List.getElem?_eq_some_iff
abbrev Ym:=@List.mem_cons
abbrev Yn:=@List.mem_singleton
abbrev Yo:=@Option.some.inj
abbrev Yp:=@List.map_append
abbrev Yq:=@List.mem_append_right
abbrev Yr:=@List.size_toArray
abbrev Ys:=@Heap.get?_push_size
abbrev Yt:=@List.mem_append_left
abbrev Yu:=@List.mem_append
abbrev Yv:=@Nat.zero_le
abbrev Yw:=@Heap.lt_size
abbrev Yx:=@List.mem_cons_of_mem
abbrev Yy:=@Nat.ne_of_lt
abbrev Yz:=@List.nodup_cons
abbrev Y0:=@List.not_mem_nil
abbrev Y1:=@Nat.lt_of_lt_of_le
abbrev Y2:=@List.take_add_one
abbrev Y3:=@Nat.le_trans
abbrev Y4:=@List.getElem?_eq_none
abbrev Y5:=@List.mem_filter
abbrev Y6:=@Int.toNat_natCast
abbrev Y7:=@Nat.lt_irrefl
abbrev Y8:=@List.length_take
abbrev Y9:=@Array.getD_eq_getD_getElem?
abbrev Wa:=@List.map_map
abbrev Wb:=@List.getElem?_append_left
abbrev Wc:=@Sum.inr.inj
abbrev Wd:=@List.take_length
abbrev We:=@List.append_nil
abbrev Wf:=@Bool.eq_iff_iff
abbrev Wg:=@List.length_filter_le
abbrev Wh:=@Bool.and_eq_true
abbrev Wi:=@List.all_cons
abbrev Wj:=@List.ext_getElem?
abbrev Wk:=@Nat.not_lt_zero
abbrev Wl:=@List.length_cons
abbrev Wm:=@List.all_eq_true
abbrev Wn:=@List.map_cons
abbrev Wo:=@Array.length_toList
abbrev Wp:=@Nat.lt_succ_of_lt
abbrev Wq:=@List.mem_range
abbrev Wr:=@List.filter_append
abbrev Ws:=@List.mem_iff_getElem
abbrev Wt:=@List.take_of_length_le
abbrev Wu:=@List.pairwise_map
abbrev Wv:=@List.nodup_append
abbrev Ww:=@List.pairwise_iff_getElem
abbrev Wx:=@List.length_replicate
abbrev Wy:=@Nat.lt_of_le_of_lt
abbrev Wz:=@Int.emod_lt_of_pos
abbrev W0:=@List.lookup_cons
abbrev W1:=@List.filter_cons
abbrev W3:=@Nat.le_succ_of_le
abbrev W4:=@List.map_congr_left
abbrev W5:=@List.nodup_iff_pairwise_ne
abbrev W6:=@Nat.lt_succ_self
abbrev W7:=@List.any_cons
abbrev W8:=@Array.getElem?_eq_getElem
abbrev W9:=@List.nodup_nil
abbrev Ja:=@Option.isSome_iff_exists
abbrev Jb:=@List.length_set
abbrev Jc:=@Int.emod_nonneg
abbrev Jd:=@List.length_zip
abbrev Je:=@Heap.size_push
abbrev Jf:=@List.mem_filterMap
abbrev Jg:=@List.filter_filter
abbrev Jh:=@Array.getElem?_toList
abbrev Ji:=@Nat.le_of_ble_eq_true
abbrev Jj:=@Heap.get?_push_ne
abbrev Jk:=@List.append_assoc
abbrev Jl:=@List.getElem?_append_right
abbrev Jm:=@Array.perm_iff_toList_perm
abbrev Jn:=@List.any_eq_true
abbrev Jo:=@List.getElem_mem
abbrev Jp:=@List.length_drop
abbrev Jq:=@Int.toNat_of_nonneg
abbrev Jr:=@Nat.le_of_lt
abbrev Js:=@List.filter_cons_of_pos
abbrev Jt:=@List.filter_map
abbrev Ju:=@Bool.true_and
abbrev Jv:=@Bool.or_eq_true
abbrev Jw:=@Array.getElem?_eq_none
abbrev Jx:=@List.length_range
abbrev Jy:=@Bool.eq_false_iff
abbrev Jz:=@Heap.get?_update_self
abbrev J0:=@List.pairwise_append
abbrev J1:=@Bool.false_or
abbrev J3:=@List.filterMap_cons
abbrev J4:=@List.find?_cons
abbrev J5:=@List.getElem?_range
abbrev J6:=@Nat.ne_of_gt
abbrev J7:=@Int.zero_add
abbrev J8:=@List.zip_cons_cons
abbrev J9:=@List.any_eq_false
abbrev Uh:=@Option.isSome_map
abbrev z9:=@Nat.le_succ
abbrev Ao:=@Sum.inl.inj
abbrev Ug:=@List.cons_append
abbrev UP:=@List.mem_flatMap
abbrev T3:=@List.of_mem_zip
abbrev I0:=@Int.ne_of_gt
abbrev JR:=@List.all_map
abbrev Uq:=@List.nil_append
namespace L2
open PySem PySem.Spec PyProof.Rows
abbrev Key:=Sum Int Str
def qZ:Key->Value->Bool
 |.inl k,v=>Value.isInt k v
 |.inr x,v=>Value.isStrOf x v
def ZfQ(w:World):Key->Int
 |.inl k=>hashInt k
 |.inr x=>hashStr w x
theorem kX:∀{k:Key} {v:Value},qZ k v=true->(∃i t,k=Sum.inl i/\v=Value.int i t)\/(∃x t,k=Sum.inr x/\v=Value.str x t)
 |.inl i,v,h=>by
  obtain⟨t,e⟩:=Value.isInt_shape h
  grind
 |.inr x,v,h=>by
  obtain⟨t,e⟩:=Value.isStrOf_shape h
  grind
theorem ZaC(i:Int)(t:Tok):qZ (.inl i) (.int i t)=true:=by simp[qZ,Value.isInt]
theorem ZaD(x:Str)(t:Tok):qZ (.inr x) (.str x t)=true:=by simp[qZ,Value.isStrOf]
theorem ZdP(a b:Int):decide ((Sum.inl a:Key)=Sum.inl b)=(a==b):=by
 grind
theorem ZdQ(a b:Str):decide ((Sum.inr a:Key)=Sum.inr b)=decide (a=b):=by
 grind
theorem ZdR(a:Int)(b:Str):decide ((Sum.inl a:Key)=Sum.inr b)=false:=decide_eq_false (λq=>nomatch q)
theorem ZdS(a:Str)(b:Int):decide ((Sum.inr a:Key)=Sum.inl b)=false:=decide_eq_false (λq=>nomatch q)
def dz(prog:Program)(w:World):PySem.KeyKind prog w Key where
 is:=qZ
 hash:=ZfQ w
 inj:=λv a b ha hb=>by
  rcases kX ha with⟨i,t,rfl,rfl⟩|⟨x,t,rfl,rfl⟩
  ·rcases kX hb with⟨j,u,rfl,e⟩|⟨y,u,rfl,e⟩;·injection e with e1 _;rw[e1]
   ·exact nomatch e
  ·rcases kX hb with⟨j,u,rfl,e⟩|⟨y,u,rfl,e⟩;·exact nomatch e
   ·injection e with e1 _;rw[e1]
 byValue:=λk v h=>by
  rcases kX h with⟨i,t,rfl,rfl⟩|⟨x,t,rfl,rfl⟩<;>rfl
 pyHash:=λhv h=>by
  rcases kX hv with⟨i,t,rfl,rfl⟩|⟨x,t,rfl,rfl⟩;·exact wpAny_pyHash_int h
  ·exact wpAny_pyHash_str h
 eqBool:=λhu hv h=>by
  rcases kX hu with⟨i,t,rfl,rfl⟩|⟨x,t,rfl,rfl⟩
  ·rcases kX hv with⟨j,u,rfl,rfl⟩|⟨y,u,rfl,rfl⟩;·rw[ZdP] at h;exact wpAny_eqBool_int h
   ·rw[ZdR] at h;exact SeqAt.EqAt.int_str i t y u _ _ _ _ h
  ·rcases kX hv with⟨j,u,rfl,rfl⟩|⟨y,u,rfl,rfl⟩;·rw[ZdS] at h;exact SeqAt.EqAt.str_int x t j u _ _ _ _ h
   ·rw[ZdQ] at h;exact wpAny_eqBool_str h
 «strs»:=λk x t v h=>by
  rcases kX h with⟨i,u,rfl,e⟩|⟨y,u,rfl,e⟩;·exact nomatch e
  ·injection e with e1 _;subst e1;cases v<;>rfl
theorem YZ(prog:Program)(w:World)(i:Int)(t:Tok):(dz prog w).is (.inl i) (.int i t)=true:=ZaC i t
theorem Y_(prog:Program)(w:World)(x:Str)(t:Tok):(dz prog w).is (.inr x) (.str x t)=true:=ZaD x t
inductive V where
 |aB|bl (b:Bool)|int (i:Int)|str (x:Str)|i_ (b:Array UInt8)|rN (b:UInt64)|ref (a:Addr)|ty (n:String)
 deriving DecidableEq
def RelV:V->Value->Prop
 |.aB,u=>u=Value.none
 |.bl b,u=>u=Value.bool b
 |.int i,u=>∃t,u=Value.int i t
 |.str x,u=>∃t,u=Value.str x t
 |.i_ b,u=>∃t,u=Value.bytes b t
 |.rN b,u=>∃t,u=Value.float b t
 |.ref a,u=>u=Value.ref a
 |.ty n,u=>u=Value.type n
abbrev Vals:List V->List Value->Prop:=Paired RelV
theorem Vals.length{xs:List V}{us:List Value}(r:Vals xs us):xs.length=us.length:=Paired.length r
theorem Vals.get:∀{xs:List V} {us:List Value} {i:Nat} {x:V},Vals xs us->xs[i]?=some x->∃u,us[i]?=some u/\RelV x u
 |_,_,_,_,.nil,e=>by simp at e
 |_,_,0,_,.cons r _,e=>by simp at e;subst e;exact⟨_,rfl,r⟩
 |_,_,i+1,x,.cons _ t,e=>by
  obtain⟨u,h1,h2⟩:=Vals.get t (by simpa using e)
  grind
theorem Vals.set{x:V}{u:Value}(r:RelV x u):∀{xs:List V} {us:List Value} (i:Nat),Vals xs us->Vals (xs.set i x) (us.set i u)
 |_,_,_,.nil=>.nil
 |_,_,0,.cons _ t=>.cons r t
 |_,_,i+1,.cons q t=>.cons q (Vals.set r i t)
theorem Vals.append:∀{xs ys:List V} {us ws:List Value},Vals xs us->Vals ys ws->Vals (xs++ys) (us++ws):=by
 intro xs ys us ws h h';induction h with
 |nil=>exact h'
 |cons r t ih=>exact .cons r ih
theorem Vals.take:∀{xs:List V} {us:List Value} (n:Nat),Vals xs us->Vals (xs.take n) (us.take n)
 |_,_,0,_=>.nil
 |_,_,_+1,.nil=>.nil
 |_,_,n+1,.cons r t=>.cons r (Vals.take n t)
theorem Vals.drop:∀{xs:List V} {us:List Value} (n:Nat),Vals xs us->Vals (xs.drop n) (us.drop n)
 |_,_,0,r=>r
 |_,_,_+1,.nil=>.nil
 |_,_,n+1,.cons _ t=>Vals.drop n t
def fJ:Option V->Option Value->Prop
 |some v,some u=>RelV v u
 |none,none=>True
 |_,_=>False
def KV{κ:Type}:List (κ×V)->List (κ×Value)->Prop:=Paired λ(p:κ×V) (q:κ×Value)=>p.1=q.1/\RelV p.2 q.2
def kV:Key->V
 |.inl i=>.int i
 |.inr x=>.str x
inductive HO where
 /--a list-/
 |lst(xs:List V)
 /--a tuple(never changes)-/
 |tup(xs:List V)
 /--a dict Zfa keys are ints and texts;one Zfa keys are tuples of ints and texts(ot empty one is both)-/
 |dK(kvs:List (Key×V))|dT(kvs:List (List Key×V))
 /--a set of ints:ai members,ai size-/
 |set (S:Int->Bool) (n:Nat)
 /--an instance of ot class at C,ai dict at dx,ai attributes-/
 |ins (C dx:Addr) (fs:List (Str×V))
 /--ot dict of ot instance at x-/
 |own (x:Addr)
 /--ot dict of an exception-/
 |xd (fs:List (Str×V))
 /--a bound method,f of x-/
 |met (f x:Addr)
 /--a range object lo,lo+1,.. below hi-/
 |jb (lo hi:Int)
 /--a Zfb Zhp is known to ot object (ot Qo;a dict while a loop walks it):read,never written while it is so-/
 |cC (o:Obj) (u:HO)
 /--a code Zhe table-/
 |pV (ps:Array Value)
 /--any other Zfb,by Zhq is true of ai one object (a def of Zhk own:Zhr a S n:=HO.ext λh=>..)-/
 |ext (φ:Heap->Prop)
abbrev Hp:=Addr->Option HO
def upd(H:Hp)(a:Addr)(o:HO):Hp:=λb=>if b=a then some o else H b
theorem aW{H:Hp}{a:Addr}{o:HO}:upd H a o a=some o:=by unfold upd;rw[if_pos rfl]
theorem bg{H:Hp}{a b:Addr}{o:HO}(h:b≠a):upd H a o b=H b:=by unfold upd;rw[if_neg h]
theorem FY{H:Hp}{a:Addr}{o u:HO}:upd (upd H a o) a u=upd H a u:=by
 funext b;unfold upd;split<;>rfl
theorem RK{H:Hp}{a b:Addr}{o u:HO}(h:H a=some o)(h':H b=some u)(d:o≠u):a≠b:=by
 intro e;subst e;rw[h] at h';exact d (Yo h')
theorem ck{H:Hp}{a b:Addr}{o:HO}(h:H a=some o)(h':H b=none):a≠b:=by
 grind
section
variable (P:Program)(w:World)
def lq(h:Heap)(a:Addr)(items:Array Value):Prop:=∃o,h.get? a=some o/\o.cls=.type "tuple"/\∃n,o.data=.seq items n/\o.dict=none
theorem lq.tup{h:Heap}{a:Addr}{items:Array Value}(x:lq h a items):IsTup h a items:=let⟨o,e,c,n,d,_⟩:=x;⟨o,e,c,n,d⟩
theorem lq.lt{h:Heap}{a:Addr}{items:Array Value}(x:lq h a items):a<h.objs.size:=x.tup.lt
theorem lq.new(h:Heap)(items:Array Value):lq (h.push {cls:=.type "tuple",data:=.seq items}) h.objs.size items:=⟨_,Ys _ rfl,rfl,_,rfl,rfl⟩
def cT(H:Hp)(h:Heap)(a:Addr):HO->Prop
 |.lst xs=>xs.length<=sizeLine/\∃(ai:List Value) (n:Nat),Vals xs ai/\h.get? a=some {cls:=.type "list",data:=.seq ai.toArray n}
 |.tup xs=>xs.length<=sizeLine/\∃ai:List Value,Vals xs ai/\lq h a ai.toArray
 |.dK kvs=>kvs.length<=sizeLine/\(a==sysModules)=false/\∃vs,KV kvs vs/\h.DictOf (dz P w) a vs
 |.dT kvs=>kvs.length<=sizeLine/\(a==sysModules)=false/\∃xs:List (List Key×Addr×Value),
   Paired (λ(p:List Key×V) (q:List Key×Addr×Value)=>p.1=q.1/\H q.2.1=some (.tup (p.1.map kV))/\RelV p.2 q.2.2) kvs xs/\
   ∃o es ep,h.get? a=some o/\o.ExactDict/\o.data=.dict es ep/\es.toList=xs.map (entryOfKey (tupleKind (dz P w)))/\(xs.map (·.1)).Nodup
 |.set S n=>h.SetOf (intKind P w) a S n
 |.ins C dx fs=>H dx=some (.own a)/\fs.length<=1000/\dx≠a/\h.get? a=some (instObj C dx)/\
   ∃mA,h.Ns1 dx mA/\(∀f,fJ (fs.lookup f) (mA f))/\PySem.Within mA (fs.map (·.1))
 |.own _=>∃o,h.get? a=some o
 |.xd fs=>∃mA,h.Ns1 a mA/\∀f,fJ (fs.lookup f) (mA f)
 |.jb lo hi=>∃t u v,h.get? a=some {cls:=.type "range",data:=.fields #[.int lo t,.int hi u,.int 1 v]}
 |.cC o u=>h.get? a=some o/\cT H h a u
 |.pV ps=>h.get? a=some {cls:=.none,data:=.fields ps}
 |.met f x=>h.get? a=some (methodObj (.ref f) (.ref x))
 |.ext φ=>φ h/\(∃o,h.get? a=some o)/\∀h1 h2:Heap,φ h1->(∀o,h1.get? a=some o->h2.get? a=some o)->φ h2
def dq(H:Hp)(h:Heap):Prop:=∀a o,H a=some o->cT P w H h a o
end
section
variable {P:Program}{w:World}{H H':Hp}{h h':Heap}{a:Addr}{o:HO}
theorem cT.lt(x:cT P w H h a o):a<h.objs.size:=by
 cases o with
 |lst xs=>obtain⟨_,_,_,_,e⟩:=x;exact Yw e
 |tup xs=>obtain⟨_,_,_,p⟩:=x;exact p.lt
 |dK kvs=>obtain⟨_,_,_,_,o,_,_,e,_⟩:=x;exact Yw e
 |dT kvs=>obtain⟨_,_,_,_,o,_,_,e,_⟩:=x;exact Yw e
 |set S n=>obtain⟨o,_,_,_,e,_⟩:=x;exact Yw e
 |ins C dx fs=>obtain⟨_,_,_,e,_⟩:=x;exact Yw e
 |own y=>obtain⟨_,e⟩:=x;exact Yw e
 |xd fs=>obtain⟨_,⟨_,_,_,e,_⟩,_⟩:=x;exact Yw e
 |jb lo hi=>obtain⟨_,_,_,e⟩:=x;exact Yw e
 |cC ob u=>obtain⟨e,_⟩:=x;exact Yw e
 |pV ps=>exact Yw (show h.get? a=some _ from x)
 |met f y=>exact Yw (show h.get? a=some _ from x)
 |ext φ=>obtain⟨_,⟨_,e⟩,_⟩:=x;exact Yw e
theorem Paired.bu{α β:Type}{F G:α->β->Prop}:∀{l₁:List α} {l₂:List β},Paired F l₁ l₂->(∀a b,F a b->G a b)->Paired G l₁ l₂:=by
 intro l₁ l₂ h f;induction h with
 |nil=>exact .nil
 |cons r t ih=>exact .cons (f _ _ r) ih
theorem cT.jz(x:cT P w H h a o)(k:∀b u,(b=a\/H b=some (.own a))->h.get? b=some u->h'.get? b=some u)
  (ho:∀b,H b=some (.own a)->H' b=some (.own a))(ht:∀b xs,H b=some (.tup xs)->H' b=some (.tup xs)):cT P w H' h' a o:=by
 induction o with
 |lst xs=>obtain⟨z,ai,n,r,e⟩:=x;exact⟨z,ai,n,r,k _ _ (.inl rfl) e⟩
 |tup xs=>obtain⟨z,ai,r,ob,e,c⟩:=x;exact⟨z,ai,r,ob,k _ _ (.inl rfl) e,c⟩
 |dK kvs=>obtain⟨z,y,vs,r,ob,es,ep,e,c⟩:=x;exact⟨z,y,vs,r,ob,es,ep,k _ _ (.inl rfl) e,c⟩
 |dT kvs=>
  obtain⟨z,y,xs,r,ob,es,ep,e,c⟩:=x;exact⟨z,y,xs,Paired.bu r λp q z=>⟨z.1,ht _ _ z.2.1,z.2.2⟩,ob,es,ep,k _ _ (.inl rfl) e,c⟩
 |set S n=>obtain⟨ob,es,ep,t,e,c⟩:=x;exact⟨ob,es,ep,t,k _ _ (.inl rfl) e,c⟩
 |ins C dx fs=>
  obtain⟨d,z,ne,e,mA,⟨od,es,ep,e2,c⟩,r⟩:=x;exact⟨ho _ d,z,ne,k _ _ (.inl rfl) e,mA,⟨od,es,ep,k _ _ (.inr d) e2,c⟩,r⟩
 |own y=>obtain⟨ob,e⟩:=x;exact⟨ob,k _ _ (.inl rfl) e⟩
 |xd fs=>obtain⟨mA,⟨od,es,ep,e,c⟩,r⟩:=x;exact⟨mA,⟨od,es,ep,k _ _ (.inl rfl) e,c⟩,r⟩
 |jb lo hi=>obtain⟨t,u,v,e⟩:=x;exact⟨t,u,v,k _ _ (.inl rfl) e⟩
 |cC ob u ih=>obtain⟨e,q⟩:=x;exact⟨k _ _ (.inl rfl) e,ih q⟩
 |pV ps=>
  have e:h.get? a=some {cls:=.none,data:=.fields ps}:=x;show h'.get? a=some {cls:=.none,data:=.fields ps};exact k a _ (.inl rfl) e
 |met f y=>
  have e:h.get? a=some (methodObj (.ref f) (.ref y)):=x;show h'.get? a=some (methodObj (.ref f) (.ref y));exact k a _ (.inl rfl) e
 |ext φ=>obtain⟨p,⟨o,e⟩,st⟩:=x;exact⟨st _ _ p λo q=>k _ _ (.inl rfl) q,⟨o,k _ _ (.inl rfl) e⟩,st⟩
theorem dq.lt(x:dq P w H h)(e:H a=some o):a<h.objs.size:=(x a o e).lt
theorem dq.fresh(x:dq P w H h)(e:h.objs.size<=a):H a=none:=by
 cases q:H a with
 |none=>rfl
 |some u=>exact absurd (Y1 (x.lt q) e) (Y7 _)
theorem dq.kept(x:dq P w H h)(k:∀b u,h.get? b=some u->h'.get? b=some u):dq P w H h':=λa o e=>
 (x a o e).jz (λb u _ q=>k b u q) (λ_ q=>q) λ_ _ q=>q
theorem dq.laid(x:dq P w H h)(k:∀b u,h.get? b=some u->h'.get? b=some u)(hp:h.objs.size<=a)(new:cT P w (upd H a o) h' a o):dq P w (upd H a o) h':=λb u e=>by
 have hn:=x.fresh hp;by_cases hb:b=a;·subst hb;rw[aW] at e;cases e;exact new
 ·rw[bg hb] at e;exact(x b u e).jz (λc v _ q=>k c v q) (λc q=>by rw[bg (ck q hn)];exact q) λc xs q=>by rw[bg (ck q hn)];exact q
end
def Rd(H:Hp)(a:Addr)(u:HO):Prop:=H a=some u\/∃o,H a=some (.cC o u)
theorem Rd.ok{P:Program}{w:World}{H:Hp}{h:Heap}{a:Addr}{u:HO}(r:Rd H a u)(x:dq P w H h):cT P w H h a u:=by
 rcases r with r|⟨o,r⟩;·exact x a u r
 ·obtain⟨_,q⟩:=x a _ r;exact q
def wD:Option HO->Prop
 |some (.lst _)=>True
 |some (.dK _)=>True
 |some (.dT _)=>True
 |some (.set _ _)=>True
 |some (.ins _ _ _)=>True
 |some (.ext _)=>True
 |_=>False
section
variable {P:Program}{w:World}{H:Hp}{h h':Heap}{x e:Addr}{o':HO}
theorem dq.write(ok:dq P w H h)(mu:wD (H x))(he:e=x\/H e=some (.own x))(k:∀b u,b≠e->h.get? b=some u->h'.get? b=some u)(wF:∃u,h'.get? e=some u)
  (new:cT P w (upd H x o') h' x o'):dq P w (upd H x o') h':=λb u q=>by
 have Sw:∀c y,H c=some (.own y)->c≠x:=λc y r z=>by subst z;rw[r] at mu;exact mu
 have ZfR:∀c xs,H c=some (.tup xs)->c≠x:=λc xs r z=>by subst z;rw[r] at mu;exact mu
 by_cases hb:b=x;·subst hb;rw[aW] at q;cases q;exact new
 ·rw[bg hb] at q;by_cases zV:b=e
  ·have q':H b=some (.own x):=by
    rcases he with z|z;·exact absurd (zV.trans z) hb
    ·rw[zV];exact z
   rw[q] at q';cases q';obtain⟨v,hv⟩:=wF;exact⟨v,by rw[zV];exact hv⟩
  ·refine(ok b u q).jz (λc v hc r=>k c v ?_ r) (λc r=>by rw[bg (Sw c b r)];exact r) λc xs r=>by rw[bg (ZfR c xs r)];exact r
   rcases hc with rfl|hc;·exact zV
   ·rintro rfl;rcases he with z|z;·exact Sw c b hc z
    ·rw[hc] at z;cases z;exact hb rfl
end
structure Un(fs ex:List Addr)(H H':Hp)(h h':Heap):Prop where
 keep:∀b o,h.get? b=some o->H b=none->b∉fs->b∉ex->h'.get? b=some o
 slot:∀b o,h.get? b=some o->H b=none->b∈fs->b∉ex->∃sl,h'.get? b=some {o with slots:=sl}
 free:∀b o,h.get? b=some o->H b=none->b∉ex->H' b=none
 there:∀b o,h.get? b=some o->b∉ex->∃o',h'.get? b=some o'
 kJ:∀b xs,H b=some (.tup xs)->H' b=some (.tup xs)
 lI:∀b o u,H b=some (.cC o u)->H' b=some (.cC o u)
 mN:∀b ps,H b=some (.pV ps)->∃more,H' b=some (.pV (ps++more))
section
variable {fs de ex ex':List Addr}{H H1 H2:Hp}{h h1 h2 h':Heap}{a x e:Addr}{o:HO}
theorem Un.any(u:Un fs ex H H1 h h1){b:Addr}{ob:Obj}(q:h.get? b=some ob)(n:H b=none)(hx:b∉ex):∃sl,h1.get? b=some {ob with slots:=sl}:=by
 by_cases hb:b∈fs;·exact u.slot b ob q n hb hx
 ·exact⟨ob.slots,u.keep b ob q n hb hx⟩
theorem Un.kept(k:∀b u,h.get? b=some u->h'.get? b=some u):Un fs ex H H h h':=
 ⟨λb ob q _ _ _=>k b ob q,λb ob q _ _ _=>⟨ob.slots,k b ob q⟩,λ_ _ _ n _=>n,λb ob q _=>⟨ob,k b ob q⟩,λ_ _ q=>q,λ_ _ _ q=>q,λ_ ps q=>⟨#[],by rw[q];simp⟩⟩
theorem Un.refl:Un fs ex H H h h:=Un.kept λ_ _ q=>q
theorem Un.laid(k:∀b u,h.get? b=some u->h'.get? b=some u)(hp:h.objs.size<=a)(hn:H a=none):Un fs ex H (upd H a o) h h' where
 keep:=λb u q _ _ _=>k b u q
 slot:=λb u q _ _ _=>⟨u.slots,k b u q⟩
 free:=λb u q n _=>by rw[bg (Yy (Y1 (Yw q) hp))];exact n
 there:=λb u q _=>⟨u,k b u q⟩
 kJ:=λb xs q=>by rw[bg (ck q hn)];exact q
 lI:=λb u xs q=>by rw[bg (ck q hn)];exact q
 mN:=λb ps q=>⟨#[],by rw[bg (ck q hn),q];simp⟩
theorem Un.write(mu:wD (H x))(he:e=x\/H e=some (.own x))(k:∀b u,b≠e->h.get? b=some u->h'.get? b=some u)(wF:∃u,h'.get? e=some u):Un fs ex H (upd H x o) h h':=by
 have hx:∀b,H b=none->b≠x:=λb n z=>by subst z;rw[n] at mu;exact mu
 have hb:∀b,H b=none->b≠e:=λb n z=>by
  grind
 have hm:∀b u,H b=some u->¬wD (some u)->b≠x:=λb u q nm z=>by subst z;rw[q] at mu;exact nm mu
 refine⟨λb u q n _ _=>k b u (hb b n) q,λb u q n _ _=>⟨u.slots,k b u (hb b n) q⟩,λb u q n _=>by rw[bg (hx b n)];exact n,λb u q _=>?_,
  λb xs q=>by rw[bg (hm b _ q λz=>z)];exact q,λb u xs q=>by rw[bg (hm b _ q λz=>z)];exact q,λb ps q=>⟨#[],by rw[bg (hm b _ q λz=>z),q];simp⟩⟩
 grind
end
def IH(h:Heap)(H:Hp):List Addr:=(List.range h.objs.size).filter λa=>(H a).isSome
def oj(h:Heap)(H:Hp):Heap:=PySem.W.hideAll h (IH h H)
theorem ZaE(h:Heap)(H:Hp):(oj h H).objs.size=h.objs.size:=PySem.W.hideAll_size _ _
theorem Zbn{h:Heap}{H:Hp}{b:Addr}{o:Obj}(e:h.get? b=some o)(n:H b=none):(oj h H).get? b=some o:=
 PySem.W.hideAll_get _ e λhm=>by
  have q:=(Y5.mp hm).2
  grind
theorem ZcA{h:Heap}{H:Hp}{b:Addr}{o:Obj}(e:(oj h H).get? b=some o):h.get? b=some o/\H b=none:=by
 have e':=PySem.W.of_hideAll (IH h H) e;refine⟨e',?_⟩;cases q:H b with
 |none=>rfl
 |some x=>
  have z:(oj h H).get? b=none:=PySem.W.hideAll_none (IH h H) (Y5.mpr ⟨Wq.mpr (Yw e'),by simp[q]⟩)
  grind
structure Mod(K:PySem.W.Frag)(mg:Str->Option Value)(base:Heap):Prop where
 rO:K.In base
 glob:base.Ns mainGlobals mg
 blt:∃mb,base.Ns builtinsNs mb/\∀x:Str,x≠"__name__"->mb x=bootBuiltins x
 nolimit:base.NoLimit
structure Cx where
 prog:Program
 w:World
 K:PySem.W.Frag
 mg:Str->Option Value
 base:Heap
 A:Around
 N:List Str
 c5:Shared
 kK:Hp
 env:Env
 outer:List Env
 stack:List Env
 ex:List Addr
 fn:Str->Bool
 calm:Bool
 pn:List (Addr×Obj)
 xe:Value->Shared->Prop
def ik(l:List Env):List Addr:=l.filterMap (·.frame)
abbrev Cx.fs(X:Cx):List Addr:=ik X.outer
def wG(sc:Scope)(x:Str):Prop:=sc.names.lookup x=some .local\/sc.names.lookup x=some .cell\/sc.names.lookup x=some .free
def Loc(sc:Scope)(x:Str):Prop:=sc.names.lookup x=some .local\/sc.names.lookup x=some .cell
def Look(env:Env)(h:Heap)(m:Str->Option Value)(x:Str)(u:Value):Prop:=
 (env.kindOf x=some .local/\m x=some u)\/((env.kindOf x=some .cell\/env.kindOf x=some .free)/\∃c,env.cells.lookup x=some c/\h.IsCell c (some u))
structure Cx.Ok(X:Cx):Prop where
 mod:Mod X.K X.mg X.base
 kind:X.env.scope.kind=.function
 glob:X.env.globals=mainGlobals
 blt:X.env.builtins=builtinsNs
 above:X.c5.heap.objs.size<=X.env.locals
 inj:∀x y c,X.env.cells.lookup x=some c->X.env.cells.lookup y=some c->x=y
 has:∀x,(X.env.kindOf x=some .cell\/X.env.kindOf x=some .free)->∃c,X.env.cells.lookup x=some c
 wH:∀x c,X.fn x=true->X.env.cells.lookup x=some c->X.c5.heap.objs.size<=c
 hd:X.calm=true->X.A.handled=none
 frames:X.A.frames=some X.stack
 zW:X.stack=X.outer\/(X.stack=X.env::X.outer/\X.env.frame=some X.env.locals)
 uq:∀b∈X.ex,b≠X.env.locals/\∀x c,X.env.cells.lookup x=some c->c≠b
 bs:∀b o,X.base.get? b=some o->X.c5.heap.get? b=some o/\X.kK b=none
 ou:X.base.objs.size<=X.c5.heap.objs.size
 wg:∀b o,X.base.get? b=some o->b∉X.ex
 ud:∀b∈X.ex,b∉X.fs
 kL:X.c5.heap.FunFrames X.base X.outer
 rP:∀b∈X.fs,X.kK b=none
structure Inv(X:Cx)(pins:List (Addr×Obj))(σ:List (Option V))(H:Hp)(s:Shared):Prop where
 ok:X.Ok
 os:s.os=X.c5.os
 bare:AllBare s.gens
 base:Un X.fs X.ex X.kK H X.c5.heap s.heap
 loc:∃m,s.heap.Ns X.env.locals m/\∀(i:Nat) (x:Str) (v:V),X.N[i]?=some x->σ[i]?=some (some v)->wG X.env.scope x->∃u,RelV v u/\Look X.env s.heap m x u
 cell:∀x c,X.env.cells.lookup x=some c->∃v,s.heap.IsCell c v
 free:H X.env.locals=none
 kG:∀x c,X.env.cells.lookup x=some c->H c=none
 pin:∀p∈X.pn++pins,s.heap.get? p.1=some p.2/\H p.1=none/\p.1≠X.env.locals/\p.1∉X.fs/\∀v,p.2.data≠.cell v
 ay:dq X.prog X.w H s.heap
 len:σ.length=X.N.length
section
variable {X:Cx}{pins:List (Addr×Obj)}{σ:List (Option V)}{H H':Hp}{s:Shared}{h':Heap}
theorem Cx.Ok.ZfS(ok:X.Ok){b:Addr}{o:Obj}(e:X.base.get? b=some o):b∉X.fs:=λhb=>by
 have:=(ok.kL.mem hb).1
 grind
theorem Inv.bs(I:Inv X pins σ H s):∀b o,X.base.get? b=some o->s.heap.get? b=some o/\H b=none:=λb o e=>
 ⟨I.base.keep b o (I.ok.bs b o e).1 (I.ok.bs b o e).2 (I.ok.ZfS e) (I.ok.wg b o e),I.base.free b o (I.ok.bs b o e).1 (I.ok.bs b o e).2 (I.ok.wg b o e)⟩
theorem Inv.bk(I:Inv X pins σ H s):∀b o,X.base.get? b=some o->s.heap.get? b=some o:=λb o e=>(I.bs b o e).1
theorem Inv.mod(I:Inv X pins σ H s):Mod X.K X.mg X.base:=I.ok.mod
theorem Inv.dF(I:Inv X pins σ H s):X.K.In s.heap:=I.ok.mod.rO.keeps I.bk
theorem Inv.lt(I:Inv X pins σ H s):X.env.locals<s.heap.objs.size:=let⟨_,hn,_⟩:=I.loc;hn.lt
theorem Inv.sz(I:Inv X pins σ H s):X.c5.heap.objs.size<=s.heap.objs.size:=Y3 I.ok.above (Jr I.lt)
theorem Inv.ZfT(I:Inv X pins σ H s){a:Addr}(h:s.heap.objs.size<=a):a∉X.fs:=λhb=>by
 obtain⟨_,o,ho,_⟩:=I.ok.kL.mem hb;exact absurd (Y1 (Yw ho) (Y3 I.sz h)) (Y7 _)
theorem Inv.rQ(I:Inv X pins σ H s):∀x c,X.env.cells.lookup x=some c->c≠X.env.locals:=λx c e z=>by
 obtain⟨v,o,ho,hd⟩:=I.cell x c e;obtain⟨m,⟨o',es,ep,ur,zX,_⟩,_⟩:=I.loc
 grind
theorem Inv.kL(I:Inv X pins σ H s):s.heap.FunFrames X.base X.outer:=by
 have all:∀(l:List Env),(∀b∈ik l,b∈X.fs)->X.c5.heap.FunFrames X.base l->s.heap.FunFrames X.base l:=by
  intro l;induction l with
  |nil=>intro _ _;trivial
  |cons env r ih=>
   rintro hs ⟨hk,⟨L,o,hf,hn,ho,hd⟩,hr⟩;have hL:=hs L (by unfold ik;rw[J3,hf];exact Yh);obtain⟨sl,e⟩:=I.base.slot L o ho (I.ok.rP L hL) hL λz=>I.ok.ud L z hL;exact⟨hk,⟨L,_,hf,hn,e,hd⟩,ih (λb hb=>hs b (by unfold ik;rw[J3,hf];exact Yx _ hb)) hr⟩
 exact all X.outer (λ_ hb=>hb) I.ok.kL
theorem Inv.stack(I:Inv X pins σ H s):s.heap.FunFrames X.base X.stack:=by
 rcases I.ok.zW with e|⟨e,hf⟩;·rw[e];exact I.kL
 ·rw[e];obtain⟨m,hn,_⟩:=I.loc;refine .cons (by rw[I.ok.kind];decide) hf hn ?_ I.kL;exact Heap.get?_none_of_le (Y3 I.ok.ou I.ok.above)
theorem Inv.Gs(I:Inv X pins σ H s):∀b∈ik X.stack,b∈X.env.locals::X.fs:=λb hb=>by
 rcases I.ok.zW with e|⟨e,hf⟩;·grind
 ·rw[e] at hb;unfold ik at hb;rw[J3,hf] at hb;exact hb
theorem Inv.OT(I:Inv X pins σ H s):∀b∈ik X.stack,H b=none:=λb hb=>by
 rcases Ym.mp (I.Gs b hb) with e|hb;·rw[e];exact I.free
 ·obtain⟨_,o,ho,_⟩:=I.ok.kL.mem hb;exact I.base.free b o ho (I.ok.rP b hb) λz=>I.ok.ud b z hb
theorem Inv.step{g':Array GenState}{t':Nat}{d':Drawn}{ch:List Addr}(I:Inv X pins σ H s)
  (mU:∀b∈ch,(b∈X.ex\/X.c5.heap.objs.size<=b)/\b≠X.env.locals/\(∀x c,X.env.cells.lookup x=some c->c≠b)/\∀p∈X.pn++pins,p.1≠b)
  (keep:∀b o,b≠X.env.locals->b∉X.fs->b∉ch->s.heap.get? b=some o->H b=none->h'.get? b=some o)
  (slot:∀b o,b≠X.env.locals->b∈X.fs->b∉ch->s.heap.get? b=some o->H b=none->∃sl,h'.get? b=some {o with slots:=sl})(free:∀b o,b∉ch->s.heap.get? b=some o->H b=none->H' b=none)
  (there:∀b o,b∉ch->s.heap.get? b=some o->∃o',h'.get? b=some o')
  (kJ:∀b xs,H b=some (.tup xs)->H' b=some (.tup xs))(lI:∀b o u,H b=some (.cC o u)->H' b=some (.cC o u))(mN:∀b ps,H b=some (.pV ps)->∃more,H' b=some (.pV (ps++more)))
  (ns:∀m,s.heap.Ns X.env.locals m->h'.Ns X.env.locals m)(ay:dq X.prog X.w H' h')(hg:AllBare g'):
  Inv X pins σ H' {s with heap:=h',gens:=g',drawn:=d',toks:=t'}:=by
 have TK:∀b o,X.c5.heap.get? b=some o->b≠X.env.locals:=λb o e=>Yy (Y1 (Yw e) I.ok.above);have zY:∀b o,X.c5.heap.get? b=some o->b∉X.ex->b∉ch:=λb o e hx hb=>by
  rcases(mU b hb).1 with z|z;·exact hx z
  ·exact absurd (Y1 (Yw e) z) (Y7 _)
 have cellK:∀x c,X.env.cells.lookup x=some c->∀v,s.heap.IsCell c v->h'.IsCell c v:=λx c e v ⟨o,ho,hd⟩=>by
  have wI:c∉ch:=λz=>(mU c z).2.2.1 x c e rfl;by_cases hc:c∈X.fs
  ·obtain⟨sl,q⟩:=slot c o (I.rQ x c e) hc wI ho (I.kG x c e);exact⟨_,q,hd⟩
  ·exact⟨o,keep c o (I.rQ x c e) hc wI ho (I.kG x c e),hd⟩
 refine⟨I.ok,I.os,hg,⟨λb o e n hb hx=>?_,λb o e n hb hx=>?_,λb o e n hx=>?_,λb o e hx=>?_,λb xs e=>kJ b xs (I.base.kJ b xs e),λb o xs e=>lI b o xs (I.base.lI b o xs e),λb ps e=>?_⟩,?_,λx c e=>?_,?_,λx c e=>?_,λp hp=>?_,ay,I.len⟩;·exact keep b o (TK b o e) hb (zY b o e hx) (I.base.keep b o e n hb hx) (I.base.free b o e n hx)
 ·obtain⟨sl,e1⟩:=I.base.slot b o e n hb hx;obtain⟨sl',e2⟩:=slot b _ (TK b o e) hb (zY b o e hx) e1 (I.base.free b o e n hx);exact⟨sl',e2⟩
 ·obtain⟨o',e1⟩:=I.base.there b o e hx;exact free b o' (zY b o e hx) e1 (I.base.free b o e n hx)
 ·obtain⟨o',e1⟩:=I.base.there b o e hx;exact there b o' (zY b o e hx) e1
 ·obtain⟨m1,e1⟩:=I.base.mN b ps e;obtain⟨m2,e2⟩:=mN b _ e1;exact⟨m1++m2,by rw[e2,Array.append_assoc]⟩
 ·obtain⟨m,hn,hl⟩:=I.loc;refine⟨m,ns m hn,λi x v e1 e2 e3=>?_⟩;obtain⟨u,r,l⟩:=hl i x v e1 e2 e3;refine⟨u,r,?_⟩;rcases l with l|⟨k,c,e,z⟩;·exact .inl l
  ·exact .inr ⟨k,c,e,cellK x c e _ z⟩
 ·obtain⟨v,z⟩:=I.cell x c e;exact⟨v,cellK x c e v z⟩
 ·obtain⟨m,⟨o,_,_,ho,_⟩,_⟩:=I.loc;exact free _ o (λz=>(mU _ z).2.1 rfl) ho I.free
 ·obtain⟨v,o,ho,hd⟩:=I.cell x c e;exact free c o (λz=>(mU c z).2.2.1 x c e rfl) ho (I.kG x c e)
 ·obtain⟨e,n,ne,nf,d⟩:=I.pin p hp;have wI:p.1∉ch:=λz=>(mU p.1 z).2.2.2 p hp rfl;exact⟨keep p.1 p.2 ne nf wI e n,free p.1 p.2 wI e n,ne,nf,d⟩
theorem Inv.un{t':Nat}(I:Inv X pins σ H s)(u:Un X.fs [] H H' s.heap h')(ay:dq X.prog X.w H' h'):Inv X pins σ H' {s with heap:=h',toks:=t'}:=by
 obtain⟨m,⟨o,es,ep,ho,r⟩,_⟩:=id I.loc;obtain⟨sl,hL⟩:=u.any ho I.free (by simp);exact I.step (g':=s.gens) (d':=s.drawn) (ch:=[]) (λ_ z=>nomatch z) (λb o _ hb _ e n=>u.keep b o e n hb (by simp)) (λb o _ hb _ e n=>u.slot b o e n hb (by simp)) (λb o _ e n=>u.free b o e n (by simp)) (λb o _ e=>u.there b o e (by simp)) u.kJ u.lI u.mN (λm' hm=>by
  obtain⟨o',zZ,z4,ur,r'⟩:=hm;rw[ho] at ur;cases ur;exact⟨_,zZ,z4,hL,r'⟩) ay I.bare
theorem Inv.call{g':Array GenState}{t':Nat}{d':Drawn}{ch:List Addr}(I:Inv X pins σ H s)(u:Un (ik X.stack) ch H H' s.heap h')(ay:dq X.prog X.w H' h')(hg:AllBare g')
  (mU:∀b∈ch,(b∈X.ex\/X.c5.heap.objs.size<=b)/\b≠X.env.locals/\(∀x c,X.env.cells.lookup x=some c->c≠b)/\∀p∈X.pn++pins,p.1≠b):
  Inv X pins σ H' {s with heap:=h',gens:=g',drawn:=d',toks:=t'}:=by
 obtain⟨m,⟨o,es,ep,ho,r⟩,_⟩:=id I.loc;obtain⟨sl,hL⟩:=u.any ho I.free λz=>(mU _ z).2.1 rfl;exact I.step (ch:=ch) mU (λb o hL hb hc e n=>u.keep b o e n (λz=>(Ym.mp (I.Gs b z)).elim hL hb) hc) (λb o _ _ hc e n=>u.any e n hc) (λb o hc e n=>u.free b o e n hc) (λb o hc e=>u.there b o e hc) u.kJ u.lI u.mN (λm' hm=>by
  obtain⟨o',zZ,z4,ur,r'⟩:=hm;rw[ho] at ur;cases ur;exact⟨_,zZ,z4,hL,r'⟩) ay hg
theorem Inv.turned{t':Nat}{it:Addr}(I:Inv X pins σ H s)(k:∀b o,b≠it->s.heap.get? b=some o->h'.get? b=some o)(hn:H it=none)(hL:it≠X.env.locals)
  (h1:it∈X.ex\/X.c5.heap.objs.size<=it)(h2:∀x c,X.env.cells.lookup x=some c->c≠it)(h3:∀p∈X.pn++pins,p.1≠it):Inv X pins σ H {s with heap:=h',toks:=t'}:=by
 have TL:∀b u,H b=some u->b≠it:=λb u e z=>by rw[z,hn] at e;cases e
 refine I.step (g':=s.gens) (d':=s.drawn) (ch:=[it]) (λb hb=>?_) (λb o _ _ hc e _=>k b o (λz=>hc (by simp[z])) e) (λb o _ _ hc e _=>⟨o.slots,k b o (λz=>hc (by simp[z])) e⟩) (λ_ _ _ _ n=>n)
  (λb o hc e=>⟨o,k b o (λz=>hc (by simp[z])) e⟩) (λ_ _ e=>e) (λ_ _ _ e=>e) (λb ps e=>⟨#[],by rw[e];simp⟩) (λm hm=>?_) (λb u e=>?_) I.bare
 ·have e:b=it:=by simpa using hb
  subst e;exact⟨h1,hL,h2,h3⟩
 ·obtain⟨o,es,ep,ho,r⟩:=hm;exact⟨o,es,ep,k _ o (Ne.symm hL) ho,r⟩
 ·refine(I.ay b u e).jz (λc v hc q=>k c v ?_ q) (λ_ q=>q) λ_ _ q=>q;rcases hc with z|z;·rw[z];exact TL b u e
  ·exact TL c _ z
theorem Inv.tok(I:Inv X pins σ H s)(t:Nat):Inv X pins σ H {s with toks:=t}:=I.un (h':=s.heap) (t':=t) Un.refl I.ay
theorem Inv.kept{t':Nat}(I:Inv X pins σ H s)(k:∀b u,s.heap.get? b=some u->h'.get? b=some u):Inv X pins σ H {s with heap:=h',toks:=t'}:=I.un (Un.kept k) (I.ay.kept k)
theorem Inv.laid{a:Addr}{o:HO}{t':Nat}(I:Inv X pins σ H s)(k:∀b u,s.heap.get? b=some u->h'.get? b=some u)(hp:s.heap.objs.size<=a)(new:cT X.prog X.w (upd H a o) h' a o):
  Inv X pins σ (upd H a o) {s with heap:=h',toks:=t'}:=I.un (Un.laid k hp (I.ay.fresh hp)) (I.ay.laid k hp new)
theorem Inv.write{x e:Addr}{o:HO}{t':Nat}(I:Inv X pins σ H s)(mu:wD (H x))(he:e=x\/H e=some (.own x))(k:∀b u,b≠e->s.heap.get? b=some u->h'.get? b=some u)(wF:∃u,h'.get? e=some u)
  (new:cT X.prog X.w (upd H x o) h' x o):Inv X pins σ (upd H x o) {s with heap:=h',toks:=t'}:=I.un (Un.write mu he k wF) (I.ay.write mu he k wF new)
theorem Inv.OU{RL:List (Addr×Obj)}(I:Inv X pins σ H s)(h:∀p∈RL,s.heap.get? p.1=some p.2/\H p.1=none/\p.1≠X.env.locals/\p.1∉X.fs/\∀v,p.2.data≠.cell v):Inv X RL σ H s:=
 ⟨I.ok,I.os,I.bare,I.base,I.loc,I.cell,I.free,I.kG,λp hp=>(Yu.mp hp).elim (λz=>I.pin p (Yt _ z)) (h p),I.ay,I.len⟩
theorem NJ{N:List Str}(hN:N.Nodup){i j:Nat}{x:Str}(a:N[i]?=some x)(b:N[j]?=some x):i=j:=by
 obtain⟨h1,e1⟩:=Yl.mp a;obtain⟨h2,e2⟩:=Yl.mp b;exact(List.getElem_inj hN).mp (e1.trans e2.symm)
theorem MR{M:Model}{A:Around}{E:Value->Shared->Prop}{i:Nat}{x:Str}{v:V}{u:Value}{Q:Unit->Shared->Prop}(I:Inv X pins σ H s)(hN:X.N.Nodup)(hi:X.N[i]?=some x)(hx:Loc X.env.scope x)(r:RelV v u)
  (h:∀s',Inv X pins (σ.set i (some v)) H s'->(∃a,Heap.SameBut a s.heap s'.heap/\(a=X.env.locals\/X.env.cells.lookup x=some a))->Q () s')(hf:X.fn x=true\/X.env.scope.names.lookup x=some .local:=by first|exact .inl rfl|exact .inr rfl|assumption):wpAny M A (storeName X.env x u) Q E s:=by
 obtain⟨m,hn,hl⟩:=id I.loc;have ZfU:(X.env.scope.kind==.class||(X.env.scope.kind==.module&&X.env.locals !=X.env.globals))=false:=by rw[I.ok.kind];rfl
 have Sx:i<σ.length:=by rw[I.len];exact(Yl.mp hi).1
 have rQ:=I.rQ;have tracked:∀{a:Addr} {h':Heap},(∃o,s.heap.get? a=some o/\H a=none)->Heap.SameBut a s.heap h'->dq X.prog X.w H h':=λ{a h'} ha hs b ob e=>by
  obtain⟨_,_,RM⟩:=ha;refine(I.ay b ob e).jz (λc w' hc q=>(hs.2 c ?_).trans q) (λ_ q=>q) λ_ _ q=>q;rintro rfl;rcases hc with rfl|hc;·rw[RM] at e;cases e
  ·rw[RM] at hc;cases hc
 rcases hx with hk|hk
 ·refine wpAny_storeName_local hk hn (λh' uu hs=>?_) ZfU;obtain⟨oL,_,_,ow,_⟩:=id hn;refine h _ ⟨I.ok,I.os,I.bare,⟨λb o e n hb hx=>?_,λb o e n hb hx=>?_,I.base.free,λb o e hx=>?_,I.base.kJ,I.base.lI,I.base.mN⟩,⟨_,uu,λj y v' e1 e2 e3=>?_⟩,λy c e=>?_,I.free,I.kG,λp hp=>?_,tracked ⟨oL,ow,I.free⟩ hs,by simpa using I.len⟩ ⟨_,hs,.inl rfl⟩;·exact(hs.2 b (Yy (Y1 (Yw e) I.ok.above))).trans (I.base.keep b o e n hb hx)
  ·obtain⟨sl,e1⟩:=I.base.slot b o e n hb hx;exact⟨sl,(hs.2 b (Yy (Y1 (Yw e) I.ok.above))).trans e1⟩
  ·obtain⟨o',e1⟩:=I.base.there b o e hx;exact⟨o',(hs.2 b (Yy (Y1 (Yw e) I.ok.above))).trans e1⟩
  ·by_cases hj:j=i
   ·subst hj;rw[hi] at e1;cases e1;rw[List.getElem?_set_self Sx] at e2;cases e2;exact⟨u,r,.inl ⟨hk,by simp⟩⟩
   ·rw[List.getElem?_set_ne (Ne.symm hj)] at e2;obtain⟨u',r',q⟩:=hl j y v' e1 e2 e3;refine⟨u',r',?_⟩;rcases q with⟨k,e⟩|⟨k,c,e,z⟩
    ·refine .inl ⟨k,?_⟩;have:y≠x:=λe=>hj (NJ hN e1 (e▸hi));simp[this,e]
    ·exact .inr ⟨k,c,e,z.sameBut hs (rQ y c e)⟩
  ·obtain⟨w',z⟩:=I.cell y c e;exact⟨w',z.sameBut hs (rQ y c e)⟩
  ·obtain⟨e,n,ne,nf,d⟩:=I.pin p hp;exact⟨(hs.2 p.1 ne).trans e,n,ne,nf,d⟩
 ·have II:X.fn x=true:=by
   rcases hf with z|z;·exact z
   ·rw[z] at hk;cases hk
  obtain⟨c,hc⟩:=I.ok.has x (.inl hk);obtain⟨w',z⟩:=I.cell x c hc;refine wpAny_storeName_cell I.ok.kind hk hc z (λh' mV hs=>?_);obtain⟨oc,wJ,ZfV⟩:=id z;refine h {s with heap:=h'} ⟨I.ok,I.os,I.bare,⟨λb o e n hb hx=>?_,λb o e n hb hx=>?_,I.base.free,λb o e hx=>?_,I.base.kJ,I.base.lI,I.base.mN⟩,⟨m,hn.sameBut hs (Ne.symm (rQ x c hc)),λj y v' e1 e2 e3=>?_⟩,λy c' e=>?_,I.free,I.kG,λp hp=>?_,tracked ⟨oc,wJ,I.kG x c hc⟩ hs,by simpa using I.len⟩ ⟨c,hs,.inr hc⟩;·exact(hs.2 b (Yy (Y1 (Yw e) (I.ok.wH x c II hc)))).trans (I.base.keep b o e n hb hx)
  ·obtain⟨sl,e1⟩:=I.base.slot b o e n hb hx;exact⟨sl,(hs.2 b (Yy (Y1 (Yw e) (I.ok.wH x c II hc)))).trans e1⟩
  ·obtain⟨o',e1⟩:=I.base.there b o e hx;exact⟨o',(hs.2 b (Yy (Y1 (Yw e) (I.ok.wH x c II hc)))).trans e1⟩
  ·by_cases hj:j=i
   ·subst hj;rw[hi] at e1;cases e1;rw[List.getElem?_set_self Sx] at e2;cases e2;exact⟨u,r,.inr ⟨.inl hk,c,hc,mV⟩⟩
   ·rw[List.getElem?_set_ne (Ne.symm hj)] at e2;obtain⟨u',r',q⟩:=hl j y v' e1 e2 e3;refine⟨u',r',?_⟩;rcases q with q|⟨k,c',e,z'⟩;·exact .inl q
    ·refine .inr ⟨k,c',e,z'.sameBut hs ?_⟩;rintro rfl;exact hj (NJ hN e1 (I.ok.inj _ _ _ e hc▸hi))
  ·by_cases TM:c'=c;·subst TM;exact⟨_,mV⟩
   ·obtain⟨w2,z2⟩:=I.cell y c' e;exact⟨w2,z2.sameBut hs TM⟩
  ·obtain⟨e,n,ne,nf,d⟩:=I.pin p hp;refine⟨(hs.2 p.1 ?_).trans e,n,ne,nf,d⟩;intro q;rw[q,wJ] at e;have q':oc=p.2:=Yo e;exact d w' (by rw[←q'];exact ZfV)
theorem Fn{M:Model}{A:Around}{E:Value->Shared->Prop}{i:Nat}{x:Str}{v:V}{u:Value}{Q:Unit->Shared->Prop}(I:Inv X pins σ H s)(hN:X.N.Nodup)(hi:X.N[i]?=some x)(hx:Loc X.env.scope x)(r:RelV v u)
  (h:∀s',Inv X pins (σ.set i (some v)) H s'->Q () s')(hf:X.fn x=true\/X.env.scope.names.lookup x=some .local:=by first|exact .inl rfl|exact .inr rfl|assumption):wpAny M A (storeName X.env x u) Q E s:=
 MR I hN hi hx r (λs' I' _=>h s' I') hf
theorem Inv.RN{s':Shared}{ch:List Addr}(I:Inv X pins σ H s)(ho:s'.os=s.os)(u:Un (ik X.stack) ch H H' s.heap s'.heap)(ay:dq X.prog X.w H' s'.heap)(hg:AllBare s'.gens)
  (mU:∀b∈ch,(b∈X.ex\/X.c5.heap.objs.size<=b)/\b≠X.env.locals/\(∀x c,X.env.cells.lookup x=some c->c≠b)/\∀p∈X.pn++pins,p.1≠b):Inv X pins σ H' s':=by
 obtain⟨h',g',d',t',o'⟩:=s';have e:o'=s.os:=ho;subst e;exact I.call (g':=g') (t':=t') (d':=d') u ay hg mU
end
abbrev XK:=Value->Option Addr->Hp->Prop
abbrev St:=List (Option V)
abbrev VK:=V->Hp->Prop
abbrev TE:=St->Hp->VK->Prop
abbrev TT:=St->Hp->(Bool->Hp->Prop)->Prop
abbrev TA:=St->Hp->(List V->Hp->Prop)->Prop
structure Ends where
 nx:St->Hp->Prop
 rt:VK
 bk:St->Hp->Prop:=λ_ _=>False
 ct:St->Hp->Prop:=λ_ _=>False
abbrev TS:=Ends->St->Hp->Prop
inductive Sy(X:Cx)(pins:List (Addr×Obj))(σ:St)(Q:VK)(u:Value)(s':Shared):Prop
 |mk (v H') (aE:Inv X pins σ H' s') (aT:RelV v u) (bw:Q v H'):Sy X pins σ Q u s'
def EP(X:Cx)(pins:List (Addr×Obj))(σ:St)(Q:VK)(u:Value)(s':Shared):Prop:=Sy X pins σ Q u s'
inductive Sz(X:Cx)(pins:List (Addr×Obj))(σ:St)(R:Hp->Prop)(s':Shared):Prop
 |mk (H':Hp) (aE:Inv X pins σ H' s') (aT:R H'):Sz X pins σ R s'
def TP(X:Cx)(pins:List (Addr×Obj))(σ:St)(Q:Bool->Hp->Prop)(b:Bool)(s':Shared):Prop:=Sz X pins σ (Q b) s'
inductive SA(X:Cx)(pins:List (Addr×Obj))(σ:St)(Q:List V->Hp->Prop)(us:List Value)(s':Shared):Prop
 |mk (vs H') (aE:Inv X pins σ H' s') (aT:Vals vs us) (bw:Q vs H'):SA X pins σ Q us s'
def AP(X:Cx)(pins:List (Addr×Obj))(σ:St)(Q:List V->Hp->Prop)(us:List Value)(s':Shared):Prop:=SA X pins σ Q us s'
inductive rC(X:Cx)(pins:List (Addr×Obj))(Q:St->Hp->Prop)(s':Shared):Prop
 |mk (aO:St) (H':Hp) (aE:Inv X pins aO H' s') (aT:Q aO H'):rC X pins Q s'
inductive SD(X:Cx)(pins:List (Addr×Obj))(Q:VK)(u:Value)(s':Shared):Prop
 |mk (v:V) (aO:St) (H':Hp) (aE:Inv X pins aO H' s') (aT:RelV v u) (bw:Q v H'):SD X pins Q u s'
def SP(X:Cx)(pins:List (Addr×Obj))(D:Ends)(f:Flow)(s':Shared):Prop:=
 match f with
 |.next=>rC X pins D.nx s'
 |.brk=>rC X pins D.bk s'
 |.cont=>rC X pins D.ct s'
 |.ret u=>SD X pins D.rt u s'
def PE(X:Cx)(e:Expr)(t:TE):Prop:=
 ∀(pins:List (Addr×Obj)) (s:Shared) (σ:St) (H:Hp) (Q:VK),Inv X pins σ H s->t σ H Q->wpAny (model X.prog X.w) X.A (eval e X.env) (EP X pins σ Q) X.xe s
def PT(X:Cx)(e:Expr)(t:TT):Prop:=
 ∀(pins:List (Addr×Obj)) (s:Shared) (σ:St) (H:Hp) (Q:Bool->Hp->Prop),Inv X pins σ H s->t σ H Q->wpAny (model X.prog X.w) X.A (isTrue e X.env (eval e X.env)) (TP X pins σ Q) X.xe s
def PW(X:Cx)(e:Expr)(t:TT):Prop:=
 ∀(whole:Sem Value) (pins:List (Addr×Obj)) (s:Shared) (σ:St) (H:Hp) (Q:Bool->Hp->Prop),Inv X pins σ H s->t σ H Q->wpAny (model X.prog X.w) X.A (isTrue e X.env whole) (TP X pins σ Q) X.xe s
theorem PW.pt{X:Cx}{e:Expr}{t:TT}(h:PW X e t):PT X e t:=h _
def PA(X:Cx)(es:List Expr)(t:TA):Prop:=
 ∀(pos:Pos) (pins:List (Addr×Obj)) (s:Shared) (σ:St) (H:Hp) (Q:List V->Hp->Prop),Inv X pins σ H s->t σ H Q->wpAny (model X.prog X.w) X.A (spliced (backTo pos (starEach es X.env))) (AP X pins σ Q) X.xe s
def PS(X:Cx)(st:Stmt)(t:TS):Prop:=
 ∀(pins:List (Addr×Obj)) (s:Shared) (σ:St) (H:Hp) (D:Ends),Inv X pins σ H s->t D σ H->wpAny (model X.prog X.w) X.A (exec st X.env) (SP X pins D) X.xe s
def gX(X:Cx)(st:List Stmt)(t:TS):Prop:=
 ∀(pins:List (Addr×Obj)) (s:Shared) (σ:St) (H:Hp) (D:Ends),Inv X pins σ H s->t D σ H->wpAny (model X.prog X.w) X.A (execs st X.env) (SP X pins D) X.xe s
theorem aC{α:Type}{t:Sem α}{Q Q':α->Shared->Prop}{M:Model}{A:Around}{E:Value->Shared->Prop}{s:Shared}(h:wpAny M A t Q E s)(hQ:∀a s,Q a s->Q' a s):wpAny M A t Q' E s:=wpAny_mono h hQ λ_ _ x=>x
section
variable {X:Cx}
inductive Qp(i:Nat)(σ:St)(H:Hp)(Q:VK):Prop
 |mk (v) (aE:σ[i]?=some (some v)) (aT:Q v H):Qp i σ H Q
def eW(i:Nat):TE:=λσ H Q=>Qp i σ H Q
def tC(v:V):TE:=λ_ H Q=>Q v H
theorem ZdT{i:Nat}{x:Str}{pos:Pos}(hN:X.N[i]?=some x)(hv:wG X.env.scope x)(hd:(x==("__debug__":Str))=false:=by decide)(jD:(x==("__classdict__":Str))=false:=by decide):PE X (.Name x pos) (eW i):=by
 rintro pins s σ H Q I ⟨v,e,h⟩;obtain⟨m,hn,hl⟩:=I.loc;obtain⟨u,r,l⟩:=hl i x v hN e hv;have fin:EP X pins σ Q u s:=⟨v,H,I,r,h⟩;rcases l with⟨hk,hm⟩|⟨hk,c,hc,zt⟩;·exact wpAny_Name (wpAny_loadName_local I.ok.kind hk hn hm fin) hd
 ·rcases hk with hk|hk;·exact wpAny_Name (wpAny_loadName_cell I.ok.kind hk hc zt fin) hd
  ·exact wpAny_Name (wpAny_loadName_free I.ok.kind hk hc zt fin jD) hd
theorem aG{i j pos}:PE X (.Constant (.int i) j pos) (tC (.int i)):=λ_ _ _ H _ I h=>wpAny_Constant_int ⟨.int i,H,I.tok _,⟨_,rfl⟩,h⟩
theorem jv{b j pos}:PE X (.Constant (.bool b) j pos) (tC (.bl b)):=λ_ _ _ H _ I h=>Constant_bool ⟨.bl b,H,I,rfl,h⟩
theorem lu{j pos}:PE X (.Constant .none j pos) (tC .aB):=λ_ _ _ H _ I h=>Constant_none ⟨.aB,H,I,rfl,h⟩
theorem bc{x j pos}:PE X (.Constant (.str x) j pos) (tC (.str x)):=λ_ _ _ H _ I h=>Calls.Constant_str ⟨.str x,H,I.tok _,⟨_,rfl⟩,h⟩
def Gl(X:Cx)(x:Str):Prop:=X.env.kindOf x=some .globalImplicit
theorem FZ{E:Value->Shared->Prop}{pins:List (Addr×Obj)}{s:Shared}{σ:St}{H:Hp}{x:Str}{u:Value}{pos:Pos}{Q:Value->Shared->Prop}(I:Inv X pins σ H s)(hg:Gl X x)(hm:X.mg x=some u)(h:Q u s)
  (hd:(x==("__debug__":Str))=false:=by decide):wpAny (model X.prog X.w) X.A (eval (.Name x pos) X.env) Q E s:=
 Calls.Name_function_global I.ok.kind hg (Calls.loadGlobal_global (by rw[I.ok.glob];exact I.mod.glob.keeps I.bk) hm h) hd
theorem zd{E:Value->Shared->Prop}{pins:List (Addr×Obj)}{s:Shared}{σ:St}{H:Hp}{x:Str}{u:Value}{pos:Pos}{Q:Value->Shared->Prop}(I:Inv X pins σ H s)(hg:Gl X x)(hm:X.mg x=none)(hv:bootBuiltins x=some u)(h:Q u s)
  (hn:x≠"__name__":=by decide)(hd:(x==("__debug__":Str))=false:=by decide):wpAny (model X.prog X.w) X.A (eval (.Name x pos) X.env) Q E s:=by
 obtain⟨mb,h1,h2⟩:=I.mod.blt;exact Calls.Name_function_global I.ok.kind hg (Calls.loadGlobal_builtin (by rw[I.ok.glob];exact I.mod.glob.keeps I.bk) hm (by rw[I.ok.blt];exact h1.keeps I.bk) ((h2 x hn).trans hv) h) hd
theorem dv{x:Str}{v:V}{u:Value}{pos:Pos}(hg:Gl X x)(hm:X.mg x=some u)(r:RelV v u)(hd:(x==("__debug__":Str))=false:=by decide):PE X (.Name x pos) (tC v):=
 λ_ _ _ H _ I h=>FZ I hg hm ⟨v,H,I,r,h⟩ hd
theorem ZcB{x:Str}{v:V}{u:Value}{pos:Pos}(hg:Gl X x)(hm:X.mg x=none)(hv:bootBuiltins x=some u)(r:RelV v u)(hn:x≠"__name__":=by decide)(hd:(x==("__debug__":Str))=false:=by decide):PE X (.Name x pos) (tC v):=
 λ_ _ _ H _ I h=>zd I hg hm hv ⟨v,H,I,r,h⟩ hn hd
variable {a b:Expr}{ta tb:TE}{pos:Pos}
def PC(X:Cx)(op:CmpOp)(a b:Expr)(t:TE):Prop:=
 ∀(pins:List (Addr×Obj)) (s:Shared) (σ:St) (H:Hp) (Q:VK),Inv X pins σ H s->t σ H Q->
  wpAny (model X.prog X.w) X.A (eval a X.env) (λv bK=>wpAny (model X.prog X.w) X.A (eval b X.env) (λu dU=>wpAny (model X.prog X.w) X.A (compareOp op v u) (EP X pins σ Q) X.xe dU) X.xe bK) X.xe s
inductive SE(Q:Bool->Hp->Prop)(x:V)(H1:Hp):Prop
 |mk (c) (aE:x=.bl c) (aT:Q c H1):SE Q x H1
def tB(t:TE):TT:=λσ H Q=>t σ H λx H1=>SE Q x H1
theorem ZdU{op:CmpOp}{t:TE}(h:PC X op a b t)(h1:behindInMarks op b=false:=by first|exact Zbo _ (by decide) (by decide)|rfl):PE X (.Compare a [op] [b] pos) t:=λpins s σ H Q I hw=>wpAny_Compare1 (h pins s σ H Q I hw) h1
theorem kA{op:CmpOp}{t:TE}(h:PC X op a b t)(h1:behindInMarks op b=false:=by first|exact Zbo _ (by decide) (by decide)|rfl):PT X (.Compare a [op] [b] pos) (tB t):=by
 intro pins s σ H Q I hw;refine wpAny_isTrue_Compare1 (aC (h pins s σ H _ I hw) λv s1 h1=>aC h1 λu s2 h2=>aC h2 λc s3 zq=>?_) h1;obtain⟨x,H1,I1,r1,q1⟩:=zq;obtain⟨d,rfl,q⟩:=q1;cases r1;exact wpAny_truthy_bool ⟨H1,I1,q⟩
theorem eK{e:Expr}{t:TE}(h:PE X e t)(he:∀whole,isTrue e X.env whole=(do let v←whole;standAt e.pos;holding [v] (truthy v)):=by intro _;rfl):PT X e (tB t):=by
 intro pins s σ H Q I hw;refine isTrue_plain (aC (h pins s σ H _ I hw) λv s1 zq=>?_) (he _);obtain⟨x,H1,I1,r1,q1⟩:=zq;obtain⟨d,rfl,q⟩:=q1;cases r1;exact wpAny_truthy_bool ⟨H1,I1,q⟩
variable {tA z5:TT}{rest:List Expr}
def SF(t u:TT):TT:=λσ H Q=>t σ H λc H1=>if c=true then u σ H1 Q else Q false H1
def TN(t u:TT):TT:=λσ H Q=>t σ H λc H1=>if c=true then Q true H1 else u σ H1 Q
def ZfW(t:TT):TT:=λσ H Q=>t σ H λc H1=>Q (!c) H1
theorem pw_and1(ha:PT X a tA):PW X (.BoolOp .And [a] pos) tA:=by
 intro wh pins s σ H Q I h;refine isTrue_and (aC (ha pins s σ H Q I h) λc s1 e=>?_);cases c with
 |true=>exact isTrue_and_nil e
 |false=>exact e
theorem pw_or1(ha:PT X a tA):PW X (.BoolOp .Or [a] pos) tA:=by
 intro wh pins s σ H Q I h;refine isTrue_or (aC (ha pins s σ H Q I h) λc s1 e=>?_);cases c with
 |false=>exact isTrue_or_nil e
 |true=>exact e
theorem pw_and(ha:PT X a tA)(hb:PW X (.BoolOp .And (b::rest) pos) z5):PW X (.BoolOp .And (a::b::rest) pos) (SF tA z5):=by
 intro wh pins s σ H Q I h;refine isTrue_and (aC (ha pins s σ H _ I h) λc s1 zq=>?_);obtain⟨H1,I1,q1⟩:=zq;cases c with
 |true=>exact hb wh pins s1 σ H1 Q I1 q1
 |false=>exact⟨H1,I1,q1⟩
theorem pw_or(ha:PT X a tA)(hb:PW X (.BoolOp .Or (b::rest) pos) z5):PW X (.BoolOp .Or (a::b::rest) pos) (TN tA z5):=by
 intro wh pins s σ H Q I h;refine isTrue_or (aC (ha pins s σ H _ I h) λc s1 zq=>?_);obtain⟨H1,I1,q1⟩:=zq;cases c with
 |true=>exact⟨H1,I1,q1⟩
 |false=>exact hb wh pins s1 σ H1 Q I1 q1
theorem iY(ha:PT X a tA):PT X (.UnaryOp .Not a pos) (ZfW tA):=by
 intro pins s σ H Q I h;exact isTrue_not (ha pins s σ H (λc H1=>Q (!c) H1) I h)
def RO(ta tb:TE):TE:=λσ H Q=>ta σ H λx H1=>∃c,x=.bl c/\if c=true then tb σ H1 Q else Q (.bl false) H1
def SG(ta tb:TE):TE:=λσ H Q=>ta σ H λx H1=>∃c,x=.bl c/\if c=true then Q (.bl true) H1 else tb σ H1 Q
def Zfc(ta:TE):TE:=λσ H Q=>ta σ H λx H1=>∃c,x=.bl c/\Q (.bl (!c)) H1
theorem kB{op}{t:TE}(h:PE X a t):PE X (.BoolOp op [a] pos) t:=λpins s σ H Q I hw=>BoolOp_one (h pins s σ H Q I hw)
theorem nT(ha:PE X a ta)(hb:PE X (.BoolOp .And (b::rest) pos) tb):PE X (.BoolOp .And (a::b::rest) pos) (RO ta tb):=by
 intro pins s σ H Q I h;refine BoolOp_and (aC (ha pins s σ H _ I h) λv s1 zq=>?_);obtain⟨x,H1,I1,r1,q1⟩:=zq;obtain⟨c,rfl,q1⟩:=q1;cases r1;refine wpAny_truthy_bool ?_;cases c with
 |true=>exact hb pins s1 σ H1 Q I1 q1
 |false=>exact⟨.bl false,H1,I1,rfl,q1⟩
theorem zu(ha:PE X a ta)(hb:PE X (.BoolOp .Or (b::rest) pos) tb):PE X (.BoolOp .Or (a::b::rest) pos) (SG ta tb):=by
 intro pins s σ H Q I h;refine BoolOp_or (aC (ha pins s σ H _ I h) λv s1 zq=>?_);obtain⟨x,H1,I1,r1,q1⟩:=zq;obtain⟨c,rfl,q1⟩:=q1;cases r1;refine wpAny_truthy_bool ?_;cases c with
 |false=>exact hb pins s1 σ H1 Q I1 q1
 |true=>exact⟨.bl true,H1,I1,rfl,q1⟩
theorem ZdV(ha:PE X a ta):PE X (.UnaryOp .Not a pos) (Zfc ta):=by
 intro pins s σ H Q I h;refine UnaryOp_ (aC (ha pins s σ H _ I h) λv s1 zq=>?_);obtain⟨x,H1,I1,r1,q1⟩:=zq;obtain⟨c,rfl,q1⟩:=q1;cases r1;exact not_of (wpAny_truthy_bool ⟨.bl (!c),H1,I1,rfl,q1⟩)
end
def ak(K:PySem.W.Frag)(H:Hp)(a:Addr)(xs:List V):Prop:=
 Rd H a (.lst xs)\/
  ∃(o:Obj) (ai:Array Value) (n:Nat),K.lookup a=some o/\o.cls=.type "list"/\o.dict=none/\o.data=.seq ai n/\ai.size<=sizeLine/\Vals xs ai.toList
def aA(K:PySem.W.Frag)(H:Hp)(a:Addr)(xs:List V):Prop:=
 Rd H a (.tup xs)\/
  ∃(o:Obj) (ai:Array Value) (n:Nat),K.lookup a=some o/\o.cls=.type "tuple"/\o.data=.seq ai n/\ai.size<=sizeLine/\Vals xs ai.toList
def ZfX:Value->Option V
 |.none=>some .aB
 |.bool b=>some (.bl b)
 |.int i _=>some (.int i)
 |.str x _=>some (.str x)
 |.bytes b _=>some (.i_ b)
 |.float b _=>some (.rN b)
 |.ref a=>some (.ref a)
 |.type n=>some (.ty n)
 |_=>none
theorem RelV.abs{x:V}{u:Value}(r:RelV x u):ZfX u=some x:=by
 cases x with
 |aB=>cases r;rfl
 |bl _=>cases r;rfl
 |int _=>obtain⟨t,rfl⟩:=r;rfl
 |str _=>obtain⟨t,rfl⟩:=r;rfl
 |i_ _=>obtain⟨t,rfl⟩:=r;rfl
 |rN _=>obtain⟨t,rfl⟩:=r;rfl
 |ref _=>cases r;rfl
 |ty _=>cases r;rfl
theorem RelV.inj{x y:V}{u:Value}(r:RelV x u)(q:RelV y u):x=y:=Yo (r.abs.symm.trans q.abs)
theorem Vals.inj:∀{xs ys:List V} {us:List Value},Vals xs us->Vals ys us->xs=ys:=by
 intro xs ys us h;induction h generalizing ys with
 |nil=>intro h';cases h';rfl
 |cons r t ih=>
  intro h';cases h' with
  |cons r' t'=>rw[r.inj r',ih t']
section
variable {X:Cx}{pins:List (Addr×Obj)}{σ:St}{H:Hp}{s:Shared}{a:Addr}{xs ys:List V}
theorem ak.of{K:PySem.W.Frag}(h:H a=some (.lst xs)):ak K H a xs:=.inl (.inl h)
theorem aA.of{K:PySem.W.Frag}(h:H a=some (.tup xs)):aA K H a xs:=.inl (.inl h)
theorem Inv.list(I:Inv X pins σ H s)(h:ak X.K H a xs):∃ai:List Value,Vals xs ai/\PlainL s.heap a ai.toArray/\xs.length<=sizeLine:=by
 rcases h with h|⟨o,ai,n,hk,hc,hd,hs,hz,r⟩
 ·obtain⟨z,ai,n,r,e⟩:=h.ok I.ay;exact⟨ai,r,⟨_,n,e,rfl,rfl,rfl⟩,z⟩
 ·refine⟨ai.toList,r,⟨o,n,I.dF a o hk,hc,hd,by simpa using hs⟩,?_⟩;have e:=r.length
  grind
theorem Inv.tuple(I:Inv X pins σ H s)(h:aA X.K H a xs):∃ai:List Value,Vals xs ai/\IsTup s.heap a ai.toArray/\xs.length<=sizeLine:=by
 rcases h with h|⟨o,ai,n,hk,hc,hs,hz,r⟩
 ·obtain⟨z,ai,r,p⟩:=h.ok I.ay;exact⟨ai,r,p.tup,z⟩
 ·refine⟨ai.toList,r,⟨o,I.dF a o hk,hc,n,by simpa using hs⟩,?_⟩;have e:=r.length
  grind
theorem Inv.Zbp(I:Inv X pins σ H s)(h:ak X.K H a xs)(h':ak X.K H a ys):xs=ys:=by
 obtain⟨ai,r,⟨o,n,e,_,_,d⟩,_⟩:=I.list h;obtain⟨its',r',⟨o',n',e',_,_,d'⟩,_⟩:=I.list h';rw[e] at e';cases e';rw[d] at d';injection d' with d1 _;have:ai=its':=by simpa using congrArg Array.toList d1
 subst this;exact r.inj r'
theorem Inv.ZaF(I:Inv X pins σ H s)(h:aA X.K H a xs)(h':aA X.K H a ys):xs=ys:=by
 obtain⟨ai,r,⟨o,e,_,n,d⟩,_⟩:=I.tuple h;obtain⟨its',r',⟨o',e',_,n',d'⟩,_⟩:=I.tuple h';rw[e] at e';cases e';rw[d] at d';injection d' with d1 _;have:ai=its':=by simpa using congrArg Array.toList d1
 subst this;exact r.inj r'
end
abbrev Cx.mO(X:Cx)(E:Value->Shared->Prop):Cx:={X with xe:=E}
abbrev Cx.z6(X:Cx):Cx:=X.mO λ_ _=>False
theorem Cx.Ok.mO{X:Cx}(ok:X.Ok)(E:Value->Shared->Prop):(X.mO E).Ok:=
 ⟨ok.mod,ok.kind,ok.glob,ok.blt,ok.above,ok.inj,ok.has,ok.wH,ok.hd,ok.frames,ok.zW,ok.uq,ok.bs,ok.ou,ok.wg,ok.ud,ok.kL,ok.rP⟩
theorem Cx.Ok.pI{X:Cx}{E:Value->Shared->Prop}(ok:(X.mO E).Ok):X.Ok:=
 ⟨ok.mod,ok.kind,ok.glob,ok.blt,ok.above,ok.inj,ok.has,ok.wH,ok.hd,ok.frames,ok.zW,ok.uq,ok.bs,ok.ou,ok.wg,ok.ud,ok.kL,ok.rP⟩
section
variable {X:Cx}{pins:List (Addr×Obj)}{σ:St}{H:Hp}{s:Shared}{E:Value->Shared->Prop}
theorem Inv.mO(I:Inv X pins σ H s)(E:Value->Shared->Prop):Inv (X.mO E) pins σ H s:=⟨I.ok.mO E,I.os,I.bare,I.base,I.loc,I.cell,I.free,I.kG,I.pin,I.ay,I.len⟩
theorem Inv.pI(I:Inv (X.mO E) pins σ H s):Inv X pins σ H s:=⟨I.ok.pI,I.os,I.bare,I.base,I.loc,I.cell,I.free,I.kG,I.pin,I.ay,I.len⟩
theorem SP.pI{D:Ends}{f:Flow}{s':Shared}(h:SP (X.mO E) pins D f s'):SP X pins D f s':=by
 cases f with
 |next=>obtain⟨aO,H',I,q⟩:=h;exact⟨aO,H',I.pI,q⟩
 |brk=>obtain⟨aO,H',I,q⟩:=h;exact⟨aO,H',I.pI,q⟩
 |cont=>obtain⟨aO,H',I,q⟩:=h;exact⟨aO,H',I.pI,q⟩
 |ret u=>obtain⟨v,aO,H',I,r,q⟩:=h;exact⟨v,aO,H',I.pI,r,q⟩
theorem gX.z6{st:List Stmt}{t:TS}(h:gX X.z6 st t):gX X st t:=λpins s σ H D I hw=>
 wpAny_mono (h pins s σ H D (I.mO _) hw) (λ_ _ q=>q.pI) λ_ _ z=>False.elim z
end
section
variable {X:Cx}{st:Stmt}{rest:List Stmt}{t u:TS}{e:Expr}{te:TE}{pos:Pos}
def RP:TS:=λD σ H=>D.nx σ H
def wj(t u:TS):TS:=λD σ H=>t {D with nx:=u D} σ H
theorem a_:gX X [] RP:=λ_ _ σ H _ I h=>wpAny_execs_nil ⟨σ,H,I,h⟩
theorem au(h1:PS X st t)(h2:gX X rest u):gX X (st::rest) (wj t u):=by
 intro pins s σ H D I h;refine wpAny_execs_cons (aC (h1 pins s σ H {D with nx:=u D} I h) λf s1 q=>?_);cases f with
 |next=>
  obtain⟨aO,H',I',q⟩:=q;exact h2 pins s1 aO H' D I' q
 |ret v=>exact q
 |brk=>exact q
 |cont=>exact q
theorem aw(h1:PS X st t):gX X [st] t:=by
 intro pins s σ H D I h;refine wpAny_execs_cons (aC (h1 pins s σ H D I h) λf s1 q=>?_);cases f with
 |next=>exact wpAny_execs_nil q
 |ret v=>exact q
 |brk=>exact q
 |cont=>exact q
theorem Inv.quiet{pins:List (Addr×Obj)}{σ:St}{H:Hp}{s:Shared}(I:Inv X pins σ H s):interactive X.env=false:=by simp[interactive,I.ok.kind]
def Zfd(te:TE):TS:=λD σ H=>te σ H λ_ H1=>D.nx σ H1
theorem cA(he:PE X e te)(hs:swapsWith e none pos.line X.env=pure false:=by rfl):PS X (.Expr e pos) (Zfd te):=by
 intro pins s σ H D I h;exact wpAny_Expr_any (aC (he pins s σ H _ I h) λv s1 ⟨x,H1,I1,r1,q1⟩=>⟨σ,H1,I1,q1⟩) I.quiet hs
def ZfY(te:TE):TS:=λD σ H=>te σ H D.rt
theorem aH(he:PE X e te):PS X (.Return (some e) pos) (ZfY te):=by
 intro pins s σ H D I h;exact wpAny_Return_some (aC (he pins s σ H _ I h) λv s1 ⟨x,H1,I1,r1,q1⟩=>⟨x,σ,H1,I1,r1,q1⟩)
def Hz(c:TT)(t u:TS):TS:=λD σ H=>c σ H λb H1=>if b=true then t D σ H1 else u D σ H1
theorem aR{c:Expr}{a b:List Stmt}{tc:TT}(hc:PT X c tc)(ha:gX X a t)(hb:gX X b u):PS X (.If c a b pos) (Hz tc t u):=by
 intro pins s σ H D I h;refine wpAny_If (aC (hc pins s σ H _ I h) λd s1 zq=>?_);obtain⟨H1,I1,q1⟩:=zq;cases d with
 |true=>exact ha pins s1 σ H1 D I1 q1
 |false=>exact hb pins s1 σ H1 D I1 q1
def ZdW:TS:=λ_ _ _=>False
theorem fI{sts:List Stmt}:gX X sts ZdW:=λ_ _ _ _ _ _ h=>h.elim
end
abbrev TG:=V->St->Hp->(St->Hp->Prop)->Prop
abbrev mW:=List V->St->Hp->(St->Hp->Prop)->Prop
def PG(X:Cx)(target:Expr)(t:TG):Prop:=
 ∀(pins:List (Addr×Obj)) (s:Shared) (σ:St) (H:Hp) (v:V) (u:Value) (Q:St->Hp->Prop),Inv X pins σ H s->RelV v u->t v σ H Q->
  wpAny (model X.prog X.w) X.A (assign target X.env u) (λ_ s'=>rC X pins Q s') X.xe s
def wK(X:Cx)(ts:List Expr)(t:mW):Prop:=
 ∀(pins:List (Addr×Obj)) (s:Shared) (σ:St) (H:Hp) (vs:List V) (us:List Value) (Q:St->Hp->Prop),Inv X pins σ H s->Vals vs us->t vs σ H Q->
  wpAny (model X.prog X.w) X.A (assignInOrder ((assignEach ts X.env).map (·.2)) us) (λ_ s'=>rC X pins Q s') X.xe s
abbrev HN:=V->V->V->Hp->(Hp->Prop)->Prop
def rD(X:Cx)(t:HN):Prop:=
 ∀(pins:List (Addr×Obj)) (s:Shared) (σ:St) (H:Hp) (o i v:V) (ov iv u:Value) (Q:Hp->Prop),Inv X pins σ H s->RelV o ov->RelV i iv->RelV v u->t o i v H Q->
  wpAny (model X.prog X.w) X.A (setItem ov iv u) (λ_ s'=>∃H',Inv X pins σ H' s'/\Q H') X.xe s
abbrev z7:=V->V->Hp->VK->Prop
def TQ(X:Cx)(op:Operator)(t:z7):Prop:=
 ∀(pins:List (Addr×Obj)) (s:Shared) (σ:St) (H:Hp) (x y:V) (v u:Value) (Q:VK),Inv X pins σ H s->RelV x v->RelV y u->t x y H Q->
  wpAny (model X.prog X.w) X.A (inplaceOp op v u) (EP X pins σ Q) X.xe s
section
variable {X:Cx}{pos:Pos}
def q0(i:Nat):TG:=λv σ H Q=>Q (σ.set i (some v)) H
theorem bo{i:Nat}{x:Str}(hN:X.N.Nodup)(hi:X.N[i]?=some x)(hx:Loc X.env.scope x)(hf:X.fn x=true\/X.env.scope.names.lookup x=some .local:=by first|exact .inl rfl|exact .inr rfl|assumption):PG X (.Name x pos) (q0 i):=by
 intro pins s σ H v u Q I r h;exact wpAny_assign_Name (Fn I hN hi hx r (λs' I'=>⟨_,H,I',h⟩) hf)
def ZfZ:mW:=λvs σ H Q=>vs=[]/\Q σ H
inductive OV(t:TG)(u:mW)(vs:List V)(σ:St)(H:Hp)(Q:St->Hp->Prop):Prop
 |mk (v r) (aE:vs=v::r) (aT:t v σ H λaO H'=>u r aO H' Q):OV t u vs σ H Q
def Zfe(t:TG)(u:mW):mW:=λvs σ H Q=>OV t u vs σ H Q
theorem gP:wK X [] ZfZ:=by
 rintro pins s σ H vs us Q I r ⟨e,h⟩;subst e;exact assignInOrder_nil ⟨σ,H,I,h⟩
theorem bJ{e:Expr}{es:List Expr}{t:TG}{u:mW}(h1:PG X e t)(h2:wK X es u)
  (hs:(assignEach (e::es) X.env).map (·.2)=assign e X.env::(assignEach es X.env).map (·.2):=by rfl):wK X (e::es) (Zfe t u):=by
 rintro pins s σ H vs us Q I r ⟨v,vr,e1,h⟩;subst e1;cases r with
 |cons r rr=>
  rw[hs];exact assignInOrder_cons (aC (h1 pins s σ H _ _ _ I r h) λ_ s1 ⟨uv,H1,I1,q1⟩=>h2 pins s1 uv H1 _ _ Q I1 rr q1)
inductive Qq(K:PySem.W.Frag)(n:Nat)(t:mW)(v:V)(σ:St)(H:Hp)(Q:St->Hp->Prop):Prop
 |mk (a xs) (aE:v=.ref a) (aT:aA K H a xs) (bw:xs.length=n) (bP:t xs σ H Q):Qq K n t v σ H Q
def SH(K:PySem.W.Frag)(n:Nat)(t:mW):TG:=λv σ H Q=>Qq K n t v σ H Q
theorem ZdX{es:List Expr}{k:Nat}{t:mW}{n:Nat}(hc:X.calm=true)(h:wK X es t)
  (hn:(assignEach es X.env).length=n:=by rfl)(gZ:(assignEach es X.env).findIdx? (·.1)=none:=by rfl):PG X (.Tuple es k pos) (SH X.K n t):=by
 rintro pins s σ H v u Q I r ⟨a,xs,e1,hq,hl,hw⟩;subst e1;cases r;obtain⟨ai,rv,ht,hz⟩:=I.tuple hq;exact assign_Tuple_tuple (I.ok.hd hc) ht (by simp[hn,←hl,rv.length]) gZ λh' hx=>h pins _ σ H xs _ Q (I.kept λb o e=>hx b o (Yy (Yw e)) e) (by simpa using rv) hw
def SI(to ti:TE)(t:HN):TG:=λv σ H Q=>to σ H λo H1=>ti σ H1 λi H2=>t o i v H2 λH3=>Q σ H3
theorem ZdY{o i:Expr}{to ti:TE}{t:HN}(ho:PE X o to)(hi:PE X i ti)(hs:rD X t)
  (ha:∀v,assign (.Subscript o i pos) X.env v=(do
   let ov←holding [v] (eval o X.env);let iv←holding [v,ov] (eval i X.env)
   standAt pos
   holding [v,ov,iv] (setItem ov iv v)
   release [v,ov,iv] []):=by intro _;rfl):PG X (.Subscript o i pos) (SI to ti t):=by
 intro pins s σ H v u Q I r h;exact wpAny_bind (wpAny_holding (aC (ho pins s σ H _ I h) λov s1 ⟨x,H1,I1,r1,q1⟩=>wpAny_bind (wpAny_holding (aC (hi pins s1 σ H1 _ I1 q1) λiv s2 ⟨y,H2,I2,r2,q2⟩=>wpAny_bind (wpAny_standAt (wpAny_bind (wpAny_holding (aC (hs pins s2 σ H2 x y v ov iv u _ I2 r1 r2 r q2) λ_ s3 ⟨H3,I3,q3⟩=>wpAny_release ⟨σ,H3,I3,q3⟩))))))))
def ue(te:TE)(g:TG):TS:=λD σ H=>te σ H λx H1=>g x σ H1 D.nx
theorem lC{tg e:Expr}{te:TE}{g:TG}(he:PE X e te)(hg:PG X tg g)(hs:swapsWithSole [tg] e pos.line X.env=pure false:=by rfl)(hw:swappedStores [tg] e X.env=pure none:=by rfl)
  (h1:(assignEach [tg] X.env).map (·.2)=[assign tg X.env]:=by rfl):PS X (.Assign [tg] e pos) (ue te g):=by
 intro pins s σ H D I h;refine wpAny_Assign_stores (aC (he pins s σ H _ I h) λv s1 zq=>?_) hs hw;obtain⟨x,H1,I1,r1,q1⟩:=zq;rw[h1];exact aC (hg pins s1 σ H1 x v _ I1 r1 q1) λ_ s2 q=>q
theorem bq{i:Nat}{x:Str}{e:Expr}{te:TE}{pos':Pos}(hN:X.N.Nodup)(hi:X.N[i]?=some x)(hx:Loc X.env.scope x)(he:PE X e te)(hs:swapsWith e (some (.Name x pos')) pos.line X.env=pure false:=by rfl)(hf:X.fn x=true\/X.env.scope.names.lookup x=some .local:=by first|exact .inl rfl|exact .inr rfl|assumption):
  PS X (.Assign [.Name x pos'] e pos) (ue te (q0 i)):=by
 intro pins s σ H D I h;refine wpAny_Assign_Name (aC (he pins s σ H _ I h) λv s1 zq=>?_) hs;obtain⟨y,H1,I1,r1,q1⟩:=zq;exact Fn I1 hN hi hx r1 (λs2 I2=>⟨_,H1,I2,q1⟩) hf
def Zf0(i:Nat)(te:TE)(ti:z7):TS:=λD σ H=>∃x,σ[i]?=some (some x)/\te σ H λy H1=>ti x y H1 λz H2=>D.nx (σ.set i (some z)) H2
theorem Qr{i:Nat}{x:Str}{e:Expr}{te:TE}{op:Operator}{ti:z7}{pos':Pos}(hN:X.N.Nodup)(hi:X.N[i]?=some x)(hx:Loc X.env.scope x)(he:PE X e te)(ho:TQ X op ti)(hf:X.fn x=true\/X.env.scope.names.lookup x=some .local:=by first|exact .inl rfl|exact .inr rfl|assumption):
  PS X (.AugAssign (.Name x pos') op e pos) (Zf0 i te ti):=by
 rintro pins s σ H D I ⟨v,e1,h⟩;obtain⟨m,hn,hl⟩:=I.loc;have IJ:wG X.env.scope x:=by rcases hx with k|k;exact .inl k;exact .inr (.inl k)
 obtain⟨u,r,l⟩:=hl i x v hi e1 IJ;refine wpAny_AugAssign_Name ?_;have go:wpAny (model X.prog X.w) X.A (eval e X.env) (λw dU=>wpAny (model X.prog X.w) X.A (inplaceOp op u w) (λr dQ=>wpAny (model X.prog X.w) X.A (storeName X.env x r) (λ_=>SP X pins D .next) X.xe dQ) X.xe dU) X.xe s:=aC (he pins s σ H _ I h) λw s1 ⟨y,H1,I1,r1,q1⟩=>aC (ho pins s1 σ H1 v y u w _ I1 r r1 q1) λz s2 ⟨zv,H2,I2,r2,q2⟩=>Fn I2 hN hi hx r2 (λs3 I3=>⟨_,H2,I3,q2⟩) hf;rcases l with⟨hk,hm⟩|⟨hk,c,hc,zt⟩;·exact wpAny_loadName_local I.ok.kind hk hn hm go
 ·rcases hk with hk|hk;·exact wpAny_loadName_cell I.ok.kind hk hc zt go
  ·rcases hx with k|k
   ·have:X.env.scope.names.lookup x=some .free:=hk
    grind
   ·have:X.env.scope.names.lookup x=some .free:=hk
    grind
inductive RQ(f:Int->Int->Int)(x:V)(y:V)(H:Hp)(Q:VK):Prop
 |mk (i j) (aE:x=.int i) (aT:y=.int j) (bw:Q (.int (f i j)) H):RQ f x y H Q
def ipI(f:Int->Int->Int):z7:=λx y H Q=>RQ f x y H Q
theorem Qs:TQ X .Add (ipI λi j=>i+j):=by
 rintro pins s σ H x y v u Q I r1 r2 ⟨i,j,e1,e2,q⟩;subst e1;subst e2;obtain⟨t,rfl⟩:=r1;obtain⟨t',rfl⟩:=r2;exact iadd_int ⟨.int _,H,I.tok _,⟨_,rfl⟩,q⟩
end
section
variable {X:Cx}{pos:Pos}
def Qt(c:TT)(tb:TS):TS:=λD σ H=>∃W:Nat->St->Hp->Prop,(∃m,W m σ H)/\∀m σ H,W m σ H->
 c σ H λb H1=>if b=true then ∃N:St->Hp->Prop,(∀aO H',N aO H'->∃m',m'<m/\W m' aO H')/\tb {D with nx:=N,ct:=N,bk:=D.nx} σ H1 else D.nx σ H1
theorem Fo{c:Expr}{body:List Stmt}{tc:TT}{tb:TS}(hp:PassesOwn (model X.prog X.w) X.A X.env X.xe)(hc:PT X c tc)(hb:gX X body tb):PS X (.While c body [] pos) (Qt tc tb):=by
 intro pins s σ H D I h;obtain⟨W,⟨m0,w0⟩,turn⟩:=h;refine wpAny_While (codeAny_whileLoop (λn s'=>rC X pins (W n) s') ?_ m0 ⟨σ,H,I,w0⟩);rintro n s1 ⟨uv,H1,I1,w1⟩;refine wpAny_passesOwn hp (aC (hc pins s1 uv H1 _ I1 (turn n uv H1 w1)) λb s2 zq=>?_);obtain⟨H2,I2,q2⟩:=zq;cases b with
 |true=>
  obtain⟨N,hN,q2⟩:=q2;rw[if_pos rfl];refine wpAny_passesOwn hp (aC (hb pins s2 uv H2 _ I2 q2) λf s3 q3=>?_);cases f with
  |next=>
   obtain⟨cM,H3,I3,n3⟩:=q3;obtain⟨m',hm,w3⟩:=hN cM H3 n3;exact⟨m',hm,cM,H3,I3,w3⟩
  |cont=>
   obtain⟨cM,H3,I3,n3⟩:=q3;obtain⟨m',hm,w3⟩:=hN cM H3 n3;exact⟨m',hm,cM,H3,I3,w3⟩
  |brk=>exact q3
  |ret v=>exact q3
 |false=>
  rw[if_neg Yi];exact wpAny_execs_nil ⟨uv,H2,I2,q2⟩
end
structure It where
 go:Nat->Hp->Prop
 pW:Nat->Hp->V->Hp->Prop
 stop:Nat->Hp->Prop
def ig(X:Cx)(pins:List (Addr×Obj))(H:Hp)(b:Addr):Prop:=
 H b=none/\b≠X.env.locals/\b∉X.fs/\(b∈X.ex\/X.c5.heap.objs.size<=b)/\(∀x c,X.env.cells.lookup x=some c->c≠b)/\∀p∈X.pn++pins,p.1≠b
theorem Inv.pP{X:Cx}{pins:List (Addr×Obj)}{σ:St}{H H':Hp}{s:Shared}{b:Addr}(I:Inv X pins σ H s)(hb:s.heap.objs.size<=b)(hn:H' b=none):ig X pins H' b:=by
 refine⟨hn,J6 (Y1 I.lt hb),I.ZfT hb,.inr (Y3 I.sz hb),λx c e z=>?_,λp hp z=>?_⟩
 ·obtain⟨v,q⟩:=I.cell x c e;exact absurd (Y1 q.lt (by rw[z];exact hb)) (Y7 _)
 ·exact absurd (Y1 (Yw (I.pin p hp).1) (by rw[z];exact hb)) (Y7 _)
structure Turn(P:Program)(w:World)(K:PySem.W.Frag)(tg:Expr)(J:It)(fp:List Addr)(it:Addr)(tn:Nat->Heap->Prop):Prop where
 mem:it∈fp
 obj:∀i h,tn i h->∀b∈fp,∃o,h.get? b=some o/\∀v,o.data≠.cell v
 keep:∀i h h',tn i h->(∀b∈fp,∀o,h.get? b=some o->h'.get? b=some o)->tn i h'
 item:∀(X:Cx),X.prog=P->X.w=w->X.K=K->X.calm=true->∀(i:Nat) (pins:List (Addr×Obj)) (s:Shared) (σ:St) (H:Hp) (E:Value->Shared->Prop),Inv X pins σ H s->(∀b∈fp,ig X pins H b)->tn i s.heap->J.go i H->
  wpAny (model P w) X.A (pyNext (.ref it)) (λr s1=>∃u,r=some u/\
   wpAny (model P w) X.A (letOwnedTupleGo tg (.ref it) u) (λ_ s2=>∃x H',Inv X pins σ H' s2/\RelV x u/\J.pW i H x H'/\tn (i+1) s2.heap/\∀b∈fp,H' b=none) E s1) E s
 done:∀(X:Cx),X.prog=P->X.w=w->X.K=K->X.calm=true->∀(i:Nat) (pins:List (Addr×Obj)) (s:Shared) (σ:St) (H:Hp) (E:Value->Shared->Prop),Inv X pins σ H s->(∀b∈fp,ig X pins H b)->tn i s.heap->J.stop i H->
  wpAny (model P w) X.A (pyNext (.ref it)) (λr s1=>r=none/\Inv X pins σ H s1) E s
 self:∀(A:Around) (i:Nat) (s:Shared) (Q:Value->Shared->Prop) (E:Value->Shared->Prop),tn i s.heap->Q (.ref it) s->wpAny (model P w) A (pyIter (.ref it)) Q E s
abbrev TI:=St->Hp->(It->Hp->Prop)->Prop
def TR(X:Cx)(pins:List (Addr×Obj))(σ:St)(tg:Expr)(R:It->Hp->Prop)(rR:Value)(s2:Shared):Prop:=
 ∃(it:Addr) (fp:List Addr) (tn:Nat->Heap->Prop) (J:It) (H':Hp),rR=.ref it/\Inv X pins σ H' s2/\Turn X.prog X.w X.K tg J fp it tn/\tn 0 s2.heap/\(∀b∈fp,ig X pins H' b)/\R J H'
def PI(X:Cx)(tg iter:Expr)(wi:TI):Prop:=
 ∀(pins:List (Addr×Obj)) (s:Shared) (σ:St) (H:Hp) (R:It->Hp->Prop),Inv X pins σ H s->wi σ H R->
  wpAny (model X.prog X.w) X.A (eval iter X.env) (λv s1=>wpAny (model X.prog X.w) X.A (pyIter v) (TR X pins σ tg R) X.xe s1) X.xe s
theorem q5{M:Model}{A:Around}{E:Value->Shared->Prop}{s:Shared}{tg:Expr}{it:Addr}{u:Value}{o:Obj}{n:String}{vs:Array Value}{Q:Unit->Shared->Prop}(ho:s.heap.get? it=some o)(hc:o.cls=.type n)(hd:o.data=.fields vs)
    (hn:["enumerate","zip","dict_itemiterator","dict_reverseitemiterator","odict_iterator","itertools.zip_longest","itertools.pairwise"].contains n=false)(hQ:Q () s):wpAny M A (letOwnedTupleGo tg (.ref it) u) Q E s:=by
  unfold letOwnedTupleGo;cases tg <;> first
    | exact wpAny_pure hQ
    | (cases u <;> first
        | exact wpAny_pure hQ
        | (refine wpAny_bind (wpAny_load ho ?_)
           rw [hc,hd];show wpAny M A (if (["enumerate","zip","dict_itemiterator","dict_reverseitemiterator","odict_iterator","itertools.zip_longest","itertools.pairwise"].contains n&&vs[0]? == some (rawInt _))=true then _ else _) Q E s;rw [if_neg (by intro h; rw [hn,Bool.false_and] at h; cases h)];exact wpAny_pure hQ))
def jd(K:PySem.W.Frag)(a:Addr):It:=
 ⟨λi H=>∃xs x,ak K H a xs/\xs[i]?=some x,λi H x H'=>H'=H/\∀xs,ak K H a xs->xs[i]?=some x,λi H=>∃xs,ak K H a xs/\xs.length<=i⟩
def uw(K:PySem.W.Frag)(a:Addr):It:=
 ⟨λi H=>∃xs x,aA K H a xs/\xs[i]?=some x,λi H x H'=>H'=H/\∀xs,aA K H a xs->xs[i]?=some x,λi H=>∃xs,aA K H a xs/\xs.length<=i⟩
def oy(lo:Int)(n:Nat):It:=⟨λi _=>i<n,λi H x H'=>H'=H/\x=.int (lo+i),λi _=>n<=i⟩
theorem MS{P:Program}{w:World}{K:PySem.W.Frag}{tg:Expr}(a it:Addr):Turn P w K tg (jd K a) [it] it (λi h=>h.IsListIter it a i) where
 mem:=by simp
 obj:=λi h st b hb=>by
  have e:b=it:=by simpa using hb
  obtain⟨o,e,c,d⟩:=st
  grind
 keep:=λi h h' st k=>st.at λo e=>k it (by simp) o e
 item:=by
  intro X hP hw hK hc i pins s σ H E I hf st hg;subst hP hw hK;obtain⟨xs,x,hq,hx⟩:=hg;obtain⟨ai,rv,p,hz⟩:=I.list hq;obtain⟨u,hu,ru⟩:=rv.get hx;obtain⟨f0,f1,f2,f3,f4,f5⟩:=hf it (by simp);refine wpAny_pyNext_list_item st p.isList (by simpa using hu) λh' aI sb=>?_;obtain⟨o,e,c,d⟩:=id aI;exact⟨u,rfl,q5 e c d (by decide) ⟨x,H,(I.turned (λb o hb e=>(sb.2 b hb).trans e) f0 f1 f3 f4 f5),ru,⟨rfl,λys hy=>by rw[I.Zbp hy hq];exact hx⟩,aI,λb hb=>(hf b hb).1⟩⟩
 done:=by
  intro X hP hw hK hc i pins s σ H E I hf st hg;subst hP hw hK;obtain⟨xs,hq,hx⟩:=hg;obtain⟨ai,rv,p,hz⟩:=I.list hq;obtain⟨f0,f1,f2,f3,f4,f5⟩:=hf it (by simp);have hl:=rv.length;exact wpAny_pyNext_list_end (I.ok.hd hc) st p.isList (by simp;omega) λh' eb=>⟨rfl,I.turned (λb o hb e=>eb b o hb e) f0 f1 f3 f4 f5⟩
 self:=λ_ _ _ _ _ st h=>wpAny_pyIter_listiter st h
theorem Ml{P:Program}{w:World}{K:PySem.W.Frag}{tg:Expr}(a it:Addr):Turn P w K tg (uw K a) [it] it (λi h=>h.IsTupleIter it a i) where
 mem:=by simp
 obj:=λi h st b hb=>by
  have e:b=it:=by simpa using hb
  obtain⟨o,e,c,d⟩:=st
  grind
 keep:=λi h h' st k=>st.at λo e=>k it (by simp) o e
 item:=by
  intro X hP hw hK hc i pins s σ H E I hf st hg;subst hP hw hK;obtain⟨xs,x,hq,hx⟩:=hg;obtain⟨ai,rv,p,hz⟩:=I.tuple hq;obtain⟨u,hu,ru⟩:=rv.get hx;obtain⟨f0,f1,f2,f3,f4,f5⟩:=hf it (by simp);refine wpAny_pyNext_tuple_item st (show s.heap.IsTuple a ai.toArray from p) (by simpa using hu) λh' aI sb=>?_;obtain⟨o,e,c,d⟩:=id aI;exact⟨u,rfl,q5 e c d (by decide) ⟨x,H,(I.turned (λb o hb e=>(sb.2 b hb).trans e) f0 f1 f3 f4 f5),ru,⟨rfl,λys hy=>by rw[I.ZaF hy hq];exact hx⟩,aI,λb hb=>(hf b hb).1⟩⟩
 done:=by
  intro X hP hw hK hc i pins s σ H E I hf st hg;subst hP hw hK;obtain⟨xs,hq,hx⟩:=hg;obtain⟨ai,rv,p,hz⟩:=I.tuple hq;obtain⟨f0,f1,f2,f3,f4,f5⟩:=hf it (by simp);have hl:=rv.length;exact wpAny_pyNext_tuple_end (I.ok.hd hc) st (show s.heap.IsTuple a ai.toArray from p) (by simp;omega) λh' eb=>⟨rfl,I.turned (λb o hb e=>eb b o hb e) f0 f1 f3 f4 f5⟩
 self:=λ_ _ _ _ _ st h=>wpAny_pyIter_tupleiter st h
theorem ZM{P:Program}{w:World}{K:PySem.W.Frag}{tg:Expr}(it:Addr)(lo:Int)(n:Nat):Turn P w K tg (oy lo n) [it] it (λi h=>IsRangeIter h it (lo+(i:Nat)*1) ((n:Int)-(i:Nat)) 1) where
 mem:=by simp
 obj:=λi h st b hb=>by
  grind
 keep:=λi h h' st k=>k it (by simp) _ st
 item:=by
  intro X hP hw hK hc i pins s σ H E I hf st hg;subst hP hw hK;obtain⟨f0,f1,f2,f3,f4,f5⟩:=hf it (by simp);refine(Walks.range (I.ok.hd hc) it lo 1 n).item i s _ _ hg st λv h' tk hv aI kk=>?_;obtain⟨t,rfl⟩:=hv;refine⟨_,rfl,q5 aI rfl rfl (by decide) ⟨.int (lo+i),H,(I.turned (λb o hb e=>kk b o (by simpa using hb) e) f0 f1 f3 f4 f5),⟨t,?_⟩,⟨rfl,rfl⟩,aI,λb hb=>(hf b hb).1⟩⟩;rw[Int.mul_one]
 done:=by
  intro X hP hw hK hc i pins s σ H E I hf st hg;subst hP hw hK;obtain⟨f0,f1,f2,f3,f4,f5⟩:=hf it (by simp);exact wpAny_pyNext_range_end (I.ok.hd hc) st (by have:n<=i:=hg;omega) λh' eb=>⟨rfl,I.turned (λb o hb e=>eb b o hb e) f0 f1 f3 f4 f5⟩
 self:=λ_ _ _ _ _ st h=>wpAny_pyIter_rangeiter st h
section
variable {X:Cx}{tg:Expr}
inductive OW(K:PySem.W.Frag)(R:It->Hp->Prop)(x:V)(H1:Hp):Prop
 |mk (a) (aE:x=.ref a) (aT:(∃xs,ak K H1 a xs)) (bw:R (jd K a) H1):OW K R x H1
def RS(K:PySem.W.Frag)(tl:TE):TI:=λσ H R=>tl σ H λx H1=>OW K R x H1
inductive Qu(K:PySem.W.Frag)(R:It->Hp->Prop)(x:V)(H1:Hp):Prop
 |mk (a) (aE:x=.ref a) (aT:(∃xs,aA K H1 a xs)) (bw:R (uw K a) H1):Qu K R x H1
def Zf1(K:PySem.W.Frag)(tl:TE):TI:=λσ H R=>tl σ H λx H1=>Qu K R x H1
theorem OX{l:Expr}{tl:TE}(hl:PE X l tl):PI X tg l (RS X.K tl):=by
 intro pins s σ H R I h;refine aC (hl pins s σ H _ I h) λv s1 zq=>?_;obtain⟨x,H1,I1,r1,q1⟩:=zq;obtain⟨a,e,⟨xs,hq⟩,q⟩:=q1;subst e;cases r1;obtain⟨ai,rv,p,hz⟩:=I1.list hq;refine wpAny_pyIter_list p.isList ⟨s1.heap.objs.size,[s1.heap.objs.size],_,_,H1,rfl,I1.kept λb o e=>Yb _ e,MS a _,⟨_,Ys _ rfl,rfl,rfl⟩,λb hb=>?_,q⟩;have e:b=s1.heap.objs.size:=by simpa using hb
 subst e;exact I1.pP (Yd _) (I1.ay.fresh (Yd _))
theorem Gu{l:Expr}{tl:TE}(hl:PE X l tl):PI X tg l (Zf1 X.K tl):=by
 intro pins s σ H R I h;refine aC (hl pins s σ H _ I h) λv s1 zq=>?_;obtain⟨x,H1,I1,r1,q1⟩:=zq;obtain⟨a,e,⟨xs,hq⟩,q⟩:=q1;subst e;cases r1;obtain⟨ai,rv,p,hz⟩:=I1.tuple hq;refine wpAny_pyIter_tuple (show s1.heap.IsTuple a ai.toArray from p) ⟨s1.heap.objs.size,[s1.heap.objs.size],_,_,H1,rfl,I1.kept λb o e=>Yb _ e,Ml a _,⟨_,Ys _ rfl,rfl,rfl⟩,λb hb=>?_,q⟩;have e:b=s1.heap.objs.size:=by simpa using hb
 subst e;exact I1.pP (Yd _) (I1.ay.fresh (Yd _))
theorem Zbq{pins:List (Addr×Obj)}{σ:St}{H:Hp}{s:Shared}{R:It->Hp->Prop}{E:Value->Shared->Prop}{lo hi:Int}{t u v:Tok}{tk:Nat}(I:Inv X pins σ H s)(h1:-(2^62)<=lo)(h2:lo<2^62)(h3:-(2^62)<=hi)(h4:hi<2^62)
  (q:R (oy lo (hi-lo).toNat) H):wpAny (model X.prog X.w) X.A (pyIter (.ref s.heap.objs.size)) (TR X pins σ tg R) E {s with heap:=s.heap.push {cls:=.type "range",data:=.fields #[.int lo t,.int hi u,.int 1 v]},toks:=tk}:=by
 refine wpAny_pyIter_range (IsRange.new ..) (small_one h1 h2 h3 h4) ?_;have I1:Inv X pins σ H {s with heap:=s.heap.push {cls:=.type "range",data:=.fields #[.int lo t,.int hi u,.int 1 v]},toks:=tk}:=I.kept λb o e=>Yb _ e;refine⟨(s.heap.push {cls:=.type "range",data:=.fields #[.int lo t,.int hi u,.int 1 v]}).objs.size,[(s.heap.push {cls:=.type "range",data:=.fields #[.int lo t,.int hi u,.int 1 v]}).objs.size],_,_,H,rfl,
  I1.kept (t':=tk) λb o e=>Yb _ e,ZM _ lo (hi-lo).toNat,?_,λb hb=>?_,q⟩
 ·have e1:lo+((0:Nat):Int)*1=lo:=by simp
  have e2:(((hi-lo).toNat:Nat):Int)-((0:Nat):Int)=Builtin.Range.rangeSize lo hi 1:=by rw[rangeSize_one];split<;>omega
  show IsRangeIter _ _ (lo+((0:Nat):Int)*1) ((((hi-lo).toNat:Nat):Int)-((0:Nat):Int)) 1;rw[e1,e2];exact Ys _ rfl
 ·have e:b=(s.heap.push {cls:=.type "range",data:=.fields #[.int lo t,.int hi u,.int 1 v]}).objs.size:=by simpa using hb
  subst e;exact I1.pP (Yd _) (I1.ay.fresh (Yd _))
inductive OY(R:It->Hp->Prop)(vs:List V)(H1:Hp):Prop
 |mk (j:Int) (aE:vs=[.int j]) (aT:-(2^62)<=j) (bw:j<2^62) (bP:R (oy 0 j.toNat) H1):OY R vs H1
def Zff(ta:TA):TI:=λσ H R=>ta σ H λvs H1=>OY R vs H1
theorem pj{a:Expr}{ta:TA}{p pos:Pos}(hg:Gl X "range")(hm:X.mg "range"=none)(ha:PA X [a] ta)(hs:starEach [a] X.env=[(false,eval a X.env)]:=by rfl):PI X tg (.Call (.Name "range" p) [a] [] pos) (Zff ta):=by
 intro pins s σ H R I h;refine Call_ (zd I hg hm boot_range (PyProof.Rows.callWith_type1 (aC (ha pos pins s σ H _ I h) λus s1 zq=>?_) hs rfl));obtain⟨vs,H1,I1,r1,q1⟩:=zq;obtain⟨j,e,q1,q2,q⟩:=q1;subst e;cases r1 with
 |cons r rr=>
  cases rr;obtain⟨t,rfl⟩:=r;exact call_range_1 (Zbq I1 (by omega) (by omega) q1 q2 (by simpa using q))
def HP(wi:TI)(g:TG)(tb:TS):TS:=λD σ H=>wi σ H λJ H1=>∃W:Nat->Nat->St->Hp->Prop,(∃m,W 0 m σ H1)/\∀i m σ H,W i m σ H->
 (J.stop i H/\D.nx σ H)\/(J.go i H/\∃N:St->Hp->Prop,(∀aO H',N aO H'->∃m',m'<m/\W (i+1) m' aO H')/\∀x H',J.pW i H x H'->g x σ H' λdt H2=>tb {D with nx:=N,ct:=N,bk:=D.nx} dt H2)
def pJ(fp:List Addr)(h:Heap):List (Addr×Obj):=fp.filterMap λb=>(h.get? b).map λo=>(b,o)
theorem o_{fp:List Addr}{h:Heap}{b:Addr}{o:Obj}(hb:b∈fp)(e:h.get? b=some o):(b,o)∈pJ fp h:=Jf.mpr ⟨b,hb,by rw[e];rfl⟩
theorem ZaG{fp:List Addr}{h:Heap}{p:Addr×Obj}(hp:p∈pJ fp h):p.1∈fp/\h.get? p.1=some p.2:=by
 obtain⟨b,hb,e⟩:=Jf.mp hp;cases q:h.get? b with
 |none=>grind
 |some o=>grind
theorem Inv.pinned{pins:List (Addr×Obj)}{σ:St}{H:Hp}{s:Shared}{fp:List Addr}(I:Inv X pins σ H s)(hf:∀b∈fp,ig X pins H b)(ho:∀b∈fp,∃o,s.heap.get? b=some o/\∀v,o.data≠.cell v):Inv X (pins++pJ fp s.heap) σ H s:=
 I.OU λp hp=>(Yu.mp hp).elim (λz=>I.pin p (Yq _ z)) λz=>by
  obtain⟨hb,e⟩:=ZaG z;obtain⟨f0,f1,f2,_⟩:=hf p.1 hb
  grind
theorem Inv.tI{pins pl:List (Addr×Obj)}{σ:St}{H:Hp}{s:Shared}(I:Inv X (pins++pl) σ H s):Inv X pins σ H s:=I.OU λp hp=>I.pin p (Yq _ (Yt _ hp))
theorem fW{iter:Expr}{body:List Stmt}{wi:TI}{g:TG}{tb:TS}{pos:Pos}(hp:PassesOwn (model X.prog X.w) X.A X.env X.xe)(hc:X.calm=true)(hi:PI X tg iter wi)(hg:PG X tg g)(hb:gX X body tb)
  (hs:∀x,foldedSetIterable iter X.env x=pure x:=by intro _;rfl):PS X (.For tg iter body [] pos) (HP wi g tb):=by
 intro pins s σ H D I h;refine wpAny_For (aC (hi pins s σ H _ I h) λv s1 h1=>aC h1 λrR s2 h2=>?_) hs;obtain⟨it,fp,tn,J,H2,e,I2,T,d5,f2,W,⟨m0,w0⟩,turn⟩:=h2;subst e;have lJ:∀{H':Hp},(∀b∈fp,H' b=none)->∀b∈fp,ig X pins H' b:=λhn b hb=>⟨hn b hb,(f2 b hb).2⟩;refine codeAny_forLoop_any (λn s'=>∃i aO H',Inv X pins aO H' s'/\tn i s'.heap/\(∀b∈fp,H' b=none)/\W i n aO H') ?_ m0 ⟨0,σ,H2,I2,d5,λb hb=>(f2 b hb).1,w0⟩;rintro n s3 ⟨i,cM,H3,I3,TU,TV,w3⟩;rcases turn i n cM H3 w3 with⟨stop,qn⟩|⟨go,N,hN,step⟩
 ·refine wpAny_passesOwn hp (aC (T.done X rfl rfl rfl hc i pins s3 cM H3 X.xe I3 (lJ TV) TU stop) λr s4 zq=>?_);obtain⟨hr,I4⟩:=zq;subst hr;exact wpAny_execs_nil ⟨cM,H3,I4,qn⟩
 ·refine wpAny_passesOwn hp (aC (T.item X rfl rfl rfl hc i pins s3 cM H3 X.xe I3 (lJ TV) TU go) λr s4 zq=>?_);obtain⟨u,hr,h4⟩:=zq;subst hr;refine wpAny_passesOwn hp (aC h4 λ_ s5 ⟨x,H5,I5,r5,y5,oz,rS⟩=>wpAny_passesOwn hp (aC (hg _ s5 cM H5 x u _ (I5.pinned (lJ rS) (T.obj _ _ oz)) r5 (step x H5 y5)) λ_ s6 ⟨σ6,H6,I6,q6⟩=>wpAny_passesOwn hp (aC (hb _ s6 σ6 H6 _ I6 q6) λf s7 q7=>?_)));have again:∀{lP:St} {H7:Hp},Inv X (pins++pJ fp s5.heap) lP H7 s7->N lP H7->∃m,m<n/\∃i aO H',Inv X pins aO H' s7/\tn i s7.heap/\(∀b∈fp,H' b=none)/\W i m aO H':=λ{lP H7} I7 n7=>by
   obtain⟨m',hm,w7⟩:=hN lP H7 n7;refine⟨m',hm,i+1,lP,H7,I7.tI,T.keep _ _ _ oz λb hb o e=>(I7.pin (b,o) (Yq _ (Yq _ (o_ hb e)))).1,λb hb=>?_,w7⟩;obtain⟨o,e,d⟩:=T.obj _ _ oz b hb;exact(I7.pin (b,o) (Yq _ (Yq _ (o_ hb e)))).2.1
  cases f with
  |next=>obtain⟨lP,H7,I7,n7⟩:=q7;exact again I7 n7
  |cont=>obtain⟨lP,H7,I7,n7⟩:=q7;exact again I7 n7
  |brk=>obtain⟨lP,H7,I7,q7⟩:=q7;exact⟨lP,H7,I7.tI,q7⟩
  |ret v=>obtain⟨x7,lP,H7,I7,r7,q7⟩:=q7;exact⟨x7,lP,H7,I7.tI,r7,q7⟩
end
theorem jq{K:PySem.W.Frag}{a:Addr}{xs:List V}{g:TG}{tb:TS}{D:Ends}{σ:St}{H:Hp}(Pv:Nat->St->Hp->Prop)(h0:Pv 0 σ H)(hl:∀i σ H,i<=xs.length->Pv i σ H->ak K H a xs)
  (hs:∀i x σ H,xs[i]?=some x->Pv i σ H->g x σ H λdt H2=>tb {D with nx:=Pv (i+1),ct:=Pv (i+1),bk:=D.nx} dt H2)(hd:∀σ H,Pv xs.length σ H->D.nx σ H):
  ∃W:Nat->Nat->St->Hp->Prop,(∃m,W 0 m σ H)/\∀i m σ H,W i m σ H->
   ((jd K a).stop i H/\D.nx σ H)\/((jd K a).go i H/\∃N:St->Hp->Prop,(∀aO H',N aO H'->∃m',m'<m/\W (i+1) m' aO H')/\∀x H',(jd K a).pW i H x H'->g x σ H' λdt H2=>tb {D with nx:=N,ct:=N,bk:=D.nx} dt H2):=by
 refine⟨λi m σ H=>m=xs.length-i/\i<=xs.length/\Pv i σ H,⟨xs.length,by simp,Yv _,h0⟩,?_⟩;rintro i m σ H ⟨rfl,hi,p⟩;have q:=hl i σ H hi p;by_cases bN:i<xs.length
 ·refine .inr ⟨⟨xs,xs[i],q,by simp[bN]⟩,Pv (i+1),λaO H' p'=>⟨xs.length-(i+1),by omega,rfl,bN,p'⟩,λx H' y=>?_⟩;obtain⟨e,y⟩:=y;subst e;exact hs i x σ _ (y xs q) p
 ·have e:i=xs.length:=by omega
  subst e;exact .inl ⟨⟨xs,q,Yd _⟩,hd σ H p⟩
theorem EJ{lo:Int}{n:Nat}{g:TG}{tb:TS}{D:Ends}{σ:St}{H:Hp}(Pv:Nat->St->Hp->Prop)(h0:Pv 0 σ H)
  (hs:∀i σ H,i<n->Pv i σ H->g (.int (lo+i)) σ H λdt H2=>tb {D with nx:=Pv (i+1),ct:=Pv (i+1),bk:=D.nx} dt H2)(hd:∀σ H,Pv n σ H->D.nx σ H):
  ∃W:Nat->Nat->St->Hp->Prop,(∃m,W 0 m σ H)/\∀i m σ H,W i m σ H->
   ((oy lo n).stop i H/\D.nx σ H)\/((oy lo n).go i H/\∃N:St->Hp->Prop,(∀aO H',N aO H'->∃m',m'<m/\W (i+1) m' aO H')/\∀x H',(oy lo n).pW i H x H'->g x σ H' λdt H2=>tb {D with nx:=N,ct:=N,bk:=D.nx} dt H2):=by
 refine⟨λi m σ H=>m=n-i/\i<=n/\Pv i σ H,⟨n,by simp,Yv _,h0⟩,?_⟩;rintro i m σ H ⟨rfl,hi,p⟩;by_cases bN:i<n
 ·refine .inr ⟨bN,Pv (i+1),λaO H' p'=>⟨n-(i+1),by omega,rfl,bN,p'⟩,λx H' y=>?_⟩;obtain⟨e,y⟩:=y
  grind
 ·have e:i=n:=by omega
  subst e;exact .inl ⟨Yd _,hd σ H p⟩
theorem Fp{c:TT}{tb:TS}{D:Ends}{σ:St}{H:Hp}(Pv:St->Hp->Prop)(μ:St->Hp->Nat)(h0:Pv σ H)
  (hs:∀σ H,Pv σ H->c σ H λb H1=>if b=true then tb {D with nx:=λaO H'=>Pv aO H'/\μ aO H'<μ σ H,ct:=λaO H'=>Pv aO H'/\μ aO H'<μ σ H,bk:=D.nx} σ H1 else D.nx σ H1)
  (mono:∀σ H Q Q',(∀b H1,Q b H1->Q' b H1)->c σ H Q->c σ H Q'):Qt c tb D σ H:=by
 refine⟨λm σ H=>m=μ σ H/\Pv σ H,⟨_,rfl,h0⟩,?_⟩;rintro m σ H ⟨rfl,p⟩;refine mono σ H _ _ (λb H1 q=>?_) (hs σ H p);cases b with
 |true=>exact⟨_,λaO H' ⟨p',l⟩=>⟨_,l,rfl,p'⟩,q⟩
 |false=>exact q
abbrev R2:=V->V->Hp->VK->Prop
def cE(X:Cx)(f:Value->Value->Sem Value)(r:R2):Prop:=
 ∀(pins:List (Addr×Obj)) (s:Shared) (σ:St) (H:Hp) (x y:V) (v u:Value) (Q:VK),Inv X pins σ H s->RelV x v->RelV y u->r x y H Q->
  wpAny (model X.prog X.w) X.A (f v u) (EP X pins σ Q) X.xe s
def c7(X:Cx)(f:Value)(r:List V->Hp->VK->Prop):Prop:=
 ∀(pins:List (Addr×Obj)) (s:Shared) (σ:St) (H:Hp) (xs:List V) (us:List Value) (Q:VK),Inv X pins σ H s->Vals xs us->r xs H Q->
  wpAny (model X.prog X.w) X.A (call f us) (EP X pins σ Q) X.xe s
def Zf2(X:Cx)(r:V->Hp->(Bool->Hp->Prop)->Prop):Prop:=
 ∀(pins:List (Addr×Obj)) (s:Shared) (σ:St) (H:Hp) (x:V) (v:Value) (Q:Bool->Hp->Prop),Inv X pins σ H s->RelV x v->r x H Q->
  wpAny (model X.prog X.w) X.A (truthy v) (TP X pins σ Q) X.xe s
def jE(r:R2)(ta tb:TE):TE:=λσ H Q=>ta σ H λx H1=>tb σ H1 λy H2=>r x y H2 Q
inductive SJ(C:Int->Int->Prop)(g:Int->Int->V)(x:V)(y:V)(H:Hp)(Q:VK):Prop
 |mk (i j) (aE:x=.int i) (aT:y=.int j) (bw:C i j) (bP:Q (g i j) H):SJ C g x y H Q
def rI(C:Int->Int->Prop)(g:Int->Int->V):R2:=λx y H Q=>SJ C g x y H Q
inductive RT(g:Int->Int->V)(x:V)(y:V)(H:Hp)(Q:VK):Prop
 |mk (i j) (aE:x=.int i) (aT:y=.int j) (bw:Q (g i j) H):RT g x y H Q
def pX(g:Int->Int->V):R2:=λx y H Q=>RT g x y H Q
section
variable {X:Cx}{a b c:Expr}{ta tb tc:TE}{pos:Pos}
theorem HQ(ha:PE X a ta)(hb:PE X b tb){pins:List (Addr×Obj)}{s:Shared}{σ:St}{H:Hp}{R:V->V->Hp->Prop}(I:Inv X pins σ H s)
  (h:ta σ H λx H1=>tb σ H1 λy H2=>R x y H2){Q:Value->Shared->Prop}{f:Value->Value->Sem Value}
  (hf:∀v u s2 x y H2,Inv X pins σ H2 s2->RelV x v->RelV y u->R x y H2->wpAny (model X.prog X.w) X.A (f v u) Q X.xe s2):
  wpAny (model X.prog X.w) X.A (eval a X.env) (λv bK=>wpAny (model X.prog X.w) X.A (eval b X.env) (λu dU=>wpAny (model X.prog X.w) X.A (f v u) Q X.xe dU) X.xe bK) X.xe s:=by
 refine aC (ha pins s σ H _ I h) λv s1 zq=>?_;obtain⟨x,H1,I1,r1,q1⟩:=zq;refine aC (hb pins s1 σ H1 _ I1 q1) λu s2 zq=>?_;obtain⟨y,H2,I2,r2,q2⟩:=zq
 grind
theorem a8{op:Operator}{r:R2}(ho:cE X (binaryOp op) r)(ha:PE X a ta)(hb:PE X b tb):PE X (.BinOp a op b pos) (jE r ta tb):=by
 intro pins s σ H Q I h;exact wpAny_BinOp (HQ ha hb I h λv u s2 x y H2 I2 rx ry q=>ho pins s2 σ H2 x y v u Q I2 rx ry q)
theorem z8{f:Value->Value->Sem Value}{C:Int->Int->Prop}{g:Int->Int->Int}
  (rule:∀(i j:Int) (t u:Tok) (s:Shared) (Q:Value->Shared->Prop) (E:Value->Shared->Prop),C i j->Q (.int (g i j) s.toks) {s with toks:=s.toks+1}->wpAny (model X.prog X.w) X.A (f (.int i t) (.int j u)) Q E s):
  cE X f (rI C λi j=>.int (g i j)):=by
 rintro pins s σ H x y v u Q I rx ry ⟨i,j,rfl,rfl,hc,q⟩;obtain⟨t,rfl⟩:=rx;obtain⟨t',rfl⟩:=ry;exact rule i j t t' s _ _ hc ⟨.int (g i j),H,I.tok _,⟨_,rfl⟩,q⟩
theorem SK{f:Value->Value->Sem Value}{g:Int->Int->Int}
  (rule:∀(i j:Int) (t u:Tok) (s:Shared) (Q:Value->Shared->Prop) (E:Value->Shared->Prop),Q (.int (g i j) s.toks) {s with toks:=s.toks+1}->wpAny (model X.prog X.w) X.A (f (.int i t) (.int j u)) Q E s):
  cE X f (pX λi j=>.int (g i j)):=by
 rintro pins s σ H x y v u Q I rx ry ⟨i,j,rfl,rfl,q⟩;obtain⟨t,rfl⟩:=rx;obtain⟨t',rfl⟩:=ry;exact rule i j t t' s _ _ ⟨.int (g i j),H,I.tok _,⟨_,rfl⟩,q⟩
theorem HW{f:Value->Value->Sem Value}{g:Int->Int->Bool}
  (rule:∀(i j:Int) (t u:Tok) (s:Shared) (Q:Value->Shared->Prop) (E:Value->Shared->Prop),Q (.bool (g i j)) s->wpAny (model X.prog X.w) X.A (f (.int i t) (.int j u)) Q E s):
  cE X f (pX λi j=>.bl (g i j)):=by
 rintro pins s σ H x y v u Q I rx ry ⟨i,j,rfl,rfl,q⟩;obtain⟨t,rfl⟩:=rx;obtain⟨t',rfl⟩:=ry;exact rule i j t t' s _ _ ⟨.bl (g i j),H,I,rfl,q⟩
def H_(i j:Int):Prop:=0<j/\j<1073741824
def Zf3(i j:Int):Prop:=0<=j/\j<=1000000/\i.natAbs<2^64
def wk(i j:Int):Prop:=(-(2^64)<i/\i<2^64)\/(-(2^64)<j/\j<2^64)
theorem wk.ok{i j:Int}(h:wk i j):IntMulOk i j:=by
 rcases h with⟨h1,h2⟩|⟨h1,h2⟩;·exact .of_left (intBits_le_64 h1 h2)
 ·exact .of_right (intBits_le_64 h1 h2)
theorem fX:cE X (binaryOp .Add) (pX λi j=>.int (i+j)):=SK λ_ _ _ _ _ _ _ q=>add_int q
theorem ze:cE X (binaryOp .Sub) (pX λi j=>.int (i-j)):=SK λ_ _ _ _ _ _ _ q=>sub_int q
theorem nU:cE X (binaryOp .Mult) (rI wk λi j=>.int (i*j)):=z8 λ_ _ _ _ _ _ _ hc q=>mul_int q hc.ok
theorem yK:cE X (binaryOp .FloorDiv) (rI H_ λi j=>.int (i/j)):=z8 λi j _ _ _ _ _ hc q=>by
 have h1:(0:Int)<j:=hc.1;have h2:j<1073741824:=hc.2;exact floordiv_int (by omega) (by rw[Int.fdiv_eq_ediv_of_nonneg i (by omega)];exact q) (.inl (PyProof.noPylong_small (by omega)))
theorem dJ:cE X (binaryOp .Mod) (rI (λ_ j=>0<j) λi j=>.int (i % j)):=z8 λi j _ _ _ _ _ hc q=>by
 have h1:(0:Int)<j:=hc;exact mod_int' (by omega) (by rw[Int.fmod_eq_emod_of_nonneg i (by omega)];exact q)
theorem Qv:cE X (binaryOp .Pow) (rI Zf3 λi j=>.int (i^j.toNat)):=z8 λ_ _ _ _ _ _ _ hc q=>pow_int_small hc.1 hc.2.1 hc.2.2 q
end
def wm:V->V->Bool
 |.aB,.aB=>true|.aB,.int _=>true|.int _,.aB=>true|.aB,.bl _=>true|.bl _,.aB=>true|.aB,.str _=>true|.str _,.aB=>true
 |.int _,.int _=>true|.bl _,.bl _=>true|.str _,.str _=>true|.i_ _,.i_ _=>true
 |.int _,.str _=>true|.str _,.int _=>true|.bl _,.str _=>true|.str _,.bl _=>true
 |_,_=>false
def TX:R2:=λx y H Q=>wm x y=true/\Q (.bl (decide (x=y))) H
def TY:R2:=λx y H Q=>wm x y=true/\Q (.bl (!decide (x=y))) H
theorem OZ{i j:Int}:decide (V.int i=V.int j)=(i==j):=by
 grind
theorem Qw{i j:Bool}:decide (V.bl i=V.bl j)=(i==j):=by
 grind
theorem O0{i j:Str}:decide (V.str i=V.str j)=(i==j):=by
 grind
theorem O1{i j:Array UInt8}:decide (V.i_ i=V.i_ j)=(i.toList==j.toList):=by
 rw[Wf];simp_all
section
variable {X:Cx}{a b c:Expr}{ta tb tc:TE}{pos:Pos}
theorem cH{pins:List (Addr×Obj)}{σ:St}{H:Hp}{s:Shared}{Q:VK}{k k':Bool}(I:Inv X pins σ H s)(q:Q (.bl k) H)(e:k=k'):EP X pins σ Q (.bool k') s:=by
 subst e;exact⟨.bl k,H,I,rfl,q⟩
theorem cg:cE X (compareOp .Eq) TX:=by
 intro pins s σ H x y v u Q I rx ry h;obtain⟨hs,q⟩:=h;cases x with
 |aB=>
  cases rx;cases y with
  |aB=>cases ry;exact PySem.EqNone.eq_none_none (cH I q (by simp))
  |bl j=>cases ry;exact PySem.EqNone.eq_none_bool (cH I q (by simp))
  |int j=>obtain⟨t',rfl⟩:=ry;exact PySem.EqNone.eq_none_int (cH I q (by simp))
  |str j=>obtain⟨t',rfl⟩:=ry;exact PySem.EqNone.eq_none_str (cH I q (by simp))
  |_=>exact absurd (show false=true from hs) Yi
 |bl i=>
  cases rx;cases y with
  |aB=>cases ry;exact PySem.EqNone.eq_bool_none (cH I q (by simp))
  |bl j=>cases ry;exact eq_bool (cH I q Qw)
  |str j=>obtain⟨t',rfl⟩:=ry;exact PySem.EqMixed.eq_bool_str (cH I q (by simp))
  |_=>exact absurd (show false=true from hs) Yi
 |int i=>
  obtain⟨t,rfl⟩:=rx;cases y with
  |aB=>cases ry;exact PySem.EqNone.eq_int_none (cH I q (by simp))
  |int j=>obtain⟨t',rfl⟩:=ry;exact eq_int (cH I q OZ)
  |str j=>obtain⟨t',rfl⟩:=ry;exact PySem.EqMixed.eq_int_str (cH I q (by simp))
  |_=>exact absurd (show false=true from hs) Yi
 |str i=>
  obtain⟨t,rfl⟩:=rx;cases y with
  |aB=>cases ry;exact PySem.EqNone.eq_str_none (cH I q (by simp))
  |bl j=>cases ry;exact PySem.EqMixed.eq_str_bool (cH I q (by simp))
  |int j=>obtain⟨t',rfl⟩:=ry;exact PySem.EqMixed.eq_str_int (cH I q (by simp))
  |str j=>obtain⟨t',rfl⟩:=ry;exact eq_str (cH I q O0)
  |_=>exact absurd (show false=true from hs) Yi
 |i_ i=>
  obtain⟨t,rfl⟩:=rx;cases y with
  |i_ j=>obtain⟨t',rfl⟩:=ry;exact PySem.W.eq_bytes (cH I q O1)
  |_=>exact absurd (show false=true from hs) Yi
 |_=>cases y<;>exact absurd (show false=true from hs) Yi
theorem lE:cE X (compareOp .NotEq) TY:=by
 intro pins s σ H x y v u Q I rx ry h;obtain⟨hs,q⟩:=h;cases x with
 |aB=>
  cases rx;cases y with
  |aB=>cases ry;exact PySem.EqNone.ne_none_none (cH I q (by simp))
  |bl j=>cases ry;exact PySem.EqNone.ne_none_bool (cH I q (by simp))
  |int j=>obtain⟨t',rfl⟩:=ry;exact PySem.EqNone.ne_none_int (cH I q (by simp))
  |str j=>obtain⟨t',rfl⟩:=ry;exact PySem.EqNone.ne_none_str (cH I q (by simp))
  |_=>exact absurd (show false=true from hs) Yi
 |bl i=>
  cases rx;cases y with
  |aB=>cases ry;exact PySem.EqNone.ne_bool_none (cH I q (by simp))
  |bl j=>cases ry;exact ne_bool (cH I q (congrArg not Qw))
  |str j=>obtain⟨t',rfl⟩:=ry;exact PySem.EqMixed.ne_bool_str (cH I q (by simp))
  |_=>exact absurd (show false=true from hs) Yi
 |int i=>
  obtain⟨t,rfl⟩:=rx;cases y with
  |aB=>cases ry;exact PySem.EqNone.ne_int_none (cH I q (by simp))
  |int j=>obtain⟨t',rfl⟩:=ry;exact ne_int (cH I q (congrArg not OZ))
  |str j=>obtain⟨t',rfl⟩:=ry;exact PySem.EqMixed.ne_int_str (cH I q (by simp))
  |_=>exact absurd (show false=true from hs) Yi
 |str i=>
  obtain⟨t,rfl⟩:=rx;cases y with
  |aB=>cases ry;exact PySem.EqNone.ne_str_none (cH I q (by simp))
  |bl j=>cases ry;exact PySem.EqMixed.ne_str_bool (cH I q (by simp))
  |int j=>obtain⟨t',rfl⟩:=ry;exact PySem.EqMixed.ne_str_int (cH I q (by simp))
  |str j=>obtain⟨t',rfl⟩:=ry;exact ne_str (cH I q (congrArg not O0))
  |_=>exact absurd (show false=true from hs) Yi
 |i_ i=>
  obtain⟨t,rfl⟩:=rx;cases y with
  |i_ j=>obtain⟨t',rfl⟩:=ry;exact PySem.W.ne_bytes (cH I q (congrArg not O1))
  |_=>exact absurd (show false=true from hs) Yi
 |_=>cases y<;>exact absurd (show false=true from hs) Yi
theorem mH:cE X (compareOp .Lt) (pX λi j=>.bl (decide (i<j))):=HW λ_ _ _ _ _ _ _ q=>lt_int q
theorem GY:cE X (compareOp .Gt) (pX λi j=>.bl (decide (j<i))):=HW λ_ _ _ _ _ _ _ q=>gt_int q
theorem Zfg:cE X (compareOp .GtE) (pX λi j=>.bl (decide (j<=i))):=HW λ_ _ _ _ _ _ _ q=>ge_int q
theorem ZaH:cE X (compareOp .In) (λx y H Q=>∃i j,x=.str i/\y=.str j/\Q (.bl (!(Builtin.Str.occurrences j i 0 j.length 1).isEmpty)) H):=by
 intro pins s σ H x y v u Q I rx ry h;obtain⟨i,j,rfl,rfl,q⟩:=h;obtain⟨t,rfl⟩:=rx;obtain⟨t',rfl⟩:=ry;exact in_str (cH I q rfl)
theorem Gv:cE X (compareOp .Is) (λx y H Q=>y=.aB/\Q (.bl (decide (x=.aB))) H):=by
 intro pins s σ H x y v u Q I rx ry h;obtain⟨rfl,q⟩:=h;cases ry;refine is_none_gen (cH I q ?_);cases x<;>first
  |(cases rx;rfl)
  |(obtain⟨t,rfl⟩:=rx;rfl)
theorem yL:cE X (compareOp .IsNot) (λx y H Q=>y=.aB/\Q (.bl (!decide (x=.aB))) H):=by
 rintro pins s σ H x y v u Q I rx ry ⟨rfl,q⟩;cases ry;refine isnot_none_gen (cH I q ?_);cases x<;>first
  |(cases rx;rfl)
  |(obtain⟨t,rfl⟩:=rx;rfl)
theorem X1:cE X (compareOp .NotIn) (λx y H Q=>∃i j,x=.str i/\y=.str j/\Q (.bl (!(!(Builtin.Str.occurrences j i 0 j.length 1).isEmpty))) H):=by
 rintro pins s σ H x y v u Q I rx ry ⟨i,j,rfl,rfl,q⟩;obtain⟨t,rfl⟩:=rx;obtain⟨t',rfl⟩:=ry;exact notIn_str (cH I q rfl)
theorem aQ(b:Expr){op:CmpOp}(h:op≠.In:=by decide)(h2:op≠.NotIn:=by decide):behindInMarks op b=false:=by
 have e1:(op==CmpOp.In)=false:=by cases op<;>first|rfl|exact absurd rfl h
 have e2:(op==CmpOp.NotIn)=false:=by cases op<;>first|rfl|exact absurd rfl h2
 cases b<;>simp[behindInMarks,e1,e2]
theorem dw{op:CmpOp}{r:R2}(ho:cE X (compareOp op) r)(ha:PE X a ta)(hb:PE X b tb)(hm:behindInMarks op b=false):PE X (.Compare a [op] [b] pos) (jE r ta tb):=by
 intro pins s σ H Q I h;exact wpAny_Compare1 (HQ ha hb I h λv u s2 x y H2 I2 rx ry q=>ho pins s2 σ H2 x y v u Q I2 rx ry q) hm
inductive O2(Q:Bool->Hp->Prop)(x:V)(H':Hp):Prop
 |mk (k) (aE:x=.bl k) (aT:Q k H'):O2 Q x H'
def RU(t:TE):TT:=λσ H Q=>t σ H λx H'=>O2 Q x H'
theorem bb{op:CmpOp}{r:R2}(ho:cE X (compareOp op) r)(ha:PE X a ta)(hb:PE X b tb)(hm:behindInMarks op b=false):PT X (.Compare a [op] [b] pos) (RU (jE r ta tb)):=by
 intro pins s σ H Q I h;refine wpAny_isTrue_Compare1 (aC (ha pins s σ H _ I h) λv s1 ⟨x,H1,I1,r1,q1⟩=>aC (hb pins s1 σ H1 _ I1 q1) λu s2 ⟨y,H2,I2,r2,q2⟩=>
  aC (ho pins s2 σ H2 x y v u _ I2 r1 r2 q2) λc s3 ⟨z,H3,I3,r3,k,e,q3⟩=>?_) hm
 subst e;cases r3;exact wpAny_truthy_bool ⟨H3,I3,q3⟩
def zH(K:PySem.W.Frag)(x:V)(H:Hp)(k:Bool):Prop:=
 match x with
 |.aB=>k=false
 |.bl b=>k=b
 |.int i=>k=(i !=0)
 |.str y=>y.length<=sizeLine/\k=((y.length:Int)!=0)
 |.i_ y=>y.size<=sizeLine/\k=((y.size:Int)!=0)
 |.ref p=>(∃xs,ak K H p xs/\k=!xs.isEmpty)\/(∃xs,aA K H p xs/\k=!xs.isEmpty)\/∃kvs,H p=some (.dK kvs)/\k=!kvs.isEmpty
 |_=>False
theorem ZN{κ:Type}{kvs:List (κ×V)}{vs:List (κ×Value)}(r:KV kvs vs):(!vs.isEmpty)=!kvs.isEmpty:=by
 cases r<;>rfl
theorem Mm{xs:List V}{ai:List Value}(r:Vals xs ai):(!ai.toArray.isEmpty)=!xs.isEmpty:=by
 cases r<;>simp
theorem qS:(sizeLine:Nat)<2^63:=by rw[sizeLine_eq];decide
theorem ZdZ:Zf2 X (λx H Q=>∃k,zH X.K x H k/\Q k H):=by
 intro pins s σ H x v Q I rx h;obtain⟨k,e,q⟩:=h;have hl:=qS;have hs:sizeLine=16777216:=sizeLine_eq;cases x with
 |aB=>
  cases rx;have e':k=false:=e;subst e';exact truthy_none ⟨H,I,q⟩
 |bl b=>
  cases rx;have e':k=b:=e;subst e';exact wpAny_truthy_bool ⟨H,I,q⟩
 |int i=>
  obtain⟨t,rfl⟩:=rx;have e':k=(i !=0):=e;subst e';exact PySem.P.truthy_int ⟨H,I,q⟩
 |str y=>
  obtain⟨t,rfl⟩:=rx;obtain⟨hy,e'⟩:y.length<=sizeLine/\k=((y.length:Int)!=0):=e;subst e';exact PySem.P.truthy_str (by omega) ⟨H,I.tok _,q⟩
 |i_ y=>
  obtain⟨t,rfl⟩:=rx;obtain⟨hy,e'⟩:y.size<=sizeLine/\k=((y.size:Int)!=0):=e;subst e';exact PySem.W.truthy_bytes (by omega) ⟨H,I.tok _,q⟩
 |ref p=>
  cases rx;have e':=e;rcases e' with⟨xs,hx,e'⟩|⟨xs,hx,e'⟩|⟨kvs,hx,e'⟩
  ·subst e';obtain⟨ai,r,pl,hz⟩:=I.list hx;have hlen:=r.length;exact wpAny_truthy_list pl.isList (by simp only[Yr];omega) ⟨H,I.tok _,by rw[Mm r];exact q⟩
  ·subst e';obtain⟨ai,r,pl,hz⟩:=I.tuple hx;have hlen:=r.length;exact truthy_tuple pl (by simp only[Yr];omega) ⟨H,I.tok _,by rw[Mm r];exact q⟩
  ·subst e';obtain⟨hz,hS,vs,r,m⟩:kvs.length<=sizeLine/\(p==sysModules)=false/\∃vs,KV kvs vs/\s.heap.DictOf (dz X.prog X.w) p vs:=I.ay p _ hx;have hlen:kvs.length=vs.length:=Paired.length r;exact wpAny_truthy_dict hS m (by omega) ⟨H,I.tok _,by rw[ZN r];exact q⟩
 |_=>exact(show False from e).elim
theorem NK(ha:PE X a ta)(he:∀whole,isTrue a X.env whole=(do let v←whole;standAt a.pos;holding [v] (truthy v))):
  PT X a (λσ H Q=>ta σ H λx H'=>∃k,zH X.K x H' k/\Q k H'):=by
 intro pins s σ H Q I h;exact isTrue_plain (aC (ha pins s σ H _ I h) λv s1 ⟨x,H1,I1,r1,q1⟩=>ZdZ pins s1 σ H1 x v Q I1 r1 q1) (he _)
theorem sW:cE X (binaryOp .Add) (λx y H Q=>∃i j,x=.str i/\y=.str j/\i.length+j.length<=sizeLine/\Q (.str (i++j)) H):=by
 rintro pins s σ H x y v u Q I rx ry ⟨i,j,rfl,rfl,hz,q⟩;obtain⟨t,rfl⟩:=rx;obtain⟨t',rfl⟩:=ry;exact add_str (λt' tk=>⟨.str (i++j),H,I.tok _,⟨_,rfl⟩,q⟩) hz
theorem vals1{x:V}{us:List Value}(r:Vals [x] us):∃u,us=[u]/\RelV x u:=by
 cases r with
 |cons r1 r2=>cases r2;exact⟨_,rfl,r1⟩
theorem vals2{x y:V}{us:List Value}(r:Vals [x,y] us):∃u w',us=[u,w']/\RelV x u/\RelV y w':=by
 cases r with
 |cons r1 r2=>
  cases r2 with
  |cons r3 r4=>cases r4;exact⟨_,_,rfl,r1,r3⟩
theorem NL:c7 X (.builtin "abs") (λxs H Q=>∃i,xs=[.int i]/\Q (.int (if i<0 then-i else i)) H):=by
 rintro pins s σ H xs us Q I r ⟨i,rfl,q⟩;obtain⟨u,rfl,t,rfl⟩:=vals1 r;exact call_abs_int λu tk=>⟨.int (if i<0 then-i else i),H,I.tok _,⟨_,rfl⟩,q⟩
theorem C2:c7 X (.type "str") (λxs H Q=>∃i,xs=[.int i]/\i.natAbs.log2<1920/\Q (.str (toString i)) H):=by
 rintro pins s σ H xs us Q I r ⟨i,rfl,hz,q⟩;obtain⟨u,rfl,t,rfl⟩:=vals1 r;exact PySem.P.str_of_int hz ⟨.str _,H,I.tok _,⟨_,rfl⟩,q⟩
end
structure rE(h:Heap)(x dx C:Addr)(mA:Str->Option Value):Prop where
 obj:h.get? x=some (instObj C dx)
 ns:h.Ns1 dx mA
 ne:dx≠x
theorem ZaI{h:Heap}{dx:Addr}{mA:Str->Option Value}(n:h.Ns1 dx mA):∃od,h.get? dx=some od/\∀name,lookIn name od=some (mA name):=by
 obtain⟨o,es,ep,ho,hd,hk,_,hm⟩:=n;refine⟨o,ho,λname=>?_⟩;have e:=hm name;unfold nsFind findBy at e;rw[←Array.find?_toList] at e;unfold lookIn;rw[hd];dsimp only;split;·grind
 ·rename_i q
  have a:es.toList.any (·.refKey)=false:=by
   rw[J9];intro y hy;obtain⟨z,t,mP⟩:=hk y (Array.mem_toList_iff.mp hy);simp[DictEntry.refKey,mP]
  grind
theorem rE.look{h:Heap}{x dx C:Addr}{mA:Str->Option Value}(I:rE h x dx C mA):∃od,PySem.W.InstAt h x (instObj C dx) C (some od)/\∀name,lookIn name od=some (mA name):=
 let⟨od,ho,hl⟩:=ZaI I.ns
 ⟨od,⟨I.obj,rfl,rfl,ho⟩,hl⟩
section
variable {prog:Program}{w:World}{A:Around}{E:Value->Shared->Prop}{s:Shared}{K:PySem.W.Frag}{x dx C f:Addr}{mA:Str->Option Value}{name:Str}{v:Value}
theorem get_map{expr:Bool}{Q:Value->Shared->Prop}(X:K.In s.heap)(I:rE s.heap x dx C mA)(hg:plainGet K C name=true)(hh:hasDictIn K C=true)
  (ha:PySem.W.findIn K (.ref C) name=some none)(hv:mA name=some v)(hv':handedIn v=true)(h:Q v {s with toks:=s.toks+1}):
  wpAny (model prog w) A (getAttr (.ref x) name expr) Q E s:=by
 obtain⟨od,J,hl⟩:=I.look;exact PySem.W.get_value X J (plainGet_of hg).1 (PySem.W.findObj_own hh ha rfl (by rw[hl,hv])) hv' h
theorem Zbr{pl:Sem Bool}{Q:Value×List Value->Shared->Prop}(X:K.In s.heap)(I:rE s.heap x dx C mA)(hg:plainGet K C name=true)
  (hf:PySem.W.findIn K (.ref C) name=some (some (.ref f)))(ht:isFn K (.ref f)=true)(hv:mA name=none)(h:Q (.ref f,[.ref x]) s):
  wpAny (model prog w) A (getMethod (.ref x) name pl) Q E s:=by
 obtain⟨od,J,hl⟩:=I.look;exact PySem.W.method_fn X J (plainGet_of hg).1 (plainGet_of hg).2 hf (beq_iff_eq.mp ht) (by show(lookIn name od).map (·.isSome)=some false;rw[hl,hv];rfl) h
theorem ZcC{ns:List Str}{Q:Unit->Shared->Prop}(X:K.In s.heap)(I:rE s.heap x dx C mA)
  (hs:PySem.W.findIn K (.ref C) "__setattr__"=some (some (.builtin "object.__setattr__")))(hp:plainOver K C=true)(ht:takerIn K C name=some none)(hh:hasDictIn K C=true)
  (hw:PySem.Within mA ns)(hsz:ns.length<=sizeLine)
  (h:∀h',rE h' x dx C (λy=>if y=name then some v else mA y)->Heap.SameBut dx s.heap h'->Q () {s with heap:=h',toks:=s.toks+2}):
  wpAny (model prog w) A (setAttr (.ref x) name v) Q E s:=by
 obtain⟨od,J,hl⟩:=I.look;refine PySem.W.set_plain X J hs (PySem.W.osa_open X J hp ht λb=>?_);obtain⟨cd,hc,zX⟩:=PySem.W.any_some hh;refine wpAny_bind (wpAny_pure (wpAny_bind (wpAny_bind (wpAny_loadPart I.obj (wpAny_bind (PySem.W.Looks.here (PySem.W.looks_clsIn X hc) ?_))))));rw[zX];refine wpAny_pure (wpAny_bind (wpAny_pure (wpAny_bind (wpAny_nsSet1 I.ns λh' eP ux=>?_))));obtain⟨oD,esD,epD,hoD,hdD,hcD⟩:=eP.count (PySem.Within.cons name v hw);exact wpAny_bind (wpAny_lookBehind hoD (by rw[hdD];exact pastItsLine_dict (Y3 hcD (by rw[Wl];omega))) (wpAny_pure (h _ ⟨(ux.2 _ (Ne.symm I.ne)).trans I.obj,eP,I.ne⟩ ux)))
theorem Zbs{R:Result->Shared->Prop}{vs:List Value}{kw:List (Str×Value)}(X:K.In s.heap)(hm:makesIn K C=true)
  (hi:PySem.W.findIn K (.ref C) "__init__"=some (some (.ref f)))(hf:typeIn K (.ref f)=some (.type "function"))
  (h:codeAny (model prog w) (A.under (.builtin "type.__call__" ⟨.ref C::vs,kw⟩)) (.call (.ref f) ⟨.ref (s.heap.objs.size+1)::vs,kw⟩) (PySem.W.InitBack (s.heap.objs.size+1) R)
   {s with heap:=(s.heap.push emptyDict).push (instObj C s.heap.objs.size)}):
  codeAny (model prog w) A (.call (.ref C) ⟨vs,kw⟩) R s:=by
 obtain⟨hh,g,d,t,os⟩:=s;exact PySem.W.make_core (PySem.W.makes_of X hm) (PySem.W.looks_findIn X hi) (λself=>PySem.W.bind_fn X self hf) (.inl rfl) h
end
def cP(f:Str)(v:V):List (Str×V)->List (Str×V)
 |[]=>[(f,v)]
 |(g,x)::r=>if g=f then(g,v)::r else(g,x)::cP f v r
theorem L8(f g:Str)(v:V):∀fs:List (Str×V),(cP f v fs).lookup g=if g=f then some v else fs.lookup g
 |[]=>by
  show List.lookup g [(f,v)]=_
  grind
 |(k,x)::r=>by
  have ih:=L8 f g v r;rw[show cP f v ((k,x)::r)=(if k=f then(k,v)::r else(k,x)::cP f v r) from rfl]
  grind
theorem EK(f:Str)(v:V):∀fs:List (Str×V),f∈(cP f v fs).map (·.1)/\∀g,g∈fs.map (·.1)->g∈(cP f v fs).map (·.1)
 |[]=>⟨by simp[cP],λg h=>by simp at h⟩
 |(k,x)::r=>by
  obtain⟨i1,i2⟩:=EK f v r;rw[show cP f v ((k,x)::r)=(if k=f then(k,v)::r else(k,x)::cP f v r) from rfl]
  grind
theorem Dz(f:Str)(v:V):∀fs:List (Str×V),(cP f v fs).length<=fs.length+1
 |[]=>by simp[cP]
 |(k,x)::r=>by
  have ih:=Dz f v r;rw[show cP f v ((k,x)::r)=(if k=f then(k,v)::r else(k,x)::cP f v r) from rfl]
  grind
theorem fJ.some_of{v:V}{o:Option Value}(r:fJ (some v) o):∃u,o=some u/\RelV v u:=by
 cases o with
 |none=>exact(show False from r).elim
 |some u=>exact⟨u,rfl,r⟩
theorem fJ.none_of{o:Option Value}(r:fJ none o):o=none:=by
 cases o with
 |none=>rfl
 |some u=>exact(show False from r).elim
theorem ZaJ{v:V}{u:Value}(r:RelV v u):handedIn u=true:=by
 cases v with
 |aB=>cases(show u=Value.none from r);rfl
 |bl b=>cases(show u=Value.bool b from r);rfl
 |int i=>obtain⟨t,e⟩:=(show ∃t,u=Value.int i t from r);cases e;rfl
 |str x=>obtain⟨t,e⟩:=(show ∃t,u=Value.str x t from r);cases e;rfl
 |i_ b=>obtain⟨t,e⟩:=(show ∃t,u=Value.bytes b t from r);cases e;rfl
 |rN b=>obtain⟨t,e⟩:=(show ∃t,u=Value.float b t from r);cases e;rfl
 |ref a=>cases(show u=Value.ref a from r);rfl
 |ty n=>cases(show u=Value.type n from r);rfl
section
variable {P:Program}{w:World}{H H':Hp}{h h':Heap}{a C dx:Addr}{fs de:List (Str×V)}
theorem yM(ay:dq P w H h)(e:H a=some (.ins C dx fs)):∃mA,rE h a dx C mA/\(∀f,fJ (fs.lookup f) (mA f))/\PySem.Within mA (fs.map (·.1))/\fs.length<=1000/\H dx=some (.own a):=by
 obtain⟨d,z,ne,ob,mA,n,r,q⟩:=(show cT P w H h a (.ins C dx fs) from ay a _ e);exact⟨mA,⟨ob,n,ne⟩,r,q,z,d⟩
end
structure fL(K:PySem.W.Frag)(C:Addr):Prop where
 pg:plainGet K C Str.empty=true
 hd:hasDictIn K C=true
 po:plainOver K C=true
 sa:PySem.W.findIn K (.ref C) "__setattr__"=some (some (.builtin "object.__setattr__"))
theorem fL.get{K:PySem.W.Frag}{C:Addr}(c:fL K C)(f:Str):plainGet K C f=true:=c.pg
def dD(K:PySem.W.Frag)(C:Addr)(f:Str):Prop:=PySem.W.findIn K (.ref C) f=some none
theorem dD.Zfh{K:PySem.W.Frag}{C:Addr}{f:Str}(n:dD K C f):takerIn K C f=some none:=by
 unfold takerIn;rw[show PySem.W.findIn K (.ref C) f=some none from n];rfl
structure Meth(K:PySem.W.Frag)(C:Addr)(m:Str)(f:Addr):Prop where
 at_:PySem.W.findIn K (.ref C) m=some (some (.ref f))
 fn:isFn K (.ref f)=true
 kp:keepIn K (.ref f)=true
section
variable {X:Cx}{pins:List (Addr×Obj)}{σ:St}{H:Hp}{s:Shared}{a C dx:Addr}{fs:List (Str×V)}{f:Str}{v:V}{A:Around}{E:Value->Shared->Prop}
theorem ZO{b:Bool}{Q:Value->Shared->Prop}(I:Inv X pins σ H s)(e:H a=some (.ins C dx fs))(c:fL X.K C)(n:dD X.K C f)(l:fs.lookup f=some v)
  (h:∀u s',Inv X pins σ H s'->RelV v u->Q u s'):wpAny (model X.prog X.w) A (getAttr (.ref a) f b) Q E s:=by
 obtain⟨mA,O,r,_,_,_⟩:=yM I.ay e;obtain⟨u,hu,ru⟩:=fJ.some_of (by rw[←l];exact r f);exact get_map I.dF O (c.get f) c.hd n hu (ZaJ ru) (h u _ (I.tok _) ru)
theorem Mn{m:Str}{g:Addr}{pl:Sem Bool}{Q:Value×List Value->Shared->Prop}(I:Inv X pins σ H s)(e:H a=some (.ins C dx fs))(c:fL X.K C)(k:Meth X.K C m g)(l:fs.lookup m=none)
  (h:Q (.ref g,[.ref a]) s):wpAny (model X.prog X.w) A (getMethod (.ref a) m pl) Q E s:=by
 obtain⟨mA,O,r,_,_,_⟩:=yM I.ay e;exact Zbr I.dF O (c.get m) k.at_ k.fn (fJ.none_of (by rw[←l];exact r m)) h
theorem Mo{y:V}{u:Value}{Q:Unit->Shared->Prop}(I:Inv X pins σ H s)(e:H a=some (.ins C dx fs))(c:fL X.K C)(n:dD X.K C f)(hl:fs.length<1000)(ry:RelV y u)
  (h:∀s',Inv X pins σ (upd H a (.ins C dx (cP f y fs))) s'->Q () s'):wpAny (model X.prog X.w) A (setAttr (.ref a) f u) Q E s:=by
 obtain⟨mA,O,r,wi,_,ho⟩:=yM I.ay e;have hz:(fs.map (·.1)).length<=sizeLine:=by rw[Ya,sizeLine_eq];omega
 refine ZcC I.dF O c.sa c.po n.Zfh c.hd wi hz λh' O' sb=>h _ (I.write (by rw[e];exact True.intro) (.inr ho) (λb q hb z=>(sb.2 b hb).trans z) (let⟨o,_,_,e',_⟩:=O'.ns;⟨o,e'⟩) ⟨by rw[bg O.ne];exact ho,?_,O.ne,O'.obj,_,O'.ns,λg=>?_,λg hg=>?_⟩);·have:=Dz f y fs;omega
 ·show fJ ((cP f y fs).lookup g) (if g=f then some u else mA g);rw[L8];by_cases q:g=f;·rw[if_pos q,if_pos q];exact ry
  ·grind
 ·by_cases q:g=f;·rw[q];exact(EK f y fs).1
  ·refine(EK f y fs).2 g (wi g λz=>hg ?_)
   grind
theorem Inv.made(I:Inv X pins σ H s):Inv X pins σ (upd (upd H s.heap.objs.size (.own (s.heap.objs.size+1))) (s.heap.objs.size+1) (.ins C s.heap.objs.size []))
  {s with heap:=(s.heap.push emptyDict).push (instObj C s.heap.objs.size)}:=by
 have e1:(s.heap.push emptyDict).get? s.heap.objs.size=some emptyDict:=Ys s.heap rfl;have e2:((s.heap.push emptyDict).push (instObj C s.heap.objs.size)).get? (s.heap.objs.size+1)=some (instObj C s.heap.objs.size):=by
  have:=Ys (s.heap.push emptyDict) (o:=instObj C s.heap.objs.size) rfl
  rwa [Je] at this
 have e3:(s.heap.push emptyDict).Ns s.heap.objs.size (λ_=>none):=⟨emptyDict,#[],_,e1,rfl,(λe he=>absurd he (by simp)),λ_=>rfl⟩;have I1:=I.laid (a:=s.heap.objs.size) (o:=.own (s.heap.objs.size+1)) (h':=s.heap.push emptyDict) (t':=s.toks) (λb u q=>Yb _ q) (Yd _) ⟨_,e1⟩;refine I1.laid (a:=s.heap.objs.size+1) (o:=.ins C s.heap.objs.size []) (t':=s.toks) (λb u q=>Yb _ q) (Nat.le_of_eq (Je _ _)) ?_;have ne:s.heap.objs.size≠s.heap.objs.size+1:=Yy (W6 _);refine⟨by rw[bg ne,aW],Yv _,ne,e2,λ_=>none,(Heap.Ns1.of_empty e3).at λo q=>Yb _ q,λ_=>True.intro,λy hy=>absurd rfl hy⟩
theorem ZcD{prog:Program}{w:World}{env:Env}{e:Expr}{f:Str}{pos:Pos}{s:Shared}{Q:Value->Shared->Prop}(hb:attributeBase e f env (eval e env)=eval e env)
  (h:wpAny (model prog w) A (eval e env) (λo bK=>wpAny (model prog w) A (getAttr o f true) Q E bK) E s):wpAny (model prog w) A (eval (.Attribute e f pos) env) Q E s:=
 Attribute_any_ h (by rw[arm_eval_Attribute,hb])
end
inductive Qx(K:PySem.W.Frag)(f:Str)(Q:VK)(x:V)(H1:Hp):Prop
 |mk (a C dx fs v) (aE:x=.ref a) (aT:H1 a=some (.ins C dx fs)) (bw:fL K C) (bP:dD K C f) (cN:fs.lookup f=some v) (dR:Q v H1):Qx K f Q x H1
def SM(K:PySem.W.Frag)(ta:TE)(f:Str):TE:=λσ H Q=>ta σ H λx H1=>Qx K f Q x H1
def Zf4(K:PySem.W.Frag)(ta tv:TE)(f:Str):TS:=λD σ H=>tv σ H λy H1=>ta σ H1 λx H2=>∃a C dx fs,x=.ref a/\H2 a=some (.ins C dx fs)/\fL K C/\dD K C f/\fs.length<1000/\
 D.nx σ (upd H2 a (.ins C dx (cP f y fs)))
section
variable {X:Cx}{o e value:Expr}{f:Str}{pos pos' zI:Pos}{ta tv:TE}
theorem Zd0(he:PE X e ta)(hb:attributeBase e f X.env (eval e X.env)=eval e X.env):PE X (.Attribute e f pos) (SM X.K ta f):=by
 intro pins s σ H Q I h;refine ZcD hb (aC (he pins s σ H _ I h) λu s1 zq=>?_);obtain⟨x,H1,I1,rx,a,C,dx,fs,v,ex,ea,c,n,l,q⟩:=zq;subst ex;obtain rfl:u=Value.ref a:=rx;exact ZO I1 ea c n l λu' s2 I2 ru=>⟨v,H1,I2,ru,q⟩
theorem vO(ha:PE X o ta)(hv:PE X value tv)(hs:swapsWith value (some (.Attribute o f pos')) pos.line X.env=pure false):PS X (.Assign [.Attribute o f pos'] value pos) (Zf4 X.K ta tv f):=by
 intro pins s σ H D I h;refine plainObj_wpAny_Assign_Attribute (aC (hv pins s σ H _ I h) λu s1 zq=>?_) hs;obtain⟨y,H1,I1,ry,q⟩:=zq;refine aC (ha pins s1 σ H1 _ I1 q) λov s2 zq=>?_;obtain⟨x,H2,I2,rx,a,C,dx,fs,ex,ea,c,n,l,q2⟩:=zq;subst ex;obtain rfl:ov=Value.ref a:=rx;exact Mo I2 ea c n l ry λs3 I3=>⟨σ,_,I3,q2⟩
end
section
variable {X:Cx}{pins:List (Addr×Obj)}{σ:St}{H:Hp}{s:Shared}{A:Around}{E:Value->Shared->Prop}{Q:Value->Shared->Prop}{c:Value}{b:Bool}
inductive iO(K:PySem.W.Frag)(H:Hp):V->Value->Prop where
 |aB:iO K H .aB (.type "NoneType")
 |bl (x:Bool):iO K H (.bl x) (.type "bool")
 |int (i:Int):iO K H (.int i) (.type "int")
 |str (x:Str):iO K H (.str x) (.type "str")
 |rN (x:UInt64):iO K H (.rN x) (.type "float")
 |lst {a:Addr} {xs:List V} (e:H a=some (.lst xs)):iO K H (.ref a) (.type "list")
 |cC {a:Addr} {o:Obj} {xs:List V} (e:H a=some (.cC o (.lst xs))):iO K H (.ref a) (.type "list")
 |tup {a:Addr} {xs:List V} (e:H a=some (.tup xs)):iO K H (.ref a) (.type "tuple")
 |dK {a:Addr} {kvs:List (Key×V)} (e:H a=some (.dK kvs)):iO K H (.ref a) (.type "dict")
 |dT {a:Addr} {kvs:List (List Key×V)} (e:H a=some (.dT kvs)):iO K H (.ref a) (.type "dict")
 |ins {a C dx:Addr} {fs:List (Str×V)} (e:H a=some (.ins C dx fs)) (cl:fL K C) (ha:PySem.W.findIn K (.ref C) "__class__"=some (some (.builtin "object.__class__")))
   (hn:PySem.W.specialIn K (.builtin "object.__class__") "__get__"=some (some (.builtin "getset_descriptor.__get__"))) (TZ:PySem.W.takesIn K (.builtin "object.__class__")=some true)
   (hm:PySem.W.mroIn K C (.type "object")=some true):iO K H (.ref a) (.ref C)
theorem ZaK{x:V}{u t:Value}(I:Inv X pins σ H s)(rx:RelV x u)(ty:iO X.K H x t)(e:kitOne X.K t c=some b)(h:∀tk,Q (.bool b) {s with toks:=tk}):
  wpAny (model X.prog X.w) A (call (.builtin "isinstance") [u,c]) Q E s:=by
 cases ty with
 |aB=>cases(show u=Value.none from rx);exact kia_one PySem.W.kitx_none I.dF True.intro e (λz=>nomatch z) h
 |bl y=>cases(show u=Value.bool y from rx);exact kia_one PySem.W.kitx_bool I.dF True.intro e (λz=>nomatch z) h
 |int i=>obtain⟨t,q⟩:=(show ∃t,u=Value.int i t from rx);cases q;exact kia_one PySem.W.kitx_int I.dF True.intro e (λz=>nomatch z) h
 |str y=>obtain⟨t,q⟩:=(show ∃t,u=Value.str y t from rx);cases q;exact kia_one PySem.W.kitx_str I.dF True.intro e (λz=>nomatch z) h
 |rN y=>obtain⟨t,q⟩:=(show ∃t,u=Value.float y t from rx);cases q;exact kia_one PySem.W.kitx_float I.dF True.intro e (λz=>nomatch z) h
 |@lst a xs ea=>
  cases(show u=Value.ref a from rx);obtain⟨_,_,n,_,h1⟩:=(show cT X.prog X.w H s.heap a (.lst xs) from I.ay a _ ea);exact kia_one kitx_list I.dF ⟨_,h1,rfl⟩ e (λz=>nomatch z) h
 |@cC a ob xs ea=>
  cases(show u=Value.ref a from rx);obtain⟨_,_,_,n,_,h1⟩:=(show cT X.prog X.w H s.heap a (.cC ob (.lst xs)) from I.ay a _ ea);exact kia_one kitx_list I.dF ⟨_,h1,rfl⟩ e (λz=>nomatch z) h
 |@tup a xs ea=>
  cases(show u=Value.ref a from rx);obtain⟨_,_,_,p⟩:=(show cT X.prog X.w H s.heap a (.tup xs) from I.ay a _ ea);obtain⟨o,h1,h2,_⟩:=p;exact kia_one PySem.W.kitx_tuple I.dF ⟨o,h1,h2⟩ e (λz=>nomatch z) h
 |@dK a kvs ea=>
  cases(show u=Value.ref a from rx);obtain⟨_,_,vs,_,p⟩:=(show cT X.prog X.w H s.heap a (.dK kvs) from I.ay a _ ea);obtain⟨o,es,ep,h1,h2,_⟩:=p;exact kia_one kitx_dict I.dF ⟨o,h1,h2.1⟩ e (λz=>nomatch z) h
 |@dT a kvs ea=>
  cases(show u=Value.ref a from rx);obtain⟨_,_,xs,_,o,es,ep,h1,h2,_⟩:=(show cT X.prog X.w H s.heap a (.dT kvs) from I.ay a _ ea);exact kia_one kitx_dict I.dF ⟨o,h1,h2.1⟩ e (λz=>nomatch z) h
 |@ins a C dx fs ea cl ha hn TZ hm=>
  cases(show u=Value.ref a from rx);obtain⟨mA,O,_⟩:=yM I.ay ea;obtain⟨od,J,_⟩:=O.look;exact kia_one (PySem.W.kitx_own (cl.get _) cl.hd ha hn TZ hm) I.dF J e (λz=>nomatch z) h
end
structure dk(k:Nat)(A:Around):Prop where
 hd:A.handled=none
 dp:A.depth+3*k+5<recursionLimit
 un:A.units+16*k+200<cLine
 gd:A.guards=some []
theorem dk.mono{j k:Nat}{A:Around}(r:dk k A)(h:j<=k):dk j A:=⟨r.hd,by have:=r.dp;omega,by have:=r.un;omega,r.gd⟩
theorem dk.deeper{k:Nat}{A:Around}(r:dk (k+1) A)(env:Env):dk k (A.deeper env):=
 ⟨r.hd,by have:=r.dp;show A.depth+1+3*k+5<_;omega,by have:=r.un;show A.units+3+16*k+200<_;omega,r.gd⟩
theorem ZP{A:Around}{C:Addr}{us:List Value}{kw:List (Str×Value)}:(A.under (.builtin "type.__call__" ⟨.ref C::us,kw⟩)).depth=A.depth+1:=by
 rfl
theorem ZQ{A:Around}{C:Addr}{us:List Value}{kw:List (Str×Value)}:(A.under (.builtin "type.__call__" ⟨.ref C::us,kw⟩)).units=A.units+1:=by
 rfl
theorem dk.make{k:Nat}{A:Around}(r:dk (k+1) A)(C:Addr)(us:List Value)(kw:List (Str×Value)):dk k (A.under (.builtin "type.__call__" ⟨.ref C::us,kw⟩)):=
 ⟨r.hd,by have:=r.dp;rw[ZP];omega,by have:=r.un;rw[ZQ];omega,by first|exact r.gd|simpa[Around.under,Code.isGuard,Code.isFrame,guardIds] using r.gd⟩
theorem dk.depth{k:Nat}{A:Around}(r:dk k A):A.depth<recursionLimit:=by have:=r.dp;omega
theorem dk.units{k:Nat}{A:Around}(r:dk k A):A.units+64<cLine:=by have:=r.un;omega
theorem dk.tU{k:Nat}{A:Around}(r:dk k A):A.units<cLine:=by have:=r.un;omega
def i4:TA:=λ_ H Q=>Q [] H
def fY(ta:TE)(tr:TA):TA:=λσ H Q=>ta σ H λx H1=>tr σ H1 λxs H2=>Q (x::xs) H2
section
variable {X:Cx}{e:Expr}{es:List Expr}{te:TE}{t:TA}{pos:Pos}
theorem ag:PA X [] i4:=λ_ _ _ _ H Q I h=>Calls.spliced_nil ⟨[],H,I,.nil,h⟩
theorem ae(ha:PE X e te)(hr:PA X es t)(hs:starEach (e::es) X.env=(false,eval e X.env)::starEach es X.env:=by rfl):PA X (e::es) (fY te t):=by
 intro pos pins s σ H Q I h;rw[hs];exact Calls.spliced_cons (aC (ha pins s σ H _ I h) λu s1 ⟨x,H1,I1,r1,q1⟩=>aC (hr pos pins s1 σ H1 _ I1 q1) λus s2 ⟨xs,H2,I2,r2,q2⟩=>⟨x::xs,H2,I2,.cons r1 r2,q2⟩)
def Zf5(t:TA):TE:=λσ H Q=>t σ H λxs H1=>xs.length<=sizeLine/\∀p,H1 p=none->Q (.ref p) (upd H1 p (.lst xs))
theorem vP(h:PA X es t):PE X (.List es pos) (Zf5 t):=by
 intro pins s σ H Q I hq;refine wpAny_List_spliced (aC (h pos pins s σ H _ I hq) λus s1 ⟨xs,H1,I1,r,z,q⟩=>⟨by rw[←r.length];exact z,⟨.ref s1.heap.objs.size,upd H1 s1.heap.objs.size (.lst xs),I1.laid (λb u e=>Yb _ e) (Yd _) ?_,rfl,q _ (I1.ay.fresh (Yd _))⟩⟩);exact⟨z,us,0,r,Ys _ rfl⟩
end
abbrev Sp:=List V->Hp->VK->XK->Prop
abbrev jF:=List Env->Hp->Shared->XK->Value->Shared->Prop
structure rF(P:Program)(w:World)(K:PySem.W.Frag)(mg:Str->Option Value)(base:Heap)(A:Around)(outer:List Env)(s:Shared)(H:Hp):Prop where
 frames:A.frames=some outer
 mod:Mod K mg base
 bs:∀b o,base.get? b=some o->s.heap.get? b=some o/\H b=none
 ou:base.objs.size<=s.heap.objs.size
 kL:s.heap.FunFrames base outer
 rP:∀b∈ik outer,H b=none
 ay:dq P w H s.heap
 bare:AllBare s.gens
def CE(outer:List Env)(P:Program)(w:World)(H:Hp)(s:Shared)(Q:VK)(u:Value)(s':Shared):Prop:=
 ∃v H',s'.os=s.os/\AllBare s'.gens/\Un (ik outer) [] H H' s.heap s'.heap/\dq P w H' s'.heap/\RelV v u/\Q v H'
def CR(CX:jF)(outer:List Env)(P:Program)(w:World)(H:Hp)(s:Shared)(Q:VK)(E:XK)(r:Result)(s':Shared):Prop:=
 match r with
 |.ok (.ret u)=>CE outer P w H s Q u s'
 |.ok _=>False
 |.error e=>CX outer H s E e s'
structure aK(P:Program)(w:World)(K:PySem.W.Frag)(mg:Str->Option Value)(base:Heap)(CX:jF)(k:Nat)(f:Addr)(fd:FuncData)(ps:List Str)(sp:Sp):Prop where
 len:∀vs H Q E,sp vs H Q E->vs.length=ps.length
 run:∀(A:Around) (outer:List Env) (s:Shared) (H:Hp) (args:Args) (us:List Value) (vs:List V) (Q:VK) (E:XK),dk k A->rF P w K mg base A outer s H->BindsTo s fd args (ps.zip us)->Vals vs us->sp vs H Q E->
  codeAny (model P w) A (.call (.ref f) args) (CR CX outer P w H s Q E) s
theorem rF.make{P:Program}{w:World}{K:PySem.W.Frag}{mg:Str->Option Value}{base:Heap}{A:Around}{outer:List Env}{s:Shared}{H:Hp}(e:rF P w K mg base A outer s H)(C:Addr)(us:List Value)(kw:List (Str×Value)):
  rF P w K mg base (A.under (.builtin "type.__call__" ⟨.ref C::us,kw⟩)) outer s H:=⟨by first|exact e.frames|(simpa[Around.under,Code.envs,Code.isFrame,pushEnvs] using e.frames),e.mod,e.bs,e.ou,e.kL,e.rP,e.ay,e.bare⟩
section
variable {X:Cx}{pins:List (Addr×Obj)}{σ:St}{H:Hp}{s s':Shared}
theorem Inv.SN(I:Inv X pins σ H s):rF X.prog X.w X.K X.mg X.base X.A X.stack s H:=
 ⟨I.ok.frames,I.ok.mod,I.bs,Y3 I.ok.ou I.sz,I.stack,I.OT,I.ay,I.bare⟩
theorem Inv.after{Q:VK}{u:Value}(I:Inv X pins σ H s)(h:CE X.stack X.prog X.w H s Q u s'):EP X pins σ Q u s':=by
 obtain⟨v,H',os,bare,un,ay,r,q⟩:=h;obtain⟨hh,g,d,t,os'⟩:=s';obtain rfl:os'=s.os:=os;exact⟨v,H',I.call (h':=hh) (g':=g) (d':=d) (t':=t) (ch:=[]) un ay bare (λb z=>absurd z (by simp)),r,q⟩
end
def RV(sp:Sp)(d7:List V)(E:XK)(t:TA):TE:=λσ H Q=>t σ H λvs H1=>sp (vs++d7) H1 Q E
def zw(C:Addr)(m:Str)(sp:Sp)(d7:List V)(E:XK)(ta:TE)(t:TA):TE:=λσ H Q=>ta σ H λx H1=>∃a dx fs,x=.ref a/\H1 a=some (.ins C dx fs)/\fs.lookup m=none/\
 t σ H1 λvs H2=>sp (x::(vs++d7)) H2 Q E
def RW(C:Addr)(sp:Sp)(d7:List V)(E:XK)(t:TA):TE:=λσ H Q=>t σ H λvs H1=>∀x dx,H1 x=none->H1 dx=none->dx≠x->
 sp (.ref x::(vs++d7)) (upd (upd H1 dx (.own x)) x (.ins C dx [])) (λv H2=>v=.aB/\Q (.ref x) H2) E
def Binds(K:PySem.W.Frag)(fd:FuncData)(ps:List Str)(ds:List Value):Prop:=
 ∀(s:Shared) (us:List Value),K.In s.heap->(us++ds).length=ps.length->BindsTo s fd ⟨us,[]⟩ (ps.zip (us++ds))
theorem Binds.all{K:PySem.W.Frag}{fd:FuncData}{ps:List Str}(h:∀us:List Value,us.length=ps.length->bindArgs fd ⟨us,[]⟩=pure (ps.zip us)):Binds K fd ps []:=λs us _ hl=>by
 rw[We] at hl⊢;exact .of_eq (h us hl)
def Passes(CX:jF)(X:Cx)(E:XK):Prop:=∀(pins:List (Addr×Obj)) (σ:St) (H:Hp) (s:Shared) (e:Value) (s':Shared),Inv X pins σ H s->CX X.stack H s E e s'->X.xe e s'
section
variable {X:Cx}{CX:jF}{k:Nat}{f C:Addr}{fd:FuncData}{ps:List Str}{sp:Sp}{d7:List V}{ds:List Value}{E:XK}{x m:Str}{p pos apos:Pos}{e o:Expr}{es:List Expr}{ta:TE}{t:TA}
theorem Gw{pins:List (Addr×Obj)}{σ:St}{H:Hp}{s:Shared}{Q:VK}{us:List Value}{vs:List V}(F:aK X.prog X.w X.K X.mg X.base CX k f fd ps sp)(hr:dk k X.A)(hb:Binds X.K fd ps ds)(hd:Vals d7 ds)(hx:Passes CX X E)
  (I:Inv X pins σ H s)(r:Vals vs us)(h:sp (vs++d7) H Q E):wpAny (model X.prog X.w) X.A (call (.ref f) us) (EP X pins σ Q) X.xe s:=by
 have r2:Vals (vs++d7) (us++ds):=r.append hd;have hl:(us++ds).length=ps.length:=by rw[←r2.length];exact F.len _ _ _ _ h
 refine wpAny_call (codeAny_mono (F.run X.A X.stack s H ⟨us,[]⟩ (us++ds) (vs++d7) Q E hr I.SN (hb s us I.dF hl) r2 h) λr s' hq=>?_);cases r with
 |error e=>exact hx pins σ H s e s' I hq
 |ok fl=>
  cases fl with
  |ret u=>exact I.after hq
  |next=>exact False.elim hq
  |brk=>exact False.elim hq
  |cont=>exact False.elim hq
theorem ZcE(F:aK X.prog X.w X.K X.mg X.base CX k f fd ps sp)(hr:dk k X.A)(hg:Gl X x)(hm:X.mg x=some (.ref f))(hk:keepIn X.K (.ref f)=true)(hb:Binds X.K fd ps ds)(hd:Vals d7 ds)(hx:Passes CX X E)
  (ha:PA X (e::es) t)(lQ:(x==("__debug__":Str))=false:=by decide)(he:starEach (e::es) X.env=(false,eval e X.env)::starEach es X.env:=by rfl)(df:(backTo pos (starEach es X.env)).any (·.1)=false:=by rfl):
  PE X (.Call (.Name x p) (e::es) [] pos) (RV sp d7 E t):=by
 intro pins s σ H Q I h;exact wpAny_Call_Name_kw (FZ I hg hm (callWith_K I.ok.mod.rO hk (aC (ha pos pins s σ H _ I h) λus s1 ⟨vs,H1,I1,r,q⟩=>⟨I1.dF,Gw F hr hb hd hx I1 r q⟩) he df) lQ)
theorem ZcF{pl:Sem Bool}(he:PE X o ta)(c:fL X.K C)(hm:Meth X.K C m f)(F:aK X.prog X.w X.K X.mg X.base CX k f fd ps sp)(hr:dk k X.A)(hb:Binds X.K fd ps ds)(hd:Vals d7 ds)(hx:Passes CX X E)(ha:PA X (e::es) t)
  (gZ:starEach (e::es) X.env=(false,eval e X.env)::starEach es X.env:=by rfl)(df:(backTo pos (starEach es X.env)).any (·.1)=false:=by rfl)
  (ht:eval (.Call (.Attribute o m apos) (e::es) [] pos) X.env=(do
   let ov←eval o X.env
   standAt apos.atName
   let(f,first)←holding [ov] (getMethod ov m pl)
   callWith pos f first (backTo pos (starEach (e::es) X.env)) (backToKw pos (keywordEach [] X.env))):=by rfl):
  PE X (.Call (.Attribute o m apos) (e::es) [] pos) (zw C m sp d7 E ta t):=by
 intro pins s σ H Q I h;refine methodCall_KW (pl:=pl) (aC (he pins s σ H _ I h) λu s1 zq=>?_) ht;obtain⟨x,H1,I1,rx,a,dx,fs,ex,ea,l,q⟩:=zq;subst ex;obtain rfl:u=Value.ref a:=rx;refine Mn I1 ea c hm l ?_;refine callWith_K (first:=[.ref a]) (h₀:=X.base) I.ok.mod.rO hm.kp (aC (ha pos pins s1 σ H1 _ I1 q) λus s2 ⟨vs,H2,I2,r,q2⟩=>⟨I2.dF,?_⟩) gZ df;exact Gw (us:=.ref a::us) (vs:=.ref a::vs) F hr hb hd hx I2 (.cons rfl r) q2
theorem Zbt{pl:Sem Bool}(he:PE X o ta)(c:fL X.K C)(hm:Meth X.K C m f)(F:aK X.prog X.w X.K X.mg X.base CX k f fd ps sp)(hr:dk k X.A)(hb:Binds X.K fd ps ds)(hd:Vals d7 ds)(hx:Passes CX X E)
  (ht:eval (.Call (.Attribute o m apos) [] [] pos) X.env=(do
   let ov←eval o X.env
   standAt apos.atName
   let(f,first)←holding [ov] (getMethod ov m pl)
   callWith pos f first (backTo pos (starEach [] X.env)) (backToKw pos (keywordEach [] X.env))):=by rfl):
  PE X (.Call (.Attribute o m apos) [] [] pos) (zw C m sp d7 E ta i4):=by
 intro pins s σ H Q I h;refine methodCall_KW (pl:=pl) (aC (he pins s σ H _ I h) λu s1 zq=>?_) ht;obtain⟨x,H1,I1,rx,a,dx,fs,ex,ea,l,q⟩:=zq;subst ex;obtain rfl:u=Value.ref a:=rx;refine Mn I1 ea c hm l ?_;exact PySem.W.callWith_K0 (first:=[.ref a]) I1.dF hm.kp (Gw (us:=[.ref a]) (vs:=[.ref a]) F hr hb hd hx I1 (.cons rfl .nil) q)
structure Mk(K:PySem.W.Frag)(C f:Addr):Prop where
 makes:makesIn K C=true
 init:PySem.W.findIn K (.ref C) "__init__"=some (some (.ref f))
 fn:isFn K (.ref f)=true
 kp:keepIn K (.ref C)=true
theorem Zbu{pins:List (Addr×Obj)}{σ:St}{H:Hp}{s:Shared}{Q:VK}{us:List Value}{vs:List V}(M:Mk X.K C f)(F:aK X.prog X.w X.K X.mg X.base CX k f fd ps sp)(hr:dk (k+1) X.A)(hb:Binds X.K fd ps ds)(hd:Vals d7 ds)
  (hx:Passes CX X E)(I:Inv X pins σ H s)(r:Vals vs us)
  (h:∀x dx,H x=none->H dx=none->dx≠x->sp (.ref x::(vs++d7)) (upd (upd H dx (.own x)) x (.ins C dx [])) (λv H2=>v=.aB/\Q (.ref x) H2) E):
  wpAny (model X.prog X.w) X.A (call (.ref C) us) (EP X pins σ Q) X.xe s:=by
 have hq:=h (s.heap.objs.size+1) s.heap.objs.size (I.ay.fresh (z9 _)) (I.ay.fresh (Yd _)) (Yy (W6 _));have I2:=Inv.made (C:=C) I;have r2:Vals (V.ref (s.heap.objs.size+1)::(vs++d7)) (Value.ref (s.heap.objs.size+1)::(us++ds)):=.cons rfl (r.append hd);have hl:(Value.ref (s.heap.objs.size+1)::us++ds).length=ps.length:=by
  have e:=r2.length;rw[F.len _ _ _ _ hq] at e;exact e.symm
 refine wpAny_call (Zbs I.dF M.makes M.init (beq_iff_eq.mp M.fn) (codeAny_mono (F.run _ X.stack _ _ ⟨Value.ref (s.heap.objs.size+1)::us,[]⟩ (Value.ref (s.heap.objs.size+1)::(us++ds)) _ _ E (hr.make C us [])
  (I2.SN.make C us []) (hb _ (Value.ref (s.heap.objs.size+1)::us) I2.dF hl) r2 hq) λr s' wL=>?_))
 cases r with
 |error e=>exact hx pins σ _ _ e s' I2 wL
 |ok fl=>
  cases fl with
  |ret u=>
   obtain⟨v,H',I3,rv,ev,q3⟩:=I2.after wL;subst ev;exact⟨rv,⟨V.ref (s.heap.objs.size+1),H',I3,rfl,q3⟩⟩
  |next=>exact False.elim wL
  |brk=>exact False.elim wL
  |cont=>exact False.elim wL
theorem ZcG(M:Mk X.K C f)(F:aK X.prog X.w X.K X.mg X.base CX k f fd ps sp)(hr:dk (k+1) X.A)(hg:Gl X x)(hm:X.mg x=some (.ref C))(hb:Binds X.K fd ps ds)(hd:Vals d7 ds)(hx:Passes CX X E)
  (ha:PA X (e::es) t)(lQ:(x==("__debug__":Str))=false:=by decide)(he:starEach (e::es) X.env=(false,eval e X.env)::starEach es X.env:=by rfl)(df:(backTo pos (starEach es X.env)).any (·.1)=false:=by rfl):
  PE X (.Call (.Name x p) (e::es) [] pos) (RW C sp d7 E t):=by
 intro pins s σ H Q I h;exact wpAny_Call_Name_kw (FZ I hg hm (callWith_K I.ok.mod.rO M.kp (aC (ha pos pins s σ H _ I h) λus s1 ⟨vs,H1,I1,r,q⟩=>⟨I1.dF,Zbu M F hr hb hd hx I1 r q⟩) he df) lQ)
end
section
variable {X:Cx}{CX:jF}{k:Nat}{f C:Addr}{fd:FuncData}{ps ks:List Str}{sp:Sp}{E:XK}{x m:Str}{p pos apos Zhs:Pos}{e o:Expr}{es:List Expr}{kws:List Keyword}{te ta:TE}{t tk:TA}{nm:Option Str}
variable {g:List Value->List Value->List Value}{gV:List V->List V->List V}
end
structure aU(N P:List Str)(sc:Scope):Prop where
 kind:sc.kind=.function
 co:sc.isCoroutine=false
 gen:sc.isGenerator=false
 nd:N.Nodup
 pre:N.take P.length=P
 par:∀x∈P,sc.names.lookup x=some .local\/sc.names.lookup x=some .cell
 Zd1:∀y∈sc.names,y.2≠.free
theorem MT{kindOf:Str->Option NameKind}{x:Str}:∀{binds:List (Str×Value)} {m:Str->Option Value},(∀v,(x,v)∉binds)->bindL kindOf binds m x=m x
 |[],_,_=>rfl
 |(n,v)::r,m,h=>by
  unfold bindL;rw[MT λw hw=>h w (Yx _ hw)];split;·grind
  ·rfl
theorem MU{kindOf:Str->Option NameKind}{x:Str}:∀{binds:List (Str×Value)} {m:Str->Option Value},(∀v,(x,v)∉binds)->bindC kindOf binds m x=m x
 |[],_,_=>rfl
 |(n,v)::r,m,h=>by
  unfold bindC;rw[MU λw hw=>h w (Yx _ hw)];split;·rfl
  ·grind
theorem MV{kindOf:Str->Option NameKind}{x:Str}{v:Value}:∀{P:List Str} {vs:List Value} {i:Nat} {m:Str->Option Value},P.Nodup->P[i]?=some x->vs[i]?=some v->kindOf x=some .local->
  bindL kindOf (P.zip vs) m x=some v
 |[],_,_,_,_,h,_,_=>by simp at h
 |_::_,[],_,_,_,_,h,_=>by simp at h
 |p::P,w::vs,0,m,nd,h1,h2,hk=>by
  simp at h1 h2;subst h1;subst h2;show bindL kindOf ((p,w)::P.zip vs) m p=_;unfold bindL;rw[MT λv hv=>(Yz.mp nd).1 (T3 hv).1,if_pos hk];simp
 |p::P,w::vs,i+1,m,nd,h1,h2,hk=>by
  unfold bindL;exact MV (Yz.mp nd).2 (by simpa using h1) (by simpa using h2) hk
theorem MW{kindOf:Str->Option NameKind}{x:Str}{v:Value}:∀{P:List Str} {vs:List Value} {i:Nat} {m:Str->Option Value},P.Nodup->P[i]?=some x->vs[i]?=some v->kindOf x≠some .local->
  bindC kindOf (P.zip vs) m x=some v
 |[],_,_,_,_,h,_,_=>by simp at h
 |_::_,[],_,_,_,_,h,_=>by simp at h
 |p::P,w::vs,0,m,nd,h1,h2,hk=>by
  simp at h1 h2;subst h1;subst h2;show bindC kindOf ((p,w)::P.zip vs) m p=_;unfold bindC;rw[MU λv hv=>(Yz.mp nd).1 (T3 hv).1,if_neg hk];simp
 |p::P,w::vs,i+1,m,nd,h1,h2,hk=>by
  unfold bindC;exact MW (Yz.mp nd).2 (by simpa using h1) (by simpa using h2) hk
def start(N:List Str)(vs:List V):St:=vs.map some++List.replicate (N.length-vs.length) none
def mQ(CX:jF)(P:Program)(w:World)(K:PySem.W.Frag)(mg:Str->Option Value)(base:Heap)(N:List Str)(qual:Str)(scope:Scope)(f:Addr)(cd:Value)(A:Around)(outer:List Env)(s:Shared)(H:Hp)(E:XK):Cx where
 prog:=P
 w:=w
 K:=K
 mg:=mg
 base:=base
 A:=A.deeper (envOfC qual scope s.heap.objs.size f cd)
 N:=N
 c5:=s
 kK:=H
 env:=envOfC qual scope s.heap.objs.size f cd
 outer:=outer
 stack:=envOfC qual scope s.heap.objs.size f cd::outer
 ex:=[]
 calm:=true
 fn:=λ_=>true
 pn:=[]
 xe:=λe s'=>wpAny (model P w) (A.deeper (envOfC qual scope s.heap.objs.size f cd)) (leaving (envOfC qual scope s.heap.objs.size f cd) e) (λ_ rT=>CX outer H s E e rT) (λe' rT=>CX outer H s E e' rT) s'
theorem NM{sc:Scope}{n:Nat}{x:Str}(h:sc.names.lookup x=some .cell):∃c,(cellsFrom n sc.names []).lookup x=some c:=by
 exact Ja.mp (cellsFrom_some sc.names n [] (.inl h))
theorem ZaL{CX:jF}{P:Program}{w:World}{K:PySem.W.Frag}{mg:Str->Option Value}{base:Heap}{N ps:List Str}{qual:Str}{scope:Scope}{f:Addr}{cd:Value}{A:Around}{outer:List Env}{s s1:Shared}{H:Hp}{E:XK}{us:List Value}{vs:List V}
  (S:aU N ps scope)(hd:A.handled=none)(e0:rF P w K mg base A outer s H)(hl:vs.length=ps.length)(r:Vals vs us)
  (x:InCallC s s.heap.objs.size (bindL (envOfC qual scope s.heap.objs.size f cd).kindOf (ps.zip us) λ_=>none) (cellsFrom (s.heap.objs.size+1) scope.names []) (bindC (envOfC qual scope s.heap.objs.size f cd).kindOf (ps.zip us) λ_=>none) s1):
  Inv (mQ CX P w K mg base N qual scope f cd A outer s H E) [] (start N vs) H s1:=by
 have df:ps.length<=N.length:=by have:=congrArg List.length S.pre;rw[Y8] at this;omega
 obtain⟨h1,tk,rfl,hk⟩:=x.done;have wM:∀b:Addr,b∉(mQ CX P w K mg base N qual scope f cd A outer s H E).ex:=λb z=>absurd (show b∈([]:List Addr) from z) (by simp);refine⟨⟨e0.mod,S.kind,rfl,rfl,Yd _,λy z c h1 h2=>?_,λy hy=>?_,λy c _ h=>?_,λ_=>hd,Around.frames_deeper e0.frames,.inr ⟨rfl,rfl⟩,λb z=>absurd z (wM b),e0.bs,e0.ou,λb _ _=>wM b,λb z=>absurd z (wM b),e0.kL,e0.rP⟩,
  rfl,e0.bare,Un.kept hk,⟨_,x.toInCall.ns,λi y v h1 h2 h3=>?_⟩,λy c h=>⟨_,x.cell y c h⟩,e0.ay.fresh (Yd _),λy c h=>?_,λp hp=>absurd (show p∈([]:List (Addr×Obj)) from hp) (by simp),e0.ay.kept hk,?_⟩
 ·exact name_of_addr x.apart (PySem.mem_of_lookup h1) (PySem.mem_of_lookup h2)
 ·have hy:scope.names.lookup y=some .cell\/scope.names.lookup y=some .free:=hy;rcases hy with hy|hy;·exact NM hy
  ·exact absurd rfl (S.Zd1 _ (PySem.mem_of_lookup hy))
 ·exact Jr (x.above y c (PySem.mem_of_lookup h))
 ·have hi:i<vs.length:=by
   unfold start at h2
   grind
  have ha:vs[i]?=some v:=by
   unfold start at h2;rw[Wb (by simpa using hi),Yf] at h2;cases e:vs[i]? with
   |none=>grind
   |some a=>grind
  obtain⟨u,hu,rv⟩:=r.get ha;have hp:ps[i]?=some y:=by
   rw[←S.pre,List.getElem?_take_of_lt (by omega)];exact h1
  have T4:ps.Nodup:=by rw[←S.pre];exact S.nd.sublist (List.take_sublist _ _)
  refine⟨u,rv,?_⟩;rcases S.par y (Yg hp) with k|k;·exact .inl ⟨k,MV T4 hp hu k⟩
  ·obtain⟨c,e⟩:=NM k;refine .inr ⟨.inl k,c,e,?_⟩;have q:=x.cell y c e;rw[MW T4 hp hu (by show scope.names.lookup y≠_;rw[k];decide)] at q;exact q
 ·exact e0.ay.fresh (Jr (x.above y c (PySem.mem_of_lookup h)))
 ·unfold start;show _=N.length
  grind
theorem RX{CX:jF}{P:Program}{w:World}{K:PySem.W.Frag}{mg:Str->Option Value}{base:Heap}{k:Nat}{f:Addr}{name qual:Str}{params:Arguments}{body:List Stmt}{scope:Scope}{dV kV doc pm aF ct oc:Value}{an od:Option Addr}
  {oA:Array (Option Value)}{N ps:List Str}{sp:Sp}(lk:K.lookup f=some ⟨oc,od,.func (fnOf name qual params body scope dV kV doc pm an aF ct),oA⟩)(jD:codeIn K aF qual=true)(S:aU N ps scope)
  (len:∀vs H Q E,sp vs H Q E->vs.length=ps.length)
  (v8:∀(A:Around) (outer:List Env) (s:Shared) (H:Hp) (vs:List V) (Q:VK) (E:XK),dk k (A.deeper (envOfC qual scope s.heap.objs.size f aF))->sp vs H Q E->
   ∃t,gX (mQ CX P w K mg base N qual scope f aF A outer s H E) body t/\t {nx:=λ_ H'=>Q .aB H',rt:=Q} (start N vs) H):
  aK P w K mg base CX (k+1) f (fnOf name qual params body scope dV kV doc pm an aF ct) ps sp:=by
 refine⟨len,λA outer s H args us vs Q E hr e0 hb r mX=>?_⟩;have hl:=len _ _ _ _ mX;have KX:K.In s.heap:=e0.mod.rO.keeps λb o e=>(e0.bs b o e).1;have lim:s.heap.NoLimit:=e0.mod.nolimit.keeps λb o e=>(e0.bs b o e).1;have Zfi:∀y∈ps.zip us,scope.names.lookup y.1=some .local\/(scope.names.lookup y.1=some .cell/\((cellsFrom (s.heap.objs.size+1) scope.names []).lookup y.1).isSome=true):=λ⟨n,v⟩ hy=>by
  rcases S.par n (T3 hy).1 with q|q;·exact .inl q
  ·exact .inr ⟨q,cellsFrom_some _ _ _ (.inl q)⟩
 refine codeAny_call_function hr.depth (KX _ _ lk) rfl S.co S.gen rfl (PySem.W.codeRec_of KX jD) (hb _ _ _ _ ?_);refine wpAny_newFunctionEnv_cells S.kind Zfi λenv he s1 x=>?_;subst he;refine⟨lim.keeps x.toInCall.keep,codeAny_func ?_⟩;obtain⟨t,ht,hq⟩:=v8 A outer s H vs Q E (hr.deeper _) mX;have I:Inv (mQ CX P w K mg base N qual scope f aF A outer s H E) [] (start N vs) H s1:=ZaL S hr.hd e0 hl r x;refine wpAny_mono (ht [] s1 (start N vs) H _ I hq) (λfl s' hs=>?_) λe s' hs=>hs;have fin:∀{aO:St} {H':Hp} {v:V} {u:Value},Inv (mQ CX P w K mg base N qual scope f aF A outer s H E) [] aO H' s'->RelV v u->Q v H'->CE outer P w H s Q u s':=
  λ{aO H' v u} J rv q=>⟨v,H',J.os,J.bare,J.base,J.ay,rv,q⟩
 cases fl with
 |ret u=>
  obtain⟨v,aO,H',J,rv,q⟩:=hs;exact fin J rv q
 |next=>
  obtain⟨aO,H',J,q⟩:=hs;exact fin (v:=V.aB) (u:=Value.none) J rfl q
 |brk=>
  obtain⟨_,_,_,q⟩:=hs;exact False.elim q
 |cont=>
  obtain⟨_,_,_,q⟩:=hs;exact False.elim q
section
variable {X:Cx}{x:Str}{p pos:Pos}{e:Expr}{es:List Expr}{t:TA}{id T:String}{r:List V->Hp->VK->Prop}
def pY(r:List V->Hp->VK->Prop)(t:TA):TE:=λσ H Q=>t σ H λvs H1=>r vs H1 Q
theorem bM(hc:c7 X (.builtin id) r)(hg:Gl X x)(hm:X.mg x=none)(hv:bootBuiltins x=some (.builtin id))(ha:PA X (e::es) t)(hn:x≠"__name__":=by decide)(lQ:(x==("__debug__":Str))=false:=by decide)
  (he:starEach (e::es) X.env=(false,eval e X.env)::starEach es X.env:=by rfl)(df:(backTo pos (starEach es X.env)).any (·.1)=false:=by rfl):PE X (.Call (.Name x p) (e::es) [] pos) (pY r t):=by
 intro pins s σ H Q I h;refine wpAny_Call_Name_kw (zd I hg hm hv ?_ hn lQ);exact PyProof.Rows.callWith_builtin1 (aC (ha pos pins s σ H _ I h) λus s1 ⟨vs,H1,I1,r1,q1⟩=>hc pins s1 σ H1 vs us Q I1 r1 q1) he df
theorem eI(hc:c7 X (.type T) r)(hg:Gl X x)(hm:X.mg x=none)(hv:bootBuiltins x=some (.type T))(ha:PA X (e::es) t)(hn:x≠"__name__":=by decide)(lQ:(x==("__debug__":Str))=false:=by decide)
  (he:starEach (e::es) X.env=(false,eval e X.env)::starEach es X.env:=by rfl)(df:(backTo pos (starEach es X.env)).any (·.1)=false:=by rfl):PE X (.Call (.Name x p) (e::es) [] pos) (pY r t):=by
 intro pins s σ H Q I h;refine wpAny_Call_Name_kw (zd I hg hm hv ?_ hn lQ);exact PyProof.Rows.callWith_type1 (aC (ha pos pins s σ H _ I h) λus s1 ⟨vs,H1,I1,r1,q1⟩=>hc pins s1 σ H1 vs us Q I1 r1 q1) he df
end
end L2
namespace HT
open PySem PyProof.Rows
section
open PySem.SeqAt
open PySem.AutoSeq1 (wpAny_loadPart')
open PySem.MeetsSeq PySem.MeetsSeq2 PySem.MeetsSeq3
end
section
variable {prog:Program}{w:World}{A:Around}{E:Value->Shared->Prop}{s:Shared}
theorem ZcH{t b:Addr}{vs ws:List Value}{Q:Value->Shared->Prop}(ht:IsTup s.heap t vs.toArray)(hb:IsTup s.heap b ws.toArray)(hv:vs≠[])
  (h1:ws=[]->Q (.ref t) s)(h2:ws≠[]->Q (.ref s.heap.objs.size) {s with heap:=s.heap.push {cls:=.type "tuple",data:=.seq (vs++ws).toArray}})
  (hsz:vs.length+ws.length<=sizeLine):wpAny (model prog w) A (binaryOp .Add (.ref t) (.ref b)) Q E s:=by
 obtain⟨⟨cls,dd,data,sl⟩,ho,hc,n,hd⟩:=id ht;obtain⟨⟨Zht,T5,data2,T6⟩,z_,T7,n2,hd2⟩:=id hb;simp only at hc hd T7 hd2;subst hc hd T7 hd2;have e:vs.toArray++ws.toArray=(vs++ws).toArray:=by simp
 by_cases hw:ws=[]
 ·exact concat_meets ⟨_,ho,rfl⟩ ⟨_,z_,rfl⟩ noFill_tuple_add seq_tuple_add slot_tuple_add PySem.F.entry_tuple_add (PySem.F.args_tuple_add_2 _ _)
   (tuple_addW1 t b vs.toArray ws.toArray n n2 dd T5 sl T6 (by simpa using hv) (by simp[hw])) ⟨ho,z_,h1 hw⟩
 ·refine concat_meets ⟨_,ho,rfl⟩ ⟨_,z_,rfl⟩ noFill_tuple_add seq_tuple_add slot_tuple_add PySem.F.entry_tuple_add (PySem.F.args_tuple_add_2 _ _)
   (tuple_addW2 t b vs.toArray ws.toArray n n2 dd T5 sl T6 (by simpa using hv) (by simpa using hw) (by rw[Yr,Yr];exact hsz)) ⟨ho,z_,?_⟩
  rw[e];exact h2 hw
def bY(n d:Nat):Option Int->Nat
 |none=>d
 |some v=>if v<0 then(v+(n:Int)).toNat else min v.toNat n
theorem ZcI(n d k:Nat):bY n d (some (k:Int))=min k n:=by
 show(if(k:Int)<0 then((k:Int)+(n:Int)).toNat else min (k:Int).toNat n)=min k n;rfl
theorem Zhg(n d:Nat)(hd:d<=n)(o:Option Int):bY n d o<=n:=by
 cases o with
 |none=>exact hd
 |some v=>
  show(if v<0 then(v+(n:Int)).toNat else min v.toNat n)<=n
  grind
theorem O3(v:Int)(n d:Nat):(if v<0 then max (v+(n:Int)) 0 else min v (n:Int))=((bY n d (some v):Nat):Int):=by
 show(if v<0 then max (v+(n:Int)) 0 else min v (n:Int))=(((if v<0 then(v+(n:Int)).toNat else min v.toNat n):Nat):Int)
 grind
theorem ZR(lo hi:Option Int)(n:Nat):Builtin.Slice.sliceAdjust lo hi 1 (n:Int)=(((bY n 0 lo:Nat):Int),((bY n n hi:Nat):Int)):=by
 have h1:¬((1:Int)<0):=by omega
 unfold Builtin.Slice.sliceAdjust;refine Prod.ext ?_ ?_
 ·cases lo with
  |none=>rfl
  |some v=>exact O3 v n 0
 ·cases hi with
  |none=>rfl
  |some v=>exact O3 v n n
theorem ZS(i j:Nat):Builtin.Slice.slicePlaces (i:Int) (j:Int) 1=j-i:=by
 unfold Builtin.Slice.slicePlaces
 grind
theorem Mp{v:Value}{o:Option Int}{Q:Option Int->Shared->Prop}(p:IsPart v o)(h:Q o s):wpAny (model prog w) A (Builtin.Slice.slicePartIndex v) Q E s:=by
 cases p with
 |none=>exact slicePart_none h
 |int i t=>exact slicePart_int h
theorem WR{sl:Addr}{vl vu:Value}{lo hi:Option Int}{n:Nat}{Q:Int×Int×Nat->Shared->Prop}(hs:s.heap.IsSliceOf sl vl vu .none)(pl:IsPart vl lo)(pu:IsPart vu hi)
  (h:Q (((bY n 0 lo:Nat):Int),1,bY n n hi-bY n 0 lo) s):wpAny (model prog w) A (Builtin.Slice.sliceApplied (.ref sl) (pure (n:Int))) Q E s:=by
 obtain⟨os,wN,T8,uy⟩:=id hs;refine wpAny_bind (wpAny_bind (wpAny_field wN uy rfl (wpAny_bind (wpAny_field wN uy rfl (wpAny_bind (wpAny_field wN uy rfl (wpAny_pure (wpAny_bind (slicePart_none (wpAny_bind (Mp pl (wpAny_bind (Mp pu (wpAny_bind (wpAny_pure ?_)))))))))))))));show wpAny _ _ (match Builtin.Slice.sliceAdjust lo hi 1 (n:Int) with|(lo,hi)=>pure (lo,(1:Int),Builtin.Slice.slicePlaces lo hi 1)) _ _ s;rw[ZR lo hi n];show wpAny _ _ (pure (((bY n 0 lo:Nat):Int),(1:Int),Builtin.Slice.slicePlaces ((bY n 0 lo:Nat):Int) ((bY n n hi:Nat):Int) 1)) _ _ s;rw[ZS];exact wpAny_pure h
theorem Zbv(xs:Array Value)(i k:Nat):((List.range k).filterMap λ(m:Nat)=>xs[((i:Int)+(m:Int)*1).toNat]?).toArray=((xs.toList.drop i).take k).toArray:=by
 have e:(λ(m:Nat)=>xs[((i:Int)+(m:Int)*1).toNat]?)=λm=>xs[i+m]?:=by
  grind
 rw[e];have:=pick_run xs i k;rw[List.filterMap_map] at this;have e2:((λx=>xs[x]?)∘λx=>i+x)=λm=>xs[i+m]?:=rfl
 grind
theorem WK{t sl:Addr}{items:Array Value}{vl vu:Value}{lo hi:Option Int}{Q:Value->Shared->Prop}(ht:IsTup s.heap t items)(hs:s.heap.IsSliceOf sl vl vu .none)(pl:IsPart vl lo)(pu:IsPart vu hi)
  (hw:¬(bY items.size 0 lo=0/\bY items.size items.size hi=items.size))
  (h:Q (.ref s.heap.objs.size) {s with heap:=s.heap.push {cls:=.type "tuple",data:=.seq ((items.toList.drop (bY items.size 0 lo)).take (bY items.size items.size hi-bY items.size 0 lo)).toArray}})
  (hsz:items.size<=sizeLine):wpAny (model prog w) A (getItem (.ref t) (.ref sl)) Q E s:=by
 have zx:sizeOk (.seq ((items.toList.drop (bY items.size 0 lo)).take (bY items.size items.size hi-bY items.size 0 lo)).toArray):=by
  show((items.toList.drop (bY items.size 0 lo)).take (bY items.size items.size hi-bY items.size 0 lo)).toArray.size<=sizeLine
  grind
 obtain⟨os,wN,T8,uy⟩:=id hs;unfold getItem;try with_reducible refine wpAny_holding ?_
 refine wpAny_bind (wpAny_sequenceKey ht.typeIs (by decide) ?_);refine wpAny_bind (wpAny_callSpecial?_slot ht.typeIs PyProof.Rows.slot_tuple_getitem
  (wpAny_call_entry PyProof.Rows.slot_tuple_getitem ht.typeIs entry_tuple_getitem ?_ (args_tuple_getitem _ _)))
 show wpAny _ _ (Builtin.Tuple.tupleItemsOf (.ref t)>>=_) _ _ s;refine wpAny_bind (tupleItemsOf_ ht (wpAny_bind (wpAny_typeOf ⟨os,wN,T8⟩ (wpAny_bind (WR hs pl pu ?_)))));have wO:¬((((bY items.size 0 lo:Nat):Int)==0&&(1:Int)==1&&(bY items.size items.size hi-bY items.size 0 lo)==items.size)=true):=by
  grind
 show wpAny _ _ (if(((bY items.size 0 lo:Nat):Int)==0&&(1:Int)==1&&(bY items.size items.size hi-bY items.size 0 lo)==items.size)=true then _ else _) _ _ s;rw[if_neg wO,Zbv];first
  |exact wpAny_bind (wpAny_newObj_type (wpAny_pure ⟨_,rfl,wpAny_pure h⟩) zx)
  |exact wpAny_bind (wpAny_newObj_type (wpAny_bind (wpAny_pure (wpAny_pure ⟨_,rfl,wpAny_pure h⟩))) zx)
  |exact wpAny_bind (wpAny_bind (wpAny_newObj_type (wpAny_pure (wpAny_pure ⟨_,rfl,wpAny_pure h⟩)) zx))
  |exact wpAny_bind (wpAny_bind (wpAny_newObj_type (wpAny_pure ⟨_,rfl,wpAny_pure h⟩) zx))
end
end HT
namespace L2
open PySem PySem.Spec PyProof.Rows
abbrev TO:=St->Hp->(Option Int->Hp->Prop)->Prop
def PO(X:Cx)(e:Option Expr)(t:TO):Prop:=
 ∀(pins:List (Addr×Obj)) (s:Shared) (σ:St) (H:Hp) (Q:Option Int->Hp->Prop),Inv X pins σ H s->t σ H Q->
  wpAny (model X.prog X.w) X.A (evalPart e X.env) (λu s'=>∃o H',Inv X pins σ H' s'/\IsPart u o/\Q o H') X.xe s
def ZcJ:TO:=λ_ H Q=>Q none H
inductive O4(Q:Option Int->Hp->Prop)(x:V)(H1:Hp):Prop
 |mk (i) (aE:x=.int i) (aT:Q (some i) H1):O4 Q x H1
def Zfj(t:TE):TO:=λσ H Q=>t σ H λx H1=>O4 Q x H1
theorem intsAre_of{ns:List Int}:∀{us:List Value},Vals (ns.map V.int) us->IntsAre us ns:=by
 induction ns with
 |nil=>intro us r;rw[List.map_nil] at r;cases r;exact .nil
 |cons n ns ih=>
  intro us r;cases r with
  |cons r1 r2=>
   obtain⟨t,e⟩:=r1;subst e;exact .cons n t (ih r2)
section
variable {X:Cx}{e:Expr}{te:TE}{lo hi:Option Expr}{tl th:TO}{pos p2:Pos}
theorem yN:PO X none ZcJ:=by
 intro pins s σ H Q I h;exact wpAny_pure ⟨none,H,I,.none,h⟩
theorem yO(h:PE X e te):PO X (some e) (Zfj te):=by
 intro pins s σ H Q I hw;refine aC (h pins s σ H _ I hw) λu s1 zq=>?_;obtain⟨x,H1,I1,r1,q1⟩:=zq;obtain⟨i,rfl,q⟩:=q1;obtain⟨t,rfl⟩:=r1;exact⟨some i,H1,I1,.int i t,q⟩
def pZ(X:Cx)(r:V->Option Int->Option Int->Hp->VK->Prop):Prop:=
 ∀(pins:List (Addr×Obj)) (s:Shared) (σ:St) (H:Hp) (x:V) (v vl vu:Value) (lo hi:Option Int) (sl:Addr) (Q:VK),Inv X pins σ H s->RelV x v->s.heap.IsSliceOf sl vl vu .none->IsPart vl lo->IsPart vu hi->r x lo hi H Q->
  ∃T id,typeLookup (.type T) "__getitem__"=pure (some (.builtin id))/\s.TypeIs v T/\wpAny (model X.prog X.w) X.A (getItem v (.ref sl)) (EP X pins σ Q) X.xe s
def tSl(r:V->Option Int->Option Int->Hp->VK->Prop)(te:TE)(tl th:TO):TE:=λσ H Q=>te σ H λx H1=>tl σ H1 λl H2=>th σ H2 λu H3=>r x l u H3 Q
theorem yB{r:V->Option Int->Option Int->Hp->VK->Prop}(hr:pZ X r)(he:PE X e te)(hl:PO X lo tl)(hu:PO X hi th):PE X (.Subscript e (.Slice lo hi none p2) pos) (tSl r te tl th):=by
 intro pins s σ H Q I h;refine Subscript_ (aC (he pins s σ H _ I h) λv s1 zq=>?_);obtain⟨x,H1,I1,r1,q1⟩:=zq;refine wpAny_Slice (aC (hl pins s1 σ H1 _ I1 q1) λvl s2 zq=>?_);obtain⟨l,H2,I2,pl,q2⟩:=zq;refine aC (hu pins s2 σ H2 _ I2 q2) λvu s3 zq=>?_;obtain⟨u,H3,I3,pu,q3⟩:=zq;rw[evalPart_none];refine wpAny_pure ?_;have I4:Inv X pins σ H3 {s3 with heap:=s3.heap.push {cls:=.type "slice",data:=.fields #[vl,vu,.none]}}:=I3.kept (t':=s3.toks) λb ob q=>Yb _ q;obtain⟨T,id,hT,ht,hg⟩:=hr pins {s3 with heap:=s3.heap.push {cls:=.type "slice",data:=.fields #[vl,vu,.none]}} σ H3 x v vl vu l u s3.heap.objs.size Q I4 r1 (Heap.IsSliceOf.new ..) pl pu q3;show wpAny (model X.prog X.w) X.A (subscriptTail e (.Slice lo hi none p2) v (.ref s3.heap.objs.size)) (EP X pins σ Q) X.xe {s3 with heap:=s3.heap.push {cls:=.type "slice",data:=.fields #[vl,vu,.none]}};exact tail_any (ops:=[.ref s3.heap.objs.size,v]) ht hT hg (by with_unfolding_all rfl)
def jA(xs:List V)(lo hi:Option Int):List V:=(xs.drop (HT.bY xs.length 0 lo)).take (HT.bY xs.length xs.length hi-HT.bY xs.length 0 lo)
theorem DA(xs:List V)(lo hi:Option Int):(jA xs lo hi).length<=xs.length:=by
 unfold jA
 grind
def SO(K:PySem.W.Frag):V->Option Int->Option Int->Hp->VK->Prop:=λx lo hi H Q=>∃a xs,x=.ref a/\aA K H a xs/\
 ¬(HT.bY xs.length 0 lo=0/\HT.bY xs.length xs.length hi=xs.length)/\∀p,H p=none->Q (.ref p) (upd H p (.tup (jA xs lo hi)))
theorem Zd2:pZ X (SO X.K):=by
 rintro pins s σ H x v vl vu lo hi sl Q I rx hs pl pu ⟨a,xs,rfl,hx,hw,q⟩;cases rx;obtain⟨ai,r,ht,hz⟩:=I.tuple hx;have hlen:ai.toArray.size=xs.length:=by rw[Yr];exact r.length.symm
 refine⟨"tuple",_,PyProof.Rows.slot_tuple_getitem.lookup,ht.typeIs,HT.WK ht hs pl pu (by rw[hlen];exact hw) ?_ (by rw[hlen];exact hz)⟩;rw[hlen];refine⟨.ref s.heap.objs.size,_,I.laid (o:=.tup (jA xs lo hi)) (λb ob q=>Yb _ q) (Yd _) ?_,rfl,q _ (I.ay.fresh (Yd _))⟩;exact⟨Y3 (DA xs lo hi) hz,_,(r.drop (HT.bY xs.length 0 lo)).take (HT.bY xs.length xs.length hi-HT.bY xs.length 0 lo),lq.new _ _⟩
def Zfk(K:PySem.W.Frag):R2:=λx y H Q=>∃a b xs ys,x=.ref a/\y=.ref b/\aA K H a xs/\aA K H b ys/\xs≠[]/\xs.length+ys.length<=sizeLine/\
 (ys=[]->Q (.ref a) H)/\(ys≠[]->∀p,H p=none->Q (.ref p) (upd H p (.tup (xs++ys))))
theorem Vals.F0{xs:List V}{us:List Value}(r:Vals xs us):us=[]↔xs=[]:=by
 cases r with
 |nil=>simp
 |cons _ _=>simp
theorem ZcK:cE X (binaryOp .Add) (Zfk X.K):=by
 rintro pins s σ H x y v u Q I rx ry ⟨a,b,xs,ys,rfl,rfl,ha,hb,hx,hz,q1,q2⟩;cases rx;cases ry;obtain⟨ai,r1,p1,_⟩:=I.tuple ha;obtain⟨eN,r2,p2,_⟩:=I.tuple hb;refine HT.ZcH p1 p2 (λz=>hx (r1.F0.mp z)) (λz=>⟨.ref a,H,I,rfl,q1 (r2.F0.mp z)⟩) (λz=>⟨.ref s.heap.objs.size,_,I.laid (o:=.tup (xs++ys)) (λb ob q=>Yb _ q) (Yd _) ?_,rfl,q2 (λw=>z (r2.F0.mpr w)) _ (I.ay.fresh (Yd _))⟩) (by rw[←r1.length,←r2.length];exact hz);exact⟨by rw[Yj];exact hz,_,r1.append r2,lq.new _ _⟩
end
def kN(n:Nat)(i:Int):Option Nat:=if 0<=i then(if i<n then some i.toNat else none) else if-(n:Int)<=i then some (i+n).toNat else none
def dA{α:Type}(xs:List α)(i:Int):Option α:=(kN xs.length i).bind λj=>xs[j]?
theorem F1{n:Nat}{i:Int}{j:Nat}(h:kN n i=some j):seqIndex? i n=some j/\j<n/\-(n:Int)<=i/\i<n:=by
 unfold kN at h;by_cases h0:0<=i
 ·rw[if_pos h0] at h;by_cases h1:i<n
  ·rw[if_pos h1] at h;have e:=Yo h;exact⟨by rw[seqIndex_of h0 h1,e],by omega,by omega,h1⟩
  ·grind
 ·rw[if_neg h0] at h;by_cases h1:-(n:Int)<=i
  ·rw[if_pos h1] at h;have e:=Yo h;exact⟨by rw[seqIndex_neg (by omega) h1,e],by omega,h1,by omega⟩
  ·grind
theorem F2{α:Type}{xs:List α}{i:Int}{v:α}(h:dA xs i=some v):∃j,seqIndex? i xs.length=some j/\xs[j]?=some v/\j<xs.length/\-(xs.length:Int)<=i/\i<xs.length:=by
 unfold dA at h;cases e:kN xs.length i with
 |none=>grind
 |some j=>
  obtain⟨h1,h2,h3,h4⟩:=F1 e
  grind
theorem gQ{α:Type}{xs:List α}{j:Nat}{v:α}(h:xs[j]?=some v):dA xs (j:Int)=some v:=by
 have e:kN xs.length (j:Int)=some j:=by
  unfold kN
  grind
 unfold dA;rw[e];exact h
def ZcL(b:Expr):Prop:=∀o i,subscripted b false o i=operate [o,i] (getItem o i)
def jG(X:Cx)(r:R2):Prop:=
 ∀(value slice:Expr) (pins:List (Addr×Obj)) (s:Shared) (σ:St) (H:Hp) (x y:V) (v u:Value) (Q:VK),Inv X pins σ H s->RelV x v->RelV y u->r x y H Q->
  subscripted slice false v u=operate [v,u] (getItem v u)->wpAny (model X.prog X.w) X.A (subscriptTail value slice v u) (EP X pins σ Q) X.xe s
def T9(X:Cx)(id:String)(r:V->List V->Hp->VK->Prop):Prop:=
 ∀(pins:List (Addr×Obj)) (s:Shared) (σ:St) (H:Hp) (x:V) (xs:List V) (v:Value) (us:List Value) (Q:VK),Inv X pins σ H s->RelV x v->Vals xs us->r x xs H Q->
  wpAny (model X.prog X.w) X.A (call (.builtin id) (v::us)) (EP X pins σ Q) X.xe s
section
variable {X:Cx}{a b:Expr}{ta tb:TE}{pos:Pos}
theorem jG.or{r r':R2}(h:jG X r)(h':jG X r'):jG X (λx y H Q=>r x y H Q\/r' x y H Q):=by
 intro value slice pins s σ H x y v u Q I rx ry q hs;rcases q with q|q;·exact h value slice pins s σ H x y v u Q I rx ry q hs
 ·exact h' value slice pins s σ H x y v u Q I rx ry q hs
theorem aX{r:R2}(hr:jG X r)(ha:PE X a ta)(hb:PE X b tb)(hs:ZcL b):PE X (.Subscript a b pos) (jE r ta tb):=by
 intro pins s σ H Q I h;exact Subscript_ (HQ ha hb I h λv u s2 x y H2 I2 rx ry q=>hr a b pins s2 σ H2 x y v u Q I2 rx ry q (hs _ _))
inductive Qy(K:PySem.W.Frag)(x:V)(y:V)(H:Hp)(Q:VK):Prop
 |mk (p xs i v) (aE:x=.ref p) (aT:y=.int i) (bw:ak K H p xs) (bP:dA xs i=some v) (cN:Q v H):Qy K x y H Q
def wo(K:PySem.W.Frag):R2:=λx y H Q=>Qy K x y H Q
inductive Qz(K:PySem.W.Frag)(x:V)(y:V)(H:Hp)(Q:VK):Prop
 |mk (p xs i v) (aE:x=.ref p) (aT:y=.int i) (bw:aA K H p xs) (bP:dA xs i=some v) (cN:Q v H):Qz K x y H Q
def Ia(K:PySem.W.Frag):R2:=λx y H Q=>Qz K x y H Q
inductive QA(x:V)(y:V)(H:Hp)(Q:VK):Prop
 |mk (z i c) (aE:x=.str z) (aT:y=.int i) (bw:z.length<=sizeLine) (bP:dA z.cps.toList i=some c) (cN:Q (.str ⟨#[c]⟩) H):QA x y H Q
def SQ:R2:=λx y H Q=>QA x y H Q
theorem F3:jG X (wo X.K):=by
 intro value slice pins s σ H x y v u Q I rx ry h hs;obtain⟨p,xs,i,z,rfl,rfl,hq,he,q⟩:=h;cases rx;obtain⟨t,rfl⟩:=ry;obtain⟨ai,r,pl,hz⟩:=I.list hq;obtain⟨j,h1,h2,h3,h4,h5⟩:=F2 he;obtain⟨w,ew,fM⟩:=r.get h2;have hl:=r.length;have hn:=qS;have fin:EP X pins σ Q w s:=⟨z,H,I,fM,q⟩;by_cases h0:0<=i
 ·have hj:i.toNat=j:=by
   rw[seqIndex_of h0 h5] at h1;exact Yo h1
  exact item_listR pl.isList h0 (by omega) (by rw[hj];simpa using ew) fin hs
 ·have hj:(i+(ai.toArray.size:Int)).toNat=j:=by
   rw[seqIndex_neg (by omega) h4] at h1
   grind
  exact subscriptTail_builtinR (x:=w) pl.isList.typeIs slot_list_getitem.lookup
   (wpAny_getItem_list_neg pl.isList (by omega) (by rw[Yr]<;>omega) (by omega) (by rw[hj];simpa using ew) ⟨rfl,fin⟩) hs
theorem QB:jG X (Ia X.K):=by
 intro value slice pins s σ H x y v u Q I rx ry h hs;obtain⟨p,xs,i,z,rfl,rfl,hq,he,q⟩:=h;cases rx;obtain⟨t,rfl⟩:=ry;obtain⟨ai,r,pl,hz⟩:=I.tuple hq;obtain⟨j,h1,h2,h3,h4,h5⟩:=F2 he;obtain⟨w,ew,fM⟩:=r.get h2;have hn:=qS;exact subscriptTail_builtinR pl.typeIs slot_tuple_getitem.lookup
  (getItem_tuple pl (by omega) (by omega) (by rw[Yr,←r.length];exact h1) (by simpa using ew) ⟨rfl,⟨z,H,I,fM,q⟩⟩) hs
theorem vQ:jG X SQ:=by
 intro value slice pins s σ H x y v u Q I rx ry h hs;obtain⟨z,i,c,rfl,rfl,hz,he,q⟩:=h;obtain⟨t,rfl⟩:=rx;obtain⟨t',rfl⟩:=ry;obtain⟨j,h1,h2,h3,h4,h5⟩:=F2 he;have hl:z.cps.toList.length=z.length:=by simp[Str.length]
 rw[hl] at h1 h4 h5;have hn:=qS;exact tail_any (typeIs_str s z t) slot_str_getitem.lookup (getItem_str (by
  rw[(decide_eq_false (by omega)),(decide_eq_false (by omega)),Bool.or_false]) (by rw[h1];simpa using h2) ⟨.str ⟨#[c]⟩,H,I.tok _,⟨_,rfl⟩,q⟩) hs
def IK(K:PySem.W.Frag):R2:=λx y H Q=>wo K x y H Q\/Ia K x y H Q\/SQ x y H Q
theorem Zd3:jG X (IK X.K):=F3.or (QB.or vQ)
theorem ZT(ai:List Value)(n j:Nat)(u:Value):Obj.mapSeq (·.setIfInBounds j u) {cls:=.type "list",data:=.seq ai.toArray n}={cls:=.type "list",data:=.seq (ai.set j u).toArray n}:=by
 simp[Obj.mapSeq]
theorem Inv.lst{pins:List (Addr×Obj)}{σ:St}{H:Hp}{s:Shared}{p:Addr}{xs:List V}(I:Inv X pins σ H s)(h:H p=some (.lst xs)):
  ∃(ai:List Value) (n:Nat),Vals xs ai/\s.heap.get? p=some {cls:=.type "list",data:=.seq ai.toArray n}/\xs.length<=sizeLine:=by
 obtain⟨z,ai,n,r,e⟩:=I.ay p _ h
 grind
theorem Inv.Zd4{pins:List (Addr×Obj)}{σ:St}{H:Hp}{s:Shared}{p:Addr}{xs ys:List V}{ai its':List Value}{n n':Nat}{f:Obj->Obj}(I:Inv X pins σ H s)(h:H p=some (.lst xs))
  (ho:s.heap.get? p=some {cls:=.type "list",data:=.seq ai.toArray n})(hf:f {cls:=.type "list",data:=.seq ai.toArray n}={cls:=.type "list",data:=.seq its'.toArray n'})(r:Vals ys its')(hz:ys.length<=sizeLine)(t:Nat):
  Inv X pins σ (upd H p (.lst ys)) {s with heap:=s.heap.update p f,toks:=t}:=by
 have e:(s.heap.update p f).get? p=some {cls:=.type "list",data:=.seq its'.toArray n'}:=by
  rw[Jz f ho (by rw[hf]<;>rfl),hf]
 refine I.write (x:=p) (e:=p) (by rw[h];trivial) (.inl rfl) (λb u hb q=>(Heap.get?_update_other _ _ (Ne.symm hb)).trans q) ⟨_,e⟩ ?_;exact⟨hz,its',n',r,e⟩
def Zfl:V->V->V->Hp->(Hp->Prop)->Prop:=λo i v H Q=>∃p xs k j,o=.ref p/\i=.int k/\H p=some (.lst xs)/\kN xs.length k=some j/\Q (upd H p (.lst (xs.set j v)))
theorem set_list:rD X Zfl:=by
 rintro pins s σ H o i v ov iv u Q I ro ri rv ⟨p,xs,k,j,rfl,rfl,hp,hj,q⟩;cases ro;obtain⟨t,rfl⟩:=ri;obtain⟨ai,n,r,ho,hz⟩:=I.lst hp;obtain⟨h1,h2,h3,h4⟩:=F1 hj;have hl:=r.length;have hn:=qS;have I':Inv X pins σ (upd H p (.lst (xs.set j v))) {s with heap:=s.heap.update p (Obj.mapSeq (·.setIfInBounds j u))}:=
  I.Zd4 hp ho (ZT ai n j u) (r.set rv j) (by rw[Jb];exact hz) s.toks
 by_cases h0:0<=k
 ·have hk:k.toNat=j:=by
   rw[seqIndex_of h0 h4] at h1
   grind
  exact PySem.W.ki_setAt ho h0 (by omega) (by rw[Yr,←hl];exact h4) (by rw[hk];exact⟨_,I',q⟩)
 ·have hk:(k+(ai.toArray.size:Int)).toNat=j:=by
   rw[seqIndex_neg (by omega) h3] at h1
   grind
  exact PySem.W.ki_setBack ho (by omega) (by rw[Yr,←hl];exact h3) (by omega) (by rw[hk];exact⟨_,I',q⟩)
theorem X2(lo hi:Option Int)(n:Nat):(sliceBounds lo hi none n).1=((HT.bY n 0 lo:Nat):Int)/\(sliceBounds lo hi none n).2.1=((HT.bY n n hi:Nat):Int)/\(sliceBounds lo hi none n).2.2=1:=by
 refine⟨?_,?_,rfl⟩
 ·cases lo with
  |none=>rfl
  |some i=>
   simp only[sliceBounds,HT.bY]
   grind
 ·cases hi with
  |none=>rfl
  |some i=>
   simp only[sliceBounds,HT.bY]
   grind
theorem XB(ai:List Value)(lo hi:Option Int):slicePick ai.toArray lo hi none=((ai.drop (HT.bY ai.length 0 lo)).take (HT.bY ai.length ai.length hi-HT.bY ai.length 0 lo)).toArray:=by
 obtain⟨h1,h2,h3⟩:=X2 lo hi ai.toArray.size;unfold slicePick;rw[h1,h2,h3];simp only[sliceRange_one,pick_run]<;>rfl
def Zf6(K:PySem.W.Frag):V->Option Int->Option Int->Hp->VK->Prop:=λx lo hi H Q=>∃a xs,x=.ref a/\ak K H a xs/\∀p,H p=none->Q (.ref p) (upd H p (.lst (jA xs lo hi)))
theorem ZcM:pZ X (Zf6 X.K):=by
 rintro pins s σ H x v vl vu lo hi sl Q I rx hs pl pu ⟨a,xs,rfl,hx,q⟩;cases rx;obtain⟨ai,r,ht,hz⟩:=I.list hx;have hlen:=r.length;refine⟨"list",_,slot_list_getitem.lookup,ht.isList.typeIs,wpAny_getItem_list_slice ht.isList hs pl pu .none (by simp) ?_ (by rw[Yr]<;>omega)⟩;rw[XB,←hlen];refine⟨.ref s.heap.objs.size,_,I.laid (o:=.lst (jA xs lo hi)) (λb ob q=>Yb _ q) (Yd _) ?_,rfl,q _ (I.ay.fresh (Yd _))⟩;exact⟨Y3 (DA xs lo hi) hz,_,0,(r.drop (HT.bY xs.length 0 lo)).take (HT.bY xs.length xs.length hi-HT.bY xs.length 0 lo),Ys _ rfl⟩
def iK:V->Bool
 |.aB=>true
 |.bl _=>true
 |.int _=>true
 |.str _=>true
 |_=>false
def iq:V->V->Bool
 |.aB,.aB=>true
 |.bl a,.bl b=>a==b
 |.bl a,.int b=>(if a then 1 else 0)==b
 |.int a,.bl b=>a==(if b then 1 else 0)
 |.int a,.int b=>a==b
 |.str a,.str b=>a==b
 |_,_=>false
theorem Gx{A:Around}{s:Shared}{y x:V}{u v:Value}(ry:RelV y u)(rx:RelV x v)(fy:iK y=true)(fx:iK x=true):SeqAt.EqAt A s u v (iq y x):=by
 cases y with
 |aB=>
  cases ry;cases x with
  |aB=>cases rx;exact SeqAt.EqAt.same _
  |bl b=>cases rx;exact SeqAt.EqAt.none_bool b
  |int b=>obtain⟨t,rfl⟩:=rx;exact SeqAt.EqAt.none_int b t
  |str b=>obtain⟨t,rfl⟩:=rx;exact SeqAt.EqAt.none_str b t
  |_=>exact absurd (show false=true from fx) Yi
 |bl a=>
  cases ry;cases x with
  |aB=>cases rx;exact SeqAt.EqAt.bool_none a
  |bl b=>cases rx;exact SeqAt.EqAt.bool_bool a b
  |int b=>obtain⟨t,rfl⟩:=rx;exact SeqAt.EqAt.bool_int a b t
  |str b=>obtain⟨t,rfl⟩:=rx;exact SeqAt.EqAt.bool_str a b t
  |_=>exact absurd (show false=true from fx) Yi
 |int a=>
  obtain⟨t',rfl⟩:=ry;cases x with
  |aB=>cases rx;exact SeqAt.EqAt.int_none a t'
  |bl b=>cases rx;exact SeqAt.EqAt.int_bool a t' b
  |int b=>obtain⟨t,rfl⟩:=rx;exact SeqAt.EqAt.int_int a t' b t
  |str b=>obtain⟨t,rfl⟩:=rx;exact SeqAt.EqAt.int_str a t' b t
  |_=>exact absurd (show false=true from fx) Yi
 |str a=>
  obtain⟨t',rfl⟩:=ry;cases x with
  |aB=>cases rx;exact SeqAt.EqAt.str_none a t'
  |bl b=>cases rx;exact SeqAt.EqAt.str_bool a t' b
  |int b=>obtain⟨t,rfl⟩:=rx;exact SeqAt.EqAt.str_int a t' b t
  |str b=>obtain⟨t,rfl⟩:=rx;exact SeqAt.EqAt.str_str a t' b t
  |_=>exact absurd (show false=true from fx) Yi
 |_=>exact absurd (show false=true from fy) Yi
def g_(x:V)(u:Value):Bool:=match u with
 |.none=>iq .aB x
 |.bool b=>iq (.bl b) x
 |.int i _=>iq (.int i) x
 |.str z _=>iq (.str z) x
 |_=>false
theorem QC{x y:V}{u:Value}(r:RelV y u)(f:iK y=true):g_ x u=iq y x:=by
 cases y with
 |aB=>cases r;rfl
 |bl b=>cases r;rfl
 |int i=>obtain⟨t,rfl⟩:=r;rfl
 |str z=>obtain⟨t,rfl⟩:=r;rfl
 |_=>exact absurd (show false=true from f) Yi
theorem vI{x:V}:∀{xs:List V} {us:List Value},Vals xs us->xs.all iK=true->us.any (g_ x)=xs.any λy=>iq y x
 |_,_,.nil,_=>rfl
 |y::xs,u::us,.cons r t,f=>by
  rw[Wi,Wh] at f;rw[W7,W7,QC r f.1,vI t f.2]
theorem vE{A:Around}{s:Shared}{x:V}{v:Value}(rx:RelV x v)(fx:iK x=true):∀{xs:List V} {us:List Value},Vals xs us->xs.all iK=true->∀u∈us,SeqAt.EqAt A s u v (g_ x u):=by
 intro xs us h;induction h with
 |nil=>intro _ u hu;cases hu
 |cons r t ih=>
  intro f u' hu;rw[Wi,Wh] at f;rcases Ym.mp hu with rfl|hu;·rw[QC r f.1];exact Gx r rx f.1 fx
  ·exact ih f.2 u' hu
def eX(x:V)(xs:List V):Bool:=xs.any λy=>iq y x
def wQ(K:PySem.W.Frag)(neg:Bool):R2:=λx y H Q=>∃p xs,y=.ref p/\(ak K H p xs\/aA K H p xs)/\iK x=true/\xs.all iK=true/\Q (.bl (if neg then !eX x xs else eX x xs)) H
theorem ZaM:cE X (compareOp .In) (wQ X.K false):=by
 rintro pins s σ H x y v u Q I rx ry ⟨p,xs,rfl,hq,fx,fs,q⟩;cases ry;rcases hq with hq|hq
 ·obtain⟨ai,r,pl,hz⟩:=I.list hq;refine SeqAt.in_listAt (g_ x) pl.isList (λw hw=>vE rx fx r fs w (by simpa using hw)) ⟨.bl _,H,I,rfl,?_⟩;rw[show ai.toArray.any (g_ x)=ai.any (g_ x) by simp,vI r fs];exact q
 ·obtain⟨ai,r,pl,hz⟩:=I.tuple hq;refine SeqAt.in_tupleAt (g_ x) pl (λw hw=>vE rx fx r fs w (by simpa using hw)) ⟨.bl _,H,I,rfl,?_⟩;rw[show ai.toArray.any (g_ x)=ai.any (g_ x) by simp,vI r fs];exact q
theorem X3:cE X (compareOp .NotIn) (wQ X.K true):=by
 rintro pins s σ H x y v u Q I rx ry ⟨p,xs,rfl,hq,fx,fs,q⟩;cases ry;rcases hq with hq|hq
 ·obtain⟨ai,r,pl,hz⟩:=I.list hq;refine SeqAt.notIn_listAt (g_ x) pl.isList (λw hw=>vE rx fx r fs w (by simpa using hw)) ⟨.bl _,H,I,rfl,?_⟩;rw[show ai.toArray.any (g_ x)=ai.any (g_ x) by simp,vI r fs];exact q
 ·obtain⟨ai,r,pl,hz⟩:=I.tuple hq;refine SeqAt.notIn_tupleAt (g_ x) pl (λw hw=>vE rx fx r fs w (by simpa using hw)) ⟨.bl _,H,I,rfl,?_⟩;rw[show ai.toArray.any (g_ x)=ai.any (g_ x) by simp,vI r fs];exact q
theorem L3:c7 X (.builtin "len") (λxs H Q=>∃p ys,xs=[.ref p]/\(ak X.K H p ys\/aA X.K H p ys)/\Q (.int ys.length) H):=by
 rintro pins s σ H xs us Q I r ⟨p,ys,rfl,hq,q⟩;obtain⟨u,rfl,rx⟩:=vals1 r;cases rx;have hn:=qS;rcases hq with hq|hq
 ·obtain⟨ai,r',pl,hz⟩:=I.list hq;have hlen:=r'.length;exact Calls.call_len_list pl.isList (by simp only[Yr]<;>omega) ⟨.int ys.length,H,I.tok _,⟨s.toks+1,by rw[Yr,hlen]⟩,q⟩
 ·obtain⟨ai,r',pl,hz⟩:=I.tuple hq;have hlen:=r'.length;exact len_tuple pl (by simp only[Yr]<;>omega) ⟨.int ys.length,H,I.tok _,⟨s.toks+1,by rw[Yr,hlen]⟩,q⟩
theorem X4:c7 X (.builtin "len") (λxs H Q=>∃z,xs=[.str z]/\z.length<=sizeLine/\Q (.int z.length) H):=by
 rintro pins s σ H xs us Q I r ⟨z,rfl,hz,q⟩;obtain⟨u,rfl,t,rfl⟩:=vals1 r;have hn:=qS;exact len_str (by omega) ⟨.int z.length,H,I.tok _,⟨_,rfl⟩,q⟩
theorem sL:c7 X (.type "tuple") (λxs H Q=>∃p ys,xs=[.ref p]/\((ak X.K H p ys/\∀l,H l=none->Q (.ref l) (upd H l (.tup ys)))\/(aA X.K H p ys/\Q (.ref p) H))):=by
 rintro pins s σ H xs us Q I r ⟨p,ys,rfl,h⟩;obtain⟨u,rfl,rx⟩:=vals1 r;cases rx;rcases h with⟨hq,q⟩|⟨hq,q⟩
 ·obtain⟨ai,r',pl,hz⟩:=I.list hq;have hlen:=r'.length;refine call_tuple_list pl.isList (λh' kp=>?_) (by simp only[Yr]<;>omega);have I1:=I.kept (t':=s.toks) kp;have I2:Inv X pins σ (upd H h'.objs.size (.tup ys)) {s with heap:=h'.push {cls:=.type "tuple",data:=.seq ai.toArray}}:=
   I1.laid (λb o e=>Yb _ e) (Yd _) (show cT X.prog X.w _ _ _ (.tup ys) from⟨hz,ai,r',lq.new _ _⟩)
  exact⟨.ref h'.objs.size,_,I2,rfl,q _ (I1.ay.fresh (Yd _))⟩
 ·obtain⟨ai,r',pl,hz⟩:=I.tuple hq;exact call_tuple_same pl ⟨.ref p,H,I,rfl,q⟩
def IL(K:PySem.W.Frag)(T:String)(x:V)(H:Hp):Prop:=match x with
 |.str _=>T="str"
 |.int _=>T="int"
 |.ref p=>(T="list"/\∃xs,ak K H p xs)\/(T="tuple"/\∃o,K.lookup p=some o/\o.cls=.type "tuple"/\o.dict=none)\/
   (T="dict"/\((∃kvs,H p=some (.dK kvs))\/∃kvs,H p=some (.dT kvs)))\/(T="set"/\∃S n,H p=some (.set S n))
 |_=>False
theorem QD{pins:List (Addr×Obj)}{σ:St}{H:Hp}{s:Shared}{T:String}{x:V}{v:Value}(I:Inv X pins σ H s)(r:RelV x v)(ty:IL X.K T x H):
  s.TypeIs v T/\∀a,v=.ref a->∃ob,s.heap.get? a=some ob/\ob.dict=none:=by
 cases x with
 |str z=>
  obtain⟨t,rfl⟩:=r;cases(show T="str" from ty);exact⟨typeIs_str s z t,λ_ e=>nomatch e⟩
 |int i=>
  obtain⟨t,rfl⟩:=r;cases(show T="int" from ty);exact⟨typeIs_int s i t,λ_ e=>nomatch e⟩
 |ref p=>
  cases r;rcases ty with⟨rfl,xs,hq⟩|⟨rfl,o,hk,hc,hd⟩|⟨rfl,hk⟩|⟨rfl,S,n,hk⟩
  ·obtain⟨ai,_,pl,_⟩:=I.list hq;refine⟨pl.isList.typeIs,λa e=>?_⟩;obtain⟨o,n,e,c,hd,_⟩:=pl
   grind
  ·refine⟨⟨o,I.dF p o hk,hc⟩,λa e=>?_⟩;cases e;exact⟨o,I.dF _ o hk,hd⟩
  ·have z:∃o,s.heap.get? p=some o/\o.ExactDict:=by
    rcases hk with⟨kvs,hk⟩|⟨kvs,hk⟩
    ·obtain⟨_,_,_,_,o,_,_,e,ex,_⟩:=I.ay p _ hk;exact⟨o,e,ex⟩
    ·obtain⟨_,_,_,_,o,_,_,e,ex,_⟩:=I.ay p _ hk;exact⟨o,e,ex⟩
   obtain⟨o,e,ex⟩:=z;refine⟨⟨o,e,ex.1⟩,λa e2=>?_⟩;cases e2;exact⟨o,e,ex.2.1⟩
  ·obtain⟨o,_,_,_,e,ex,_⟩:=I.ay p _ hk;refine⟨⟨o,e,ex.1⟩,λa e2=>?_⟩;cases e2;exact⟨o,e,ex.2.1⟩
 |_=>exact False.elim ty
def Ib(K:PySem.W.Frag)(T:String)(r:V->List V->Hp->VK->Prop)(to:TE):TE:=λσ H Q=>to σ H λx H1=>IL K T x H1/\r x [] H1 Q
def wR(K:PySem.W.Frag)(T:String)(r:V->List V->Hp->VK->Prop)(to:TE)(t:TA):TE:=λσ H Q=>to σ H λx H1=>IL K T x H1/\t σ H1 λxs H2=>r x xs H2 Q
variable {o e:Expr}{es:List Expr}{to:TE}{t:TA}{name:Str}{apos cL:Pos}{T id:String}{r:V->List V->Hp->VK->Prop}
theorem QE(pa:PlainAttrs T)(slot:Slot T name id)(IM:typeOf (.builtin id)=pure (.type "method_descriptor"))(hm:T9 X id r)(ho:PE X o to)
  (q_:attributeBase o name X.env (eval o X.env)=eval o X.env:=by rfl)(rf:(apos.endLine==cL.line)=true:=by rfl):PE X (.Call (.Attribute o name apos) [] [] cL) (Ib X.K T r to):=by
 intro pins s σ H Q I h;refine wpAny_Call_method0_late q_ rf (aC (ho pins s σ H _ I h) λv s1 zq=>?_);obtain⟨x,H1,I1,r1,ty,q1⟩:=zq;obtain⟨h1,h2⟩:=QD I1 r1 ty;exact⟨T,id,pa,slot,IM,h1,h2,Calls.callWith_builtin rfl (PySem.evalArgs_none (hm pins s1 σ H1 x [] v [] Q I1 r1 .nil q1))⟩
theorem jw(pa:PlainAttrs T)(slot:Slot T name id)(IM:typeOf (.builtin id)=pure (.type "method_descriptor"))(hm:T9 X id r)(ho:PE X o to)(ha:PA X (e::es) t)
  (q_:attributeBase o name X.env (eval o X.env)=eval o X.env:=by rfl)
  (Ic:((backTo cL (starEach (e::es) X.env)).all (λx=>!x.1)&&(backToKw cL (keywordEach [] X.env)).all (λx=>x.1.isSome)
   &&decide ((e::es).length+([]:List Keyword).length+(if([]:List Keyword).isEmpty then 0 else 1)<30))=true:=by rfl)
  (rf:(apos.endLine==cL.line)=true:=by rfl)(hs:starEach (e::es) X.env=(false,eval e X.env)::starEach es X.env:=by rfl)(Zd5:(backTo cL (starEach es X.env)).any (·.1)=false:=by rfl):
  PE X (.Call (.Attribute o name apos) (e::es) [] cL) (wR X.K T r to t):=by
 intro pins s σ H Q I h;refine wpAny_Call_method_late q_ Ic rf rfl (aC (ho pins s σ H _ I h) λv s1 zq=>?_);obtain⟨x,H1,I1,r1,ty,q1⟩:=zq;obtain⟨h1,h2⟩:=QD I1 r1 ty;refine⟨T,id,pa,slot,IM,h1,h2,?_⟩;have hA:=ha cL pins s1 σ H1 _ I1 q1;rw[hs] at hA⊢;exact Calls.callWith_builtin (by show(false||(backTo cL (starEach es X.env)).any (·.1))=false;rw[Zd5]<;>rfl) (Calls.evalArgs_plain (aC hA λus s2 ⟨vs,H2,I2,r2,q2⟩=>hm pins s2 σ H2 x vs v us Q I2 r1 r2 q2))
end
def lR(X:Cx)(id:String)(r:V->List V->Hp->VK->Prop):Prop:=
 ∀(pins:List (Addr×Obj)) (s:Shared) (σ:St) (H:Hp) (x:V) (xs:List V) (v:Value) (us:List Value) (Q:VK),Inv X pins σ H s->RelV x v->Vals xs us->r x xs H Q->
  wpAny (model X.prog X.w) X.A (call (.builtin id) (v::us)) (EP X pins σ Q) X.xe s
theorem Vals.one:∀{x:V} {us:List Value},Vals [x] us->∃u,us=[u]/\RelV x u:=by
 intro x us h;cases h with
 |cons r t=>
  cases t;exact⟨_,rfl,r⟩
theorem Vals.zero:∀{us:List Value},Vals [] us->us=[]
 |_,.nil=>rfl
theorem Vals.eraseIdx:∀{xs:List V} {us:List Value} (i:Nat),Vals xs us->Vals (xs.eraseIdx i) (us.eraseIdx i)
 |_,_,_,.nil=>.nil
 |_,_,0,.cons _ t=>t
 |_,_,i+1,.cons r t=>.cons r (Vals.eraseIdx i t)
theorem Vals.reverse{xs:List V}{us:List Value}(h:Vals xs us):Vals xs.reverse us.reverse:=by
 induction h with
 |nil=>exact .nil
 |cons r t ih=>rw[List.reverse_cons,List.reverse_cons];exact Vals.append ih (.cons r .nil)
theorem ZaN{α:Type}:∀(l:List α) (i:Nat),(l.eraseIdx i).length<=l.length
 |[],_=>Yd _
 |_::_,0=>z9 _
 |_::r,i+1=>Nat.succ_le_succ (ZaN r i)
section
variable {X:Cx}{pins:List (Addr×Obj)}{σ:St}{H:Hp}{s:Shared}{l b:Addr}{xs ys zs:List V}
theorem Inv.wq{ai its':List Value}{n:Nat}{f:Array Value->Array Value}{t':Nat}(I:Inv X pins σ H s)(hH:H l=some (.lst xs))
  (e:s.heap.get? l=some {cls:=.type "list",data:=.seq ai.toArray n})(hf:f ai.toArray=its'.toArray)(hv:Vals ys its')(hz:ys.length<=sizeLine):
  Inv X pins σ (upd H l (.lst ys)) {s with heap:=s.heap.update l (Obj.mapSeq f),toks:=t'}:=by
 have q:=PySem.IsL.update e f;rw[hf] at q;refine I.write (by rw[hH];exact trivial) (.inl rfl) (λb' u hb hu=>(Heap.get?_update_other s.heap (Obj.mapSeq f) (Ne.symm hb)).trans hu) ⟨_,q⟩ ?_;exact⟨hz,its',_,hv,q⟩
theorem Inv.Zf7{ai:List Value}{t':Nat}(I:Inv X pins σ H s)(hv:Vals ys ai)(hz:ys.length<=sizeLine):
  Inv X pins σ (upd H s.heap.objs.size (.lst ys)) {s with heap:=s.heap.push {cls:=.type "list",data:=.seq ai.toArray},toks:=t'}:=
 I.laid (λ_ _ q=>Yb _ q) (Yd _) ⟨hz,ai,0,hv,Ys _ rfl⟩
theorem Inv.fresh(I:Inv X pins σ H s):H s.heap.objs.size=none:=I.ay.fresh (Yd _)
theorem Inv.pQ(I:Inv X pins σ H s)(hH:H l=some (.lst xs)):xs.length<=sizeLine/\∃(ai:List Value) (n:Nat),Vals xs ai/\xs.length=ai.length/\s.heap.get? l=some {cls:=.type "list",data:=.seq ai.toArray n}:=by
 obtain⟨z,ai,n,r,e⟩:=I.ay l _ hH;exact⟨z,ai,n,r,r.length,e⟩
theorem Zbw{n:Nat}(h:n<=sizeLine):Builtin.List.listTooLong n=false:=by
 exact decide_eq_false (by omega)
end
section
variable {X:Cx}
def ZcN:V->List V->Hp->VK->Prop:=λx vs H Q=>∃l xs y,x=.ref l/\vs=[y]/\H l=some (.lst xs)/\xs.length<sizeLine/\Q .aB (upd H l (.lst (xs++[y])))
theorem vB:lR X "list.append" ZcN:=by
 intro pins s σ H x vs v us Q I rx rv h;obtain⟨l,xs,y,rfl,rfl,hH,hz,q⟩:=h;cases rx;obtain⟨u,rfl,ru⟩:=rv.one;obtain⟨z,ai,n,r,hl,e⟩:=I.pQ hH;refine call_meets F.slot_list_append ⟨_,e,rfl⟩ F.entry_list_append (F.args_list_append_2 _ _) (PySem.list_append l ai.toArray n u (by rw[Yr];omega)) ⟨e,?_⟩;refine⟨.aB,_,I.wq (its':=ai++[u]) hH e (by simp) (r.append (.cons ru .nil)) ?_,rfl,q⟩
 grind
def ZcO:V->List V->Hp->VK->Prop:=λx vs H Q=>∃l b xs zs,x=.ref l/\vs=[.ref b]/\H l=some (.lst xs)/\H b=some (.lst zs)/\xs.length+zs.length<=sizeLine/\Q .aB (upd H l (.lst (xs++zs)))
theorem ZaO:lR X "list.extend" ZcO:=by
 rintro pins s σ H x vs v us Q I rx rv ⟨l,b,xs,zs,rfl,rfl,hH,hB,hz,q⟩;cases rx;obtain⟨u,rfl,ru⟩:=rv.one;cases ru;obtain⟨z,ai,n,r,hl,e⟩:=I.pQ hH;obtain⟨z2,eN,n2,r2,mY,e2⟩:=I.pQ hB;have hsz:ai.toArray.size+eN.toArray.size<=sizeLine:=by rw[Yr,Yr];omega
 have Zfm:¬(!ai.toArray.isEmpty&&Builtin.List.listTooLong (ai.toArray.size+eN.toArray.size))=true:=by
  rw[Zbw hsz,Bool.and_false]
  grind
 refine call_meets F.slot_list_extend ⟨_,e,rfl⟩ F.entry_list_extend (F.args_list_extend_2 _ _)
  (AutoSeq1.list_extend_list_list_0 l ai.toArray n b eN.toArray n2 Zfm (by rw[Yr];omega) (by omega)) ⟨e,e2,?_⟩
 refine⟨.aB,_,I.wq hH e (by simp) (r.append r2) ?_,rfl,q⟩
 grind
def Zd6:V->List V->Hp->VK->Prop:=λx vs H Q=>∃l xs i k y,x=.ref l/\vs=[.int i]/\H l=some (.lst xs)/\-(2^63)<=i/\i<2^63/\seqIndex? i xs.length=some k/\xs[k]?=some y/\Q y (upd H l (.lst (xs.eraseIdx k)))
theorem Zbx:lR X "list.pop" Zd6:=by
 rintro pins s σ H x vs v us Q I rx rv ⟨l,xs,i,k,y,rfl,rfl,hH,h1,h2,hk,hy,q⟩;cases rx;obtain⟨u,rfl,ru⟩:=rv.one;obtain⟨t,rfl⟩:=ru;obtain⟨z,ai,n,r,hl,e⟩:=I.pQ hH;obtain⟨w,hw,fM⟩:=r.get hy;refine call_meets F.slot_list_pop ⟨_,e,rfl⟩ F.entry_list_pop (F.args_list_pop_2 _ _)
  (MeetsSeq.list_pop_at l ai.toArray n i t k w (fitsIndex_both h1 h2) (by rw[Yr,←hl];exact hk) (by rw[←Jh];exact hw) (by rw[Yr];omega)) ⟨e,?_⟩
 refine⟨y,_,I.wq hH e ?_ (r.eraseIdx k) ?_,fM,q⟩;·grind
 ·grind
def Zby:V->List V->Hp->VK->Prop:=λx vs H Q=>∃l xs,x=.ref l/\vs=[]/\H l=some (.lst xs)/\Q .aB (upd H l (.lst xs.reverse))
theorem ZU:lR X "list.reverse" Zby:=by
 rintro pins s σ H x vs v us Q I rx rv ⟨l,xs,rfl,rfl,hH,q⟩;cases rx;have IP:=rv.zero;subst IP;obtain⟨z,ai,n,r,hl,e⟩:=I.pQ hH;refine call_meets F.slot_list_reverse ⟨_,e,rfl⟩ F.entry_list_reverse (F.args_list_reverse_1 _) (AutoSeq1.list_reverse_list_0 l ai.toArray n (by rw[Yr];omega)) ⟨e,⟨.aB,_,I.wq hH e (by simp) r.reverse ?_,rfl,q⟩⟩
 grind
def Zd7:V->List V->Hp->VK->Prop:=λx vs H Q=>∃l xs,x=.ref l/\vs=[]/\H l=some (.lst xs)/\Q .aB (upd H l (.lst []))
theorem Zbz:lR X "list.clear" Zd7:=by
 rintro pins s σ H x vs v us Q I rx rv ⟨l,xs,rfl,rfl,hH,q⟩;cases rx;have IP:=rv.zero;subst IP;obtain⟨z,ai,n,r,hl,e⟩:=I.pQ hH;exact call_meets F.slot_list_clear ⟨_,e,rfl⟩ F.entry_list_clear (F.args_list_clear_1 _) (AutoSeq1.list_clear_list_0 l ai.toArray n (by rw[Yr];omega)) ⟨e,⟨.aB,_,I.wq hH e rfl .nil (Yv _),rfl,q⟩⟩
def Zf8:R2:=λx y H Q=>∃l b xs zs,x=.ref l/\y=.ref b/\H l=some (.lst xs)/\H b=some (.lst zs)/\xs.length+zs.length<=sizeLine/\∀p,H p=none->Q (.ref p) (upd H p (.lst (xs++zs)))
theorem Zd8:cE X (binaryOp .Add) Zf8:=by
 rintro pins s σ H x y v u Q I rx ry ⟨l,b,xs,zs,rfl,rfl,hH,hB,hz,q⟩;cases rx;cases ry;obtain⟨z,ai,n,r,hl,e⟩:=I.pQ hH;obtain⟨z2,eN,n2,r2,mY,e2⟩:=I.pQ hB;refine PySem.P.add_list e e2 ?_ (by rw[Yr,Yr];omega);have ea:ai.toArray++eN.toArray=(ai++eN).toArray:=by simp
 rw[ea];exact⟨.ref _,_,I.Zf7 (r.append r2) (by rw[Yj];omega),rfl,q _ I.fresh⟩
end
section
variable {prog:Program}{w:World}{A:Around}{E:Value->Shared->Prop}{s:Shared}
set_option maxRecDepth 100000 in
end
section
variable {X:Cx}
end
end L2
namespace T_
open PySem PySem.W PySem.Calls PyProof.Rows
theorem Xa{P:Params}{h:Heap}:∀(ns:List Int) (vs:List Value),WellAll P h vs (ns.map WData.int)->IntsAre vs ns:=by
 intro ns;induction ns with
 |nil=>
  intro vs w;cases w;exact .nil
 |cons n ns ih=>
  intro vs w;cases w with
  |cons a b=>
   cases a;exact .cons _ _ (ih _ b)
theorem ZaP{l:OpenLaw}{n:Nat}(hn:l.most=some n){P:Params}{h:Heap}{args:List WData}{vals:List Value}
  (zJ:l.row.toRowW.claim.pre args=true)(wU:WellAll P h vals args):
  ∃a vs ns,vals=[Value.ref a]/\args=[WData.list (ns.map WData.int)]/\h.get? a=some {cls:=.type "list",data:=.seq vs.toArray}/\IntsAre vs ns/\ns.length<=n:=by
 obtain⟨d,r,rfl,h1,h2⟩:=hasAllW_cons ((pre_splitW zJ).1);obtain rfl:=hasAllW_nil h2;obtain⟨xs,rfl,h3⟩:=hasW_list h1;obtain⟨ns,rfl⟩:=items_int h3;have hlen:ns.length<=n:=by
  have h4:(WTm.not (.lt (.lit (.int (n:Int))) (.len (.arg 0)))).holds [] {args:=[.list (ns.map .int)]}=true:=by
   have h4:=(holds_andW ((pre_splitW zJ).2)).1;rw[hn] at h4;exact h4
  have h5:=condW_of h4 (w_not (w_lt w_lit (w_len_list (w_arg rfl))))
  grind
 cases wU with
 |cons w1 w2=>
  cases w2;cases w1 with
  |list ho Ie=>exact⟨_,_,ns,rfl,rfl,ho,Xa ns _ Ie,hlen⟩
theorem ZaQ(l:OpenLaw)(args:List WData):l.row.toRowW.claim.post args (.bool true) args=true:=
 postW_of (X:=(true==true))
  (show WShape.has [] (.bool true) .bool=true by first|rfl|decide|simp[WShape.has])
  (show(WTm.eq .res (.lit (.bool true))).value [] {args:=args,res:=some (.bool true),after:=args}=some (.bool (true==true)) from w_eq_bool (w_res rfl) w_lit) rfl
theorem Za{l:OpenLaw}{n:Nat}{q:Program}{loose:List Str}{XP:(Str->Option Value)->Heap->Prop}{YP:World->Heap->Prop}{d:DefRec}
  (hn:l.most=some n)(wV:d.params.defaults=[])
  (call:∀(w:World) (c5 bK:Shared) (mg mb:Str->Option Value) (fa:Addr) (o:Obj) (pm cd doc:Value) (a:Addr) (vs:List Value) (ns:List Int),
   Ground q loose [] XP w c5 mg mb bK.heap->YP w bK.heap->
   bK.heap.get? fa=some o->o.data=.func (docDef d.name d.params d.body d.scope pm cd doc)->bK.heap.CodeRec cd d.name->mg d.name=some (.ref fa)->
   bK.heap.get? a=some {cls:=.type "list",data:=.seq vs.toArray}->IntsAre vs ns->ns.length<=n->bK.gens=#[]->
   codeAny (model l.prog w) callerA (.call (.ref fa) ⟨[.ref a],[]⟩) (λr s'=>r=.ok (.ret (.bool true))/\OldK bK.heap s'.heap/\s'.os=bK.os/\AllBare s'.gens) bK):
  WalkO q loose XP YP l.row.toRowW d [] (λf vs=>PySem.call f vs):=by
 intro w c5 bK mg mb G Y fa o pm cd doc dV kV ho hd jD hD wW hg args vals as zJ Zhu hrd wU hlo;obtain rfl:dV=.none:=Dflts.none hD wV;obtain rfl:kV=.none:=Dflts.noKw hD;obtain⟨a,vs,ns,rfl,rfl,Ig,hints,hlen⟩:=ZaP hn zJ wU;refine enter_call (codeAny_mono (call w c5 bK mg mb fa o pm cd doc a vs ns G Y ho (fd_plain hd) jD wW Ig hints hlen hg) λr s' hq=>?_);obtain⟨rfl,h2,h3,h4⟩:=hq;exact⟨.inl ⟨.bool true,.bool true,[],rfl,λ_=>rfl,.bool true,ZaQ l _,λ_=>⟨List.Pairwise.nil,λ_ hm=>(nomatch hm)⟩⟩,h2,h3,h4⟩
section
variable {prog:Program}{w:World}{A:Around}{E:Value->Shared->Prop}{s:Shared}{K:Frag}
end
end T_
namespace L2
open PySem PySem.Spec PyProof.Rows
theorem EL:∀{vs:List Value} {ns:List Int},IntsAre vs ns->Vals (ns.map V.int) vs:=by
 intro vs ns h;induction h with
 |nil=>exact .nil
 |cons n t h ih=>exact .cons ⟨t,rfl⟩ ih
def Ih(H:Hp):Prop:=∀b,H b=none\/∃o xs,H b=some (.cC o (.lst xs))
theorem ZbA{P:Program}{w:World}{K:PySem.W.Frag}{mg mb:Str->Option Value}{CX:jF}{k:Nat}{fa a:Addr}{fd:FuncData}{x:Str}{sp:Sp}{bK:Shared}{vs:List Value}{ns:List Int}
  (KX:K.In bK.heap)(Ua:bK.heap.Ns mainGlobals mg)(hb:bK.heap.Ns builtinsNs mb)(hbb:∀x:Str,x≠"__name__"->mb x=bootBuiltins x)(Zf9:bK.heap.NoLimit)(hg:bK.gens=#[])
  (ha:bK.heap.get? a=some {cls:=.type "list",data:=.seq vs.toArray})(hi:IntsAre vs ns)(hl:ns.length<=sizeLine)(hr:dk k callerA)
  (F:∀base:Heap,K.In base->base.Ns mainGlobals mg->aK P w K mg base CX k fa fd [x] sp)(Zfn:∀(s:Shared) (u:Value),BindsTo s fd ⟨[u],[]⟩ [(x,u)])
  (mX:∀H:Hp,Ih H->ak K H a (ns.map V.int)->sp [.ref a] H (λv _=>v=.bl true) λ_ _ _=>False)
  (IQ:∀H e s',CX [] H bK (λ_ _ _=>False) e s'->False):
  codeAny (model P w) callerA (.call (.ref fa) ⟨[.ref a],[]⟩) (λr s'=>r=.ok (.ret (.bool true))/\OldK bK.heap s'.heap/\s'.os=bK.os/\AllBare s'.gens) bK:=by
 have rv:=EL hi;have Zf_:=hi.length
 --from an abstract heap in Zhl nothing but ot Qo may be tracked
 have core:∀H:Hp,Ih H->ak K H a (ns.map V.int)->dq P w H bK.heap->(∀b,H b≠none->b=a)->(H a≠none->K.lookup a=none)->
   codeAny (model P w) callerA (.call (.ref fa) ⟨[.ref a],[]⟩) (λr s'=>r=.ok (.ret (.bool true))/\OldK bK.heap s'.heap/\s'.os=bK.os/\AllBare s'.gens) bK:=by
  intro H hO hS ay hA hK;have O5:∀{b:Addr} {o:Obj},bK.heap.get? b=some o->H b=none->(oj bK.heap H).get? b=some o:=λe n=>Zbn e n;have wM:∀{b:Addr} {o:Obj} {es:Array DictEntry} {ep:Nat},bK.heap.get? b=some o->o.data=.dict es ep->H b=none:=λ{b o es ep} e d=>by
   cases q:H b with
   |none=>rfl
   |some u=>
    have e':b=a:=hA b (by rw[q];simp);subst e';rw[ha] at e;cases e;have d':Data.seq vs.toArray _=Data.dict es ep:=d;cases d'
  have Aa:∀{b:Addr} {m:Str->Option Value},bK.heap.Ns b m->(oj bK.heap H).Ns b m:=λ{b m} ⟨o,es,ep,e,d,r⟩=>⟨o,es,ep,O5 e (wM e d),d,r⟩;have Ub:K.In (oj bK.heap H):=λb o e=>O5 (KX b o e) (by
   cases q:H b with
   |none=>rfl
   |some u=>
    have e':b=a:=hA b (by rw[q];simp);subst e';rw[hK (by rw[q];simp)] at e;cases e)
  have hM:Mod K mg (oj bK.heap H):=⟨Ub,Aa Ua,⟨mb,Aa hb,hbb⟩,let⟨mc,h1,h2⟩:=Zf9;⟨mc,Aa h1,h2⟩⟩;have e0:rF P w K mg (oj bK.heap H) callerA [] bK H:=⟨rfl,hM,λb o e=>ZcA e,Nat.le_of_eq (ZaE _ _),trivial,λb hb=>absurd (show b∈([]:List Addr) from hb) (by simp),ay,.of_eq hg⟩;refine codeAny_mono ((F _ Ub (Aa Ua)).run callerA [] bK H ⟨[.ref a],[]⟩ [.ref a] [.ref a] _ _ hr e0 (Zfn bK (.ref a)) (.cons rfl .nil) (mX H hO hS)) λr s' h=>?_;cases r with
  |error e=>exact(IQ H e s' h).elim
  |ok fl=>
   cases fl with
   |next=>exact False.elim h
   |brk=>exact False.elim h
   |cont=>exact False.elim h
   |ret u=>
    obtain⟨v,H',os,bare,un,Zga,r',q⟩:=h;have q':v=.bl true:=q;subst q';obtain rfl:u=Value.bool true:=r';refine⟨rfl,OldK.of_keep λb o e=>?_,os,bare⟩;cases q:H b with
    |none=>exact un.keep b o e q (by intro z;exact absurd (show b∈([]:List Addr) from z) (by simp)) (by simp)
    |some u=>
     rcases hO b with z|⟨ob,xs,z⟩;·rw[q] at z;cases z
     ·have z2:=un.lI b ob _ z;obtain⟨e1,_⟩:=ay b _ z;obtain⟨e2,_⟩:=Zga b _ z2;rw[e] at e1;cases e1;exact e2
 cases hk:K.lookup a with
 |some o=>
  --ot Qo is one of ot Zhf own objects
  have e:=KX a o hk;rw[ha] at e;cases e;refine core (λ_=>none) (λ_=>.inl rfl) (.inr ⟨_,vs.toArray,_,hk,rfl,rfl,rfl,by rw[Yr,Zf_];exact hl,by simpa using rv⟩) (λb u z=>by have z':(none:Option HO)=some u:=z;cases z') (λb z=>absurd rfl z) λz=>absurd rfl z
 |none=>
  refine core (λb=>if b=a then some (.cC {cls:=.type "list",data:=.seq vs.toArray} (.lst (ns.map V.int))) else none) (λb=>?_) (.inl (.inr ⟨{cls:=.type "list",data:=.seq vs.toArray},if_pos rfl⟩)) (λb u z=>?_) (λb z=>?_) λ_=>hk
  ·by_cases hb:b=a;·exact .inr ⟨_,_,if_pos hb⟩
   ·exact .inl (if_neg hb)
  ·by_cases hb:b=a
   ·have z':=(if_pos hb).symm.trans z;cases z';subst hb;exact⟨ha,by rw[Ya];exact hl,vs,_,rv,ha⟩
   ·have z':=(if_neg hb).symm.trans z;cases z'
  ·by_cases hb:b=a;·exact hb
   ·exact absurd (if_neg hb) z
theorem ZcP{l:PySem.W.OpenLaw}{n k:Nat}{q:Program}{loose:List Str}{XP:(Str->Option Value)->Heap->Prop}{YP:World->Heap->Prop}{d:DefRec}{K:Params->PySem.W.Frag}{CX:World->jF}{sp:World->Sp}{x:Str}
  (hn:l.most=some n)(eP:n<=sizeLine)(wV:d.params.defaults=[])(hr:dk k callerA)
  (hY:∀(w:World) (h:Heap),YP w h->(K w.params).In h)
  (F:∀(w:World) (mg:Str->Option Value) (fa:Addr) (h:Heap),(K w.params).In h->h.Ns mainGlobals mg->mg d.name=some (.ref fa)->
   ∃fd:FuncData,(∀(s:Shared) (u:Value),BindsTo s fd ⟨[u],[]⟩ [(x,u)])/\
    ∀base:Heap,(K w.params).In base->base.Ns mainGlobals mg->aK l.prog w (K w.params) mg base (CX w) k fa fd [x] (sp w))
  (mX:∀(w:World) (H:Hp) (a:Addr) (ns:List Int),ns.length<=n->Ih H->ak (K w.params) H a (ns.map V.int)->sp w [.ref a] H (λv _=>v=.bl true) λ_ _ _=>False)
  (IQ:∀(w:World) (H:Hp) (s:Shared) (e:Value) (s':Shared),CX w [] H s (λ_ _ _=>False) e s'->False):
  PySem.W.WalkO q loose XP YP l.row.toRowW d [] (λf vs=>PySem.call f vs):=by
 refine T_.Za hn wV λw c5 bK mg mb fa o pm cd doc a vs ns G Y ho hd jD wW Ig hints hlen hg=>?_;have KX:=hY w _ Y;obtain⟨fd,hb,hF⟩:=F w mg fa _ KX G.T.g wW;exact ZbA KX G.T.g G.T.b G.T.builtins G.T.nolimit hg Ig hints (Y3 hlen eP) hr hF hb (λH hO hS=>mX w H a ns hlen hO hS) λH e s'=>IQ w H bK e s'
def inClass(s:Stmt)(j:Nat):Stmt:=match s with
 |.ClassDef _ _ _ body _ _ _ _ _ _ _=>body.getD j (.Pass ⟨0,0,0,0⟩)
 |_=>.Pass ⟨0,0,0,0⟩
def nQ(s:Stmt):Arguments:=match s with
 |.FunctionDef _ a _ _ _ _ _ _ _ _=>a
 |_=>{posonlyargs:=[],args:=[],vararg:=none,kwonlyargs:=[],kw_defaults:=[],kwarg:=none,defaults:=[]}
def k9(s:Stmt):List Stmt:=match s with
 |.FunctionDef _ _ b _ _ _ _ _ _ _=>b
 |_=>[]
def aM(s:Stmt):Scope:=match s with
 |.FunctionDef _ _ _ _ _ _ sc _ _ _=>sc
 |_=>{kind:=.function,names:=[],isGenerator:=false,isCoroutine:=false}
abbrev aP:jF:=λ_ _ _ _ _ _=>False
abbrev E0:XK:=λ_ _ _=>False
theorem zy{X:Cx}:Passes aP X E0:=λ_ _ _ _ _ _ _ h=>h.elim
structure aN(K:PySem.W.Frag)(x qual:Str)(st:Stmt)(f:Addr)(fd:FuncData):Prop where
 ex:∃(oc:Value) (od:Option Addr) (kV doc pm:Value) (an:Option Addr) (aF ct:Value) (oA:Array (Option Value)),
  fd=fnOf x qual (nQ st) (k9 st) (aM st) .none kV doc pm an aF ct/\K.lookup f=some ⟨oc,od,.func fd,oA⟩/\codeIn K aF qual=true
 kp:keepIn K (.ref f)=true
section
variable {P:Program}{w:World}{K:PySem.W.Frag}{mg:Str->Option Value}{base:Heap}
theorem aN.ok{x qual:Str}{st:Stmt}{f:Addr}{fd:FuncData}{N ps:List Str}{k:Nat}{sp:Sp}(F:aN K x qual st f fd)(S:aU N ps (aM st))(len:∀vs H Q E,sp vs H Q E->vs.length=ps.length)
  (v8:∀(aF:Value) (A:Around) (outer:List Env) (s:Shared) (H:Hp) (vs:List V) (Q:VK) (E:XK),dk k (A.deeper (envOfC qual (aM st) s.heap.objs.size f aF))->sp vs H Q E->
   ∃t,gX (mQ aP P w K mg base N qual (aM st) f aF A outer s H E).z6 (k9 st) t/\t {nx:=λ_ H'=>Q .aB H',rt:=Q} (start N vs) H):aK P w K mg base aP (k+1) f fd ps sp:=by
 obtain⟨oc,od,kV,doc,pm,an,aF,ct,oA,rfl,lk,jD⟩:=F.ex;refine RX lk jD S len λA outer s H vs Q E hr mX=>?_;obtain⟨t,h,q⟩:=v8 aF A outer s H vs Q E hr mX;exact⟨t,h.z6,q⟩
theorem aN.binds{x qual:Str}{st:Stmt}{f:Addr}{fd:FuncData}{ps:List Str}(F:aN K x qual st f fd)
  (h:∀(kV doc pm:Value) (an:Option Addr) (aF ct:Value) (us:List Value),us.length=ps.length->bindArgs (fnOf x qual (nQ st) (k9 st) (aM st) .none kV doc pm an aF ct) ⟨us,[]⟩=pure (ps.zip us)):Binds K fd ps []:=by
 obtain⟨oc,od,kV,doc,pm,an,aF,ct,oA,rfl,lk,jD⟩:=F.ex;exact .all (h kV doc pm an aF ct)
theorem vR{x qual:Str}{st:Stmt}{f:Addr}{oc:Value}{od an:Option Addr}{oA:Array (Option Value)}{kV doc pm aF ct:Value}(l:K.lookup f=some ⟨oc,od,.func (fnOf x qual (nQ st) (k9 st) (aM st) .none kV doc pm an aF ct),oA⟩)
  (c:codeIn K aF qual=true)(k:keepIn K (.ref f)=true):aN K x qual st f (fnOf x qual (nQ st) (k9 st) (aM st) .none kV doc pm an aF ct):=⟨⟨oc,od,kV,doc,pm,an,aF,ct,oA,rfl,l,c⟩,k⟩
end
theorem bH{A:Around}{k:Nat}(hr:dk k A):A.units+1<cLine:=Wy (Nat.add_le_add_left (by decide:1<=64) _) hr.units
theorem jo{n:Nat}(h:n<=1000):n<sizeLine:=Wy h (by decide)
section
variable {X:Cx}
theorem pv(i:Nat){x:Str}{pos:Pos}(hN:X.N[i]?=some x:=by rfl)(hv:wG X.env.scope x:=by first|exact Or.inl rfl|exact Or.inr (Or.inl rfl)|exact Or.inr (Or.inr rfl))(hd:(x==("__debug__":Str))=false:=by decide)
  (jD:(x==("__classdict__":Str))=false:=by decide):PE X (.Name x pos) (eW i):=ZdT hN hv hd jD
end
theorem cj{A B:Prop}(h:B):if false=true then A else B:=by
 grind
theorem c6{A B:Prop}(h:A):if true=true then A else B:=by
 grind
theorem bI{c A B:Prop}[Decidable c](h1:c->A)(h2:¬c->B):if c then A else B:=by
 grind
theorem t8{c A B:Prop}[Decidable c](hc:c)(h:B):if(!decide c)=true then A else B:=by
 grind
def aj(H H':Hp):Prop:=∀b o,H b=some o->H' b=some o
theorem aj.refl(H:Hp):aj H H:=λ_ _ h=>h
theorem aj.trans{H H1 H2:Hp}(a:aj H H1)(b:aj H1 H2):aj H H2:=λc o h=>b c o (a c o h)
theorem aj.free{H H':Hp}(e:aj H H'){l:Addr}(h:H' l=Option.none):H l=Option.none:=by
 cases q:H l with
 |none=>rfl
 |some o=>
  rw[e l o q] at h;cases h
theorem aj.seq{K:PySem.W.Frag}{H H':Hp}{a:Addr}{xs:List V}(e:aj H H')(h:ak K H a xs):ak K H' a xs:=by
 rcases h with(h|⟨o,h⟩)|h;·exact .inl (.inl (e _ _ h))
 ·exact .inl (.inr ⟨o,e _ _ h⟩)
 ·exact .inr h
def tN(cells:List (Str×Addr)):List (Str×Addr)->Prop
 |[]=>True
 |p::r=>cells.lookup p.1=some p.2/\tN cells r
theorem tN.look:∀{cl:List (Str×Addr)},tN cells cl->∀(x:Str) (c:Addr),cl.lookup x=some c->cells.lookup x=some c
 |[],_,x,c,h=>by simp at h
 |(n,a)::r,hh,x,c,h=>by
  rw[W0] at h;cases e:x==n with
  |true=>
   rw[e] at h;rw[(eq_of_beq e),←(Yo h)];exact hh.1
  |false=>
   rw[e] at h;exact tN.look hh.2 x c h
theorem C3{env:Env}:∀{names:List (Str×NameKind)} {x:Str} {k:NameKind},
  (names.map λ(n,k)=>if(k==NameKind.free&&env.scope.kind==.function&&env.kindOf n==some .cell) then(n,NameKind.cell) else(n,k)).lookup x=some k->
  ∃k0,(x,k0)∈names/\(k=k0\/k0=.free)
 |[],_,_,h=>by simp at h
 |(n,k0)::r,x,k,h=>by
  have h:List.lookup x ((if(k0==NameKind.free&&env.scope.kind==.function&&env.kindOf n==some .cell)=true then(n,NameKind.cell) else(n,k0))::(r.map λ(n,k)=>if(k==NameKind.free&&env.scope.kind==.function&&env.kindOf n==some .cell) then(n,NameKind.cell) else(n,k)))=some k:=h;by_cases hc:(k0==NameKind.free&&env.scope.kind==.function&&env.kindOf n==some .cell)=true
  ·rw[if_pos hc,W0] at h;cases e:x==n with
   |true=>grind
   |false=>
    rw[e] at h;obtain⟨k1,m,q⟩:=C3 h
    grind
  ·rw[if_neg hc,W0] at h;cases e:x==n with
   |true=>grind
   |false=>
    rw[e] at h;obtain⟨k1,m,q⟩:=C3 h
    grind
structure QF(X:Cx)(scope:Scope)(cl:List (Str×Addr))(y:Str)(j:Nat):Prop where
 ix:X.N[j]?=some y
 out:X.env.kindOf y=some .cell\/X.env.kindOf y=some .free
 rU:(relabel scope X.env).names.lookup y=some .cell\/(relabel scope X.env).names.lookup y=some .free
 cl:(cl.lookup y).isSome=true
def tO(X:Cx)(scope:Scope)(cl:List (Str×Addr)):List (Str×Nat)->Prop
 |[]=>True
 |p::r=>QF X scope cl p.1 p.2/\tO X scope cl r
theorem tO.get:∀{fr:List (Str×Nat)} {k:Nat} {p:Str×Nat},tO X scope cl fr->fr[k]?=some p->QF X scope cl p.1 p.2
 |[],k,p,_,h=>by simp at h
 |q::r,0,p,hh,h=>by
  have e:q=p:=by simpa using h
  rw[←e];exact hh.1
 |q::r,k+1,p,hh,h=>tO.get hh.2 (by simpa using h)
structure EM(X:Cx)(scope:Scope)(cl:List (Str×Addr))(x:Str)(fr:List (Str×Nat)):Prop where
 uf:closureFor scope X.env=pure cl
 sub:tN X.env.cells cl
 kind:scope.kind=.function
 names:∀y∈scope.names,y.2=.local->scope.names.lookup y.1=some .local
 lx:scope.names.lookup x=some .local
 v9:∀y∈scope.names,y.2≠.cell
 has:(scope.names.all λy=>!(y.2==.free)||(cl.lookup y.1).isSome)=true
 ik:tO X scope cl fr
 nd:(x::fr.map (·.1)).Nodup
def fZ(σ:St)(fr:List (Str×Nat)):St:=fr.map λp=>(σ[p.2]?).join
structure vv(X:Cx)(scope:Scope)(cl:List (Str×Addr))(xs:List Str)(fr:List (Str×Nat)):Prop where
 uf:closureFor scope X.env=pure cl
 sub:tN X.env.cells cl
 kind:scope.kind=.function
 names:∀y∈scope.names,y.2=.local->scope.names.lookup y.1=some .local
 v9:∀y∈scope.names,y.2≠.cell
 has:(scope.names.all λy=>!(y.2==.free)||(cl.lookup y.1).isSome)=true
 ik:tO X scope cl fr
 nd:(xs++fr.map (·.1)).Nodup
def cS(X:Cx)(xs:List Str)(fr:List (Str×Nat))(scope:Scope)(cl:List (Str×Addr))(C:Addr)(s:Shared)(H:Hp)(fp:List Addr):Cx where
 prog:=X.prog
 w:=X.w
 K:=X.K
 mg:=X.mg
 base:=X.base
 A:=X.A
 N:=xs++fr.map (·.1)
 c5:=s
 kK:=H
 env:=compEnvC scope cl C X.env
 outer:=X.stack
 stack:=X.stack
 ex:=fp
 fn:=λ_=>false
 calm:=X.calm
 pn:=[]
 xe:=λ_ _=>False
section
variable {X:Cx}{scope:Scope}{cl:List (Str×Addr)}{xs:List Str}{fr:List (Str×Nat)}{pins:List (Addr×Obj)}{σ:St}{H:Hp}{s:Shared}
theorem MX(S:vv X scope cl xs fr)(I:Inv X pins σ H s)(hC:C=s.heap.objs.size)(hf:∀b∈fp,ig X pins H b)(bN:∀b∈fp,b<s.heap.objs.size)
  (old:∀b o,s.heap.get? b=some o->eA.get? b=some o)(hn:eA.Ns C m):Inv (cS X xs fr scope cl C s H fp) [] (List.replicate xs.length none++fZ σ fr) H {s with heap:=eA,toks:=tk}:=by
 have look:=S.sub.look;refine⟨⟨I.ok.mod,S.kind,I.ok.glob,I.ok.blt,by show s.heap.objs.size<=C;rw[hC];exact Yd _,λy z c h1 h2=>I.ok.inj y z c (look y c h1) (look z c h2),λy hy=>?_,λy c h=>?_,I.ok.hd,I.ok.frames,.inl rfl,λb hb=>⟨?_,λy c h=>?_⟩,
   I.bs,Y3 I.ok.ou I.sz,λb o e hb=>?_,λb hb hb2=>?_,I.stack,I.OT⟩,
  rfl,I.bare,Un.kept old,⟨m,hn,λi y v h1 h2 h3=>?_⟩,λy c h=>?_,?_,λy c h=>I.kG y c (look y c h),λp hp=>absurd (show p∈([]:List (Addr×Obj)) from hp) (by simp),I.ay.kept old,?_⟩
 ·have hy:(relabel scope X.env).names.lookup y=some .cell\/(relabel scope X.env).names.lookup y=some .free:=hy;have fin:∀{k:NameKind},(relabel scope X.env).names.lookup y=some k->(k=.cell\/k=.free)->∃c,cl.lookup y=some c:=λ{k} e hk=>by
   obtain⟨k0,hm,q⟩:=C3 (env:=X.env) e;have hk0:k0=.free:=by
    rcases q with q|q
    ·rcases hk with z|z;·exact absurd (q.symm.trans z) (S.v9 _ hm)
     ·exact q.symm.trans z
    ·exact q
   have hq:=Wm.mp S.has _ hm;rw[hk0] at hq;exact Ja.mp (by simpa using hq)
  rcases hy with e|e;·exact fin e (.inl rfl)
  ·exact fin e (.inr rfl)
 ·exact absurd (show false=true from h) Yi
 ·show b≠C;exact λz=>absurd (bN b hb) (by rw[show b=C from z,hC];exact Y7 _)
 ·exact(hf b hb).2.2.2.2.1 y c (look y c h)
 ·obtain⟨_,_,_,z,_⟩:=hf b hb;rcases z with z|z;·exact I.ok.wg b o e z
  ·have h1:=Yw e;have h2:=I.ok.ou;exact absurd (Y1 h1 (Y3 h2 z)) (Y7 _)
 ·have z:=I.Gs b hb2;rcases Ym.mp z with z|z;·exact(hf b hb).2.1 z
  ·exact(hf b hb).2.2.1 z
 ·by_cases hi:i<xs.length;·grind
  ·have h1:(xs++fr.map (·.1))[i]?=some y:=h1;rw[Jl (Nat.le_of_not_lt hi)] at h1;rw[Jl (by rw[Wx];exact Nat.le_of_not_lt hi),Wx] at h2;generalize i-xs.length=k at h1 h2;have h2:(fr.map λp=>(σ[p.2]?).join)[k]?=some (some v):=h2;rw[Yf] at h1 h2;cases e:fr[k]? with
   |none=>rw[e] at h1;cases h1
   |some p=>
    rw[e] at h1 h2;have e1:p.1=y:=Yo h1;have e2:(σ[p.2]?).join=some v:=Yo h2;have F:=S.ik.get e;rw[e1] at F;have e3:σ[p.2]?=some (some v):=by
     cases q:σ[p.2]? with
     |none=>rw[q] at e2;cases e2
     |some o=>grind
    obtain⟨m0,_,hl⟩:=I.loc;have IJ:wG X.env.scope y:=by
     rcases F.out with z|z;·exact .inr (.inl z)
     ·exact .inr (.inr z)
    obtain⟨u,r,l⟩:=hl p.2 y v F.ix e3 IJ;refine⟨u,r,.inr ⟨F.rU,?_⟩⟩;obtain⟨c,hc⟩:=Ja.mp F.cl;refine⟨c,hc,?_⟩;rcases l with⟨k1,_⟩|⟨_,c',e',z⟩
    ·rcases F.out with q|q;·rw[q] at k1;cases k1
     ·rw[q] at k1;cases k1
    ·have e4:=look y c hc;rw[e'] at e4;cases e4;obtain⟨o,ho,hd⟩:=z;exact⟨o,old _ _ ho,hd⟩
 ·obtain⟨v,o,ho,hd⟩:=I.cell y c (look y c h);exact⟨v,o,old _ _ ho,hd⟩
 ·show H C=none;rw[hC];exact I.ay.fresh (Yd _)
 ·show(List.replicate xs.length none++fZ σ fr).length=(xs++fr.map (·.1)).length;simp[fZ]
end
abbrev tV(X:Cx)(x:Str)(fr:List (Str×Nat))(scope:Scope)(cl:List (Str×Addr))(C:Addr)(s:Shared)(H:Hp)(fp:List Addr):Cx:=cS X [x] fr scope cl C s H fp
section
variable {prog:Program}{w:World}{A:Around}{R:Result->Shared->Prop}{s:Shared}
theorem WD(I:Nat->Shared->Prop)
  (turn:∀n s,I n s->wpAny (model prog w) A (pyNext it) (λr bK=>match r with
   |none=>R (.ok .next) bK
   |some v=>wpAny (model prog w) A (letOwnedTupleGo target it v) (λ_ c5=>wpAny (model prog w) A (assign target env v) (λ_ dU=>
     wpAny (model prog w) A (forIn ifs true λc r=>if r=true then do let ok←isTrue c env (eval c env);pure (ForInStep.yield ok) else pure (ForInStep.yield r)) (λok dQ=>
      if ok=true then wpAny (model prog w) A (eval elt env) (λx i6=>
       wpAny (model prog w) A (call (.builtin "list.append") [acc,x]) (λ_ lK=>∃m,m<n/\I m lK) (notedBy (model prog w) A env λe s'=>R (.error e) s') i6) (notedBy (model prog w) A env λe s'=>R (.error e) s') dQ
      else ∃m,m<n/\I m dQ) (notedBy (model prog w) A env λe s'=>R (.error e) s') dU) (notedBy (model prog w) A env λe s'=>R (.error e) s') c5) (notedBy (model prog w) A env λe s'=>R (.error e) s') bK) (notedBy (model prog w) A env λe s'=>R (.error e) s') s)
  (n:Nat)(h:I n s):codeAny (model prog w) A (.compLoop (.ListComp elt [⟨target,iter,ifs,0⟩] scope pos) 0 it acc env) R s:=by
 refine codeAny_loop rfl I (λn s hI=>wpAny_noted (wpAny_bind (wpAny_standAt (wpAny_bind (wpAny_mono (turn n s hI) (λr bK eA=>?_) λ_ _ h'=>h'))))) n h;cases r with
 |none=>exact wpAny_pure eA
 |some v=>
  refine wpAny_bind (wpAny_mono eA (λ_ c5 h₀=>wpAny_bind (wpAny_mono h₀ (λ_ dU oq=>wpAny_bind (wpAny_mono oq (λok dQ ug=>?_) λ_ _ h'=>h')) λ_ _ h'=>h')) λ_ _ h'=>h');cases ok with
  |false=>exact wpAny_pure ⟨rfl,ug⟩
  |true=>
   exact wpAny_bind (wpAny_bind (wpAny_mono ug (λx i6 wu=>wpAny_bind (wpAny_mono wu (λ_ lK wx=>wpAny_pure (wpAny_pure ⟨rfl,wx⟩)) λ_ _ h'=>h')) λ_ _ h'=>h'))
end
def rV(X:Cx)(ifs:List Expr)(t:TT):Prop:=
 ∀(pins:List (Addr×Obj)) (s:Shared) (σ:St) (H:Hp) (Q:Bool->Hp->Prop),Inv X pins σ H s->t σ H Q->
  wpAny (model X.prog X.w) X.A (forIn ifs true λc r=>if r=true then do let ok←isTrue c X.env (eval c X.env);pure (ForInStep.yield ok) else pure (ForInStep.yield r)) (TP X pins σ Q) X.xe s
def zK:TT:=λ_ H Q=>Q true H
theorem ku:rV X [] zK:=λ_ _ _ H _ I h=>wpAny_tests_nil ⟨H,I,h⟩
theorem vJ(h:PT X c t):rV X [c] t:=λpins s σ H Q I hw=>wpAny_tests_one (h pins s σ H Q I hw)
def Gy(n:Nat)(J:It)(tg:TG)(tt:TT)(te:TE)(fv:St)(D:Addr)(H:Hp)(Q:VK):Prop:=
 ∃W:Nat->Nat->List V->Hp->Prop,(∃m,W 0 m [] (upd H D (.lst [])))/\∀i m ys H,W i m ys H->
  (J.stop i H/\Q (.ref D) H)\/(J.go i H/\∃N:List V->Hp->Prop,(∀gm H',N gm H'->∃m',m'<m/\W (i+1) m' gm H')/\
   ∀v H',J.pW i H v H'->∀os:St,os.length=n->tg v (os++fv) H' λdt H2=>(∃jH:St,jH.length=n/\dt=jH++fv)/\tt dt H2 λc H1=>if c=true then te dt H1 λy H3=>H3 D=some (.lst ys)/\ys.length<sizeLine/\N (ys++[y]) (upd H3 D (.lst (ys++[y]))) else N ys H1)
section
variable {X:Cx}{elt iter p_:Expr}{xs:List Str}{pos:Pos}{ifs:List Expr}{scope:Scope}{cl:List (Str×Addr)}{fr:List (Str×Nat)}{tg:TG}{tt:TT}{te:TE}{pins:List (Addr×Obj)}{σ:St}
theorem Mq{H2:Hp}{s2:Shared}{it:Addr}{fp:List Addr}{tn:Nat->Heap->Prop}{J:It}{Q:VK}{RR:Value->Addr->Result->Shared->Prop}{E:Value->Shared->Prop}
  (hc:X.calm=true)(S:vv X scope cl xs fr)(hg:∀C s H fp,PG (cS X xs fr scope cl C s H fp) p_ tg)
  (ht:∀C s H fp,rV (cS X xs fr scope cl C s H fp) ifs tt)(he:∀C s H fp,PE (cS X xs fr scope cl C s H fp) elt te)
  (I2:Inv X pins σ H2 s2)(T:Turn X.prog X.w X.K p_ J fp it tn)(d5:tn 0 s2.heap)(f2:∀b∈fp,ig X pins H2 b)
  (hw:∀D,H2 D=none->Gy xs.length J tg tt te (fZ σ fr) D H2 Q)
  (hR:∀D C s1 H1 m,Inv X pins σ H1 s1->s1.heap.Ns C m->H1 C=none->C≠X.env.locals->X.c5.heap.objs.size<=C->(∀y c,X.env.cells.lookup y=some c->c≠C)->(∀p∈X.pn++pins,p.1≠C)->Q (.ref D) H1->RR (.ref D) C (.ok .next) s1):
  wpAny (model X.prog X.w) X.A (newList []) (λacc dQ=>wpAny (model X.prog X.w) X.A (newFunctionEnv scope X.env.globals cl [] X.env.qual none .none (some X.env)) (λpR i6=>
   codeAny (model X.prog X.w) X.A (.compStart (.ListComp elt [⟨p_,iter,ifs,0⟩] scope pos) 0 (.ref it) acc {pR with scope:=relabel scope X.env}) (RR acc pR.locals) i6) E dQ) E s2:=by
 refine wpAny_newObj_type (wpAny_newFunctionEnv S.v9 (by intro y hy;simp at hy) (λeA qT qU=>?_) S.kind);dsimp only at qT qU⊢;have I3:Inv X pins σ (upd H2 s2.heap.objs.size (.lst [])) {s2 with heap:=s2.heap.push {cls:=.type "list",dict:=none,data:=.seq ([]:List Value).toArray}}:=
  I2.laid (t':=s2.toks) (λb u e=>Yb _ e) (Yd _) ⟨Yv _,[],0,.nil,Ys _ rfl⟩
 have IS:H2 s2.heap.objs.size=none:=I2.ay.fresh (Yd _);obtain⟨W,⟨m0,w0⟩,turn⟩:=hw s2.heap.objs.size IS;have wy:∀b∈fp,b<s2.heap.objs.size:=λb hb=>by
  obtain⟨o,e,_⟩:=T.obj _ _ d5 b hb;exact Yw e
 generalize wX:s2.heap.push {cls:=.type "list",dict:=none,data:=.seq ([]:List Value).toArray}=G2 at qT qU I3⊢;have hC:G2.objs.size=s2.heap.objs.size+1:=by rw[←wX,Je]
 have old:∀b o,G2.get? b=some o->eA.get? b=some o:=λb o e=>qU.extBut b o (Yy (Yw e)) (Yb _ e);have f3:∀b∈fp,ig X pins (upd H2 s2.heap.objs.size (.lst [])) b:=λb hb=>by
  have:=wy b hb;exact⟨by rw[bg (Yy this)];exact(f2 b hb).1,(f2 b hb).2⟩
 have IT:∀b∈fp,b<G2.objs.size:=λb hb=>by
  rw[hC];exact Wp (wy b hb)
 have wY:tn 0 eA:=T.keep _ _ _ d5 λb hb o e=>old b o ((λb o e=>wX▸Yb _ e) b o e);have I4:Inv (cS X xs fr scope cl G2.objs.size {s2 with heap:=G2} (upd H2 s2.heap.objs.size (.lst [])) fp) [] (List.replicate xs.length none++fZ σ fr) (upd H2 s2.heap.objs.size (.lst [])) {s2 with heap:=eA,toks:=s2.toks+([]:List (Str×Value)).length}:=
  MX (tk:=s2.toks+([]:List (Str×Value)).length) S I3 rfl f3 IT old qT
 have loop:∀dQ:Shared,dQ={s2 with heap:=eA,toks:=s2.toks+([]:List (Str×Value)).length}->
   codeAny (model X.prog X.w) X.A (.compLoop (.ListComp elt [⟨p_,iter,ifs,0⟩] scope pos) 0 (.ref it) (.ref s2.heap.objs.size) (compEnvC scope cl G2.objs.size X.env)) (RR (.ref s2.heap.objs.size) G2.objs.size) dQ:=by
  rintro dQ rfl;refine WD (λk s'=>∃i ys H' os,os.length=xs.length/\Inv (cS X xs fr scope cl G2.objs.size {s2 with heap:=G2} (upd H2 s2.heap.objs.size (.lst [])) fp) [] (os++fZ σ fr) H' s'/\tn i s'.heap/\(∀b∈fp,H' b=none)/\W i k ys H') ?_ m0
   ⟨0,[],_,List.replicate xs.length none,Wx,I4,wY,λb hb=>(f3 b hb).1,w0⟩
  rintro n s5 ⟨i,ys,H5,os,oB,I5,oz,rS,w5⟩;have lJ:∀{H':Hp},(∀b∈fp,H' b=none)->∀b∈fp,ig (cS X xs fr scope cl G2.objs.size {s2 with heap:=G2} (upd H2 s2.heap.objs.size (.lst [])) fp) [] H' b:=λ{H'} hn b hb=>
   ⟨hn b hb,(I5.ok.uq b hb).1,I5.ok.ud b hb,.inl hb,(I5.ok.uq b hb).2,λp hp=>absurd (show p∈([]:List (Addr×Obj)) from hp) (by simp)⟩
  rcases turn i n ys H5 w5 with⟨stop,qn⟩|⟨go,N,hN,step⟩
  ·refine aC (T.done (cS X xs fr scope cl G2.objs.size {s2 with heap:=G2} (upd H2 s2.heap.objs.size (.lst [])) fp) rfl rfl rfl hc i [] s5 _ H5 _ I5 (lJ rS) oz stop) λr s6 zq=>?_;obtain⟨hr,I6⟩:=zq;subst hr;obtain⟨m,IU,_⟩:=I6.loc;have I7:Inv X pins σ H5 s6:=I3.RN (ch:=fp) I6.os I6.base I6.ay I6.bare λb hb=>⟨(f2 b hb).2.2.2.1,(f2 b hb).2.1,(f2 b hb).2.2.2.2.1,(f2 b hb).2.2.2.2.2⟩;refine hR _ _ s6 H5 m I7 IU I6.free ?_ ?_ (λy c e z=>?_) (λp hp z=>?_) qn;·exact J6 I3.lt
   ·exact I3.sz
   ·obtain⟨v,q⟩:=I3.cell y c e;exact absurd q.lt (by rw[z];exact Y7 _)
   ·exact absurd (Yw (I3.pin p hp).1) (by rw[z];exact Y7 _)
  ·refine aC (T.item (cS X xs fr scope cl G2.objs.size {s2 with heap:=G2} (upd H2 s2.heap.objs.size (.lst [])) fp) rfl rfl rfl hc i [] s5 _ H5 _ I5 (lJ rS) oz go) λr s6 zq=>?_;obtain⟨u,hr,h6⟩:=zq;subst hr;refine aC h6 λ_ s7 zq=>?_;obtain⟨v,H7,I7,r7,y7,rW,IV⟩:=zq;have IW:=I7.pinned (lJ IV) (T.obj _ _ rW);refine wpAny_mono (hg _ _ _ _ _ s7 _ H7 v u _ IW r7 (step v H7 y7 os oB)) (λ_ s8 zq=>?_) λ_ _ z=>False.elim z;obtain⟨σ8,H8,I8,⟨jH,SR,e8⟩,q8⟩:=zq;subst e8;have again:∀{oC:St} {H9:Hp} {s9:Shared} {oE:List V},oC.length=xs.length->Inv (cS X xs fr scope cl G2.objs.size {s2 with heap:=G2} (upd H2 s2.heap.objs.size (.lst [])) fp) ([]++pJ fp s7.heap) (oC++fZ σ fr) H9 s9->N oE H9->
     ∃m,m<n/\∃i ys H' os,os.length=xs.length/\Inv (cS X xs fr scope cl G2.objs.size {s2 with heap:=G2} (upd H2 s2.heap.objs.size (.lst [])) fp) [] (os++fZ σ fr) H' s9/\tn i s9.heap/\(∀b∈fp,H' b=none)/\W i m ys H':=λ{oC H9 s9 oE} l1 I9 n9=>by
    obtain⟨m',hm,w9⟩:=hN oE H9 n9;refine⟨m',hm,i+1,oE,H9,oC,l1,I9.tI,T.keep _ _ _ rW λb hb o e=>(I9.pin (b,o) (Yq _ (Yq _ (o_ hb e)))).1,λb hb=>?_,w9⟩;obtain⟨o,e,d⟩:=T.obj _ _ rW b hb;exact(I9.pin (b,o) (Yq _ (Yq _ (o_ hb e)))).2.1
   refine wpAny_mono (ht _ _ _ _ _ s8 _ H8 _ I8 q8) (λok s9 zq=>?_) λ_ _ z=>False.elim z;obtain⟨H9,I9,q9⟩:=zq;cases ok with
   |false=>grind
   |true=>
    rw[if_pos rfl];rw[if_pos rfl] at q9;refine wpAny_mono (he _ _ _ _ _ s9 _ H9 _ I9 q9) (λu1 IX zq=>?_) λ_ _ z=>False.elim z;obtain⟨y,oF,IY,r10,hD,hz,oG⟩:=zq;refine wpAny_mono (vB (X:=cS X xs fr scope cl G2.objs.size {s2 with heap:=G2} (upd H2 s2.heap.objs.size (.lst [])) fp) _ IX _ oF (.ref s2.heap.objs.size) [y] _ [u1] (λ_ H'=>N (ys++[y]) H') IY rfl (.cons r10 .nil) ⟨_,ys,y,rfl,rfl,hD,hz,oG⟩) (λ_ IZ zq=>?_) λ_ _ z=>False.elim z;obtain⟨_,wZ,Ab,_,q11⟩:=zq;exact again SR Ab q11
 exact codeAny_compStart_list (loop _ rfl) (T.self _ 0 _ _ _ wY (loop _ rfl))
end
def iL(J:It)(tt:TT)(te:TE)(fv:St)(D:Addr)(H:Hp)(Q:VK):Prop:=
 ∃W:Nat->Nat->List V->Hp->Prop,(∃m,W 0 m [] (upd H D (.lst [])))/\∀i m ys H,W i m ys H->
  (J.stop i H/\Q (.ref D) H)\/(J.go i H/\∃N:List V->Hp->Prop,(∀gm H',N gm H'->∃m',m'<m/\W (i+1) m' gm H')/\
   ∀v H',J.pW i H v H'->tt (some v::fv) H' λc H1=>if c=true then te (some v::fv) H1 λy H3=>H3 D=some (.lst ys)/\ys.length<sizeLine/\N (ys++[y]) (upd H3 D (.lst (ys++[y]))) else N ys H1)
section
variable {X:Cx}{elt iter:Expr}{x:Str}{px pos:Pos}{ifs:List Expr}{scope:Scope}{cl:List (Str×Addr)}{fr:List (Str×Nat)}{tt:TT}{te:TE}{pins:List (Addr×Obj)}{σ:St}
theorem MY{H2:Hp}{s2:Shared}{it:Addr}{fp:List Addr}{tn:Nat->Heap->Prop}{J:It}{Q:VK}{RR:Value->Addr->Result->Shared->Prop}{E:Value->Shared->Prop}
  (hc:X.calm=true)(S:EM X scope cl x fr)
  (ht:∀C s H fp,rV (tV X x fr scope cl C s H fp) ifs tt)(he:∀C s H fp,PE (tV X x fr scope cl C s H fp) elt te)
  (I2:Inv X pins σ H2 s2)(T:Turn X.prog X.w X.K (.Name x px) J fp it tn)(d5:tn 0 s2.heap)(f2:∀b∈fp,ig X pins H2 b)
  (hw:∀D,H2 D=none->iL J tt te (fZ σ fr) D H2 Q)
  (hR:∀D C s1 H1 m,Inv X pins σ H1 s1->s1.heap.Ns C m->H1 C=none->C≠X.env.locals->X.c5.heap.objs.size<=C->(∀y c,X.env.cells.lookup y=some c->c≠C)->(∀p∈X.pn++pins,p.1≠C)->Q (.ref D) H1->RR (.ref D) C (.ok .next) s1):
  wpAny (model X.prog X.w) X.A (newList []) (λacc dQ=>wpAny (model X.prog X.w) X.A (newFunctionEnv scope X.env.globals cl [] X.env.qual none .none (some X.env)) (λpR i6=>
   codeAny (model X.prog X.w) X.A (.compStart (.ListComp elt [⟨.Name x px,iter,ifs,0⟩] scope pos) 0 (.ref it) acc {pR with scope:=relabel scope X.env}) (RR acc pR.locals) i6) E dQ) E s2:=by
 refine Mq (xs:=[x]) hc ⟨S.uf,S.sub,S.kind,S.names,S.v9,S.has,S.ik,S.nd⟩ (λC s H fp=>bo (i:=0) S.nd rfl (.inl (lookup_relabel_local S.lx)) (.inr (lookup_relabel_local S.lx))) ht he I2 T d5 f2 (λD hD=>?_) hR;obtain⟨W,h0,h⟩:=hw D hD;refine⟨W,h0,λi m ys H p=>?_⟩;rcases h i m ys H p with z|⟨z,N,hN,q⟩;·exact .inl z
 ·refine .inr ⟨z,N,hN,λv H' y os hl=>?_⟩;match os,hl with
  |[o],_=>exact⟨⟨[some v],rfl,rfl⟩,q v H' y⟩
def RY(wi:TI)(fr:List (Str×Nat))(tt:TT)(te:TE):TE:=λσ H Q=>wi σ H λJ H1=>∀D,H1 D=none->iL J tt te (fZ σ fr) D H1 Q
theorem iH(hc:X.calm=true)(S:EM X scope cl x fr)(hi:PI X (.Name x px) iter wi)
  (ht:∀C s H fp,rV (tV X x fr scope cl C s H fp) ifs tt)(he:∀C s H fp,PE (tV X x fr scope cl C s H fp) elt te)
  (hs:∀x,foldedSetIterable iter X.env x=pure x:=by intro _;rfl):PE X (.ListComp elt [⟨.Name x px,iter,ifs,0⟩] scope pos) (RY wi fr tt te):=by
 intro pins s σ H Q I h;refine wpAny_comprehension_free rfl hs S.uf S.kind S.names (aC (hi pins s σ H _ I h) λv s1 h1=>aC h1 λrR s2 h2=>?_);obtain⟨it,fp,tn,J,H2,e,I2,T,d5,f2,hw⟩:=h2;subst e;refine MY (RR:=λacc C=>compPost (model X.prog X.w) X.A X.xe none (EP X pins σ Q) acc C) hc S ht he I2 T d5 f2 hw ?_;intro D C s1 H1 m I1 hn f0 f1 f3 f4 f5 q;exact⟨m,hn,λh' lS=>⟨.ref D,H1,I1.turned (λb o hb e=>lS.extBut b o hb e) f0 f1 (.inr f3) f4 f5,rfl,q⟩⟩
theorem ZV(hc:X.calm=true)(hN:X.N.Nodup)(hiy:X.N[i]?=some y)(hy:Loc X.env.scope y)(S:EM X scope cl x fr)(hi:PI X (.Name x px) iter wi)
  (ht:∀C s H fp,rV (tV X x fr scope cl C s H fp) ifs tt)(he:∀C s H fp,PE (tV X x fr scope cl C s H fp) elt te)
  (hsw:swapsWith (.ListComp elt [⟨.Name x px,iter,ifs,0⟩] scope pos) (some (.Name y py)) Zgb.line X.env=pure true:=by with_unfolding_all rfl)
  (hf:X.fn y=true\/X.env.scope.names.lookup y=some .local:=by first|exact .inl rfl|exact .inr rfl|assumption)
  (hs:∀x,foldedSetIterable iter X.env x=pure x:=by intro _;rfl):PS X (.Assign [.Name y py] (.ListComp elt [⟨.Name x px,iter,ifs,0⟩] scope pos) Zgb) (ue (RY wi fr tt te) (q0 i)):=by
 intro pins s σ H D I h;rw[exec_Assign_Name_used _ _ _ _ hsw];refine wpAny_bind (wpAny_standAt (wpAny_bind ?_));show wpAny _ X.A (do let _←comprehension (.ListComp elt [⟨.Name x px,iter,ifs,0⟩] scope pos) scope X.env _ (newList []) false (eval iter X.env) (some (assign (.Name y py) X.env))) _ _ s;refine wpAny_bind (wpAny_mono (wpAny_comprehension_free (use:=some (assign (.Name y py) X.env)) (Q:=λ_ s'=>SP X pins D .next s') rfl hs S.uf S.kind S.names
  (aC (hi pins s σ H _ I h) λv s1 h1=>aC h1 λrR s2 h2=>?_)) (λ_ s' hq=>wpAny_pure (wpAny_pure hq)) λ_ _ e=>e)
 obtain⟨it,fp,tn,J,H2,e,I2,T,d5,f2,hw⟩:=h2;subst e;refine MY (Q:=λv H1=>q0 i v σ H1 D.nx) (RR:=λacc C=>compPost (model X.prog X.w) X.A X.xe (some (assign (.Name y py) X.env)) (λ_ s'=>SP X pins D .next s') acc C) hc S ht he I2 T d5 f2 hw ?_;intro Dl C s1 H1 m I1 hn f0 f1 f3 f4 f5 q;show wpAny _ X.A (assign (.Name y py) X.env (.ref Dl)) _ _ s1;refine wpAny_assign_Name (MR I1 hN hiy hy (v:=.ref Dl) rfl (λs3 I3 z=>?_) hf);obtain⟨a,sb,ha⟩:=z;have hCa:C≠a:=by
  rcases ha with z|z;·rw[z];exact f1
  ·exact λq=>f4 _ _ z q.symm
 refine⟨m,hn.sameBut sb hCa,λh' lS=>?_⟩;exact⟨_,H1,I3.turned (t':=s3.toks) (λb o hb e=>lS.extBut b o hb e) f0 f1 (.inr f3) f4 f5,q⟩
end
theorem EN{K:PySem.W.Frag}{a:Addr}{xs:List V}{tt:TT}{te:TE}{fv:St}{D:Addr}{H:Hp}{Q:VK}(Pv:Nat->List V->Hp->Prop)(h0:Pv 0 [] (upd H D (.lst [])))(hl:∀i ys H,i<=xs.length->Pv i ys H->ak K H a xs)
  (hs:∀i v ys H,xs[i]?=some v->Pv i ys H->tt (some v::fv) H λc H1=>if c=true then te (some v::fv) H1 λy H3=>H3 D=some (.lst ys)/\ys.length<sizeLine/\Pv (i+1) (ys++[y]) (upd H3 D (.lst (ys++[y]))) else Pv (i+1) ys H1)
  (hd:∀ys H,Pv xs.length ys H->Q (.ref D) H):iL (jd K a) tt te fv D H Q:=by
 refine⟨λi m ys H=>m=xs.length-i/\i<=xs.length/\Pv i ys H,⟨xs.length,by simp,Yv _,h0⟩,?_⟩;rintro i m ys H ⟨rfl,hi,p⟩;have q:=hl i ys H hi p;by_cases bN:i<xs.length
 ·refine .inr ⟨⟨xs,xs[i],q,by simp[bN]⟩,Pv (i+1),λgm H' p'=>⟨xs.length-(i+1),by omega,rfl,bN,p'⟩,λx H' y=>?_⟩;obtain⟨e,y⟩:=y
  grind
 ·have e:i=xs.length:=by omega
  subst e;exact .inl ⟨⟨xs,q,Yd _⟩,hd ys H p⟩
theorem yC{K:PySem.W.Frag}{a:Addr}{xs:List V}{tt:TT}{te:TE}{fv:St}{D:Addr}{H:Hp}{Q:VK}(Pv:Nat->List V->Hp->Prop)(h0:Pv 0 [] (upd H D (.lst [])))(hl:∀i ys H,i<=xs.length->Pv i ys H->aA K H a xs)
  (hs:∀i v ys H,xs[i]?=some v->Pv i ys H->tt (some v::fv) H λc H1=>if c=true then te (some v::fv) H1 λy H3=>H3 D=some (.lst ys)/\ys.length<sizeLine/\Pv (i+1) (ys++[y]) (upd H3 D (.lst (ys++[y]))) else Pv (i+1) ys H1)
  (hd:∀ys H,Pv xs.length ys H->Q (.ref D) H):iL (uw K a) tt te fv D H Q:=by
 refine⟨λi m ys H=>m=xs.length-i/\i<=xs.length/\Pv i ys H,⟨xs.length,by simp,Yv _,h0⟩,?_⟩;rintro i m ys H ⟨rfl,hi,p⟩;have q:=hl i ys H hi p;by_cases bN:i<xs.length
 ·refine .inr ⟨⟨xs,xs[i],q,by simp[bN]⟩,Pv (i+1),λgm H' p'=>⟨xs.length-(i+1),by omega,rfl,bN,p'⟩,λx H' y=>?_⟩;obtain⟨e,y⟩:=y
  grind
 ·have e:i=xs.length:=by omega
  subst e;exact .inl ⟨⟨xs,q,Yd _⟩,hd ys H p⟩
theorem vw{lo:Int}{n:Nat}{tt:TT}{te:TE}{fv:St}{D:Addr}{H:Hp}{Q:VK}(Pv:Nat->List V->Hp->Prop)(h0:Pv 0 [] (upd H D (.lst [])))
  (hs:∀i ys H,i<n->Pv i ys H->tt (some (.int (lo+i))::fv) H λc H1=>if c=true then te (some (.int (lo+i))::fv) H1 λy H3=>H3 D=some (.lst ys)/\ys.length<sizeLine/\Pv (i+1) (ys++[y]) (upd H3 D (.lst (ys++[y]))) else Pv (i+1) ys H1)
  (hd:∀ys H,Pv n ys H->Q (.ref D) H):iL (oy lo n) tt te fv D H Q:=by
 refine⟨λi m ys H=>m=n-i/\i<=n/\Pv i ys H,⟨n,by simp,Yv _,h0⟩,?_⟩;rintro i m ys H ⟨rfl,hi,p⟩;by_cases bN:i<n
 ·refine .inr ⟨bN,Pv (i+1),λgm H' p'=>⟨n-(i+1),by omega,rfl,bN,p'⟩,λx H' y=>?_⟩;obtain⟨e,y⟩:=y
  grind
 ·have e:i=n:=by omega
  subst e;exact .inl ⟨Yd _,hd ys H p⟩
def Zgc(K:PySem.W.Frag)(tl:TE):TI:=λσ H R=>tl σ H λx H1=>∃a,x=.ref a/\((∃xs,ak K H1 a xs)/\R (jd K a) H1\/(∃xs,aA K H1 a xs)/\R (uw K a) H1)
theorem Zd9(hl:PE X l tl):PI X tg l (Zgc X.K tl):=by
 intro pins s σ H R I h;refine aC (hl pins s σ H _ I h) λv s1 zq=>?_;obtain⟨x,H1,I1,r1,q1⟩:=zq;obtain⟨a,e,q1⟩:=q1;subst e;cases r1;rcases q1 with⟨⟨xs,hq⟩,q⟩|⟨⟨xs,hq⟩,q⟩
 ·obtain⟨ai,rv,p,hz⟩:=I1.list hq;refine wpAny_pyIter_list p.isList ⟨s1.heap.objs.size,[s1.heap.objs.size],_,_,H1,rfl,I1.kept λb o e=>Yb _ e,MS a _,⟨_,Ys _ rfl,rfl,rfl⟩,λb hb=>?_,q⟩;have e:b=s1.heap.objs.size:=by simpa using hb
  subst e;exact I1.pP (Yd _) (I1.ay.fresh (Yd _))
 ·obtain⟨ai,rv,p,hz⟩:=I1.tuple hq;refine wpAny_pyIter_tuple (show s1.heap.IsTuple a ai.toArray from p) ⟨s1.heap.objs.size,[s1.heap.objs.size],_,_,H1,rfl,I1.kept λb o e=>Yb _ e,Ml a _,⟨_,Ys _ rfl,rfl,rfl⟩,λb hb=>?_,q⟩;have e:b=s1.heap.objs.size:=by simpa using hb
  subst e;exact I1.pP (Yd _) (I1.ay.fresh (Yd _))
theorem DB:∀{xs:List V} {us:List Value},xs.length=us.length->(∀(i:Nat) (x:V) (u:Value),xs[i]?=some x->us[i]?=some u->RelV x u)->Vals xs us
 |[],[],_,_=>.nil
 |[],_::_,h,_=>by simp at h
 |_::_,[],h,_=>by simp at h
 |x::xs,u::us,h,k=>.cons (k 0 x u rfl rfl) (DB (by simpa using h) λi y w e1 e2=>k (i+1) y w (by simpa using e1) (by simpa using e2))
theorem Mr:∀{bs:List Bool} {us:List Value},Vals (bs.map V.bl) us->us=bs.map Value.bool:=by
 intro bs;induction bs with
 |nil=>intro us r;cases r;rfl
 |cons b bs ih=>
  intro us r;rw[Wn] at r;cases r with
  |cons r t=>
   have e1:_=Value.bool b:=r;rw[e1,ih t];rfl
def bF(n:Nat):List Int:=(List.range n).map λi:Nat=>(i:Int)
theorem eG(n:Nat):(bF n).length=n:=by simp[bF]
theorem kZ(h:i<n):(bF n)[i]?=some (i:Int):=by
 unfold bF
 grind
theorem ZbB(bs:List Bool):(List.range bs.length).any (λi=>bs.getD i false)=bs.any id:=by
 rw[Wf,Jn,Jn];constructor
 ·rintro⟨i,hi,hb⟩;rw[Wq] at hi;have e:bs.getD i false=bs[i]:=by rw[Yk,Yc hi];rfl
  rw[e] at hb;exact⟨bs[i],Jo hi,hb⟩
 ·rintro⟨b,hb,e⟩;obtain⟨i,hi,rfl⟩:=Ws.mp hb;refine⟨i,Wq.mpr hi,?_⟩
  grind
theorem ZbC(bs:List Bool):(List.range bs.length).all (λi=>bs.getD i false)=bs.all id:=by
 rw[Wf,Wm,Wm];constructor
 ·intro h b hb;obtain⟨i,hi,rfl⟩:=Ws.mp hb;simp_all
 ·intro h i hi;rw[Wq] at hi;rw[Yk,Yc hi];exact h _ (Jo hi)
theorem Zb:∀{ns ms:List Int},ns.length=ms.length->(List.range ns.length).all (λj=>ns.getD j 0==ms.getD j 0)=decide (ns=ms):=by
 intro ns ms hl;rw[Wf,Wm,decide_eq_true_iff];constructor
 ·intro h;refine List.ext_getElem hl λi h1 h2=>?_;simp_all
 ·grind
section
variable {X:Cx}
def SS(K:PySem.W.Frag):List V->Hp->VK->Prop:=λxs H Q=>∃(p:Addr) (bs:List Bool),xs=[.ref p]/\ak K H p (bs.map V.bl)/\Q (.bl (bs.any id)) H
def SU(K:PySem.W.Frag):List V->Hp->VK->Prop:=λxs H Q=>∃(p:Addr) (bs:List Bool),xs=[.ref p]/\ak K H p (bs.map V.bl)/\Q (.bl (bs.all id)) H
theorem Xo(hc:X.calm=true):c7 X (.builtin "any") (SS X.K):=by
 rintro pins s σ H xs us Q I r ⟨p,bs,rfl,hq,q⟩;obtain⟨u,rfl,rx⟩:=vals1 r;cases rx;obtain⟨ai,r',pl,hz⟩:=I.list hq;have e:=Mr r';subst e;have hl:=pl.isList;have bN:p<s.heap.objs.size:=by obtain⟨_,e,_⟩:=hl;exact Yw e
 refine call_any_walk (wpAny_pyIter_list hl ⟨s.heap.objs.size,_,_,_,_,_,λi=>bs.getD i false,rfl,Walks.list (show X.A.in1.handled=none from I.ok.hd hc) s.heap.objs.size p (Yy bN) (bs.map Value.bool).toArray,⟨⟨_,Ys _ rfl,rfl,rfl⟩,hl.push _⟩,?_,λh' tk hk=>?_⟩)
 ·intro i v s' Q' E' hP hQ;have kO:(bs.map Value.bool)[i]?=some v:=by simpa using hP
  rw[Yf] at kO;cases e:bs[i]? with
  |none=>grind
  |some b=>
   rw[e] at kO;have ev:=Yo kO;subst ev;refine wpAny_truthy_bool ?_
   grind
 ·refine⟨.bl (bs.any id),H,I.kept (λb o e=>hk b o (by simpa using Yy (Yw e)) (Yb _ e)),?_,q⟩;show Value.bool _=Value.bool _;have e:(bs.map Value.bool).toArray.size=bs.length:=by simp
  rw[e,ZbB]
theorem Xp(hc:X.calm=true):c7 X (.builtin "all") (SU X.K):=by
 rintro pins s σ H xs us Q I r ⟨p,bs,rfl,hq,q⟩;obtain⟨u,rfl,rx⟩:=vals1 r;cases rx;obtain⟨ai,r',pl,hz⟩:=I.list hq;have e:=Mr r';subst e;have hl:=pl.isList;have bN:p<s.heap.objs.size:=by obtain⟨_,e,_⟩:=hl;exact Yw e
 refine call_all_walk (wpAny_pyIter_list hl ⟨s.heap.objs.size,_,_,_,_,_,λi=>bs.getD i false,rfl,Walks.list (show X.A.in1.handled=none from I.ok.hd hc) s.heap.objs.size p (Yy bN) (bs.map Value.bool).toArray,⟨⟨_,Ys _ rfl,rfl,rfl⟩,hl.push _⟩,?_,λh' tk hk=>?_⟩)
 ·intro i v s' Q' E' hP hQ;have kO:(bs.map Value.bool)[i]?=some v:=by simpa using hP
  rw[Yf] at kO;cases e:bs[i]? with
  |none=>grind
  |some b=>
   rw[e] at kO;have ev:=Yo kO;subst ev;refine wpAny_truthy_bool ?_
   grind
 ·refine⟨.bl (bs.all id),H,I.kept (λb o e=>hk b o (by simpa using Yy (Yw e)) (Yb _ e)),?_,q⟩;show Value.bool _=Value.bool _;have e:(bs.map Value.bool).toArray.size=bs.length:=by simp
  rw[e,ZbC]
inductive QG(K:PySem.W.Frag)(xs:List V)(H:Hp)(Q:VK):Prop
 |mk (x:V) (t:Value) (c:String) (b:Bool) (aE:xs=[x,.ty c]) (aT:iO K H x t) (bw:kitOne K t (.type c)=some b) (bP:Q (.bl b) H):QG K xs H Q
def Ii(K:PySem.W.Frag):List V->Hp->VK->Prop:=λxs H Q=>QG K xs H Q
theorem Zc:c7 X (.builtin "isinstance") (Ii X.K):=by
 rintro pins s σ H xs us Q I r ⟨x,t,c,b,rfl,ty,e,q⟩;obtain⟨u,w',rfl,rx,ry⟩:=vals2 r;cases ry;exact ZaK I rx ty e λtk=>⟨.bl b,H,I.tok tk,rfl,q⟩
theorem Ms(hT:T="list"\/T="tuple")
  (ho:s.heap.get? l=some o)(hc:o.cls=.type T)(hd:o.data=.seq ai.toArray n)(hI:IntsAre ai ns)(gn:ai.length<64)(hsz:ai.toArray.size<=sizeLine)
  (h:∀(h1 h':Heap) (out:Array Value) (cB:List Int) (e:Nat),(∀b o,s.heap.get? b=some o->h1.get? b=some o)->(∀b o,h1.get? b=some o->h'.get? b=some o)->h'.get? h1.objs.size=some (seqObj "list" out e)->IntsAre out.toList cB->cB.Perm ns->cB.Pairwise (·<=·)->Q (.ref h1.objs.size) {s with heap:=h'}):
  wpAny (model prog w) A (call (.builtin "sorted") [.ref l]) Q E s:=by
 refine Calls.call_function_entry kind_sorted plain_sorted entry_sorted (args_sorted1 _) (wpAny_bind (wpAny_pure ?_));refine wpAny_bind (wpAny_collect_seq l hT ho hc hd (λh1 kp=>wpAny_bind (wpAny_newList ?_)) hsz);have e1:ai.toArray.toList=ai:=by simp
 rw[e1];have ow:(h1.push (seqObj "list" ai.toArray 0)).get? h1.objs.size=some (seqObj "list" ai.toArray 0):=Ys _ rfl;refine wpAny_bind (wpAny_holding (wpAny_call_entry slot_list_sort ⟨_,ow,rfl⟩ entry_list_sort (list_sort_tree ow hI gn λout cB a1 a2 a3=>⟨_,rfl,?_⟩) (args_list_sort _)));obtain⟨e,he⟩:=sortedHeap_at ow;exact wpAny_pure ⟨_,rfl,h h1 _ out cB e kp (λb ob hb=>by
  have bN:=Yw hb;rw[sortedHeap_old (Yy bN) (by rw[size_push'];exact Wp bN),Jj _ _ _ (Yy bN)];exact hb) he a1 a2 a3⟩
def F4(K:PySem.W.Frag):List V->Hp->VK->Prop:=λxs H Q=>∃(p:Addr) (ns:List Int),xs=[.ref p]/\(ak K H p (ns.map V.int)\/aA K H p (ns.map V.int))/\ns.length<64/\
  ∀(l:Addr) (cB:List Int),H l=none->cB.Perm ns->cB.Pairwise (·<=·)->Q (.ref l) (upd H l (.lst (cB.map V.int)))
theorem L9:c7 X (.builtin "sorted") (F4 X.K):=by
 rintro pins s σ H xs us Q I r ⟨p,ns,rfl,hq,gn,q⟩;obtain⟨u,rfl,rx⟩:=vals1 r;cases rx;have fin:∀(h1 h':Heap) (out:Array Value) (cB:List Int) (e:Nat),(∀b o,s.heap.get? b=some o->h1.get? b=some o)->(∀b o,h1.get? b=some o->h'.get? b=some o)->h'.get? h1.objs.size=some (seqObj "list" out e)->IntsAre out.toList cB->cB.Perm ns->cB.Pairwise (·<=·)->
   EP X pins σ Q (.ref h1.objs.size) {s with heap:=h'}:=λh1 h' out cB e kp w8 he a1 a2 a3=>by
  have I1:=I.kept (t':=s.toks) kp;refine⟨.ref h1.objs.size,_,I1.laid (o:=.lst (cB.map V.int)) w8 (Yd _) ⟨?_,out.toList,e,EL a1,by simpa[seqObj] using he⟩,rfl,q _ cB (I1.ay.fresh (Yd _)) a2 a3⟩;rw[Ya,a2.length_eq];exact Jr (jo (by omega))
 rcases hq with hq|hq
 ·obtain⟨ai,r',pl,hz⟩:=I.list hq;obtain⟨o,n,ho,hc,_,hd⟩:=pl;have hl:=r'.length;rw[Ya] at hl;rw[Ya] at hz;exact Ms (.inl rfl) ho hc hd (intsAre_of r') (by omega) (by rw[Yr];omega) fin
 ·obtain⟨ai,r',pl,hz⟩:=I.tuple hq;obtain⟨o,ho,hc,n,hd⟩:=pl;have hl:=r'.length;rw[Ya] at hl;rw[Ya] at hz;exact Ms (.inr rfl) ho hc hd (intsAre_of r') (by omega) (by rw[Yr];omega) fin
def O6:List V->Hp->VK->Prop:=λxs H Q=>∃j:Int,xs=[.int j]/\∀p:Addr,H p=none->Q (.ref p) (upd H p (.jb 0 j))
def NN:List V->Hp->VK->Prop:=λxs H Q=>∃(p:Addr) (n:Nat),xs=[.ref p]/\H p=some (.jb 0 (n:Int))/\n<=1000/\∀l:Addr,H l=none->Q (.ref l) (upd H l (.lst ((bF n).map V.int)))
def zL(K:PySem.W.Frag):List V->Hp->VK->Prop:=λxs H Q=>∃(p:Addr) (ys:List V),xs=[.ref p]/\(ak K H p ys\/aA K H p ys)/\Q (.int ys.length) H
theorem ZW:c7 X (.builtin "len") (zL X.K):=L3
theorem ya:c7 X (.type "range") O6:=by
 rintro pins s σ H xs us Q I r ⟨j,rfl,q⟩;obtain⟨u,rfl,t,rfl⟩:=vals1 r;exact call_range_1 ⟨.ref s.heap.objs.size,_,I.laid (o:=.jb 0 j) (λb o e=>Yb _ e) (Yd _) ⟨_,_,_,Ys _ rfl⟩,rfl,q _ (I.ay.fresh (Yd _))⟩
theorem CA(hc:X.calm=true):c7 X (.type "list") NN:=by
 rintro pins s σ H xs us Q I r ⟨p,n,rfl,hp,hn,q⟩;obtain⟨u,rfl,rx⟩:=vals1 r;cases rx;obtain⟨t,u,v,ho⟩:=I.ay p _ hp;refine call_list_range (I.ok.hd hc) ho (small_one (by omega) (by omega) (by omega) (by omega)) (n:=n) (by rw[rangeSize_one];split<;>omega) (by omega) λh' tk Zgd c' hk hS' SV=>⟨.ref s.heap.objs.size,_,I.laid (o:=.lst ((bF n).map V.int)) hk (Yd _) ⟨?_,Zgd.toList,c',?_,by simpa using hS'⟩,rfl,q _ (I.ay.fresh (Yd _))⟩
 ·rw[Ya,eG];exact Jr (jo hn)
 ·refine DB (by rw[Ya,eG];simp[SV.1]) λi x u e1 e2=>?_;obtain⟨t',rfl⟩:=SV.2 i u (by simpa using e2);have hi:i<n:=by
   have:=(Yl.mp e1).1;rw[Ya,eG] at this;exact this
  rw[Yf,kZ hi] at e1;have e3:=Yo e1;subst e3;exact⟨t',by rw[show(0:Int)+(i:Int)*1=(i:Int) by omega]⟩
theorem O7{ns:List Int}{ai:List Value}(r:Vals (ns.map V.int) ai){j:Nat}(h:j<ai.length):∃t,ai[j]=.int (ns.getD j 0) t:=by
 have hl:=r.length;rw[Ya] at hl;have hj:j<ns.length:=by omega
 obtain⟨u,hu,t,rfl⟩:=r.get (by rw[Yf,Yc hj];rfl)
 grind
def SW(K:PySem.W.Frag)(neg:Bool):R2:=λx y H Q=>∃(p q:Addr) (ns ms:List Int),x=.ref p/\y=.ref q/\ak K H p (ns.map V.int)/\ak K H q (ms.map V.int)/\Q (.bl (if neg=true then !decide (ns=ms) else decide (ns=ms))) H
theorem QH(hu:X.A.units<cLine):cE X (compareOp .Eq) (SW X.K false):=by
 rintro pins s σ H x y v u Q I rx ry ⟨p,q,ns,ms,rfl,rfl,h1,h2,k⟩;cases rx;cases ry;obtain⟨ai,r1,p1,z1⟩:=I.list h1;obtain⟨eN,r2,p2,z2⟩:=I.list h2;have l1:=r1.length;have l2:=r2.length;rw[Ya] at l1 l2;by_cases hl:ns.length=ms.length
 ·refine SeqAt.eq_listAt (e:=λj=>ns.getD j 0==ms.getD j 0) p1.isList p2.isList (by simp;omega) hu (λj h1 h2=>?_) (cH I k ?_)
  ·obtain⟨t,e1⟩:=O7 r1 (by simpa using h1);obtain⟨t',e2⟩:=O7 r2 (by simpa using h2);have rX:ai.toArray[j]=.int (ns.getD j 0) t:=by simpa using e1
   have e2':eN.toArray[j]=.int (ms.getD j 0) t':=by simpa using e2
   rw[rX,e2'];exact SeqAt.EqAt.int_int _ _ _ _
  ·rw[if_neg Yi,Yr,←l1,Zb hl]
 ·refine SeqAt.eq_list_lengthsAt p1.isList p2.isList (by simp;omega) hu (cH I k ?_)
  grind
theorem iI(M:St->Hp->Prop)(h1:∀nx:St->Hp->Prop,(∀σ H,M σ H->nx σ H)->t {D with nx:=nx} σ H)(h2:∀σ H,M σ H->u D σ H):wj t u D σ H:=h1 _ h2
theorem kH(hg:Gl X x)(hm:X.mg x=none)(hv:bootBuiltins x=some (.type T))(hn:x≠"__name__":=by decide)(hd:(x==("__debug__":Str))=false:=by decide):PE X (.Name x pos) (tC (.ty T)):=ZcB hg hm hv rfl hn hd
end
def HasFn(P:Program)(w:World)(K:PySem.W.Frag)(mg:Str->Option Value)(base:Heap)(k:Nat)(x:Str)(ps:List Str)(sp:Sp):Prop:=
 ∃f fd,aK P w K mg base aP k f fd ps sp/\Binds K fd ps []/\keepIn K (.ref f)=true/\mg x=some (.ref f)
section
variable {P:Program}{w:World}{K:PySem.W.Frag}{mg:Str->Option Value}{base:Heap}{X:Cx}{k j:Nat}{sp:Sp}{x:Str}{ps:List Str}
theorem aY(h:HasFn X.prog X.w X.K X.mg X.base k x ps sp)(hr:dk j X.A)(hj:k<=j)(hg:Gl X x)(ha:PA X (e::es) t)
  (lQ:(x==("__debug__":Str))=false:=by decide)(he:starEach (e::es) X.env=(false,eval e X.env)::starEach es X.env:=by rfl)(df:(backTo pos (starEach es X.env)).any (·.1)=false:=by rfl):
  PE X (.Call (.Name x p) (e::es) [] pos) (RV sp [] E0 t):=by
 obtain⟨f,fd,F,b,kp,m⟩:=h;exact ZcE F (hr.mono hj) hg m kp b .nil zy ha lQ he df
theorem cq(h:H p=none)(o:HO):aj H (upd H p o):=λb u q=>by rw[bg (ck q h)];exact q
theorem aj.iR(e:aj H H')(h:aA K H a xs):aA K H' a xs:=by
 rcases h with(h|⟨o,h⟩)|h;·exact .inl (.inl (e _ _ h))
 ·exact .inl (.inr ⟨o,e _ _ h⟩)
 ·exact .inr h
theorem bQ(h:X.K=K):jG X (wo K):=h▸F3
theorem fU(h:X.K=K):jG X (Ia K):=h▸QB
theorem kz(h:X.K=K):c7 X (.builtin "isinstance") (Ii K):=h▸Zc
theorem c9(h:X.K=K):c7 X (.builtin "len") (zL K):=h▸ZW
theorem jB(h:Q true H):zK σ H Q:=h
theorem aZ(h:n σ H):RP ⟨n,rt,bk,ct⟩ σ H:=h
theorem nW(M:St->Hp->Prop)(h1:∀nx:St->Hp->Prop,(∀σ H,M σ H->nx σ H)->Hz c a b {D with nx:=nx} σ H)(h2:∀σ H,M σ H->u D σ H):wj (Hz c a b) u D σ H:=h1 _ h2
theorem Zd_(x:Int)(h0:0<m)(h1:m<=2^62):-(2^64)<x % m/\x % m<2^64:=by
 have a:=Jc x (I0 h0);have b:=Wz x h0;omega
theorem Mt:∀(l:List α) (k:Nat) (h:k<l.length),l.Perm (l[k]::l.eraseIdx k)
 |[],k,h=>absurd h (Wk k)
 |a::r,0,_=>List.Perm.refl _
 |a::r,k+1,h=>(List.Perm.cons a (Mt r k (Nat.lt_of_succ_lt_succ h))).trans (List.Perm.swap _ _ _)
theorem MZ(f:α->β):∀(l:List α) (k:Nat),(l.map f).eraseIdx k=(l.eraseIdx k).map f
 |[],_=>rfl
 |_::_,0=>rfl
 |a::r,k+1=>by
  show f a::(r.map f).eraseIdx k=f a::(r.eraseIdx k).map f;rw[MZ f r k]
theorem Gz{n:Nat}{i:Int}(h0:0<=i)(h1:i<n):kN n i=some i.toNat:=by
 unfold kN
 grind
theorem mC{ns:List Int}{i:Int}(h0:0<=i)(h1:i<ns.length):dA (ns.map V.int) i=some (.int (ns.getD i.toNat 0)):=by
 have e:i=((i.toNat:Nat):Int):=by omega
 rw[e];refine gQ ?_
 grind
theorem mj{ns:List Int}{i:Nat}{y:V}(h:(ns.map V.int)[i]?=some y):∃z,y=.int z/\ns[i]?=some z:=by
 rw[Yf] at h;cases e:ns[i]? with
 |none=>grind
 |some z=>grind
theorem NO(ns:List Int)(z:Int):ns.map V.int++[V.int z]=(ns++[z]).map V.int:=by simp
theorem NP(ns:List Int)(lo hi:Option Int):∃ms:List Int,jA (ns.map V.int) lo hi=ms.map V.int:=by
 refine⟨(ns.drop (HT.bY ns.length 0 lo)).take (HT.bY ns.length ns.length hi-HT.bY ns.length 0 lo),?_⟩;unfold jA;simp_all
end
theorem QI:bootBuiltins "abs"=some (.builtin "abs"):=by decide+kernel
theorem Zea:bootBuiltins "any"=some (.builtin "any"):=by decide+kernel
theorem QJ:bootBuiltins "all"=some (.builtin "all"):=by decide+kernel
theorem cV:bootBuiltins "len"=some (.builtin "len"):=by decide+kernel
theorem Zeb:bootBuiltins "min"=some (.builtin "min"):=by decide+kernel
theorem yr:bootBuiltins "sorted"=some (.builtin "sorted"):=by decide+kernel
theorem kh:bootBuiltins "isinstance"=some (.builtin "isinstance"):=by decide+kernel
theorem tP:bootBuiltins "list"=some (.type "list"):=by decide+kernel
theorem mf:bootBuiltins "tuple"=some (.type "tuple"):=by decide+kernel
theorem tJ:bootBuiltins "range"=some (.type "range"):=by decide+kernel
theorem yP:bootBuiltins "bool"=some (.type "bool"):=by decide+kernel
theorem QK:bootBuiltins "int"=some (.type "int"):=by decide+kernel
theorem vS:bootBuiltins "str"=some (.type "str"):=by decide+kernel
def Bd(d p:Int):Prop:=0<=d/\d<p
inductive NQ(K:PySem.W.Frag)(vs:List V)(H:Hp)(Q:VK):Prop
 |mk (a:Addr) (ns:List Int) (k:Int) (aE:vs=[.ref a,.int k]) (aT:ak K H a (ns.map V.int)) (bw:0<=k) (bP:∀c:Int,Q (.int c) H):NQ K vs H Q
def QL(K:PySem.W.Frag):Sp:=λvs H Q _=>NQ K vs H Q
inductive M0(K:PySem.W.Frag)(vs:List V)(H:Hp)(Q:VK):Prop
 |mk (c:Int) (a:Addr) (ps:List Int) (aE:vs=[.int c,.ref a]) (aT:ak K H a (ps.map V.int)) (bw:(∀p∈ps,0<p/\p<1073741824)) (bP:ps.length<=60) (cN:∀(l:Addr) (ds:List Int) (H':Hp),H l=none->aj H H'->H' l=some (.lst (ds.map V.int))->Paired Bd ds ps->Q (.ref l) H'):M0 K vs H Q
def yQ(K:PySem.W.Frag):Sp:=λvs H Q _=>M0 K vs H Q
inductive NR(vs:List V)(H:Hp)(Q:VK):Prop
 |mk (c:Int) (n:Nat) (aE:vs=[.int c,.int (n:Int)]) (aT:n<=60) (bw:∀(t:Addr) (ns:List Int) (H':Hp),H t=none->aj H H'->H' t=some (.tup (ns.map V.int))->ns.Perm (bF n)->Q (.ref t) H'):NR vs H Q
def QM:Sp:=λvs H Q _=>NR vs H Q
theorem O8(ho:PE X o to)(hi:PE X i ti)(hs:rD X t)(he:PE X e te)
  (h1:swapsWithSole [.Subscript o i tp] e pos.line X.env=pure false:=by rfl)(h2:swappedStores [.Subscript o i tp] e X.env=pure none:=by rfl)
  (h3:(assignEach [.Subscript o i tp] X.env).map (·.2)=[assign (.Subscript o i tp) X.env]:=by rfl)
  (ha:∀v,assign (.Subscript o i tp) X.env v=(do
   let ov←holding [v] (eval o X.env);let iv←holding [v,ov] (eval i X.env)
   standAt tp
   holding [v,ov,iv] (setItem ov iv v)
   release [v,ov,iv] []):=by intro _;rfl):PS X (.Assign [.Subscript o i tp] e pos) (ue te (SI to ti t)):=lC he (ZdY ho hi hs ha) h1 h2 h3
def SX(h:Heap)(a C:Addr)(d:Option Addr)(vs:Array Value):Prop:=∃oe:Obj,h.get? a=some oe/\oe.cls=.ref C/\oe.dict=d/\oe.data=.fields vs/\1<vs.size
def xo(a C:Addr)(d:Option Addr):HO:=.ext λh=>∃vs,SX h a C d vs
def Fly(lo:Nat)(H:Hp)(h:Heap)(vs:Array Value):Prop:=
 vs[1]?=some Value.none\/∃T oT ts,vs[1]?=some (Value.ref T)/\lo<=T/\H T=none/\h.get? T=some oT/\oT.data=.fields ts/\ts[3]?=some Value.none
inductive RZ(P:Program)(w:World)(outer:List Env)(H:Hp)(s:Shared)(E:XK)(e:Value)(s':Shared):Prop
 |mk (a C d:Addr) (H':Hp) (vs:Array Value) (aE:e=.ref a) (aT:s.heap.objs.size<=a) (bw:s'.os=s.os) (bP:AllBare s'.gens) (cN:Un (ik outer) [] H H' s.heap s'.heap) (dR:dq P w H' s'.heap) (hE:H' a=some (xo a C (some d))) (iS:SX s'.heap a C (some d) vs) (qa:Fly s.heap.objs.size H' s'.heap vs) (w_:E (.ref C) (some d) H'):RZ P w outer H s E e s'
def mZ(P:Program)(w:World):jF:=λouter H s E e s'=>RZ P w outer H s E e s'
section
variable {M:Model}{A:Around}{Er:Value->Shared->Prop}{s:Shared}
end
section
variable {P:Program}{w:World}{A:Around}{Er:Value->Shared->Prop}
end
section
variable {P:Program}{w:World}{K:PySem.W.Frag}{mg:Str->Option Value}{base:Heap}{N:List Str}{qual:Str}{scope:Scope}{f:Addr}{cd:Value}{A:Around}{outer:List Env}{s:Shared}{H:Hp}{E:XK}
theorem SY:PassesOwn (model P w) (mQ (mZ P w) P w K mg base N qual scope f cd A outer s H E).A (mQ (mZ P w) P w K mg base N qual scope f cd A outer s H E).env (mQ (mZ P w) P w K mg base N qual scope f cd A outer s H E).xe:=
 λe s' h=>PassesOwn.leaving (Q₁:=λe rT=>mZ P w outer H s E e rT) e s' h
end
section
variable {X:Cx}{k j:Nat}{f C:Addr}{fd:FuncData}{ps:List Str}{sp:Sp}{d7:List V}{ds:List Value}{E:St->XK}{x m:Str}{p pos apos:Pos}{e o:Expr}{es:List Expr}{ta:TE}{t:TA}
end
section
variable {P:Program}{w:World}{K:PySem.W.Frag}{mg:Str->Option Value}{base:Heap}
theorem aN.okX{x qual:Str}{st:Stmt}{f:Addr}{fd:FuncData}{N ps:List Str}{k:Nat}{sp:Sp}(F:aN K x qual st f fd)(S:aU N ps (aM st))(len:∀vs H Q E,sp vs H Q E->vs.length=ps.length)
  (v8:∀(aF:Value) (A:Around) (outer:List Env) (s:Shared) (H:Hp) (vs:List V) (Q:VK) (E:XK),dk k (A.deeper (envOfC qual (aM st) s.heap.objs.size f aF))->sp vs H Q E->
   ∃t,gX (mQ (mZ P w) P w K mg base N qual (aM st) f aF A outer s H E) (k9 st) t/\t {nx:=λ_ H'=>Q .aB H',rt:=Q} (start N vs) H):aK P w K mg base (mZ P w) (k+1) f fd ps sp:=by
 obtain⟨oc,od,kV,doc,pm,an,aF,ct,oA,rfl,lk,jD⟩:=F.ex;exact RX lk jD S len λA outer s H vs Q E hr mX=>v8 aF A outer s H vs Q E hr mX
end
section
variable {prog:Program}{w:World}{A:Around}{E:Value->Shared->Prop}{h:Heap}{g:Array GenState}{d:Drawn}{t:Nat}{os:OsState}
variable {nm q:Str}{C N:Addr}{bs bm:List Value}{Zhv:Bool}{sn:List Str}{sub:List Value}{ab:Bool}{col:Option Bool}{dd:Option Addr}{k0 k1 k2 k3 k5:Option Value}
local macro_rules|`(tactic|walk_at "vlu")=>`(tactic|exact PySem.F.excBase_ValueError)
end
end L2
namespace L2
open PySem PySem.Spec PyProof.Rows
open PySem.W (Looks InstAt looks_findIn looks_typeIn looks_clsIn looks_mroIn looks_find findObj findIn mroIn clsIn)
section
variable {prog:Program}{w:World}{A:Around}{E:Value->Shared->Prop}{s:Shared}{K:PySem.W.Frag}{x C:Addr}{ox:Obj}{od:Option Obj}{name:Str}
end
section
variable {prog:Program}{w:World}{A:Around}{E:Value->Shared->Prop}{s:Shared}{K:PySem.W.Frag}{x C:Addr}{name:Str}{nV v:Value}{b:Bool}{tk:Tok}
end
section
variable {X:Cx}{o e value:Expr}{f:Str}{pos pos':Pos}{ta tv:TE}
end
section
variable {X:Cx}{CX:jF}{k:Nat}{f C:Addr}{fd:FuncData}{ps:List Str}{sp:Sp}{d7:List V}{ds:List Value}{E:XK}{x m:Str}{p pos apos:Pos}{e:Expr}{es:List Expr}{t:TA}
end
section
variable {M:Model}{A:Around}{E:Value->Shared->Prop}{s:Shared}{K:PySem.W.Frag}{a C:Addr}
end
section
variable {X:Cx}{x:Str}{p pos apos:Pos}{e:Expr}{es:List Expr}{t:TA}
end
section
variable {X:Cx}{k:Nat}{f C:Addr}{fd:FuncData}{ps:List Str}{sp:Sp}{d7:List V}{ds:List Value}{E:St->XK}{x:Str}{p pos cL:Pos}{e:Expr}{es:List Expr}{t:TA}
end
section
variable {X:Cx}{pins:List (Addr×Obj)}{σ:St}{H:Hp}{s:Shared}
end
section
variable {M:Model}{A:Around}{E:Value->Shared->Prop}{s:Shared}{K:PySem.W.Frag}{a C B:Addr}{d:Option Addr}{vs:Array Value}
end
section
variable {X:Cx}{B:Addr}{i:Nat}{n x:Str}{body Zhm:List Stmt}{b0:Stmt}{px hp pos:Pos}{tb:(St->XK)->TS}{th:TS}
end
section
variable {X:Cx}{e:Expr}{te:TE}{pos:Pos}
end
section
variable {X:Cx}{e e2:Expr}{es:List Expr}{te:TE}{t:TJ}{pos:Pos}
end
end L2
namespace L2
open PySem PySem.Spec PyProof.Rows
structure Bl(mg:Str->Option Value):Prop where
 cX:mg "len"=none
 Zfo:mg "abs"=none
 tW:mg "list"=none
 jt:mg "range"=none
 mn:mg "tuple"=none
 Zfp:mg "any"=none
 R0:mg "all"=none
 kj:mg "isinstance"=none
 zf:mg "bool"=none
 R1:mg "int"=none
 v_:mg "str"=none
 yD:mg "sorted"=none
 Zfq:mg "min"=none
 Zfr:mg "max"=none
 Zhn:mg "sum"=none
 Zec:mg "dict"=none
 Zhd:mg "reversed"=none
 Zha:mg "ValueError"=none
theorem Zge{X:Cx}{K:PySem.W.Frag}(hc:X.calm=true)(h:X.K=K):c7 X (.builtin "any") (SS K):=h▸Xo hc
theorem S0{X:Cx}{K:PySem.W.Frag}(hc:X.calm=true)(h:X.K=K):c7 X (.builtin "all") (SU K):=h▸Xp hc
theorem sortedK{X:Cx}{K:PySem.W.Frag}(h:X.K=K):c7 X (.builtin "sorted") (F4 K):=h▸L9
theorem lT{X:Cx}{K:PySem.W.Frag}(h:X.K=K):cE X (compareOp .In) (wQ K false):=h▸ZaM
theorem GA{X:Cx}{K:PySem.W.Frag}(h:X.K=K):cE X (compareOp .NotIn) (wQ K true):=h▸X3
theorem O9{X:Cx}{K:PySem.W.Frag}(h:X.K=K):jG X (IK K):=h▸Zd3
section
variable {P:Program}{w:World}{K:PySem.W.Frag}{mg:Str->Option Value}{base:Heap}
end
theorem QN{K:PySem.W.Frag}:kitOne K (.type "int") (.type "int")=some true:=by kernel_rfl
theorem GB{K:PySem.W.Frag}:kitOne K (.type "int") (.type "bool")=some false:=by kernel_rfl
theorem QO{K:PySem.W.Frag}:kitOne K (.type "bool") (.type "bool")=some true:=by kernel_rfl
theorem Zed{K:PySem.W.Frag}:kitOne K (.type "str") (.type "bool")=some false:=by kernel_rfl
theorem Zee{K:PySem.W.Frag}:kitOne K (.type "str") (.type "int")=some false:=by kernel_rfl
theorem QP{K:PySem.W.Frag}:kitOne K (.type "str") (.type "str")=some true:=by kernel_rfl
theorem Zef{K:PySem.W.Frag}:kitOne K (.type "list") (.type "bool")=some false:=by kernel_rfl
theorem Zeg{K:PySem.W.Frag}:kitOne K (.type "list") (.type "int")=some false:=by kernel_rfl
theorem Zeh{K:PySem.W.Frag}:kitOne K (.type "list") (.type "str")=some false:=by kernel_rfl
theorem Zei{K:PySem.W.Frag}:kitOne K (.type "list") (.type "list")=some true:=by kernel_rfl
theorem Zej{K:PySem.W.Frag}:kitOne K (.type "list") (.type "tuple")=some false:=by kernel_rfl
theorem Zek{K:PySem.W.Frag}:kitOne K (.type "tuple") (.type "bool")=some false:=by kernel_rfl
theorem Zel{K:PySem.W.Frag}:kitOne K (.type "tuple") (.type "int")=some false:=by kernel_rfl
theorem Zem{K:PySem.W.Frag}:kitOne K (.type "tuple") (.type "str")=some false:=by kernel_rfl
theorem Zen{K:PySem.W.Frag}:kitOne K (.type "tuple") (.type "list")=some false:=by kernel_rfl
theorem Zeo{K:PySem.W.Frag}:kitOne K (.type "tuple") (.type "tuple")=some true:=by kernel_rfl
theorem EO(ns:List Int)(o:Option Int):(ns++o.toList).map V.int=ns.map V.int++o.toList.map V.int:=by simp
inductive Dt where
 |aB|bl (b:Bool)|int (i:Int)|str (x:Str)|lst (ds:List Dt)|tup (ds:List Dt)
def At(H:Hp):Nat->V->Dt->Prop
 |_,v,.aB=>v=.aB
 |_,v,.bl b=>v=.bl b
 |_,v,.int i=>v=.int i
 |_,v,.str x=>v=.str x
 |0,_,.lst _=>False
 |0,_,.tup _=>False
 |m+1,v,.lst ds=>∃a xs,v=.ref a/\H a=some (.lst xs)/\ds.length<=1000/\Paired (At H m) xs ds
 |m+1,v,.tup ds=>∃a xs,v=.ref a/\H a=some (.tup xs)/\ds.length<=1000/\Paired (At H m) xs ds
theorem At.same(g:aj H H'):∀{m:Nat} {v:V} {d:Dt},At H m v d->At H' m v d
 |_,_,.aB,h=>by unfold At at h⊢;exact h
 |_,_,.bl _,h=>by unfold At at h⊢;exact h
 |_,_,.int _,h=>by unfold At at h⊢;exact h
 |_,_,.str _,h=>by unfold At at h⊢;exact h
 |0,_,.lst _,h=>by unfold At at h;exact h.elim
 |0,_,.tup _,h=>by unfold At at h;exact h.elim
 |m+1,_,.lst _,h=>by
  obtain⟨a,xs,e,h1,h2,h3⟩:=h;exact⟨a,xs,e,g _ _ h1,h2,L2.Paired.bu h3 λ_ _ z=>At.same g z⟩
 |m+1,_,.tup _,h=>by
  obtain⟨a,xs,e,h1,h2,h3⟩:=h;exact⟨a,xs,e,g _ _ h1,h2,L2.Paired.bu h3 λ_ _ z=>At.same g z⟩
section
variable {H:Hp}{m:Nat}
end
theorem fk:∀{xs:List α} {ys:List β} {i:Nat} {x:α},Paired F xs ys->xs[i]?=some x->∃y,ys[i]?=some y/\F x y:=by
 intro xs ys i x h;induction h generalizing i with
 |nil=>intro e;simp at e
 |cons r t ih=>
  intro e;cases i with
  |zero=>
   have e:=Yo (show some _=some _ by simpa using e);subst e;exact⟨_,rfl,r⟩
  |succ i=>
   obtain⟨y,h1,h2⟩:=ih (i:=i) (by simpa using e);exact⟨y,by simpa using h1,h2⟩
theorem cR:∀{xs:List α} {ys:List β},Paired F xs ys->xs.length=ys.length:=by
 intro xs ys h;induction h with
 |nil=>rfl
 |cons _ _ ih=>rw[Wl,Wl,ih]
theorem NS{α:Type}{xs:List α}{i:Nat}{x:α}(h:xs[i]?=some x):dA xs (0+(i:Int))=some x:=by
 rw[show(0:Int)+(i:Int)=(i:Int) from by omega];exact gQ h
def ZcQ:List V->Hp->VK->Prop:=λxs H Q=>∃(p:Addr) (n:Nat),xs=[.ref p]/\H p=some (.jb 0 (n:Int))/\n<=1000/\∀l:Addr,H l=none->Q (.ref l) (upd H l (.tup ((bF n).map V.int)))
section
variable {prog:Program}{w:World}{A:Around}{E:Value->Shared->Prop}{s:Shared}
theorem Zd{Q:List Value->Shared->Prop}{r:Addr}{n:Nat}{t u v:Tok}(hh:A.handled=none)(hr:IsRange s.heap r 0 (n:Int) 1 t u v)(hn:n<=1000)
  (k:∀h' tk (acc:Array Value),(∀b o,s.heap.get? b=some o->h'.get? b=some o)->ItemsOf (λi v=>∃t,v=.int (0+i*1) t) acc n->Q acc.toList {s with heap:=h',toks:=tk}):
  wpAny (model prog w) A (collect (.ref r)) Q E s:=by
 refine wpAny_bind (wpAny_runValue (codeAny_builtin PySem.F.entry_proto_collect (wpAny_bind (wpAny_newObj_type (wpAny_pure ⟨plainId_quiet PySem.F.plain_list_iadd _,codeAny_builtin PySem.F.entry_list_iadd ?_⟩)))));have Zfs:∀s':Shared,(∃(h':Heap) (tk:Nat) (acc:Array Value) (c:Nat),s'={s with heap:=h',toks:=tk}/\(∀b o,b≠s.heap.objs.size->(s.heap.push {cls:=.type "list",data:=.seq ([]:List Value).toArray}).get? b=some o->h'.get? b=some o)/\
   h'.get? s.heap.objs.size=some {cls:=.type "list",dict:=none,data:=.seq acc c,slots:=#[]}/\ItemsOf (λi v=>∃t,v=.int (0+i*1) t) acc n)->
   wpAny (model prog w) A (match Value.ref s.heap.objs.size with
    |Value.ref a=>do
     match(←load a).data with
      |Data.seq xs _=>pure xs.toList
      |_=>unsupported "internal:collect"
    |_=>unsupported "internal:collect") Q E s':=by
  rintro s' ⟨h',tk,acc,c,rfl,kp,here,ai⟩;exact wpAny_bind (wpAny_load here (wpAny_pure (k h' tk acc (λb o hb=>kp b o (Yy (Yw hb)) (Yb _ hb)) ai)))
 refine wpAny_mono (wpAny_extend_range (s:={s with heap:=s.heap.push {cls:=.type "list",data:=.seq ([]:List Value).toArray}})
  (R:=λr s'=>r=.ok (.ret (.ref s.heap.objs.size))/\∃(h':Heap) (tk:Nat) (acc:Array Value) (c:Nat),s'={s with heap:=h',toks:=tk}/\(∀b o,b≠s.heap.objs.size->(s.heap.push {cls:=.type "list",data:=.seq ([]:List Value).toArray}).get? b=some o->h'.get? b=some o)/\
   h'.get? s.heap.objs.size=some {cls:=.type "list",dict:=none,data:=.seq acc c,slots:=#[]}/\ItemsOf (λi v=>∃t,v=.int (0+i*1) t) acc n)
  hh (Yb _ hr) (small_one (by omega) (by omega) (by omega) (by omega)) (by rw[rangeSize_one];split<;>omega) (by omega) _ _ 0 (Ys _ rfl) λh' tk acc c kp here ai=>⟨rfl,h',tk,acc,c,rfl,kp,here,ai⟩) (λfin s' z=>?_) λe s' z=>?_
 ·cases fin with
  |done f=>grind
  |again c'=>exact⟨z.1,codeAny_mono z.2 λr rT hr=>by obtain⟨rfl,hz⟩:=hr;exact Zfs rT hz⟩
 ·grind
theorem ZcR(r:Addr)(n:Nat)(t u v:Tok)(hn:n<=1000):
  Meets (Builtin.«tuple.__new__» ⟨[.type "tuple",.ref r],[]⟩) (λA R s=>A.handled=none/\IsRange s.heap r 0 (n:Int) 1 t u v/\∀(h':Heap) (tk:Nat) (acc:Array Value),(∀b o,s.heap.get? b=some o->h'.get? b=some o)->ItemsOf (λi v=>∃t,v=.int (0+i*1) t) acc n->
   R (.ok (.ret (.ref h'.objs.size))) {s with heap:=h'.push {cls:=.type "tuple",data:=.seq acc},toks:=tk}):=
 .of_wp λprog w A R s h=>by
  obtain⟨hp,g,d,tk,os⟩:=s;obtain⟨hh,ht,q⟩:=h;have sub:=sub_tuple_self;have ini:=init_tuple_lookup;have mh:=madeHere_tuple;have hh1:A.in1.handled=none:=hh
  wp_walk using PySem.AutoSeq1.wpAny_loadPart' ht,wpAny_typeOf ty,Zd (A:=A.in1) hh1 ht hn
  intro h' tk' acc kp ai;show wpAny _ _ (Builtin.Tuple.tupleExact acc.toList.toArray>>=λv=>ret v) _ _ _;unfold Builtin.Tuple.tupleExact;have lz:acc.toList.toArray.size<=sizeLine:=by
   have e:=ai.1;rw[sizeLine_eq];simp;omega
  refine wpAny_bind (wpAny_newObj_type (wpAny_pure ⟨_,rfl,?_⟩) lz);have e:acc.toList.toArray=acc:=by simp
  rw[e];exact q h' tk' acc kp ai
end
theorem LZ(hc:X.calm=true):c7 X (.type "tuple") ZcQ:=by
 intro pins s σ H xs us Q I r h;obtain⟨p,n,rfl,hp,hn,q⟩:=h;obtain⟨u,rfl,rx⟩:=vals1 r;cases rx;obtain⟨t,u,v,ho⟩:=I.ay p _ hp;refine callType_new PySem.F.called_tuple (by decide) (PySem.F.typeCall_tuple_1 _) (PySem.F.newCall_tuple_1 _) (λobj=>PySem.F.args_object_init_2 obj _) PySem.F.entry_tuple_new (ZcR p n t u v hn) ⟨I.ok.hd hc,ho,λh' tk acc kp ai=>⟨⟨_,Ys _ rfl,rfl⟩,?_⟩⟩;have I1:=I.kept (t':=tk) kp;have vs:Vals ((bF n).map V.int) acc.toList:=by
  refine DB (by rw[Ya,eG];simp[ai.1]) λi x u e1 e2=>?_;obtain⟨t',rfl⟩:=ai.2 i u (by simpa using e2);have hi:i<n:=by
   have:=(Yl.mp e1).1;rw[Ya,eG] at this;exact this
  rw[Yf,kZ hi] at e1;have e3:=Yo e1;subst e3;exact⟨t',by rw[show(0:Int)+(i:Int)*1=(i:Int) by omega]⟩
 have I2:Inv X pins σ (upd H h'.objs.size (.tup ((bF n).map V.int))) {s with heap:=h'.push {cls:=.type "tuple",data:=.seq acc},toks:=tk}:=
  I1.laid (t':=tk) (λb o e=>Yb _ e) (Yd _) (show cT X.prog X.w _ _ _ (.tup _) from⟨by rw[Ya,eG];exact Jr (jo hn),acc.toList,vs,by simpa using lq.new h' acc⟩)
 exact⟨.ref h'.objs.size,_,I2,rfl,q _ (I1.ay.fresh (Yd _))⟩
section
variable {X:Cx}{e e2:Expr}{es:List Expr}{te:TE}{t:TF}{pos:Pos}
end
end L2
namespace L2
open PySem PySem.Spec PyProof.Rows
open PySem.W (Looks InstAt looks_findIn looks_typeIn looks_clsIn looks_mroIn looks_find findObj findIn mroIn clsIn)
section
variable {X:Cx}{B1 B2:Addr}{i:Nat}{n x1 x2:Str}{body Zhh Zhi:List Stmt}{b1 b2:Stmt}{px1 px2 oH dG pos:Pos}{tb:(St->XK)->TS}{th1 th2:TS}
end
end L2
namespace I_
open L2
theorem Mu(n:Nat):(bF n).Nodup:=by
 exact List.Pairwise.map _ (λa b h e=>h (by omega)) List.nodup_range
section
variable {t:List Int}{n:Nat}
end
end I_
namespace L2
open PySem PySem.Spec PyProof.Rows
def Row(K:PySem.W.Frag)(H:Hp)(p:Addr)(ns:List Int):Prop:=ak K H p (ns.map V.int)\/aA K H p (ns.map V.int)
theorem Row.same{K:PySem.W.Frag}{H H':Hp}{p:Addr}{ns:List Int}(e:aj H H')(h:Row K H p ns):Row K H' p ns:=by
 rcases h with h|h;·exact .inl (e.seq h)
 ·exact .inr (e.iR h)
def full(ns:List Int):Bool:=decide (ns.Perm (bF ns.length))
theorem pq(h:full ns=true):ns.Perm (bF ns.length):=of_decide_eq_true h
theorem qM(h:ns.Perm (bF n)):full ns=true:=decide_eq_true (by rw[h.length_eq,eG];exact h)
theorem Ze(n:Nat):(bF n).Pairwise (·<=·):=by
 unfold bF;rw[Wu];exact List.pairwise_lt_range.imp λh=>by omega
theorem Mv:∀{as bs:List Int},as.Perm bs->as.Pairwise (·<=·)->bs.Pairwise (·<=·)->as=bs
 |[],bs,p,_,_=>by
  simp_all
 |a::as,[],p,_,_=>by
  simp_all
 |a::as,b::bs,p,h1,h2=>by
  rw[List.pairwise_cons] at h1 h2;have e:a=b:=by
   have ha:=p.subset Yh;have hb:=p.symm.subset Yh
   grind
  subst e;rw[Mv (List.Perm.cons_inv p) h1.2 h2.2]
theorem Zf(p:cB.Perm ns)(h:cB.Pairwise (·<=·)):decide (cB=bF ns.length)=full ns:=by
 unfold full;rw[Wf,decide_eq_true_iff,decide_eq_true_iff];constructor;·grind
 ·intro q;exact Mv (p.trans q) h (Ze _)
def R3(K:PySem.W.Frag)(neg:Bool)(tr:TE):TE:=jE (SW K neg) (pY (F4 K) (fY tr i4)) (pY NN (fY (pY O6 (fY (pY (zL K) (fY tr i4)) i4)) i4))
theorem ZbD{K:PySem.W.Frag}{i:Nat}{neg:Bool}{σ:St}{H:Hp}{p:Addr}{ns:List Int}{Q:VK}(hi:σ[i]?=some (some (.ref p)))(hR:Row K H p ns)(gn:ns.length<64)(q:∀H',aj H H'->Q (.bl (if neg=true then !full ns else full ns)) H'):
   (R3 K neg (eW i)) σ H Q:=by
 refine⟨_,hi,p,ns,rfl,hR,gn,λl cB hl pm so=>?_⟩;have g1:aj H (upd H l (.lst (cB.map V.int))):=cq hl _;refine⟨_,hi,p,ns.map V.int,rfl,Row.same g1 hR,_,rfl,λr hr=>⟨r,(ns.map V.int).length,rfl,aW,by rw[Ya];omega,λu hu=>?_⟩⟩;have g3:=(g1.trans (cq hr (.jb 0 (((ns.map V.int).length:Nat):Int)))).trans (cq hu (.lst ((bF (ns.map V.int).length).map V.int)));refine⟨l,u,cB,bF (ns.map V.int).length,rfl,rfl,ak.of ?_,ak.of aW,?_⟩
 ·rw[bg (ck ((cq hr _) _ _ aW) hu)];exact(cq hr _) _ _ aW
 ·rw[Ya,Zf pm so]
  grind
theorem any_false(n:Nat):(List.replicate n false).any id=false:=by
 induction n with
 |zero=>rfl
 |succ n ih=>grind
section
open PySem.AutoSeq1 (wpAny_loadPart')
open PySem.MeetsSeq PySem.SeqAt
theorem XC(l:Addr)(items:Array Value)(n:Nat)(dd:Option Addr)(sl:Array (Option Value))(x:Value)(e:Value->Bool)(j:Nat)(hj:j<items.size)
  (hit:e items[j]=true)(wO:∀m (hm:m<items.size),m<j->e items[m]=false):
  Meets (Builtin.«tuple.index» ⟨[.ref l,x],[]⟩)
   (λA R s=>s.heap.get? l=some {cls:=.type "tuple",dict:=dd,data:=.seq items n,slots:=sl}/\(∀y,y∈items->EqAt A.in1 s y x (e y))/\R (.ok (.ret (.int j s.toks))) {s with toks:=s.toks+1}):=
 .of_wp λprog w A R s h=>by
  obtain⟨hp,g,d,tk,os⟩:=s;obtain⟨hl,he,h⟩:=h
  wp_walk using wpAny_loadPart' hl
  show wpAny _ _ (forIn (m:=Sem) [:min items.size items.size] (none,()) _) _ _ _;rw[Std.Legacy.Range.forIn_eq_forIn_range'];refine wpAny_forIn_list _ (λrest b s'=>s'=⟨hp,g,d,tk,os⟩/\∃i,i<=j/\rest=List.range' i (items.size-i)) _ ?_ ?_ _ _ ⟨rfl,0,Yv _,by simp⟩
  ·rintro k rest b s' ⟨rfl,i,hi,hr⟩;have bN:i<items.size:=by omega
   obtain⟨rfl,wa⟩:k=i/\rest=List.range' (i+1) (items.size-(i+1)):=by
    have e:items.size-i=(items.size-(i+1))+1:=by omega
    rw[e,List.range'_succ] at hr;injection hr with h1 h2;exact⟨h1,h2⟩
   rw[W8 bN];refine wpAny_bind (he _ (Array.getElem_mem bN) prog w _ _ ?_);rcases Nat.lt_or_ge k j with hk|hk
   ·rw[wO k bN hk]
    wp_walk
    exact⟨rfl,k+1,by omega,wa⟩
   ·obtain rfl:k=j:=by omega
    rw[hit]
    wp_walk
    exact⟨_,rfl,h⟩
  ·grind
end
def Zep(to:TE)(t:TA):TE:=λσ H Q=>to σ H λx H1=>∃(p:Addr) (ns:List Int),x=.ref p/\H1 p=some (.tup (ns.map V.int))/\t σ H1 λvs H2=>∃(z:Int) (j:Nat),vs=[.int z]/\H2 p=some (.tup (ns.map V.int))/\ns[j]?=some z/\(∀m,m<j->ns[m]?≠some z)/\Q (.int (j:Int)) H2
theorem XD:∀{ns:List Int} {us:List Value} {j:Nat} (h:j<us.length),Vals (ns.map V.int) us->∃n t,ns[j]?=some n/\us[j]=.int n t:=by
 intro ns;induction ns with
 |nil=>intro us j h r;cases r;simp at h
 |cons n ns ih=>
  intro us j h r;rw[Wn] at r;cases r with
  |cons r t=>
   cases j with
   |zero=>
    obtain⟨t',rfl⟩:=r;exact⟨n,t',rfl,rfl⟩
   |succ j=>
    obtain⟨n',t',e1,e2⟩:=ih (j:=j) (by simpa using h) t;exact⟨n',t',by simpa using e1,by simpa using e2⟩
theorem ZaR(ns:List Int):(ns.map V.int).all iK=true:=by
 induction ns with
 |nil=>rfl
 |cons n ns ih=>rw[Wn,Wi,ih];rfl
theorem L_(ho:PE X o to)(ha:PA X [e] t)
  (q_:attributeBase o "index" X.env (eval o X.env)=eval o X.env:=by rfl)
  (Ic:((backTo cL (starEach [e] X.env)).all (λx=>!x.1)&&(backToKw cL (keywordEach [] X.env)).all (λx=>x.1.isSome)
   &&decide ([e].length+([]:List Keyword).length+(if([]:List Keyword).isEmpty then 0 else 1)<30))=true:=by rfl)
  (rf:(apos.endLine==cL.line)=true:=by rfl)(hs:starEach [e] X.env=(false,eval e X.env)::starEach [] X.env:=by rfl):
  PE X (.Call (.Attribute o "index" apos) [e] [] cL) (Zep to t):=by
 intro pins s σ H Q I h;refine wpAny_Call_method_late q_ Ic rf rfl (aC (ho pins s σ H _ I h) λv s1 zq=>?_);obtain⟨x,H1,I1,r1,p,ns,ex,hp,q1⟩:=zq;subst ex;obtain rfl:v=Value.ref p:=r1;obtain⟨_,_,_,ob,g,oc,_,_,od⟩:=(show cT X.prog X.w H1 s1.heap p (.tup (ns.map V.int)) from I1.ay p _ hp);refine⟨"tuple","tuple.index",F.plainAttrs_tuple,F.slot_tuple_index,F.type_tuple_index,⟨ob,g,oc⟩,λa ea=>by cases ea;exact⟨ob,g,od⟩,?_⟩;have hA:=ha cL pins s1 σ H1 _ I1 q1;rw[hs] at hA⊢;refine Calls.callWith_builtin rfl (Calls.evalArgs_plain ?_);refine aC hA λus s2 zq=>?_;obtain⟨vs,H2,I2,r2,z,j,ev,dG,hj,wO,q2⟩:=zq;subst ev;obtain⟨u,rfl,ru⟩:=r2.one;obtain⟨tz,rfl⟩:=ru;obtain⟨_,ai,rv,⟨cls,dd,data,sl⟩,g2,Uc,n2,Ud,_⟩:=(show cT X.prog X.w H2 s2.heap p (.tup (ns.map V.int)) from I2.ay p _ dG);simp only at Uc Ud;subst Uc Ud;have hlen:ai.length=ns.length:=by have:=rv.length;rw[Ya] at this;omega
 have Ue:j<ai.length:=by rw[hlen];exact(Yl.mp hj).1
 have ix:∀m (hm:m<ai.length),g_ (.int z) ai[m]=decide (ns[m]?=some z):=λm hm=>by
  obtain⟨n',t',e1,e2⟩:=XD hm rv;rw[e1,e2];show(n'==z)=decide (some n'=some z)
  grind
 refine call_meets F.slot_tuple_index ⟨_,g2,rfl⟩ F.entry_tuple_index (F.args_tuple_index_2 _ _) (XC p ai.toArray n2 dd sl (.int z tz) (g_ (.int z)) j (by rw[Yr];exact Ue) ?_ ?_) ⟨g2,?_,?_⟩;·rw[List.getElem_toArray,ix j Ue];exact decide_eq_true hj
 ·intro m hm bN;rw[List.getElem_toArray,ix m (by simpa using hm)];exact decide_eq_false (wO m bN)
 ·intro y hy;exact vE (x:=.int z) ⟨tz,rfl⟩ rfl rv (ZaR ns) y (by simpa using hy)
 ·exact⟨.int _,H2,I2.tok _,⟨_,rfl⟩,q2⟩
section
variable {κ:Type}[DecidableEq κ]
def aS(kvs:List (κ×V))(k:κ):Option V:=(kvs.find? λkv=>decide (kv.1=k)).map (·.2)
def putK(kvs:List (κ×V))(k:κ)(v:V):List (κ×V):=
 if(kvs.any λkv=>decide (kv.1=k))=true then kvs.map (λkv=>if kv.1=k then(kv.1,v) else kv) else kvs++[(k,v)]
def f_(kvs:List (κ×V))(k:κ):List (κ×V):=kvs.filter λkv=>decide (kv.1≠k)
theorem fw{p:κ×V}{r:List (κ×V)}{k:κ}(e:p.1=k):aS (p::r) k=some p.2:=by simp[aS,J4,e]
theorem eU{p:κ×V}{r:List (κ×V)}{k:κ}(e:¬p.1=k):aS (p::r) k=aS r k:=by simp[aS,J4,e]
theorem tK(k:κ):∀kvs:List (κ×V),(kvs.any λkv=>decide (kv.1=k))=(aS kvs k).isSome
 |[]=>rfl
 |p::r=>by
  rw[W7];by_cases e:p.1=k;·simp only[fw e,decide_eq_true e,Bool.true_or,Option.isSome_some]
  ·rw[eU e,decide_eq_false e,J1];exact tK k r
theorem NT(k j:κ)(y:V):∀kvs:List (κ×V),aS (kvs.map λkv=>if kv.1=k then(kv.1,y) else kv) j=(aS kvs j).map λx=>if j=k then y else x
 |[]=>rfl
 |p::r=>by
  have ih:=NT k j y r;rw[Wn];by_cases h:p.1=k
  ·rw[if_pos h];by_cases e:p.1=j;·rw[fw (p:=(p.1,y)) e,fw e,Option.map_some,if_pos (e.symm.trans h)]
   ·rw[eU (p:=(p.1,y)) e,eU e,ih]
  ·rw[if_neg h];by_cases e:p.1=j;·rw[fw e,fw e,Option.map_some,if_neg (λz=>h (e.trans z))]
   ·rw[eU e,eU e,ih]
theorem s_(k j:κ)(y:V):∀kvs:List (κ×V),aS kvs k=none->aS (kvs++[(k,y)]) j=if j=k then some y else aS kvs j
 |[],_=>by
  by_cases e:k=j;·rw[if_pos e.symm];exact fw (p:=(k,y)) e
  ·rw[if_neg (λz=>e z.symm)];exact eU (p:=(k,y)) e
 |p::r,hn=>by
  rw[Ug];have hk:¬p.1=k:=λz=>by rw[fw z] at hn;cases hn
  rw[eU hk] at hn;by_cases e:p.1=j;·rw[fw e,fw e,if_neg (λz=>hk (e.trans z))]
  ·rw[eU e,eU e,(s_ k j y r hn)]
theorem ZbE(kvs:List (κ×V))(k j:κ)(y:V):aS (putK kvs k y) j=if j=k then some y else aS kvs j:=by
 unfold putK;by_cases a:(kvs.any λkv=>decide (kv.1=k))=true
 ·rw[if_pos a,NT];rw[tK] at a;by_cases e:j=k
  ·obtain⟨x,hx⟩:=Ja.mp a
   grind
  ·simp_all
 ·rw[if_neg a];refine s_ k j y kvs ?_;rw[tK] at a;cases q:aS kvs k with
  |none=>rfl
  |some x=>grind
theorem yb(kvs:List (κ×V))(k:κ)(v:V):(putK kvs k v).length<=kvs.length+1:=by
 unfold putK
 grind
theorem kq{kvs:List (κ×V)}{k:κ}(v:V)(h:aS kvs k=none):putK kvs k v=kvs++[(k,v)]:=by
 unfold putK;rw[tK,h];rfl
theorem fJ.tD(r:fJ o u):o.isSome=u.isSome:=by
 cases o with
 |none=>cases u with
  |none=>rfl
  |some _=>exact(show False from r).elim
 |some _=>cases u with
  |none=>exact(show False from r).elim
  |some _=>rfl
theorem fJ.getD(r:fJ o u)(rd:RelV d d'):RelV (o.getD d) (u.getD d'):=by
 cases o with
 |none=>cases u with
  |none=>exact rd
  |some _=>exact(show False from r).elim
 |some _=>cases u with
  |none=>exact(show False from r).elim
  |some _=>exact r
theorem KV.val{kvs:List (κ×V)}{vs:List (κ×Value)}(r:KV kvs vs)(k:κ):fJ (aS kvs k) (valueAt vs k):=by
 unfold KV at r;induction r with
 |nil=>exact True.intro
 |@cons p q ps qs h t ih=>
  obtain⟨h1,h2⟩:=h;by_cases e:p.1=k
  ·have e':q.1=k:=h1.symm.trans e;have b:valueAt (q::qs) k=some q.2:=by simp[valueAt,J4,e']
   rw[fw e,b];exact h2
  ·have e':¬q.1=k:=λz=>e (h1.trans z);have b:valueAt (q::qs) k=valueAt qs k:=by simp[valueAt,J4,e']
   rw[eU e,b];exact ih
theorem KV.any(r:KV kvs vs)(k:κ):(kvs.any λkv=>decide (kv.1=k))=vs.any λkv=>decide (kv.1=k):=by
 induction r with
 |nil=>rfl
 |cons h t ih=>grind
theorem KV.Ij(r:KV kvs vs)(k:κ)(ry:RelV y u):
  KV (kvs.map λkv=>if kv.1=k then(kv.1,y) else kv) (vs.map λkv=>if kv.1=k then(kv.1,u) else kv):=by
 induction r with
 |nil=>exact .nil
 |@cons p q ps qs h t ih=>
  refine .cons ?_ ih
  grind
theorem KV.put(r:KV kvs vs)(k:κ)(ry:RelV y u):KV (putK kvs k y) (stored vs k u):=by
 unfold putK stored;rw[r.any k];by_cases e:(vs.any λkv=>decide (kv.1=k))=true;·rw[if_pos e,if_pos e];exact r.Ij k ry
 ·rw[if_neg e,if_neg e];exact Paired.snoc r ⟨rfl,ry⟩
theorem KV.drop(r:KV kvs vs)(k:κ):KV (f_ kvs k) (without vs k):=by
 unfold f_ without;induction r with
 |nil=>exact .nil
 |@cons p q ps qs h t ih=>
  obtain⟨h1,h2⟩:=h;rw[W1,W1];by_cases e:p.1=k;·grind
  ·have e':¬q.1=k:=λz=>e (h1.trans z);have a:decide (p.1≠k)=true:=by simp[e]
   have b:decide (q.1≠k)=true:=by simp[e']
   rw[if_pos a,if_pos b];exact .cons ⟨h1,h2⟩ ih
theorem KV.keys{kvs:List (κ×V)}{vs:List (κ×Value)}(r:KV kvs vs):kvs.map (·.1)=vs.map (·.1):=by
 induction r with
 |nil=>rfl
 |cons h t ih=>grind
theorem KV.length(r:KV kvs vs):kvs.length=vs.length:=Paired.length r
theorem NU(kvs:List (κ×V))(k:κ):(f_ kvs k).length<=kvs.length:=Wg _ _
end
theorem lF(r:RelV (kV k) u):(dz P w).is k u=true:=by
 cases k with
 |inl i=>obtain⟨t,e⟩:=(show ∃t,u=Value.int i t from r);subst e;exact YZ P w i t
 |inr x=>obtain⟨t,e⟩:=(show ∃t,u=Value.str x t from r);subst e;exact Y_ P w x t
theorem M3:∀{ks:List Key} {us:List Value},Vals (ks.map kV) us->ItemsAre (dz P w) ks us
 |[],_,r=>by rw[List.map_nil] at r;cases r;exact .nil
 |k::ks,_,r=>by
  cases r with
  |cons h t=>exact .cons (lF h) (M3 t)
abbrev KT(H:Hp):List (List Key×V)->List (List Key×Addr×Value)->Prop:=Paired λp q=>p.1=q.1/\H q.2.1=some (.tup (p.1.map kV))/\RelV p.2 q.2.2
theorem KT.val{H:Hp}{kvs:List (List Key×V)}{xs:List (List Key×Addr×Value)}(r:KT H kvs xs)(k:List Key):fJ (aS kvs k) ((atKey xs k).map (·.2)):=by
 induction r with
 |nil=>exact True.intro
 |@cons p q ps qs h t ih=>
  obtain⟨h1,_,h2⟩:=h;by_cases e:p.1=k
  ·have e':q.1=k:=h1.symm.trans e;have b:atKey (q::qs) k=some q.2:=by simp[atKey,e']
   rw[fw e,b];exact h2
  ·have e':¬q.1=k:=λz=>e (h1.trans z);have b:atKey (q::qs) k=atKey qs k:=by simp[atKey,e']
   rw[eU e,b];exact ih
theorem KT.Ij(r:KT H kvs xs)(k:List Key)(ry:RelV y u):
  KT H (kvs.map λkv=>if kv.1=k then(kv.1,y) else kv) (xs.map (putAt k u)):=by
 induction r with
 |nil=>exact .nil
 |@cons p q ps qs h t ih=>
  refine .cons ?_ ih;unfold putAt
  grind
theorem KT.put(r:KT H kvs xs)(k:List Key)(hb:H b=some (.tup (k.map kV)))(ry:RelV y u):
  KT H (putK kvs k y) (storedH xs k b u):=by
 have e:(kvs.any λkv=>decide (kv.1=k))=(atKey xs k).isSome:=by
  rw[tK,(r.val k).tD,Uh]
 unfold putK storedH;rw[e];by_cases q:(atKey xs k).isSome=true;·rw[if_pos q,if_pos q];exact r.Ij k ry
 ·rw[if_neg q,if_neg q];exact Paired.snoc r ⟨rfl,hb,ry⟩
theorem KT.keeps(r:KT H kvs xs)(ht:∀b ys,H b=some (.tup ys)->H' b=some (.tup ys)):KT H' kvs xs:=
 Paired.bu r λ_ _ z=>⟨z.1,ht _ _ z.2.1,z.2.2⟩
section
variable {P:Program}{w:World}{H:Hp}{h:Heap}{a:Addr}
theorem R4(ok:dq P w H h)(e:Rd H a u):cT P w H h a u:=e.ok ok
theorem n5(ok:dq P w H h)(e:Rd H a (.dK kvs)):kvs.length<=sizeLine/\(a==sysModules)=false/\∃vs,KV kvs vs/\h.DictOf (dz P w) a vs:=
 show cT P w H h a (.dK kvs) from R4 ok e
theorem mI(ok:dq P w H h)(e:H a=some (.dK kvs)):kvs.length<=sizeLine/\(a==sysModules)=false/\∃vs,KV kvs vs/\h.DictOf (dz P w) a vs:=n5 ok (.inl e)
theorem pK(ok:dq P w H h)(e:H a=some (.tup (ks.map kV))):(tupleKind (dz P w)).is h ks a:=by
 obtain⟨_,ai,r,o,h1,h2,n,h3,_⟩:=(show cT P w H h a (.tup (ks.map kV)) from ok a _ e);exact⟨o,ai.toArray,n,h1,h2,h3,by simpa using M3 r⟩
theorem pN(ok:dq P w H h)(e:Rd H a (.dT kvs)):kvs.length<=sizeLine/\(a==sysModules)=false/\
  ∃xs,KT H kvs xs/\h.DictOfH (tupleKind (dz P w)) a xs:=by
 obtain⟨z,y,xs,r,o,es,ep,h1,h2,h3,h4,h5⟩:=(show cT P w H h a (.dT kvs) from R4 ok e);refine⟨z,y,xs,r,o,es,ep,h1,h2,h3,h4,λx hx=>?_,h5⟩;have all:∀{l:List (List Key×V)} {m:List (List Key×Addr×Value)},KT H l m->∀x∈m,(tupleKind (dz P w)).is h x.1 x.2.1:=by
  intro l m q;induction q with
  |nil=>grind
  |@cons p q ps qs hq t ih=>
   intro x hx;rcases Ym.mp hx with e|hx
   ·subst e;exact pK ok (by rw[←hq.1];exact hq.2.1)
   ·exact ih x hx
 grind
theorem R5(ok:dq P w H h)(e:H a=some (.dT kvs)):kvs.length<=sizeLine/\(a==sysModules)=false/\
  ∃xs,KT H kvs xs/\h.DictOfH (tupleKind (dz P w)) a xs:=pN ok (.inl e)
end
def dW(H:Hp)(a:Addr)(y:V)(r:Option V):Prop:=
 (∃kvs k,Rd H a (.dK kvs)/\y=kV k/\r=aS kvs k)\/∃kvs k b,Rd H a (.dT kvs)/\y=.ref b/\H b=some (.tup (k.map kV))/\r=aS kvs k
def rG(H:Hp)(a:Addr)(y v:V)(H':Hp):Prop:=
 (∃kvs k,H a=some (.dK kvs)/\y=kV k/\kvs.length<sizeLine/\H'=upd H a (.dK (putK kvs k v)))\/
 ∃kvs k b,H a=some (.dT kvs)/\y=.ref b/\H b=some (.tup (k.map kV))/\kvs.length<sizeLine/\H'=upd H a (.dT (putK kvs k v))
theorem dW.k{H:Hp}{a:Addr}{kvs:List (Key×V)}{k:Key}(e:H a=some (.dK kvs)):dW H a (kV k) (aS kvs k):=.inl ⟨kvs,k,.inl e,rfl,rfl⟩
theorem dW.t{H:Hp}{a b:Addr}{kvs:List (List Key×V)}{k:List Key}(e:H a=some (.dT kvs))(eb:H b=some (.tup (k.map kV))):dW H a (.ref b) (aS kvs k):=.inr ⟨kvs,k,b,.inl e,rfl,eb,rfl⟩
theorem rG.k{H:Hp}{a:Addr}{kvs:List (Key×V)}{k:Key}{v:V}(e:H a=some (.dK kvs))(hl:kvs.length<sizeLine):rG H a (kV k) v (upd H a (.dK (putK kvs k v))):=.inl ⟨kvs,k,e,rfl,hl,rfl⟩
theorem rG.t{H:Hp}{a b:Addr}{kvs:List (List Key×V)}{k:List Key}{v:V}(e:H a=some (.dT kvs))(eb:H b=some (.tup (k.map kV)))(hl:kvs.length<sizeLine):
  rG H a (.ref b) v (upd H a (.dT (putK kvs k v))):=.inr ⟨kvs,k,b,e,rfl,eb,hl,rfl⟩
section
variable {X:Cx}{pins:List (Addr×Obj)}{σ:St}{H:Hp}{s:Shared}{a:Addr}{y v:V}{u r:Value}{o:Option V}{A:Around}{E:Value->Shared->Prop}
theorem Inv.big(I:Inv X pins σ H s):sysModules<s.heap.objs.size:=by
 exact Nat.lt_trans (by decide) ((I.mod.glob.keeps I.bk).lt)
theorem ZaS(hu:A.units+1<cLine)(I:Inv X pins σ H s)(g:dW H a y (some v))(ry:RelV y u)(h:∀w' s',Inv X pins σ H s'->RelV v w'->Q w' s'):
  wpAny (model X.prog X.w) A (getItem (.ref a) u) Q E s:=by
 rcases g with⟨kvs,k,e,ey,l⟩|⟨kvs,k,b,e,ey,eb,l⟩
 ·subst ey;obtain⟨z,hd,vs,rel,dd⟩:=n5 I.ay e;obtain⟨w',hw,fM⟩:=fJ.some_of (v:=v) (o:=valueAt vs k) (by rw[l];exact rel.val k);exact wpAny_getItem_of (lF ry) dd.mapOf hw (h w' _ (I.tok _) fM)
 ·subst ey;cases(show u=Value.ref b from ry);obtain⟨z,hd,xs,rel,dd⟩:=pN I.ay e;obtain⟨w',hw,fM⟩:=fJ.some_of (v:=v) (o:=(atKey xs k).map (·.2)) (by rw[l];exact rel.val k);obtain⟨p,hp,dG⟩:=Option.map_eq_some_iff.mp hw;refine wpAny_getItem_heap (tupleKind_room_in1 hu) (pK I.ay eb) dd hp ?_;rw[dG];exact h w' _ (I.tok _) fM
theorem Zgf(hu:A.units+1<cLine)(I:Inv X pins σ H s)(g:dW H a y o)(ry:RelV y u)(h:∀s',Inv X pins σ H s'->Q (.bool o.isSome) s'):
  wpAny (model X.prog X.w) A (compareOp .In u (.ref a)) Q E s:=by
 rcases g with⟨kvs,k,e,ey,l⟩|⟨kvs,k,b,e,ey,eb,l⟩
 ·subst ey;obtain⟨z,hd,vs,rel,dd⟩:=n5 I.ay e;refine wpAny_in_of (lF ry) hd dd.mapOf ?_;rw[←(rel.val k).tD,←l];exact h _ (I.tok _)
 ·subst ey;cases(show u=Value.ref b from ry);obtain⟨z,hd,xs,rel,dd⟩:=pN I.ay e;refine wpAny_in_heap (tupleKind_room_in1 hu) (pK I.ay eb) hd dd ?_;have q:=(rel.val k).tD;rw[Uh] at q;rw[←q,←l];exact h _ (I.tok _)
theorem ZcS(hu:A.units+1<cLine)(I:Inv X pins σ H s)(g:dW H a y o)(ry:RelV y u)(h:∀s',Inv X pins σ H s'->Q (.bool (!o.isSome)) s'):
  wpAny (model X.prog X.w) A (compareOp .NotIn u (.ref a)) Q E s:=by
 rcases g with⟨kvs,k,e,ey,l⟩|⟨kvs,k,b,e,ey,eb,l⟩
 ·subst ey;obtain⟨z,hd,vs,rel,dd⟩:=n5 I.ay e;refine wpAny_notIn_of (lF ry) hd dd.mapOf ?_;rw[←(rel.val k).tD,←l];exact h _ (I.tok _)
 ·subst ey;cases(show u=Value.ref b from ry);obtain⟨z,hd,xs,rel,dd⟩:=pN I.ay e;refine wpAny_notIn_heap (tupleKind_room_in1 hu) (pK I.ay eb) hd dd ?_;have q:=(rel.val k).tD;rw[Uh] at q;rw[←q,←l];exact h _ (I.tok _)
theorem qN(I:Inv X pins σ H s)(mu:wD (H a))(hs:Heap.SameBut a s.heap h')(he:∃q,h'.get? a=some q)(new:cT X.prog X.w (upd H a ob) h' a ob):
  Inv X pins σ (upd H a ob) {s with heap:=h',toks:=t'}:=
 I.write (x:=a) (e:=a) mu (.inl rfl) (λb q hb z=>(hs.2 b hb).trans z) he new
theorem vT(z:kvs.length<=sizeLine)(hd:(a==sysModules)=false)(rel:KV kvs vs)(dd:h'.DictOf (dz P w) a vs):
  cT P w H' h' a (.dK kvs):=⟨z,hd,vs,rel,dd⟩
theorem M4(hu:A.units+1<cLine)(I:Inv X pins σ H s)(g:rG H a y v H')(ry:RelV y u)(rv:RelV v r)(h:∀s',Inv X pins σ H' s'->Q () s'):
  wpAny (model X.prog X.w) A (setItem (.ref a) u r) Q E s:=by
 rcases g with⟨kvs,k,e,ey,l,eH⟩|⟨kvs,k,b,e,ey,eb,l,eH⟩
 ·subst ey eH;obtain⟨z,hd,vs,rel,dd⟩:=mI I.ay e;have hz:vs.length<=sizeLine:=by rw[←rel.length];exact z
  have hl:(putK kvs k v).length<=sizeLine:=by have:=yb kvs k v;omega
  refine wpAny_setItem_pairs (hsz:=hz) (lF ry) dd λh' ir hs=>h _ ?_;have he:∃q,h'.get? a=some q:=let⟨q,_,_,hq,_⟩:=ir;⟨q,hq⟩;exact qN I (by rw[e];exact True.intro) hs he (vT hl hd (rel.put k rv) ir)
 ·subst ey eH;cases(show u=Value.ref b from ry);obtain⟨z,hd,xs,rel,dd⟩:=R5 I.ay e;have hz:xs.length<=sizeLine:=by rw[←Paired.length rel];exact z
  have hl:(putK kvs k v).length<=sizeLine:=by have:=yb kvs k v;omega
  refine wpAny_setItem_heap (hsz:=hz) (tupleKind_room_in1 hu) (pK I.ay eb) dd λh' ir hs=>h _ ?_;obtain⟨q,es,ep,hq,h2,h3,h4,_,h5⟩:=ir;refine qN I (by rw[e];exact True.intro) hs ⟨q,hq⟩ ⟨hl,hd,_,(rel.put k eb rv).keeps λc ys ec=>?_,q,es,ep,hq,h2,h3,h4,h5⟩;rw[bg (RK ec e (λz=>nomatch z))];exact ec
end
section
variable {X:Cx}{pins:List (Addr×Obj)}{σ:St}{H:Hp}{s:Shared}{a:Addr}{kvs:List (Key×V)}{k:Key}{u:Value}{A:Around}{E:Value->Shared->Prop}
theorem ZaT(I:Inv X pins σ H s)(e:H a=some (.dK kvs))(ry:RelV (kV k) u)(l:(aS kvs k).isSome=true)(h:∀s',Inv X pins σ (upd H a (.dK (f_ kvs k))) s'->Q () s'):
  wpAny (model X.prog X.w) A (delItem (.ref a) u) Q E s:=by
 obtain⟨z,hd,vs,rel,dd⟩:=mI I.ay e;refine wpAny_delItem_slot dd.typeIs (by decide) slot_dict_delitem
  (call_meetsIn slot_dict_delitem dd.typeIs PySem.F.entry_dict_delitem (PySem.F.args_dict_delitem_2 _ _) (meets_dict_delitem_pairs (dz X.prog X.w) a (lF ry)) ⟨vs,dd,by rw[←rel.length];exact z,by rw[←(rel.val k).tD];exact l,λh' ir hs=>h _ ?_⟩)
 have he:∃q,h'.get? a=some q:=let⟨q,_,_,hq,_⟩:=ir;⟨q,hq⟩;exact qN I (by rw[e];exact True.intro) hs he (vT (Y3 (NU kvs k) z) hd (rel.drop k) ir)
theorem Zft(I:Inv X pins σ H s)(e:H a=some (.dK kvs))(ry:RelV (kV k) u)(l:aS kvs k=some v)(hm:more=[]\/∃x,more=[x])
  (h:∀w' s',Inv X pins σ (upd H a (.dK (f_ kvs k))) s'->RelV v w'->Q w' s'):wpAny (model X.prog X.w) A (call (.builtin "dict.pop") (.ref a::u::more)) Q E s:=by
 obtain⟨z,hd,vs,rel,dd⟩:=mI I.ay e;obtain⟨w',hw,fM⟩:=fJ.some_of (v:=v) (o:=valueAt vs k) (by rw[←l];exact rel.val k);have hp:(keyPart u).isSome=true:=by
  cases k with
  |inl i=>obtain⟨t,q⟩:=(show ∃t,u=Value.int i t from ry);subst q;rfl
  |inr x=>obtain⟨t,q⟩:=(show ∃t,u=Value.str x t from ry);subst q;rfl
 have ha:argsOk "dict.pop" ⟨.ref a::u::more,[]⟩:=by
  rcases hm with q|⟨x,q⟩;·subst q;exact PySem.F.args_dict_pop_2 _ _
  ·subst q;exact PySem.F.args_dict_pop_3 _ _ _
 refine call_meetsIn slot_dict_pop dd.typeIs PySem.F.entry_dict_pop ha (meets_dict_pop_there (dz X.prog X.w) a (lF ry) more hm hp)
  ⟨vs,w',dd,by rw[←rel.length];exact z,hw,λh' ir hs=>h w' _ ?_ fM⟩
 have he:∃q,h'.get? a=some q:=let⟨q,_,_,hq,_⟩:=ir;⟨q,hq⟩;exact qN I (by rw[e];exact True.intro) hs he (vT (Y3 (NU kvs k) z) hd (rel.drop k) ir)
theorem Zfu(I:Inv X pins σ H s)(e:Rd H a (.dK kvs))(h:∀t s',Inv X pins σ H s'->Q (.int kvs.length t) s'):wpAny (model X.prog X.w) A (call (.builtin "len") [.ref a]) Q E s:=by
 obtain⟨z,hd,vs,rel,dd⟩:=n5 I.ay e;refine call_len_dict hd dd (by rw[←rel.length];rw[sizeLine_eq] at z;omega) ?_;rw[←rel.length];exact h _ _ (I.tok _)
end
def S1(i:Expr):Prop:=∀ov iv,subscripted i false ov iv=operate [ov,iv] (getItem ov iv)
theorem ZcT{prog:Program}{w:World}{A:Around}{E:Value->Shared->Prop}{s:Shared}{env:Env}{value slice:Expr}{pos:Pos}{T id:String}{Q:Value->Shared->Prop}
  (hl:typeLookup (.type T) "__getitem__"=pure (some (.builtin id)))(hs:S1 slice)
  (h:wpAny (model prog w) A (eval value env) (λo bK=>wpAny (model prog w) A (eval slice env) (λi dU=>dU.TypeIs o T/\wpAny (model prog w) A (getItem o i) Q E dU) E bK) E s):
  wpAny (model prog w) A (eval (.Subscript value slice pos) env) Q E s:=by
 refine Subscript_ (wpAny_mono h (λo bK eA=>wpAny_mono eA (λi dU oq=>?_) λ_ _ x=>x) λ_ _ x=>x);obtain⟨hT,oq⟩:=oq;refine wpAny_bind (wpAny_bind (wpAny_specialOf hT hl ?_));have fin:wpAny (model prog w) A (subscripted slice false o i) (λr dQ=>wpAny (model prog w) A (letTemporaryGo value o r>>=λ_=>pure r) Q E dQ) E dU:=by
  rw[hs o i];exact wpAny_operating (wpAny_mono oq (λr dQ ug=>wpAny_bind (wpAny_letTemporaryGo (wpAny_pure ug))) λ_ _ x=>x)
 first
  |exact wpAny_pure (wpAny_bind fin)
  |exact wpAny_bind (wpAny_pure (wpAny_bind fin))
  |exact wpAny_bind fin
theorem Zg(I:Inv X pins σ H s)(g:dW H a y o):s.TypeIs (.ref a) "dict":=by
 rcases g with⟨kvs,k,e,_,_⟩|⟨kvs,k,b,e,_,_,_⟩
 ·obtain⟨_,_,vs,_,dd⟩:=n5 I.ay e;exact dd.typeIs
 ·obtain⟨_,_,xs,_,dd⟩:=pN I.ay e;exact dd.typeIs
inductive O_(Q:VK)(x:V)(y:V)(H2:Hp):Prop
 |mk (a v) (aE:x=.ref a) (aT:dW H2 a y (some v)) (bw:Q v H2):O_ Q x y H2
def Zfv(td ty:TE):TE:=λσ H Q=>td σ H λx H1=>ty σ H1 λy H2=>O_ Q x y H2
inductive QQ(Q:VK)(y:V)(x:V)(H2:Hp):Prop
 |mk (a o) (aE:x=.ref a) (aT:dW H2 a y o) (bw:Q (.bl o.isSome) H2):QQ Q y x H2
def Zgg(ty td:TE):TE:=λσ H Q=>ty σ H λy H1=>td σ H1 λx H2=>QQ Q y x H2
inductive M5(Q:VK)(y:V)(x:V)(H2:Hp):Prop
 |mk (a o) (aE:x=.ref a) (aT:dW H2 a y o) (bw:Q (.bl (!o.isSome)) H2):M5 Q y x H2
def ZcU(ty td:TE):TE:=λσ H Q=>ty σ H λy H1=>td σ H1 λx H2=>M5 Q y x H2
section
variable {X:Cx}{o i e value:Expr}{pos pos' zI:Pos}{td ty tv:TE}
theorem dh(hu:X.A.units+1<cLine)(ho:PE X o td)(hi:PE X i ty)(hs:S1 i):PE X (.Subscript o i pos) (Zfv td ty):=by
 intro pins s σ H Q I h;refine ZcT PySem.F.slot_dict_getitem.lookup hs (aC (ho pins s σ H _ I h) λu s1 zq=>?_);obtain⟨x,H1,I1,rx,q1⟩:=zq;refine aC (hi pins s1 σ H1 _ I1 q1) λiv s2 zq=>?_;obtain⟨y,H2,I2,ry,a,v,ex,g,q2⟩:=zq;subst ex;obtain rfl:u=Value.ref a:=rx;exact⟨Zg I2 g,ZaS hu I2 g ry λw' s3 I3 fM=>⟨v,H2,I3,fM,q2⟩⟩
theorem zg(hu:X.A.units+1<cLine)(hi:PE X i ty)(ho:PE X o td):PC X .In i o (Zgg ty td):=by
 intro pins s σ H Q I h;refine aC (hi pins s σ H _ I h) λiv s1 zq=>?_;obtain⟨y,H1,I1,ry,q1⟩:=zq;refine aC (ho pins s1 σ H1 _ I1 q1) λu s2 zq=>?_;obtain⟨x,H2,I2,rx,a,ov,ex,g,q2⟩:=zq;subst ex;obtain rfl:u=Value.ref a:=rx;exact Zgf hu I2 g ry λs3 I3=>⟨.bl ov.isSome,H2,I3,rfl,q2⟩
theorem nH(hu:X.A.units+1<cLine)(hi:PE X i ty)(ho:PE X o td):PC X .NotIn i o (ZcU ty td):=by
 intro pins s σ H Q I h;refine aC (hi pins s σ H _ I h) λiv s1 zq=>?_;obtain⟨y,H1,I1,ry,q1⟩:=zq;refine aC (ho pins s1 σ H1 _ I1 q1) λu s2 zq=>?_;obtain⟨x,H2,I2,rx,a,ov,ex,g,q2⟩:=zq;subst ex;obtain rfl:u=Value.ref a:=rx;exact ZcS hu I2 g ry λs3 I3=>⟨.bl (!ov.isSome),H2,I3,rfl,q2⟩
end
theorem NV(h:Heap)(hb:sysModules<h.objs.size):cT P w H (h.push {cls:=.type "dict",data:=.dict #[]}) h.objs.size (.dK []):=
 ⟨Yv _,beq_eq_false_iff_ne.mpr (Ne.symm (Yy hb)),[],.nil,Heap.DictOf.new h⟩
theorem ZbF(h:Heap)(hb:sysModules<h.objs.size):cT P w H (h.push {cls:=.type "dict",data:=.dict #[]}) h.objs.size (.dT []):=
 ⟨Yv _,beq_eq_false_iff_ne.mpr (Ne.symm (Yy hb)),[],.nil,_,#[],0,Ys _ rfl,⟨rfl,rfl,rfl⟩,rfl,rfl,W9⟩
def Zeq:TE:=λ_ H Q=>∀p,H p=none->Q (.ref p) (upd H p (.dK []))
def Zer:TE:=λ_ H Q=>∀p,H p=none->Q (.ref p) (upd H p (.dT []))
section
variable {X:Cx}{pos:Pos}
theorem ZbG:PE X (.Dict [] [] pos) Zeq:=λpins s σ H Q I h=>
 wpAny_Dict_empty ⟨.ref s.heap.objs.size,_,I.laid (a:=s.heap.objs.size) (o:=.dK []) (t':=s.toks) (λ_ _ q=>Yb _ q) (Yd _) (NV s.heap I.big),rfl,h _ (I.ay.fresh (Yd _))⟩
theorem ZbH:PE X (.Dict [] [] pos) Zer:=λpins s σ H Q I h=>
 wpAny_Dict_empty ⟨.ref s.heap.objs.size,_,I.laid (a:=s.heap.objs.size) (o:=.dT []) (t':=s.toks) (λ_ _ q=>Yb _ q) (Yd _) (ZbF s.heap I.big),rfl,h _ (I.ay.fresh (Yd _))⟩
end
def GC:List (TE×TE)->St->Hp->(List (V×V)->Hp->Prop)->Prop
 |[],_,H,Q=>Q [] H
 |(tk,tv)::r,σ,H,Q=>tk σ H λx H1=>tv σ H1 λy H2=>GC r σ H2 λps H3=>Q ((x,y)::ps) H3
abbrev VV:List (V×V)->List (Value×Value)->Prop:=Paired λp q=>RelV p.1 q.1/\RelV p.2 q.2
def Ac(X:Cx)(pos:Pos)(keys:List (Option Expr))(values:List Expr)(rY:List (TE×TE)):Prop:=
 ∀(pins:List (Addr×Obj)) (s:Shared) (σ:St) (H:Hp) (Q:List (V×V)->Hp->Prop),Inv X pins σ H s->GC rY σ H Q->
  wpAny (model X.prog X.w) X.A (evalPairs (pairTrees keys values X.env pos)) (λvs s'=>∃ps H',Inv X pins σ H' s'/\VV ps vs/\Q ps H') X.xe s
theorem yR:Ac X pos [] [] []:=λpins s σ H Q I h=>pairTrees_nil_walk ⟨[],H,I,.nil,h⟩
theorem jr(hk:PE X k tk)(hv:PE X v tv)(hr:Ac X pos ks vs rY):
  Ac X pos (some k::ks) (v::vs) ((tk,tv)::rY):=λpins s σ H Q I h=>
 pairTrees_cons_walk (aC (hk pins s σ H _ I h) λu s1 ⟨x,H1,I1,rx,q1⟩=>aC (hv pins s1 σ H1 _ I1 q1) λw2 s2 ⟨y,H2,I2,ry,q2⟩=>
  aC (hr pins s2 σ H2 _ I2 q2) λws s3 ⟨ps,H3,I3,rel,q3⟩=>⟨(x,y)::ps,H3,I3,.cons ⟨rx,ry⟩ rel,q3⟩)
def nX(kvs more:List (Key×V)):List (Key×V):=more.foldl (λacc kv=>putK acc kv.1 kv.2) kvs
theorem KV.merge:∀{more:List (Key×V)} {rs:List (Key×Value)} {kvs:List (Key×V)} {vs:List (Key×Value)},KV more rs->KV kvs vs->KV (nX kvs more) (merged vs rs):=by
 intro more rs kvs vs r;induction r generalizing kvs vs with
 |nil=>intro q;exact q
 |@cons p q ps qs h t ih=>
  intro r0;have e:KV (putK kvs p.1 p.2) (stored vs q.1 q.2):=by
   have:=r0.put p.1 h.2
   grind
  exact ih e
theorem L0:∀(more kvs:List (Key×V)),(nX kvs more).length<=kvs.length+more.length
 |[],kvs=>by show kvs.length<=kvs.length+0;omega
 |p::r,kvs=>by
  have h1:=L0 r (putK kvs p.1 p.2);have h2:=yb kvs p.1 p.2;show(nX (putK kvs p.1 p.2) r).length<=_
  grind
theorem Mw:∀{kvs:List (Key×V)} {ws:List (Value×Value)},VV (kvs.map λkv=>(kV kv.1,kv.2)) ws->∃rs,Carries (dz P w) ws rs/\KV kvs rs
 |[],_,r=>by rw[List.map_nil] at r;cases r;exact⟨[],True.intro,.nil⟩
 |p::kvs,_,r=>by
  cases r with
  |@cons a b as bs h t=>
   obtain⟨rs,c,q⟩:=Mw t;obtain⟨b1,b2⟩:=b;exact⟨(p.1,b2)::rs,⟨lF h.1,rfl,c⟩,.cons ⟨rfl,h.2⟩ q⟩
def Zfw(rY:List (TE×TE)):TE:=λσ H Q=>∀p,H p=none->GC rY σ (upd H p (.dK [])) λps H2=>H2 p=some (.dK [])/\∃kvs:List (Key×V),ps=kvs.map (λkv=>(kV kv.1,kv.2))/\kvs.length<=15/\Q (.ref p) (upd H2 p (.dK (nX [] kvs)))
theorem yS(h:Ac X pos keys values rY)(Ie:keys.all (·.isSome)=true)(hl:keys.length=values.length)(h0:keys≠[])
  (h15:keys.length<=15):PE X (.Dict keys values pos) (Zfw rY):=by
 intro pins s σ H Q I q;refine wpAny_Dict_walk (knd:=dz X.prog X.w) Ie hl h0 h15 (aC (h pins _ σ _ _ (I.laid (λ_ _ q=>Yb _ q) (Yd _) (NV s.heap I.big)) (q _ (I.ay.fresh (Yd s.heap.objs.size)))) λws s2 ⟨ps,H2,I2,rel,e,kvs,ep,lk,q2⟩=>?_);subst ep;obtain⟨rs,c,rk⟩:=Mw rel;obtain⟨z,hd,vs0,r0,dd⟩:=mI I2.ay e;cases r0;refine⟨rs,c,dd,λh' ir hs=>⟨.ref s.heap.objs.size,_,?_,rfl,q2⟩⟩;have hz:(nX [] kvs).length<=sizeLine:=by
  have h1:=L0 kvs [];rw[List.length_nil] at h1;rw[sizeLine_eq];omega
 exact qN I2 (by rw[e];exact True.intro) hs (let⟨q,_,_,hq,_⟩:=ir;⟨q,hq⟩) (vT hz hd (rk.merge .nil) ir)
structure M1(X:Cx)(o:Expr)(m:Str)(apos:Pos)(e:Expr)(cL:Pos):Prop where
 base:attributeBase o m X.env (eval o X.env)=eval o X.env
 iT:((backTo cL (starEach [e] X.env)).all (λx=>!x.1)&&(backToKw cL (keywordEach [] X.env)).all (λx=>x.1.isSome)
  &&decide (([e]:List Expr).length+([]:List Keyword).length+(if([]:List Keyword).isEmpty then 0 else 1)<30))=true
 line:(apos.endLine==cL.line)=true
 trees:backTo cL (starEach [e] X.env)=[(false,eval e X.env)]
structure M2(X:Cx)(o:Expr)(m:Str)(apos:Pos)(e f:Expr)(cL:Pos):Prop where
 base:attributeBase o m X.env (eval o X.env)=eval o X.env
 iT:((backTo cL (starEach [e,f] X.env)).all (λx=>!x.1)&&(backToKw cL (keywordEach [] X.env)).all (λx=>x.1.isSome)
  &&decide (([e,f]:List Expr).length+([]:List Keyword).length+(if([]:List Keyword).isEmpty then 0 else 1)<30))=true
 line:(apos.endLine==cL.line)=true
 trees:backTo cL (starEach [e,f] X.env)=[(false,eval e X.env),(false,eval f X.env)]
def xc(H:Hp)(a:Addr):Prop:=(∃kvs,Rd H a (.dK kvs))\/∃kvs,Rd H a (.dT kvs)
theorem vU(I:Inv X pins σ H s)(d:xc H a):
  s.TypeIs (.ref a) "dict"/\(∀b,Value.ref a=.ref b->∃ob,s.heap.get? b=some ob/\ob.dict=none)/\(a==sysModules)=false:=by
 rcases d with⟨kvs,e⟩|⟨kvs,e⟩
 ·obtain⟨_,hd,vs,_,dd⟩:=n5 I.ay e;refine⟨dd.typeIs,λb q=>?_,hd⟩;cases q;obtain⟨ob,_,_,h1,h2,_⟩:=dd;exact⟨ob,h1,h2.2.1⟩
 ·obtain⟨_,hd,xs,_,dd⟩:=pN I.ay e;refine⟨dd.typeIs,λb q=>?_,hd⟩;cases q;obtain⟨ob,_,_,h1,h2,_⟩:=dd;exact⟨ob,h1,h2.2.1⟩
section
variable {X:Cx}{pins:List (Addr×Obj)}{σ:St}{H:Hp}{s:Shared}{a:Addr}{y d:V}{u r:Value}{o:Option V}{A:Around}{E:Value->Shared->Prop}
theorem Zes(hu:A.units+1<cLine)(I:Inv X pins σ H s)(g:dW H a y o)(ry:RelV y u)(h:∀w' s',Inv X pins σ H s'->RelV (o.getD .aB) w'->Q w' s'):
  wpAny (model X.prog X.w) A (call (.builtin "dict.get") [.ref a,u]) Q E s:=by
 rcases g with⟨kvs,k,e,ey,l⟩|⟨kvs,k,b,e,ey,eb,l⟩
 ·subst ey;obtain⟨z,hd,vs,rel,dd⟩:=n5 I.ay e;refine call_meetsIn slot_dict_get dd.typeIs entry_dict_get (PySem.F.args_dict_get_2 _ _) (meets_dict_get (dz X.prog X.w) a (lF ry) hd) ⟨_,dd.mapOf,h _ _ (I.tok _) ?_⟩;rw[l];exact(rel.val k).getD rfl
 ·subst ey;cases(show u=Value.ref b from ry);obtain⟨z,hd,xs,rel,dd⟩:=pN I.ay e;refine call_meetsIn slot_dict_get dd.typeIs entry_dict_get (PySem.F.args_dict_get_2 _ _) (meetsH_dict_get (tupleKind (dz X.prog X.w)) a b hd) ⟨tupleKind_room_in1 hu,k,xs,pK I.ay eb,dd,h _ _ (I.tok _) ?_⟩;rw[l];exact(rel.val k).getD rfl
theorem Zet(hu:A.units+1<cLine)(I:Inv X pins σ H s)(g:dW H a y o)(ry:RelV y u)(rd:RelV d r)(h:∀w' s',Inv X pins σ H s'->RelV (o.getD d) w'->Q w' s'):
  wpAny (model X.prog X.w) A (call (.builtin "dict.get") [.ref a,u,r]) Q E s:=by
 rcases g with⟨kvs,k,e,ey,l⟩|⟨kvs,k,b,e,ey,eb,l⟩
 ·subst ey;obtain⟨z,hd,vs,rel,dd⟩:=n5 I.ay e;refine call_meetsIn slot_dict_get dd.typeIs entry_dict_get (PySem.F.args_dict_get_3 _ _ _) (meets_dict_get_default (dz X.prog X.w) a (lF ry) hd r) ⟨_,dd.mapOf,h _ _ (I.tok _) ?_⟩;rw[l];exact(rel.val k).getD rd
 ·subst ey;cases(show u=Value.ref b from ry);obtain⟨z,hd,xs,rel,dd⟩:=pN I.ay e;refine call_meetsIn slot_dict_get dd.typeIs entry_dict_get (PySem.F.args_dict_get_3 _ _ _) (meetsH_dict_get_default (tupleKind (dz X.prog X.w)) a b hd r) ⟨tupleKind_room_in1 hu,k,xs,pK I.ay eb,dd,h _ _ (I.tok _) ?_⟩;rw[l];exact(rel.val k).getD rd
end
def Zeu(td ty:TE):TE:=λσ H Q=>td σ H λx H1=>∃a,x=.ref a/\xc H1 a/\ty σ H1 λy H2=>∃o,dW H2 a y o/\Q (o.getD .aB) H2
def Zev(td ty tx:TE):TE:=λσ H Q=>td σ H λx H1=>∃a,x=.ref a/\xc H1 a/\ty σ H1 λy H2=>tx σ H2 λz H3=>∃o,dW H3 a y o/\Q (o.getD z) H3
section
variable {X:Cx}{o e f:Expr}{apos cL:Pos}{td ty tx:TE}
theorem ZbI(hu:X.A.units+1<cLine)(ho:PE X o td)(he:PE X e ty)(m:M1 X o "get" apos e cL):PE X (.Call (.Attribute o "get" apos) [e] [] cL) (Zeu td ty):=by
 intro pins s σ H Q I h;refine wpAny_Call_method m.base m.iT m.line plainAttrs_dict slot_dict_get type_dict_get (aC (ho pins s σ H _ I h) λu s1 zq=>?_);obtain⟨x,H1,I1,rx,a,ex,d,q1⟩:=zq;subst ex;obtain rfl:u=Value.ref a:=rx;obtain⟨t1,t2,_⟩:=vU I1 d;refine⟨t1,t2,?_⟩;rw[m.trees];exact Calls.callWith_builtin rfl (Calls.evalArgs_plain (Calls.spliced_cons (aC (he pins s1 σ H1 _ I1 q1) λiv s2 ⟨y,H2,I2,ry,ov,g,q2⟩=>Calls.spliced_nil (Zes hu I2 g ry λw' s3 I3 fM=>⟨_,H2,I3,fM,q2⟩))))
theorem ZbJ(hu:X.A.units+1<cLine)(ho:PE X o td)(he:PE X e ty)(hf:PE X f tx)(m:M2 X o "get" apos e f cL):PE X (.Call (.Attribute o "get" apos) [e,f] [] cL) (Zev td ty tx):=by
 intro pins s σ H Q I h;refine wpAny_Call_method m.base m.iT m.line plainAttrs_dict slot_dict_get type_dict_get (aC (ho pins s σ H _ I h) λu s1 zq=>?_);obtain⟨x,H1,I1,rx,a,ex,d,q1⟩:=zq;subst ex;obtain rfl:u=Value.ref a:=rx;obtain⟨t1,t2,_⟩:=vU I1 d;refine⟨t1,t2,?_⟩;rw[m.trees];refine Calls.callWith_builtin rfl (Calls.evalArgs_plain (Calls.spliced_cons (aC (he pins s1 σ H1 _ I1 q1) λiv s2 ⟨y,H2,I2,ry,q2⟩=>
  Calls.spliced_cons (aC (hf pins s2 σ H2 _ I2 q2) λfv s3 ⟨z,H3,I3,rz,ov,g,q3⟩=>Calls.spliced_nil ?_))))
 exact Zet hu I3 g ry rz λw' s4 I4 fM=>⟨_,H3,I4,fM,q3⟩
end
section
variable {X:Cx}{pins:List (Addr×Obj)}{σ:St}{H:Hp}{s:Shared}{a:Addr}{kvs:List (Key×V)}{A:Around}{E:Value->Shared->Prop}
end
section
variable {X:Cx}{pins:List (Addr×Obj)}{σ:St}{H:Hp}{s:Shared}{a:Addr}{y:V}{u:Value}{A:Around}{E:Value->Shared->Prop}
end
def wb(P:Program)(w:World)(K:PySem.W.Frag)(mg:Str->Option Value)(base:Heap)(k:Nat)(x:Str)(C:Addr)(ps:List Str)(sp:Sp):Prop:=
 ∃f fd,Mk K C f/\aK P w K mg base aP k f fd ps sp/\Binds K fd ps []/\mg x=some (.ref C)
def cD(P:Program)(w:World)(K:PySem.W.Frag)(mg:Str->Option Value)(base:Heap)(k:Nat)(m:Str)(C:Addr)(ps:List Str)(sp:Sp):Prop:=
 ∃f fd,fL K C/\Meth K C m f/\aK P w K mg base aP k f fd ps sp/\Binds K fd ps []
section
variable {X:Cx}{k j:Nat}{x m:Str}{C:Addr}{ps:List Str}{sp:Sp}{p pos apos:Pos}{o e:Expr}{es:List Expr}{t:TA}{ta:TE}
theorem GZ(h:wb X.prog X.w X.K X.mg X.base k x C ps sp)(hr:dk j X.A)(hj:k+1<=j)(hg:Gl X x)(ha:PA X (e::es) t)(lQ:(x==("__debug__":Str))=false:=by decide)
  (he:starEach (e::es) X.env=(false,eval e X.env)::starEach es X.env:=by rfl)(df:(backTo pos (starEach es X.env)).any (·.1)=false:=by rfl):PE X (.Call (.Name x p) (e::es) [] pos) (RW C sp [] E0 t):=by
 obtain⟨f,fd,M,F,b,hm⟩:=h;exact ZcG M F (hr.mono hj) hg hm b .nil zy ha lQ he df
theorem cO(h:cD X.prog X.w X.K X.mg X.base k m C ps sp)(hr:dk j X.A)(hj:k<=j)(ho:PE X o ta)(ha:PA X (e::es) t)
  (gZ:starEach (e::es) X.env=(false,eval e X.env)::starEach es X.env:=by rfl)(df:(backTo pos (starEach es X.env)).any (·.1)=false:=by rfl)
  (ht:eval (.Call (.Attribute o m apos) (e::es) [] pos) X.env=(do
   let ov←eval o X.env
   standAt apos.atName
   let(f,first)←holding [ov] (getMethod ov m pl)
   callWith pos f first (backTo pos (starEach (e::es) X.env)) (backToKw pos (keywordEach [] X.env))):=by rfl):
  PE X (.Call (.Attribute o m apos) (e::es) [] pos) (zw C m sp [] E0 ta t):=by
 obtain⟨f,fd,c,hm,F,b⟩:=h;exact ZcF ho c hm F (hr.mono hj) b .nil zy ha gZ df ht
end
theorem aV{X:Cx}{K:PySem.W.Frag}{e:Expr}{ta:TE}{f:Str}{pos:Pos}(h:X.K=K)(he:PE X e ta)(hb:attributeBase e f X.env (eval e X.env)=eval e X.env):PE X (.Attribute e f pos) (SM K ta f):=h▸Zd0 he hb
section
open PySem.AutoSeq1 (wpAny_loadPart')
theorem ZaU(lo hi x:Int):(Builtin.Range.rangePlace? lo hi 1 x).isSome=decide (lo<=x/\x<hi):=by
 unfold Builtin.Range.rangePlace?
 grind
theorem WS(p:Addr)(lo hi x:Int)(a b c t:Tok):
  Meets (Builtin.«range.__contains__» ⟨[.ref p,.int x t],[]⟩)
   (λ_ R s=>s.heap.get? p=some {cls:=.type "range",data:=.fields #[.int lo a,.int hi b,.int 1 c]}/\R (.ok (.ret (.bool (decide (lo<=x/\x<hi))))) s):=
 .of_wp λprog w A R s h=>by
  obtain⟨hp,g,d,tk,os⟩:=s;obtain⟨hl,h⟩:=h;rw[←ZaU] at h
  wp_walk using wpAny_loadPart' hl
  grind
end
def Zew(neg:Bool):R2:=λx y H Q=>∃(i lo hi:Int) (p:Addr),x=.int i/\y=.ref p/\H p=some (.jb lo hi)/\Q (.bl (if neg=true then !decide (lo<=i/\i<hi) else decide (lo<=i/\i<hi))) H
theorem X5:cE X (compareOp .NotIn) (Zew true):=by
 rintro pins s σ H x y v u Q I rx ry ⟨i,lo,hi,p,rfl,rfl,hp,q⟩;obtain⟨t,rfl⟩:=rx;cases ry;obtain⟨a,b,c,g⟩:=(show cT X.prog X.w H s.heap p (.jb lo hi) from I.ay p _ hp);exact SeqRoads2.notIn_meets ⟨_,g,rfl⟩ F.slot_range_contains F.entry_range_contains (F.args_range_contains_2 _ _) (WS p lo hi i a b c t) ⟨g,_,rfl,.bl _,H,I,rfl,q⟩
theorem sR(p:Nat->Bool)(n:Nat):(List.range (n+1)).filter p=(List.range n).filter p++(if p n=true then[n] else[]):=by
 rw[List.range_succ,Wr]
 grind
theorem iX{α β:Type}{F:α->β->Prop}:∀{xs:List α} {ys:List β} {x:α} {y:β},Paired F xs ys->F x y->Paired F (xs++[x]) (ys++[y]):=by
 intro xs ys x y h f;induction h with
 |nil=>exact .cons f .nil
 |cons r t ih=>exact .cons r ih
theorem DC:∀{xs:List α} {ys:List β},Paired F xs ys->xs.length=ys.length:=by
 intro xs ys h;induction h with
 |nil=>rfl
 |cons _ _ ih=>rw[Wl,Wl,ih]
theorem CB:∀{xs:List V} {ys:List β},Paired (λx y=>x=f y) xs ys->xs=ys.map f:=by
 intro xs ys h;induction h with
 |nil=>rfl
 |cons r t ih=>rw[Wn,←r,←ih]
theorem yg(n:Nat):(List.range n).filter (λ_=>true)=List.range n:=by simp
theorem XE(xs:List α)(f:Nat->β)(g:α->β)(h:∀(i:Nat) (v:α),xs[i]?=some v->f i=g v):(List.range xs.length).map f=xs.map g:=by
 refine Wj λi=>?_
 grind
def az(D:Addr)(H H':Hp):Prop:=∀b o,H b=some o->b≠D->H' b=some o
theorem az.of(g:aj H H'):az D H H':=λb o e _=>g b o e
theorem az.put(g:az D H H'):az D H (upd H' D o):=λb u e n=>by rw[bg n];exact g b u e n
def t9(tt:TT)(te:TE)(fv:St)(D:Addr)(H:Hp)(v:V)(b:Bool)(Pe:V->Hp->Prop):Prop:=
 ∀H1,aj H H1->(∃ys,H1 D=some (.lst ys))->∀(Kt:VK) (Kf:Hp->Prop),(∀y H3,b=true->aj H1 H3->Pe y H3->Kt y H3)->(∀H3,b=false->aj H1 H3->Kf H3)->tt (some v::fv) H1 λc H2=>if c=true then te (some v::fv) H2 Kt else Kf H2
theorem vy{K:PySem.W.Frag}{a:Addr}{xs:List V}{tt:TT}{te:TE}{fv:St}{D:Addr}{H:Hp}{Q:VK}(hs:ak K H a xs)(hn:xs.length<=1000)(hD:H D=none)(p:Nat->Bool)(Pe:Nat->V->Hp->Prop)(mono:∀i y H1 H2,az D H1 H2->Pe i y H1->Pe i y H2)
  (turn:∀(i:Nat) (v:V),xs[i]?=some v->t9 tt te fv D H v (p i) (Pe i))(fin:∀ys H',aj H H'->H' D=some (.lst ys)->Paired (λy i=>Pe i y H') ys ((List.range xs.length).filter p)->Q (.ref D) H'):iL (jd K a) tt te fv D H Q:=by
 refine EN (λi ys H1=>i<=xs.length/\aj H H1/\H1 D=some (.lst ys)/\Paired (λy j=>Pe j y H1) ys ((List.range i).filter p)) ⟨Yv _,cq hD _,aW,.nil⟩ (λi ys H1 _ ⟨_,g,_,_⟩=>g.seq hs) ?_ ?_
 ·rintro i v ys H1 hi ⟨_,g,h1,pr⟩;have dH:=(Yl.mp hi).1;have ll:=DC pr;have fl:=Wg p (List.range i);rw[Jx] at fl;refine turn i v hi H1 g ⟨_,h1⟩ _ _ (λy H3 pi g3 py=>⟨g3 _ _ h1,by rw[sizeLine_eq];omega,dH,?_,aW,?_⟩) (λH3 pi g3=>⟨dH,g.trans g3,g3 _ _ h1,?_⟩)
  ·intro b o e;rw[bg (ck e hD)];exact g3 _ _ (g _ _ e)
  ·rw[sR,if_pos pi];exact iX (Paired.bu pr λz j q=>mono _ _ _ _ (az.put (az.of g3)) q) (mono _ _ _ _ (az.put (az.of (aj.refl _))) py)
  ·rw[sR,if_neg (by rw[pi];exact Yi),We];exact Paired.bu pr λz j q=>mono _ _ _ _ (az.of g3) q
 ·grind
theorem ZX{K:PySem.W.Frag}{a:Addr}{xs:List V}{tt:TT}{te:TE}{fv:St}{D:Addr}{H:Hp}{Q:VK}(hs:ak K H a xs)(hn:xs.length<=1000)(hD:H D=none)(p:Nat->Bool)(f:Nat->V)
  (turn:∀(i:Nat) (v:V),xs[i]?=some v->t9 tt te fv D H v (p i) (λy _=>y=f i))(fin:∀H',aj H H'->H' D=some (.lst (((List.range xs.length).filter p).map f))->Q (.ref D) H'):iL (jd K a) tt te fv D H Q:=
 vy hs hn hD p (λi y _=>y=f i) (λ_ _ _ _ _ e=>e) turn λys H' g h1 pr=>fin H' g (by rw[←CB pr];exact h1)
theorem ZY{K:PySem.W.Frag}{a:Addr}{xs:List V}{te:TE}{fv:St}{D:Addr}{H:Hp}{Q:VK}(hs:ak K H a xs)(hn:xs.length<=1000)(hD:H D=none)(f:V->V)
  (turn:∀(i:Nat) (v:V),xs[i]?=some v->∀H1,aj H H1->∀Kt:VK,(∀H3,aj H1 H3->Kt (f v) H3)->te (some v::fv) H1 Kt)(fin:∀H',aj H H'->H' D=some (.lst (xs.map f))->Q (.ref D) H'):iL (jd K a) zK te fv D H Q:=by
 refine ZX hs hn hD (λ_=>true) (λi=>f (xs.getD i .aB)) (λi v hi H1 g _ Kt Kf kt _=>jB (c6 ?_)) λH' g h1=>fin H' g ?_;·grind
 ·rw[h1,yg,XE xs (λi=>f (xs.getD i .aB)) f λi v hi=>by rw[Yk,hi];rfl]
theorem ZaV{K:PySem.W.Frag}{a:Addr}{xs:List V}{tt:TT}{te:TE}{fv:St}{D:Addr}{H:Hp}{Q:VK}(hs:aA K H a xs)(hn:xs.length<=1000)(hD:H D=none)(p:Nat->Bool)(Pe:Nat->V->Hp->Prop)(mono:∀i y H1 H2,az D H1 H2->Pe i y H1->Pe i y H2)
  (turn:∀(i:Nat) (v:V),xs[i]?=some v->t9 tt te fv D H v (p i) (Pe i))(fin:∀ys H',aj H H'->H' D=some (.lst ys)->Paired (λy i=>Pe i y H') ys ((List.range xs.length).filter p)->Q (.ref D) H'):iL (uw K a) tt te fv D H Q:=by
 refine yC (λi ys H1=>i<=xs.length/\aj H H1/\H1 D=some (.lst ys)/\Paired (λy j=>Pe j y H1) ys ((List.range i).filter p)) ⟨Yv _,cq hD _,aW,.nil⟩ (λi ys H1 _ ⟨_,g,_,_⟩=>g.iR hs) ?_ ?_
 ·rintro i v ys H1 hi ⟨_,g,h1,pr⟩;have dH:=(Yl.mp hi).1;have ll:=DC pr;have fl:=Wg p (List.range i);rw[Jx] at fl;refine turn i v hi H1 g ⟨_,h1⟩ _ _ (λy H3 pi g3 py=>⟨g3 _ _ h1,by rw[sizeLine_eq];omega,dH,?_,aW,?_⟩) (λH3 pi g3=>⟨dH,g.trans g3,g3 _ _ h1,?_⟩)
  ·intro b o e;rw[bg (ck e hD)];exact g3 _ _ (g _ _ e)
  ·rw[sR,if_pos pi];exact iX (Paired.bu pr λz j q=>mono _ _ _ _ (az.put (az.of g3)) q) (mono _ _ _ _ (az.put (az.of (aj.refl _))) py)
  ·rw[sR,if_neg (by rw[pi];exact Yi),We];exact Paired.bu pr λz j q=>mono _ _ _ _ (az.of g3) q
 ·grind
theorem ZaW{K:PySem.W.Frag}{a:Addr}{xs:List V}{tt:TT}{te:TE}{fv:St}{D:Addr}{H:Hp}{Q:VK}(hs:aA K H a xs)(hn:xs.length<=1000)(hD:H D=none)(p:Nat->Bool)(f:Nat->V)
  (turn:∀(i:Nat) (v:V),xs[i]?=some v->t9 tt te fv D H v (p i) (λy _=>y=f i))(fin:∀H',aj H H'->H' D=some (.lst (((List.range xs.length).filter p).map f))->Q (.ref D) H'):iL (uw K a) tt te fv D H Q:=
 ZaV hs hn hD p (λi y _=>y=f i) (λ_ _ _ _ _ e=>e) turn λys H' g h1 pr=>fin H' g (by rw[←CB pr];exact h1)
theorem Zh{lo:Int}{n:Nat}{tt:TT}{te:TE}{fv:St}{D:Addr}{H:Hp}{Q:VK}(hn:n<=1000)(hD:H D=none)(p:Nat->Bool)(Pe:Nat->V->Hp->Prop)(mono:∀i y H1 H2,az D H1 H2->Pe i y H1->Pe i y H2)
  (turn:∀i,i<n->t9 tt te fv D H (.int (lo+i)) (p i) (Pe i))(fin:∀ys H',aj H H'->H' D=some (.lst ys)->Paired (λy i=>Pe i y H') ys ((List.range n).filter p)->Q (.ref D) H'):iL (oy lo n) tt te fv D H Q:=by
 refine vw (λi ys H1=>i<=n/\aj H H1/\H1 D=some (.lst ys)/\Paired (λy j=>Pe j y H1) ys ((List.range i).filter p)) ⟨Yv _,cq hD _,aW,.nil⟩ ?_ ?_
 ·rintro i ys H1 hi ⟨_,g,h1,pr⟩;have dH:=hi;have ll:=DC pr;have fl:=Wg p (List.range i);rw[Jx] at fl;refine turn i hi H1 g ⟨_,h1⟩ _ _ (λy H3 pi g3 py=>⟨g3 _ _ h1,by rw[sizeLine_eq];omega,dH,?_,aW,?_⟩) (λH3 pi g3=>⟨dH,g.trans g3,g3 _ _ h1,?_⟩)
  ·intro b o e;rw[bg (ck e hD)];exact g3 _ _ (g _ _ e)
  ·rw[sR,if_pos pi];exact iX (Paired.bu pr λz j q=>mono _ _ _ _ (az.put (az.of g3)) q) (mono _ _ _ _ (az.put (az.of (aj.refl _))) py)
  ·rw[sR,if_neg (by rw[pi];exact Yi),We];exact Paired.bu pr λz j q=>mono _ _ _ _ (az.of g3) q
 ·grind
theorem Zi{lo:Int}{n:Nat}{tt:TT}{te:TE}{fv:St}{D:Addr}{H:Hp}{Q:VK}(hn:n<=1000)(hD:H D=none)(p:Nat->Bool)(f:Nat->V)
  (turn:∀i,i<n->t9 tt te fv D H (.int (lo+i)) (p i) (λy _=>y=f i))(fin:∀H',aj H H'->H' D=some (.lst (((List.range n).filter p).map f))->Q (.ref D) H'):iL (oy lo n) tt te fv D H Q:=
 Zh hn hD p (λi y _=>y=f i) (λ_ _ _ _ _ e=>e) turn λys H' g h1 pr=>fin H' g (by rw[←CB pr];exact h1)
abbrev Nw(H:Hp)(o:HO)(Q:VK):Prop:=∀(p:Addr) (H':Hp),H p=none->aj H H'->H' p=some o->Q (.ref p) H'
theorem Nw.at(h:Nw H o Q):∀p,H p=none->Q (.ref p) (upd H p o):=λp np=>h p _ np (cq np o) aW
def t_(t:TA):TE:=λσ H Q=>t σ H λxs H1=>xs.length<=sizeLine/\Nw H1 (.tup xs) Q
def R6(t:TA):TE:=λσ H Q=>t σ H λxs H1=>xs.length<=sizeLine/\Nw H1 (.lst xs) Q
section
variable {X:Cx}{es:List Expr}{t:TA}{pos:Pos}{K:PySem.W.Frag}
theorem cK{x1}(h:PA X es t):PE X (.Tuple es x1 pos) (t_ t):=by
 intro pins s σ H Q I hq;refine wpAny_Tuple_spliced (aC (h pos pins s σ H _ I hq) λus s1 ⟨xs,H1,I1,r,z,q⟩=>⟨by rw[←r.length];exact z,⟨.ref s1.heap.objs.size,upd H1 s1.heap.objs.size (.tup xs),I1.laid (λb u e=>Yb _ e) (Yd _) ?_,rfl,q.at _ (I1.ay.fresh (Yd _))⟩⟩);exact⟨z,us,r,⟨_,Ys _ rfl,rfl,_,rfl,rfl⟩⟩
theorem cZ(h:PA X es t):PE X (.List es pos) (R6 t):=by
 intro pins s σ H Q I hq;refine wpAny_List_spliced (aC (h pos pins s σ H _ I hq) λus s1 ⟨xs,H1,I1,r,z,q⟩=>⟨by rw[←r.length];exact z,⟨.ref s1.heap.objs.size,upd H1 s1.heap.objs.size (.lst xs),I1.laid (λb u e=>Yb _ e) (Yd _) ?_,rfl,q.at _ (I1.ay.fresh (Yd _))⟩⟩);exact⟨z,us,0,r,Ys _ rfl⟩
theorem c7.mono(h:c7 X f r)(m:∀xs H Q,r' xs H Q->r xs H Q):c7 X f r':=λpins s σ H xs us Q I v q=>h pins s σ H xs us Q I v (m xs H Q q)
theorem cE.mono(h:cE X f r)(m:∀x y H Q,r' x y H Q->r x y H Q):cE X f r':=λpins s σ H x y v u Q I rx ry q=>h pins s σ H x y v u Q I rx ry (m x y H Q q)
theorem pZ.mono(h:pZ X r)(m:∀x lo hi H Q,r' x lo hi H Q->r x lo hi H Q):pZ X r':=λpins s σ H x v vl vu lo hi sl Q I rx hs pl pu q=>h pins s σ H x v vl vu lo hi sl Q I rx hs pl pu (m x lo hi H Q q)
inductive Mx(xs:List V)(H:Hp)(Q:VK):Prop
 |mk (j:Int) (aE:xs=[.int j]) (aT:Nw H (.jb 0 j) Q):Mx xs H Q
def ZbK:List V->Hp->VK->Prop:=λxs H Q=>Mx xs H Q
theorem C4:c7 X (.type "range") ZbK:=ya.mono λ_ _ _ zq=>by obtain⟨j,e,q⟩:=zq;exact⟨j,e,q.at⟩
inductive Ma(xs:List V)(H:Hp)(Q:VK):Prop
 |mk (p:Addr) (n:Nat) (aE:xs=[.ref p]) (aT:H p=some (.jb 0 (n:Int))) (bw:n<=1000) (bP:Nw H (.lst ((bF n).map V.int)) Q):Ma xs H Q
def ZaX:List V->Hp->VK->Prop:=λxs H Q=>Ma xs H Q
theorem Xq(hc:X.calm=true):c7 X (.type "list") ZaX:=(CA hc).mono λ_ _ _ zq=>by obtain⟨p,n,e,h,l,q⟩:=zq;exact⟨p,n,e,h,l,q.at⟩
inductive My(xs:List V)(H:Hp)(Q:VK):Prop
 |mk (p:Addr) (n:Nat) (aE:xs=[.ref p]) (aT:H p=some (.jb 0 (n:Int))) (bw:n<=1000) (bP:Nw H (.tup ((bF n).map V.int)) Q):My xs H Q
def ZbL:List V->Hp->VK->Prop:=λxs H Q=>My xs H Q
theorem Xb(hc:X.calm=true):c7 X (.type "tuple") ZbL:=(LZ hc).mono λ_ _ _ zq=>by obtain⟨p,n,e,h,l,q⟩:=zq;exact⟨p,n,e,h,l,q.at⟩
def ZbM(K:PySem.W.Frag):List V->Hp->VK->Prop:=λxs H Q=>∃(p:Addr) (ns:List Int),xs=[.ref p]/\(ak K H p (ns.map V.int)\/aA K H p (ns.map V.int))/\ns.length<64/\
  ∀cB:List Int,cB.Perm ns->cB.Pairwise (·<=·)->Nw H (.lst (cB.map V.int)) Q
theorem ZbN(h:X.K=K):c7 X (.builtin "sorted") (ZbM K):=h▸L9.mono λ_ _ _ zq=>by obtain⟨p,ns,e,s,l,q⟩:=zq;exact⟨p,ns,e,s,l,λa cB na pm so=>(q cB pm so).at a na⟩
inductive Pa(K:PySem.W.Frag)(x:V)(lo:Option Int)(hi:Option Int)(H:Hp)(Q:VK):Prop
 |mk (a xs) (aE:x=.ref a) (aT:ak K H a xs) (bw:Nw H (.lst (jA xs lo hi)) Q):Pa K x lo hi H Q
def Zfx(K:PySem.W.Frag):V->Option Int->Option Int->Hp->VK->Prop:=λx lo hi H Q=>Pa K x lo hi H Q
theorem Fq(h:X.K=K):pZ X (Zfx K):=h▸ZcM.mono λ_ _ _ _ _ zq=>by obtain⟨a,xs,e,s,q⟩:=zq;exact⟨a,xs,e,s,q.at⟩
def Zfy:R2:=λx y H Q=>∃l b xs zs,x=.ref l/\y=.ref b/\H l=some (.lst xs)/\H b=some (.lst zs)/\xs.length+zs.length<=sizeLine/\Nw H (.lst (xs++zs)) Q
theorem pF:cE X (binaryOp .Add) Zfy:=Zd8.mono λ_ _ _ _ zq=>by obtain⟨l,b,xs,zs,e1,e2,h1,h2,z,q⟩:=zq;exact⟨l,b,xs,zs,e1,e2,h1,h2,z,q.at⟩
def ZcV:TE:=λ_ H Q=>Nw H (.dK []) Q
theorem qK:PE X (.Dict [] [] pos) ZcV:=λpins s σ H Q I q=>ZbG pins s σ H Q I q.at
def ZcW:TE:=λ_ H Q=>Nw H (.dT []) Q
theorem M6:PE X (.Dict [] [] pos) ZcW:=λpins s σ H Q I q=>ZbH pins s σ H Q I q.at
end
abbrev Ch(H:Hp)(a:Addr)(o:HO)(R:Hp->Prop):Prop:=∀H',az a H H'->H' a=some o->R H'
theorem Ch.at(h:Ch H a o R):R (upd H a o):=h _ (az.put (az.of (aj.refl _))) aW
section
variable {X:Cx}
theorem lR.mono{id:String}{r r':V->List V->Hp->VK->Prop}(h:lR X id r)(m:∀x xs H Q,r' x xs H Q->r x xs H Q):lR X id r':=λpins s σ H x xs v us Q I rx rv q=>h pins s σ H x xs v us Q I rx rv (m x xs H Q q)
inductive Mz(x:V)(vs:List V)(H:Hp)(Q:VK):Prop
 |mk (l xs y) (aE:x=.ref l) (aT:vs=[y]) (bw:H l=some (.lst xs)) (bP:xs.length<sizeLine) (cN:Ch H l (.lst (xs++[y])) (Q .aB)):Mz x vs H Q
def NW:V->List V->Hp->VK->Prop:=λx vs H Q=>Mz x vs H Q
theorem nF:lR X "list.append" NW:=vB.mono λ_ _ _ _ zq=>by obtain⟨l,xs,y,e1,e2,h,z,q⟩:=zq;exact⟨l,xs,y,e1,e2,h,z,q.at⟩
def ZbO:V->List V->Hp->VK->Prop:=λx vs H Q=>∃l b xs zs,x=.ref l/\vs=[.ref b]/\H l=some (.lst xs)/\H b=some (.lst zs)/\xs.length+zs.length<=sizeLine/\Ch H l (.lst (xs++zs)) (Q .aB)
theorem ZZ:lR X "list.extend" ZbO:=ZaO.mono λ_ _ _ _ zq=>by obtain⟨l,b,xs,zs,e1,e2,h1,h2,z,q⟩:=zq;exact⟨l,b,xs,zs,e1,e2,h1,h2,z,q.at⟩
def ZcX:V->List V->Hp->VK->Prop:=λx vs H Q=>∃l xs,x=.ref l/\vs=[]/\H l=some (.lst xs)/\Ch H l (.lst []) (Q .aB)
theorem ZaY:lR X "list.clear" ZcX:=Zbz.mono λ_ _ _ _ zq=>by obtain⟨l,xs,e1,e2,h,q⟩:=zq;exact⟨l,xs,e1,e2,h,q.at⟩
theorem rD.mono(h:rD X t)(m:∀o i v H Q,t' o i v H Q->t o i v H Q):rD X t':=by
 intro pins s σ H o i x ov iv v Q I r1 r2 r3 q;exact h pins s σ H o i x ov iv v Q I r1 r2 r3 (m _ _ _ _ _ q)
def Zex:V->V->V->Hp->(Hp->Prop)->Prop:=λo i v H Q=>∃p xs k j,o=.ref p/\i=.int k/\H p=some (.lst xs)/\kN xs.length k=some j/\Ch H p (.lst (xs.set j v)) Q
theorem M7:rD X Zex:=set_list.mono λ_ _ _ _ _ zq=>by obtain⟨p,xs,k,j,e1,e2,h,z,q⟩:=zq;exact⟨p,xs,k,j,e1,e2,h,z,q.at⟩
variable {o i value:Expr}{td ty tv ta:TE}{pos pos':Pos}{f:Str}
inductive NX(D:Ends)(σ:St)(v:V)(x:V)(y:V)(H3:Hp):Prop
 |mk (a kvs k) (aE:x=.ref a) (aT:H3 a=some (.dK kvs)) (bw:y=kV k) (bP:kvs.length<sizeLine) (cN:Ch H3 a (.dK (putK kvs k v)) (D.nx σ)):NX D σ v x y H3
def Zey(td ty tv:TE):TS:=λD σ H=>tv σ H λv H1=>td σ H1 λx H2=>ty σ H2 λy H3=>NX D σ v x y H3
inductive M8(D:Ends)(σ:St)(v:V)(x:V)(y:V)(H3:Hp):Prop
 |mk (a b kvs k) (aE:x=.ref a) (aT:H3 a=some (.dT kvs)) (bw:y=.ref b) (bP:H3 b=some (.tup (k.map kV))) (cN:kvs.length<sizeLine) (dR:Ch H3 a (.dT (putK kvs k v)) (D.nx σ)):M8 D σ v x y H3
def ZcY(td ty tv:TE):TS:=λD σ H=>tv σ H λv H1=>td σ H1 λx H2=>ty σ H2 λy H3=>M8 D σ v x y H3
theorem nL(hu:X.A.units+1<cLine)(ho:PE X o td)(hi:PE X i ty)(hv:PE X value tv)(hs:swapsWith value (some (.Subscript o i pos')) pos.line X.env=pure false:=by rfl):
  PS X (.Assign [.Subscript o i pos'] value pos) (Zey td ty tv):=by
 intro pins s σ H D I h;refine wpAny_Assign_Subscript (aC (hv pins s σ H _ I h) λr s1 zq=>?_) hs;obtain⟨v,H1,I1,rv,q1⟩:=zq;refine aC (ho pins s1 σ H1 _ I1 q1) λu s2 zq=>?_;obtain⟨x,H2,I2,rx,q2⟩:=zq;refine aC (hi pins s2 σ H2 _ I2 q2) λiv s3 zq=>?_;obtain⟨y,H3,I3,ry,a,kvs,k,ex,ha,ey,l,q3⟩:=zq;subst ex;subst ey;obtain rfl:u=Value.ref a:=rx;exact M4 hu I3 (rG.k ha l) ry rv λs4 I4=>⟨σ,_,I4,q3.at⟩
theorem M9(hu:X.A.units+1<cLine)(ho:PE X o td)(hi:PE X i ty)(hv:PE X value tv)(hs:swapsWith value (some (.Subscript o i pos')) pos.line X.env=pure false:=by rfl):
  PS X (.Assign [.Subscript o i pos'] value pos) (ZcY td ty tv):=by
 intro pins s σ H D I h;refine wpAny_Assign_Subscript (aC (hv pins s σ H _ I h) λr s1 zq=>?_) hs;obtain⟨v,H1,I1,rv,q1⟩:=zq;refine aC (ho pins s1 σ H1 _ I1 q1) λu s2 zq=>?_;obtain⟨x,H2,I2,rx,q2⟩:=zq;refine aC (hi pins s2 σ H2 _ I2 q2) λiv s3 zq=>?_;obtain⟨y,H3,I3,ry,a,b,kvs,k,ex,ha,ey,hb,l,q3⟩:=zq;subst ex;subst ey;obtain rfl:u=Value.ref a:=rx;exact M4 hu I3 (rG.t ha hb l) ry rv λs4 I4=>⟨σ,_,I4,q3.at⟩
def Zfz(K:PySem.W.Frag)(ta tv:TE)(f:Str):TS:=λD σ H=>tv σ H λy H1=>ta σ H1 λx H2=>∃a C dx fs,x=.ref a/\H2 a=some (.ins C dx fs)/\fL K C/\dD K C f/\fs.length<1000/\Ch H2 a (.ins C dx (cP f y fs)) (D.nx σ)
theorem fV{K:PySem.W.Frag}(hK:X.K=K)(ha:PE X o ta)(hv:PE X value tv)(hs:swapsWith value (some (.Attribute o f pos')) pos.line X.env=pure false:=by rfl):PS X (.Assign [.Attribute o f pos'] value pos) (Zfz K ta tv f):=by
 subst hK;intro pins s σ H D I h;refine plainObj_wpAny_Assign_Attribute (aC (hv pins s σ H _ I h) λu s1 zq=>?_) hs;obtain⟨y,H1,I1,ry,q⟩:=zq;refine aC (ha pins s1 σ H1 _ I1 q) λov s2 zq=>?_;obtain⟨x,H2,I2,rx,a,C,dx,fs,ex,ea,c,n,l,q2⟩:=zq;subst ex;obtain rfl:ov=Value.ref a:=rx;exact Mo I2 ea c n l ry λs3 I3=>⟨σ,_,I3,q2.at⟩
end
def xf(x:Str):It:=⟨λi _=>i<x.length,λi H v H'=>H'=H/\∃c,x.cps[i]?=some c/\v=.str ⟨#[c]⟩,λi _=>x.length<=i⟩
theorem Xr{P:Program}{w:World}{K:PySem.W.Frag}{tg:Expr}(it:Addr)(x:Str)(t:Tok):Turn P w K tg (xf x) [it] it (λi h=>h.IsStrIter it "str_ascii_iterator" x t i) where
 mem:=by simp
 obj:=λi h st b hb=>by
  have e:b=it:=by simpa using hb
  obtain⟨o,e,c,d⟩:=st
  grind
 keep:=λi h h' st k=>let⟨o,e,r⟩:=st;⟨o,k it (by simp) o e,r⟩
 item:=by
  intro X hP hw hK hc i pins s σ H E I hf st hg;obtain⟨f0,f1,f2,f3,f4,f5⟩:=hf it (by simp);have hx:=W8 hg;refine wpAny_pyNext_ascii_item st hx λh' aI sb=>?_;obtain⟨o,e,c,d⟩:=id aI;exact⟨_,rfl,q5 e c d (by decide) ⟨.str ⟨#[x.cps[i]]⟩,H,(I.turned (λb o hb e=>(sb.2 b hb).trans e) f0 f1 f3 f4 f5),⟨_,rfl⟩,⟨rfl,_,hx,rfl⟩,aI,λb hb=>(hf b hb).1⟩⟩
 done:=by
  intro X hP hw hK hc i pins s σ H E I hf st hg;obtain⟨f0,f1,f2,f3,f4,f5⟩:=hf it (by simp);exact wpAny_pyNext_ascii_end (I.ok.hd hc) st (Jw hg) λh' eb=>⟨rfl,I.turned (λb o hb e=>eb b o hb e) f0 f1 f3 f4 f5⟩
 self:=λ_ _ _ _ _ st h=>wpAny_pyIter_striter_ascii st h
theorem XF{P:Program}{w:World}{K:PySem.W.Frag}{tg:Expr}(it:Addr)(x:Str)(t:Tok):Turn P w K tg (xf x) [it] it (λi h=>h.IsStrIter it "str_iterator" x t i) where
 mem:=by simp
 obj:=λi h st b hb=>by
  have e:b=it:=by simpa using hb
  obtain⟨o,e,c,d⟩:=st
  grind
 keep:=λi h h' st k=>let⟨o,e,r⟩:=st;⟨o,k it (by simp) o e,r⟩
 item:=by
  intro X hP hw hK hc i pins s σ H E I hf st hg;obtain⟨f0,f1,f2,f3,f4,f5⟩:=hf it (by simp);have hx:=W8 hg;refine wpAny_pyNext_wide_item st hx λh' aI sb=>?_;obtain⟨o,e,c,d⟩:=id aI;exact⟨_,rfl,q5 e c d (by decide) ⟨.str ⟨#[x.cps[i]]⟩,H,(I.turned (λb o hb e=>(sb.2 b hb).trans e) f0 f1 f3 f4 f5),⟨_,rfl⟩,⟨rfl,_,hx,rfl⟩,aI,λb hb=>(hf b hb).1⟩⟩
 done:=by
  intro X hP hw hK hc i pins s σ H E I hf st hg;obtain⟨f0,f1,f2,f3,f4,f5⟩:=hf it (by simp);exact wpAny_pyNext_wide_end (I.ok.hd hc) st (Jw hg) λh' eb=>⟨rfl,I.turned (λb o hb e=>eb b o hb e) f0 f1 f3 f4 f5⟩
 self:=λ_ _ _ _ _ st h=>wpAny_pyIter_striter_wide st h
inductive QR(R:It->Hp->Prop)(v:V)(H1:Hp):Prop
 |mk (x) (aE:v=.str x) (aT:R (xf x) H1):QR R v H1
def Zgh(te:TE):TI:=λσ H R=>te σ H λv H1=>QR R v H1
theorem Zez{X:Cx}{tg l:Expr}{tl:TE}(hl:PE X l tl):PI X tg l (Zgh tl):=by
 intro pins s σ H R I h;refine aC (hl pins s σ H _ I h) λv s1 zq=>?_;obtain⟨x,H1,I1,r1,q1⟩:=zq;obtain⟨z,e,q⟩:=q1;subst e;obtain⟨t,rfl⟩:=r1;have fin:∀b∈[s1.heap.objs.size],ig X pins H1 b:=λb hb=>by
  have e:b=s1.heap.objs.size:=by simpa using hb
  subst e;exact I1.pP (Yd _) (I1.ay.fresh (Yd _))
 cases ha:z.cps.all (·<128) with
 |true=>exact wpAny_pyIter_ascii ha ⟨s1.heap.objs.size,[s1.heap.objs.size],_,_,H1,rfl,I1.kept λb o e=>Yb _ e,Xr _ z t,⟨_,Ys _ rfl,rfl,rfl⟩,fin,q⟩
 |false=>exact wpAny_pyIter_wide ha ⟨s1.heap.objs.size,[s1.heap.objs.size],_,_,H1,rfl,I1.kept λb o e=>Yb _ e,XF _ z t,⟨_,Ys _ rfl,rfl,rfl⟩,fin,q⟩
abbrev sg(c:Nat):V:=.str ⟨#[c]⟩
theorem ZbP(Pv:Nat->List V->Hp->Prop)(h0:Pv 0 [] (upd H D (.lst [])))
  (hs:∀(i c:Nat) (ys:List V) (H:Hp),x.cps[i]?=some c->Pv i ys H->tt (some (sg c)::fv) H λb H1=>if b=true then te (some (sg c)::fv) H1 λy H3=>H3 D=some (.lst ys)/\ys.length<sizeLine/\Pv (i+1) (ys++[y]) (upd H3 D (.lst (ys++[y]))) else Pv (i+1) ys H1)
  (hd:∀ys H,Pv x.length ys H->Q (.ref D) H):iL (xf x) tt te fv D H Q:=by
 refine⟨λi m ys H=>m=x.length-i/\i<=x.length/\Pv i ys H,⟨x.length,by simp,Yv _,h0⟩,?_⟩;rintro i m ys H ⟨rfl,hi,p⟩;by_cases bN:i<x.length
 ·refine .inr ⟨bN,Pv (i+1),λgm H' p'=>⟨x.length-(i+1),by omega,rfl,bN,p'⟩,λv H' y=>?_⟩;obtain⟨e,c,hc,rfl⟩:=y
  grind
 ·have e:i=x.length:=by omega
  subst e;exact .inl ⟨Yd _,hd ys H p⟩
theorem ZaZ(hn:x.length<=100000)(hD:H D=none)(f:Nat->V)
  (turn:∀(i c:Nat),x.cps[i]?=some c->∀H1,aj H H1->∀Kt:VK,(∀H3,aj H1 H3->Kt (f c) H3)->te (some (sg c)::fv) H1 Kt)(fin:∀H',aj H H'->H' D=some (.lst (x.cps.toList.map f))->Q (.ref D) H'):iL (xf x) zK te fv D H Q:=by
 refine ZbP (λi ys H1=>i<=x.length/\aj H H1/\H1 D=some (.lst ys)/\ys=(x.cps.toList.take i).map f) ⟨Yv _,cq hD _,aW,rfl⟩ ?_ ?_
 ·rintro i c ys H1 hi ⟨_,g,h1,e⟩;have dH:i<x.length:=(Array.getElem?_eq_some_iff.mp hi).1;refine jB (c6 (turn i c hi H1 g _ λH3 g3=>⟨g3 _ _ h1,?_,dH,?_,aW,?_⟩))
  ·rw[e,Ya,Y8,sizeLine_eq];omega
  ·intro b o q;rw[bg (ck q hD)];exact g3 _ _ (g _ _ q)
  ·have jI:x.cps.toList[i]?=some c:=by rw[Jh];exact hi
   rw[e,Y2,jI,Yp];rfl
 ·rintro ys H1 ⟨_,g,h1,e⟩;refine fin H1 g ?_;rw[h1,e,Wt (by show x.cps.toList.length<=x.cps.size;simp)]
end L2
namespace L2
open PySem PySem.W PySem.Spec PyProof.Rows
def ZeA:List V->Hp->VK->Prop:=λxs H Q=>∃(p:Addr) (kvs:List (Key×V)),xs=[.ref p]/\H p=some (.dK kvs)/\Nw H (.lst (kvs.map λkv=>kV kv.1)) Q
theorem ER:∀{ks:List Key} {us:List Value},us.length=ks.length->(∀(j:Nat) (v:Value),us[j]?=some v->∃k,ks[j]?=some k/\(dz P w).is k v=true)->Vals (ks.map kV) us
 |[],[],_,_=>.nil
 |k::ks,u::us,hl,h=>by
  obtain⟨k',e,hk⟩:=h 0 u rfl;have e':k=k':=by simpa using e
  subst e';refine .cons ?_ (ER (by simpa using hl) λj v hj=>by simpa using h (j+1) v (by simpa using hj));rcases kX (show qZ k u=true from hk) with⟨i,t,rfl,rfl⟩|⟨x,t,rfl,rfl⟩;·exact⟨t,rfl⟩
  ·exact⟨t,rfl⟩
 |[],_::_,hl,_=>by simp at hl
 |_::_,[],hl,_=>by simp at hl
theorem Zj(hc:X.calm=true):c7 X (.type "list") ZeA:=by
 rintro pins s σ H xs us Q I r ⟨p,kvs,rfl,hp,q⟩;obtain⟨u,rfl,ru⟩:=vals1 r;obtain rfl:u=Value.ref p:=ru;obtain⟨lim,wz,vs,kv,dd⟩:=mI I.ay hp;obtain⟨ep,da⟩:=dd.dictAt;have kl:=kv.length;refine kdl_call (kdl_dict wz) (I.ok.hd hc) da (by omega) λh' tk acc c kp hD it=>?_;have vals:Vals (kvs.map λkv=>kV kv.1) acc.toList:=by
  have e:(kvs.map λkv=>kV kv.1)=(vs.map (·.1)).map kV:=by rw[←kv.keys,Wa];rfl
  rw[e];refine ER (P:=X.prog) (w:=X.w) (by rw[Wo,Ya];exact it.1) λj v hj=>?_;obtain⟨k,x,hx,hk⟩:=it.2 j v (by rw[←Jh];exact hj)
  grind
 exact⟨.ref s.heap.objs.size,_,(I.laid (o:=.lst (kvs.map λkv=>kV kv.1)) kp (Yd _) ⟨by rw[Ya];exact lim,acc.toList,c,vals,by rw[Array.toArray_toList];exact hD⟩),rfl,q.at _ (I.ay.fresh (Yd _))⟩
end L2
namespace L2
open PySem PySem.Spec PyProof.Rows
abbrev zA(D:List (Str×Str)):List (Str×PyData):=D.map λp=>(p.1,PyData.str p.2)
def uh(K:PySem.W.Frag)(a:Addr)(D:List (Str×Str)):Prop:=KTD.tabLook KTD.flatLooks (λb=>K.lookup b) a (zA D)=true
theorem vC(f:δ->ε)(k:Str):∀D:List (Str×δ),KTD.datumAt k (D.map λp=>(p.1,f p.2))=(KTD.datumAt k D).map f
 |[]=>rfl
 |p::D=>by
  rw[Wn];unfold KTD.datumAt;by_cases e:k=p.1;·simp[e]
  ·simp only[e];exact vC f k D
theorem uh.here{K:PySem.W.Frag}{a:Addr}{D:List (Str×Str)}{h:Heap}(t:uh K a D)(rO:K.In h):KTD.Here h h a ((zA D).map λp=>(p.1,KTD.Dat.flat p.2)):=
 ⟨KTD.TabOf.text (KTD.tab_of_look (λ_ _=>KTD.flat_of_looks) (λa o e=>rO a o e) t),λ_ _ e=>e⟩
def mS(D:List (Str×Str))(z:Str):Bool:=(KTD.datumAt z D).isSome
theorem keys_has(D:List (Str×Str))(z:Str):KTD.inKeys z ((zA D).map λp=>(p.1,KTD.Dat.flat p.2))=mS D z:=by
 rw[←KTD.isSome_datumAt,vC KTD.Dat.flat,vC PyData.str];unfold mS
 grind
def ZeB(K:PySem.W.Frag)(neg:Bool):R2:=λx y H Q=>∃(z:Str) (a:Addr) (D:List (Str×Str)),x=.str z/\y=.ref a/\uh K a D/\Q (.bl (if neg=true then !mS D z else mS D z)) H
theorem ZeC{X:Cx}{K:PySem.W.Frag}(hK:X.K=K):cE X (compareOp .In) (ZeB K false):=by
 subst hK;rintro pins s σ H x y v u Q I rx ry ⟨z,a,D,rfl,rfl,t,q⟩;obtain⟨tk,rfl⟩:=rx;obtain rfl:u=Value.ref a:=ry;refine KTD.in_text (t.here I.dF) ?_;rw[keys_has];exact⟨.bl (mS D z),H,I.tok _,rfl,q⟩
def ZeD(K:PySem.W.Frag):R2:=λx y H Q=>∃(a:Addr) (z r:Str) (D:List (Str×Str)),x=.ref a/\y=.str z/\uh K a D/\KTD.datumAt z D=some r/\Q (.str r) H
theorem ZcZ{X:Cx}{K:PySem.W.Frag}(hK:X.K=K):jG X (ZeD K):=by
 subst hK;intro value slice pins s σ H x y v u Q I rx ry h hs;obtain⟨a,z,r,D,rfl,rfl,t,e,q⟩:=h;obtain⟨tk,rfl⟩:=ry;obtain rfl:v=Value.ref a:=rx;have T:=t.here I.dF;refine tail_any T.typeIs slot_dict_getitem.lookup ?_ hs;unfold getItem;try with_reducible refine wpAny_holding ?_
 refine wpAny_bind (wpAny_sequenceKey T.typeIs (by decide) ?_);refine wpAny_bind (wpAny_callSpecial?_slot T.typeIs slot_dict_getitem
  (wpAny_call_entry slot_dict_getitem T.typeIs entry_dict_getitem ?_ (args_dict_getitem _ _)))
 show wpAny _ _ (dictGet a (.str z tk)>>=_) _ _ s;have ed:KTD.datumAt z ((zA D).map λp=>(p.1,KTD.Dat.flat p.2))=some (.flat (.str r)):=by rw[vC KTD.Dat.flat,vC PyData.str,e];rfl
 refine wpAny_bind (KTD.dictGet_text T (λd v ha hv=>wpAny_pure ⟨v,rfl,wpAny_pure ?_⟩) λhn=>by rw[ed] at hn;cases hn);rw[ed] at ha;cases ha;cases hv s.heap with
 |str x t'=>exact⟨.str r,H,I.tok _,⟨t',rfl⟩,q⟩
theorem tX(h:cD X.prog X.w X.K X.mg X.base k m C ps sp)(hr:dk j X.A)(hj:k<=j)(ho:PE X o ta)
  (ht:eval (.Call (.Attribute o m apos) [] [] pos) X.env=(do
   let ov←eval o X.env
   standAt apos.atName
   let(f,first)←holding [ov] (getMethod ov m pl)
   callWith pos f first (backTo pos (starEach [] X.env)) (backToKw pos (keywordEach [] X.env))):=by rfl):
  PE X (.Call (.Attribute o m apos) [] [] pos) (zw C m sp [] E0 ta i4):=by
 obtain⟨f,fd,c,hm,F,b⟩:=h;exact Zbt ho c hm F (hr.mono hj) b .nil zy ht
def zM(K:PySem.W.Frag)(neg:Bool):R2:=λx y H Q=>∃(p q:Addr) (xs:List V),x=.ref p/\y=.ref q/\ak K H p xs/\ak K H q []/\Q (.bl (if neg=true then !xs.isEmpty else xs.isEmpty)) H
theorem ZeE(hu:X.A.units<cLine):cE X (compareOp .Eq) (zM X.K false):=by
 rintro pins s σ H x y v u Q I rx ry ⟨p,q,xs,rfl,rfl,h1,h2,k⟩;cases rx;cases ry;obtain⟨ai,r1,p1,z1⟩:=I.list h1;obtain⟨eN,r2,p2,z2⟩:=I.list h2;cases r2;have l1:=r1.length;cases xs with
 |nil=>
  cases r1;exact SeqAt.eq_listAt (e:=λ_=>true) p1.isList p2.isList rfl hu (λj h1 _=>absurd h1 (by simp)) (cH I k (by simp))
 |cons a r=>exact SeqAt.eq_list_lengthsAt p1.isList p2.isList (by simp;intro z;subst z;simp at l1) hu (cH I k (by simp))
theorem QS(hu:X.A.units<cLine):cE X (compareOp .NotEq) (zM X.K true):=by
 rintro pins s σ H x y v u Q I rx ry ⟨p,q,xs,rfl,rfl,h1,h2,k⟩;cases rx;cases ry;obtain⟨ai,r1,p1,z1⟩:=I.list h1;obtain⟨eN,r2,p2,z2⟩:=I.list h2;cases r2;have l1:=r1.length;cases xs with
 |nil=>
  cases r1;exact SeqAt.RcNeAt.lists (e:=λ_=>true) p1.isList p2.isList rfl hu (λj h1 _=>absurd h1 (by simp)) _ _ _ _ (cH I k (by simp))
 |cons a r=>exact SeqAt.RcNeAt.lists_lengths p1.isList p2.isList (by simp;intro z;subst z;simp at l1) hu _ _ _ _ (cH I k (by simp))
theorem Z0:c7 X (.builtin "len") (λxs H Q=>∃p kvs,xs=[.ref p]/\H p=some (.dK kvs)/\Q (.int (kvs.length:Int)) H):=by
 rintro pins s σ H xs us Q I r ⟨p,kvs,rfl,hp,q⟩;obtain⟨u,rfl,ru⟩:=vals1 r;obtain rfl:u=Value.ref p:=ru;exact Zfu I (.inl hp) λt s' I'=>⟨.int (kvs.length:Int),H,I',⟨t,rfl⟩,q⟩
theorem az.trans(g:az D H H')(g':az D H' JA):az D H JA:=λb o e n=>g' b o (g b o e n) n
def Out(fp:List Addr)(H H':Hp):Prop:=∀b o,H b=some o->b∉fp->H' b=some o
theorem Out.of(g:aj H H'):Out fp H H':=λb o e _=>g b o e
theorem Out.trans(g:Out fp H H')(g':Out fp H' JA):Out fp H JA:=λb o e n=>g' b o (g b o e n) n
theorem Out.bar(g:az a H H')(m:a∈fp):Out fp H H':=λb o e n=>g b o e λz=>n (by rw[z];exact m)
theorem setC(h:u D (σ.set i (some v)) H):wj (ue (tC v) (q0 i)) u D σ H:=h
theorem bX(h:te σ H λx H1=>u D (σ.set i (some x)) H1):wj (ue te (q0 i)) u D σ H:=h
theorem di(h:H a=some (.dK kvs))(e:aS kvs (.inr z)=o):dW H a (.str z) o:=.inl ⟨kvs,.inr z,.inl h,rfl,e.symm⟩
section
variable {X:Cx}{elt iter p_:Expr}{xs:List Str}{pos:Pos}{ifs:List Expr}{scope:Scope}{cl:List (Str×Addr)}{fr:List (Str×Nat)}{tg:TG}{tt:TT}{te:TE}{pins:List (Addr×Obj)}{σ:St}
def ZeF(n:Nat)(wi:TI)(fr:List (Str×Nat))(tg:TG)(tt:TT)(te:TE):TE:=λσ H Q=>wi σ H λJ H1=>∀D,H1 D=none->Gy n J tg tt te (fZ σ fr) D H1 Q
theorem ZbQ(hc:X.calm=true)(S:vv X scope cl xs fr)(hg:∀C s H fp,PG (cS X xs fr scope cl C s H fp) p_ tg)(hi:PI X p_ iter wi)
  (ht:∀C s H fp,rV (cS X xs fr scope cl C s H fp) ifs tt)(he:∀C s H fp,PE (cS X xs fr scope cl C s H fp) elt te)
  (hs:∀x,foldedSetIterable iter X.env x=pure x:=by intro _;rfl):PE X (.ListComp elt [⟨p_,iter,ifs,0⟩] scope pos) (ZeF xs.length wi fr tg tt te):=by
 intro pins s σ H Q I h;refine wpAny_comprehension_free rfl hs S.uf S.kind S.names (aC (hi pins s σ H _ I h) λv s1 h1=>aC h1 λrR s2 h2=>?_);obtain⟨it,fp,tn,J,H2,e,I2,T,d5,f2,hw⟩:=h2;subst e;refine Mq (RR:=λacc C=>compPost (model X.prog X.w) X.A X.xe none (EP X pins σ Q) acc C) hc S hg ht he I2 T d5 f2 hw ?_;intro D C s1 H1 m I1 hn f0 f1 f3 f4 f5 q;exact⟨m,hn,λh' lS=>⟨.ref D,H1,I1.turned (λb o hb e=>lS.extBut b o hb e) f0 f1 (.inr f3) f4 f5,rfl,q⟩⟩
end
theorem Z1{K:PySem.W.Frag}{a:Addr}{xs:List V}{n:Nat}{tg:TG}{tt:TT}{te:TE}{fv:St}{D:Addr}{H:Hp}{Q:VK}(Pv:Nat->List V->Hp->Prop)(h0:Pv 0 [] (upd H D (.lst [])))(hl:∀i ys H,i<=xs.length->Pv i ys H->ak K H a xs)
  (hs:∀i v ys H,xs[i]?=some v->Pv i ys H->∀os:St,os.length=n->tg v (os++fv) H λdt H2=>(∃jH:St,jH.length=n/\dt=jH++fv)/\tt dt H2 λc H1=>if c=true then te dt H1 λy H3=>H3 D=some (.lst ys)/\ys.length<sizeLine/\Pv (i+1) (ys++[y]) (upd H3 D (.lst (ys++[y]))) else Pv (i+1) ys H1)
  (hd:∀ys H,Pv xs.length ys H->Q (.ref D) H):Gy n (jd K a) tg tt te fv D H Q:=by
 refine⟨λi m ys H=>m=xs.length-i/\i<=xs.length/\Pv i ys H,⟨xs.length,by simp,Yv _,h0⟩,?_⟩;rintro i m ys H ⟨rfl,hi,p⟩;have q:=hl i ys H hi p;by_cases bN:i<xs.length
 ·refine .inr ⟨⟨xs,xs[i],q,by simp[bN]⟩,Pv (i+1),λgm H' p'=>⟨xs.length-(i+1),by omega,rfl,bN,p'⟩,λx H' y=>?_⟩;obtain⟨e,y⟩:=y
  grind
 ·have e:i=xs.length:=by omega
  subst e;exact .inl ⟨⟨xs,q,Yd _⟩,hd ys H p⟩
abbrev je(elt t1 i1 t2 i2:Expr)(scope:Scope)(pos:Pos):Expr:=.ListComp elt [⟨t1,i1,[],0⟩,⟨t2,i2,[],0⟩] scope pos
theorem Zhb(elt t1 i1 t2 i2:Expr)(scope:Scope)(pos:Pos)(it acc:Value)(env:Env):
  compTurn (je elt t1 i1 t2 i2 scope pos) 0 it acc env=(do
   standAt i1.pos
   match←pyNext it with
   |none=>pure (.done .next)
   |some v=>
    letOwnedTupleGo t1 it v
    assign t1 env v
    let mut ok:=true
    for c in ([]:List Expr) do
     if ok then ok←isTrue c env (eval c env)
    if ok then
     let x←eval i2 env
     standAt i2.pos
     let x←foldedSetIterable i2 env x;let _←runOwn (.compStart (je elt t1 i1 t2 i2 scope pos) 1 (←holding [x] (pyIter x)) acc env) env
    again (.compLoop (je elt t1 i1 t2 i2 scope pos) 0 it acc env)):=by rfl
theorem Zhc(elt t1 i1 t2 i2:Expr)(scope:Scope)(pos:Pos)(it acc:Value)(env:Env):
  compTurn (je elt t1 i1 t2 i2 scope pos) 1 it acc env=(do
   standAt i2.pos
   match←pyNext it with
   |none=>pure (.done .next)
   |some v=>
    letOwnedTupleGo t2 it v
    assign t2 env v
    let mut ok:=true
    for c in ([]:List Expr) do
     if ok then ok←isTrue c env (eval c env)
    if ok then
     (do let _←call (.builtin "list.append") [acc,←eval elt env])
    again (.compLoop (je elt t1 i1 t2 i2 scope pos) 1 it acc env)):=by rfl
section
variable {prog:Program}{w:World}{A:Around}{R:Result->Shared->Prop}{s:Shared}{elt t1 i1 t2 i2:Expr}{scope:Scope}{pos:Pos}{it acc:Value}{env:Env}
theorem Za0(I:Nat->Shared->Prop)
  (turn:∀n s,I n s->wpAny (model prog w) A (pyNext it) (λr bK=>match r with
   |none=>R (.ok .next) bK
   |some v=>wpAny (model prog w) A (letOwnedTupleGo t2 it v) (λ_ c5=>wpAny (model prog w) A (assign t2 env v) (λ_ dU=>
     wpAny (model prog w) A (eval elt env) (λx i6=>
       wpAny (model prog w) A (call (.builtin "list.append") [acc,x]) (λ_ lK=>∃m,m<n/\I m lK) (notedBy (model prog w) A env λe s'=>R (.error e) s') i6) (notedBy (model prog w) A env λe s'=>R (.error e) s') dU) (notedBy (model prog w) A env λe s'=>R (.error e) s') c5) (notedBy (model prog w) A env λe s'=>R (.error e) s') bK) (notedBy (model prog w) A env λe s'=>R (.error e) s') s)
  (n:Nat)(h:I n s):codeAny (model prog w) A (.compLoop (je elt t1 i1 t2 i2 scope pos) 1 it acc env) R s:=by
 refine codeAny_loop rfl I (λn s hI=>wpAny_noted (wpAny_bind (wpAny_standAt (wpAny_bind (wpAny_mono (turn n s hI) (λr bK eA=>?_) λ_ _ h'=>h'))))) n h;cases r with
 |none=>exact wpAny_pure eA
 |some v=>
  exact wpAny_bind (wpAny_mono eA (λ_ c5 h₀=>wpAny_bind (wpAny_mono h₀ (λ_ dU oq=>wpAny_bind (wpAny_tests_nil (wpAny_bind (wpAny_bind (wpAny_mono oq (λx i6 wu=>wpAny_bind (wpAny_mono wu (λ_ lK wx=>wpAny_pure (wpAny_pure ⟨rfl,wx⟩)) λ_ _ h'=>h')) λ_ _ h'=>h'))))) λ_ _ h'=>h')) λ_ _ h'=>h')
theorem Za1(hs:∀x,foldedSetIterable i2 env x=pure x)(I:Nat->Shared->Prop)
  (turn:∀n s,I n s->wpAny (model prog w) A (pyNext it) (λr bK=>match r with
   |none=>R (.ok .next) bK
   |some v=>wpAny (model prog w) A (letOwnedTupleGo t1 it v) (λ_ c5=>wpAny (model prog w) A (assign t1 env v) (λ_ dU=>
     wpAny (model prog w) A (eval i2 env) (λx dQ=>wpAny (model prog w) A (pyIter x) (λAd i6=>
      codeAny (model prog w) A (.compStart (je elt t1 i1 t2 i2 scope pos) 1 Ad acc env) (λr lK=>match r with|.ok _=>∃m,m<n/\I m lK|.error _=>False) i6)
      (notedBy (model prog w) A env λe s'=>R (.error e) s') dQ) (notedBy (model prog w) A env λe s'=>R (.error e) s') dU) (notedBy (model prog w) A env λe s'=>R (.error e) s') c5) (notedBy (model prog w) A env λe s'=>R (.error e) s') bK) (notedBy (model prog w) A env λe s'=>R (.error e) s') s)
  (n:Nat)(h:I n s):codeAny (model prog w) A (.compLoop (je elt t1 i1 t2 i2 scope pos) 0 it acc env) R s:=by
 refine codeAny_loop rfl I (λn s hI=>wpAny_noted (wpAny_bind (wpAny_standAt (wpAny_bind (wpAny_mono (turn n s hI) (λr bK eA=>?_) λ_ _ h'=>h'))))) n h;cases r with
 |none=>exact wpAny_pure eA
 |some v=>
  refine wpAny_bind (wpAny_mono eA (λ_ c5 h₀=>wpAny_bind (wpAny_mono h₀ (λ_ dU oq=>wpAny_bind (wpAny_tests_nil (wpAny_bind (wpAny_mono oq (λx dQ ug=>wpAny_bind (wpAny_standAt ?_)) λ_ _ h'=>h')))) λ_ _ h'=>h')) λ_ _ h'=>h');rw[hs];refine wpAny_bind (wpAny_pure (wpAny_bind (wpAny_holding (wpAny_mono ug (λAd i6 wu=>wpAny_bind (wpAny_runOwn (codeAny_mono wu λr lK wx=>?_))) λ_ _ h'=>h'))));cases r with
  |error e=>grind
  |ok f=>exact wpAny_pure ⟨rfl,wx⟩
theorem X6
  (h0:codeAny (model prog w) A (.compLoop (je elt t1 i1 t2 i2 scope pos) 1 it acc env) R s)
  (h:wpAny (model prog w) A (pyIter it) (λJB s'=>codeAny (model prog w) A (.compLoop (je elt t1 i1 t2 i2 scope pos) 1 JB acc env) R s') (notedBy (model prog w) A env λx s'=>R (.error x) s') s):
  codeAny (model prog w) A (.compStart (je elt t1 i1 t2 i2 scope pos) 1 it acc env) R s:=by
 refine codeAny_of_tree (wpAny_notedAt (wpAny_bind (wpAny_askSetting (wpAny_ite ?_))));split
 ·first
   |exact wpAny_bind (wpAny_pure (wpAny_pure (And.intro rfl h0)))
   |exact wpAny_pure (And.intro rfl h0)
 ·first
   |exact wpAny_bind (wpAny_rule (wpAny_bind (wpAny_standAt (wpAny_bind (wpAny_mono h (λJB s' h'=>wpAny_pure (And.intro rfl h')) λ_ _ x=>x)))))
   |(refine wpAny_bind (wpAny_rule ?_);show wpAny _ _ (standAt i2.pos>>=_) _ _ s;exact wpAny_bind (wpAny_standAt (wpAny_bind (wpAny_mono h (λJB s' h'=>wpAny_pure (And.intro rfl h')) λ_ _ x=>x))))
end
def GD(n:Nat)(J:It)(jJ:TG)(jK:TI)(lU:TG)(te:TE)(fv:St)(D:Addr)(H:Hp)(Q:VK):Prop:=
 ∃W:Nat->Nat->List V->Hp->Prop,(∃m,W 0 m [] (upd H D (.lst [])))/\∀i m ys H,W i m ys H->
  (J.stop i H/\Q (.ref D) H)\/(J.go i H/\∃N:List V->Hp->Prop,(∀gm H',N gm H'->∃m',m'<m/\W (i+1) m' gm H')/\
   ∀v H',J.pW i H v H'->∀os:St,os.length=n->jJ v (os++fv) H' λdt H2=>(∃jH:St,jH.length=n/\dt=jH++fv)/\jK dt H2 λJ2 H3=>
    ∃W2:Nat->Nat->List V->St->Hp->Prop,(∃m2,W2 0 m2 ys dt H3)/\∀i2 m2 fN cM H4,W2 i2 m2 fN cM H4->
     (J2.stop i2 H4/\(∃uz:St,uz.length=n/\cM=uz++fv)/\N fN H4)\/(J2.go i2 H4/\∃N2:List V->St->Hp->Prop,(∀gm aO H',N2 gm aO H'->∃m',m'<m2/\W2 (i2+1) m' gm aO H')/\
      ∀v2 H5,J2.pW i2 H4 v2 H5->lU v2 cM H5 λxg H6=>te xg H6 λy H7=>H7 D=some (.lst fN)/\fN.length<sizeLine/\N2 (fN++[y]) xg (upd H7 D (.lst (fN++[y])))))
section
variable {X:Cx}{elt t1 i1 t2 i2:Expr}{xs:List Str}{pos:Pos}{scope:Scope}{cl:List (Str×Addr)}{fr:List (Str×Nat)}{jJ lU:TG}{jK:TI}{te:TE}{pins:List (Addr×Obj)}{σ:St}
theorem Z2{H2:Hp}{s2:Shared}{it:Addr}{fp:List Addr}{tn:Nat->Heap->Prop}{J:It}{Q:VK}{RR:Value->Addr->Result->Shared->Prop}{E:Value->Shared->Prop}
  (hc:X.calm=true)(S:vv X scope cl xs fr)(hg:∀C s H fp,PG (cS X xs fr scope cl C s H fp) t1 jJ)(JC:∀C s H fp,PI (cS X xs fr scope cl C s H fp) t2 i2 jK)(JD:∀C s H fp,PG (cS X xs fr scope cl C s H fp) t2 lU)(he:∀C s H fp,PE (cS X xs fr scope cl C s H fp) elt te)
  (ux:∀C x,foldedSetIterable i2 (compEnvC scope cl C X.env) x=pure x)
  (I2:Inv X pins σ H2 s2)(T:Turn X.prog X.w X.K t1 J fp it tn)(d5:tn 0 s2.heap)(f2:∀b∈fp,ig X pins H2 b)
  (hw:∀D,H2 D=none->GD xs.length J jJ jK lU te (fZ σ fr) D H2 Q)
  (hR:∀D C s1 H1 m,Inv X pins σ H1 s1->s1.heap.Ns C m->H1 C=none->C≠X.env.locals->X.c5.heap.objs.size<=C->(∀y c,X.env.cells.lookup y=some c->c≠C)->(∀p∈X.pn++pins,p.1≠C)->Q (.ref D) H1->RR (.ref D) C (.ok .next) s1):
  wpAny (model X.prog X.w) X.A (newList []) (λacc dQ=>wpAny (model X.prog X.w) X.A (newFunctionEnv scope X.env.globals cl [] X.env.qual none .none (some X.env)) (λpR i6=>
   codeAny (model X.prog X.w) X.A (.compStart (je elt t1 i1 t2 i2 scope pos) 0 (.ref it) acc {pR with scope:=relabel scope X.env}) (RR acc pR.locals) i6) E dQ) E s2:=by
 refine wpAny_newObj_type (wpAny_newFunctionEnv S.v9 (by intro y hy;simp at hy) (λeA qT qU=>?_) S.kind);dsimp only at qT qU⊢;have I3:Inv X pins σ (upd H2 s2.heap.objs.size (.lst [])) {s2 with heap:=s2.heap.push {cls:=.type "list",dict:=none,data:=.seq ([]:List Value).toArray}}:=
  I2.laid (t':=s2.toks) (λb u e=>Yb _ e) (Yd _) ⟨Yv _,[],0,.nil,Ys _ rfl⟩
 have IS:H2 s2.heap.objs.size=none:=I2.ay.fresh (Yd _);obtain⟨W,⟨m0,w0⟩,turn⟩:=hw s2.heap.objs.size IS;have wy:∀b∈fp,b<s2.heap.objs.size:=λb hb=>by
  obtain⟨o,e,_⟩:=T.obj _ _ d5 b hb;exact Yw e
 generalize wX:s2.heap.push {cls:=.type "list",dict:=none,data:=.seq ([]:List Value).toArray}=G2 at qT qU I3⊢;have hC:G2.objs.size=s2.heap.objs.size+1:=by rw[←wX,Je]
 have old:∀b o,G2.get? b=some o->eA.get? b=some o:=λb o e=>qU.extBut b o (Yy (Yw e)) (Yb _ e);have up:∀b o,s2.heap.get? b=some o->G2.get? b=some o:=λb o e=>wX▸Yb _ e;have f3:∀b∈fp,ig X pins (upd H2 s2.heap.objs.size (.lst [])) b:=λb hb=>by
  have:=wy b hb;exact⟨by rw[bg (Yy this)];exact(f2 b hb).1,(f2 b hb).2⟩
 have IT:∀b∈fp,b<G2.objs.size:=λb hb=>by
  rw[hC];exact Wp (wy b hb)
 have wY:tn 0 eA:=T.keep _ _ _ d5 λb hb o e=>old b o (up b o e);have I4:Inv (cS X xs fr scope cl G2.objs.size {s2 with heap:=G2} (upd H2 s2.heap.objs.size (.lst [])) fp) [] (List.replicate xs.length none++fZ σ fr) (upd H2 s2.heap.objs.size (.lst [])) {s2 with heap:=eA,toks:=s2.toks+([]:List (Str×Value)).length}:=
  MX (tk:=s2.toks+([]:List (Str×Value)).length) S I3 rfl f3 IT old qT
 have loop:∀dQ:Shared,dQ={s2 with heap:=eA,toks:=s2.toks+([]:List (Str×Value)).length}->
   codeAny (model X.prog X.w) X.A (.compLoop (je elt t1 i1 t2 i2 scope pos) 0 (.ref it) (.ref s2.heap.objs.size) (compEnvC scope cl G2.objs.size X.env)) (RR (.ref s2.heap.objs.size) G2.objs.size) dQ:=by
  rintro dQ rfl;refine Za1 (ux _) (λk s'=>∃i ys H' os,os.length=xs.length/\Inv (cS X xs fr scope cl G2.objs.size {s2 with heap:=G2} (upd H2 s2.heap.objs.size (.lst [])) fp) [] (os++fZ σ fr) H' s'/\tn i s'.heap/\(∀b∈fp,H' b=none)/\W i k ys H') ?_ m0
   ⟨0,[],_,List.replicate xs.length none,Wx,I4,wY,λb hb=>(f3 b hb).1,w0⟩
  rintro n s5 ⟨i,ys,H5,os,oB,I5,oz,rS,w5⟩;have lJ:∀{H':Hp},(∀b∈fp,H' b=none)->∀b∈fp,ig (cS X xs fr scope cl G2.objs.size {s2 with heap:=G2} (upd H2 s2.heap.objs.size (.lst [])) fp) [] H' b:=λ{H'} hn b hb=>
   ⟨hn b hb,(I5.ok.uq b hb).1,I5.ok.ud b hb,.inl hb,(I5.ok.uq b hb).2,λp hp=>absurd (show p∈([]:List (Addr×Obj)) from hp) (by simp)⟩
  rcases turn i n ys H5 w5 with⟨stop,qn⟩|⟨go,N,hN,step⟩
  ·refine aC (T.done (cS X xs fr scope cl G2.objs.size {s2 with heap:=G2} (upd H2 s2.heap.objs.size (.lst [])) fp) rfl rfl rfl hc i [] s5 _ H5 _ I5 (lJ rS) oz stop) λr s6 zq=>?_;obtain⟨hr,I6⟩:=zq;subst hr;obtain⟨m,IU,_⟩:=I6.loc;have I7:Inv X pins σ H5 s6:=I3.RN (ch:=fp) I6.os I6.base I6.ay I6.bare λb hb=>⟨(f2 b hb).2.2.2.1,(f2 b hb).2.1,(f2 b hb).2.2.2.2.1,(f2 b hb).2.2.2.2.2⟩;refine hR _ _ s6 H5 m I7 IU I6.free ?_ ?_ (λy c e z=>?_) (λp hp z=>?_) qn;·exact J6 I3.lt
   ·exact I3.sz
   ·obtain⟨v,q⟩:=I3.cell y c e;exact absurd q.lt (by rw[z];exact Y7 _)
   ·exact absurd (Yw (I3.pin p hp).1) (by rw[z];exact Y7 _)
  ·refine aC (T.item (cS X xs fr scope cl G2.objs.size {s2 with heap:=G2} (upd H2 s2.heap.objs.size (.lst [])) fp) rfl rfl rfl hc i [] s5 _ H5 _ I5 (lJ rS) oz go) λr s6 zq=>?_;obtain⟨u,hr,h6⟩:=zq;subst hr;refine aC h6 λ_ s7 zq=>?_;obtain⟨v,H7,I7,r7,y7,rW,IV⟩:=zq;have IW:=I7.pinned (lJ IV) (T.obj _ _ rW);refine wpAny_mono (hg _ _ _ _ _ s7 _ H7 v u _ IW r7 (step v H7 y7 os oB)) (λ_ s8 zq=>?_) λ_ _ z=>False.elim z;obtain⟨σ8,H8,I8,⟨jH,SR,e8⟩,q8⟩:=zq;subst e8;have again:∀{oC:St} {H9:Hp} {s9:Shared} {oE:List V},oC.length=xs.length->Inv (cS X xs fr scope cl G2.objs.size {s2 with heap:=G2} (upd H2 s2.heap.objs.size (.lst [])) fp) ([]++pJ fp s7.heap) (oC++fZ σ fr) H9 s9->N oE H9->
     ∃m,m<n/\∃i ys H' os,os.length=xs.length/\Inv (cS X xs fr scope cl G2.objs.size {s2 with heap:=G2} (upd H2 s2.heap.objs.size (.lst [])) fp) [] (os++fZ σ fr) H' s9/\tn i s9.heap/\(∀b∈fp,H' b=none)/\W i m ys H':=λ{oC H9 s9 oE} l1 I9 n9=>by
    obtain⟨m',hm,w9⟩:=hN oE H9 n9;refine⟨m',hm,i+1,oE,H9,oC,l1,I9.tI,T.keep _ _ _ rW λb hb o e=>(I9.pin (b,o) (Yq _ (Yq _ (o_ hb e)))).1,λb hb=>?_,w9⟩;obtain⟨o,e,d⟩:=T.obj _ _ rW b hb;exact(I9.pin (b,o) (Yq _ (Yq _ (o_ hb e)))).2.1
   refine wpAny_mono (JC _ _ _ _ _ s8 _ H8 _ I8 q8) (λx s9 h9=>wpAny_mono h9 (λrR IX h10=>?_) λ_ _ z=>False.elim z) λ_ _ z=>False.elim z;obtain⟨Ad,JE,tn2,J2,oF,oI,IY,T2,S2,Ae,W2,⟨m2,w2⟩,ZfA⟩:=h10;subst oI;have G0:∀{H':Hp},(∀b∈JE,H' b=none)->∀b∈JE,ig (cS X xs fr scope cl G2.objs.size {s2 with heap:=G2} (upd H2 s2.heap.objs.size (.lst [])) fp) ([]++pJ fp s7.heap) H' b:=λhn b hb=>⟨hn b hb,(Ae b hb).2⟩;have R7:codeAny (model X.prog X.w) X.A (.compLoop (je elt t1 i1 t2 i2 scope pos) 1 (.ref Ad) (.ref s2.heap.objs.size) (compEnvC scope cl G2.objs.size X.env)) (λr lK=>match r with|.ok _=>∃m,m<n/\∃i ys H' os,os.length=xs.length/\Inv (cS X xs fr scope cl G2.objs.size {s2 with heap:=G2} (upd H2 s2.heap.objs.size (.lst [])) fp) [] (os++fZ σ fr) H' lK/\tn i lK.heap/\(∀b∈fp,H' b=none)/\W i m ys H'|.error _=>False) IX:=by
    refine Za0 (λk s'=>∃j zs aO H',Inv (cS X xs fr scope cl G2.objs.size {s2 with heap:=G2} (upd H2 s2.heap.objs.size (.lst [])) fp) ([]++pJ fp s7.heap) aO H' s'/\tn2 j s'.heap/\(∀b∈JE,H' b=none)/\W2 j k zs aO H') ?_ m2 ⟨0,ys,_,oF,IY,S2,λb hb=>(Ae b hb).1,w2⟩;rintro k IZ ⟨j,zs,Zgi,wZ,Ab,S3,S4,w11⟩;rcases ZfA j k zs Zgi wZ w11 with⟨stop,⟨uz,Zgj,e3⟩,qn⟩|⟨go,N2,hN2,ZfB⟩
    ·refine aC (T2.done (cS X xs fr scope cl G2.objs.size {s2 with heap:=G2} (upd H2 s2.heap.objs.size (.lst [])) fp) rfl rfl rfl hc j _ IZ _ wZ _ Ab (G0 S4) S3 stop) λr s12 zq=>?_;obtain⟨hr,I12⟩:=zq;subst hr;subst e3;exact again Zgj I12 qn
    ·refine aC (T2.item (cS X xs fr scope cl G2.objs.size {s2 with heap:=G2} (upd H2 s2.heap.objs.size (.lst [])) fp) rfl rfl rfl hc j _ IZ _ wZ _ Ab (G0 S4) S3 go) λr s12 zq=>?_;obtain⟨u2,hr,uA⟩:=zq;subst hr;refine aC uA λ_ s13 zq=>?_;obtain⟨v2,Af,I13,r13,y13,Ik,Zgk⟩:=zq;have Zgl:=I13.pinned (G0 Zgk) (T2.obj _ _ Ik);refine wpAny_mono (JD _ _ _ _ _ s13 _ Af v2 u2 _ Zgl r13 (ZfB v2 Af y13)) (λ_ s14 zq=>?_) λ_ _ z=>False.elim z;obtain⟨Zgm,qb,I14,q14⟩:=zq;refine wpAny_mono (he _ _ _ _ _ s14 _ qb _ I14 q14) (λu1 s15 zq=>?_) λ_ _ z=>False.elim z;obtain⟨y,JG,I15,r15,hD,hz,lV⟩:=zq;refine wpAny_mono (vB (X:=cS X xs fr scope cl G2.objs.size {s2 with heap:=G2} (upd H2 s2.heap.objs.size (.lst [])) fp) _ s15 _ JG (.ref s2.heap.objs.size) [y] _ [u1] (λ_ H'=>N2 (zs++[y]) Zgm H') I15 rfl (.cons r15 .nil) ⟨_,zs,y,rfl,rfl,hD,hz,lV⟩) (λ_ s16 zq=>?_) λ_ _ z=>False.elim z;obtain⟨_,Ui,JH,_,q16⟩:=zq;obtain⟨m',hm,w16⟩:=hN2 _ _ _ q16;refine⟨m',hm,j+1,_,_,Ui,JH.tI,T2.keep _ _ _ Ik λb hb o e=>(JH.pin (b,o) (Yq _ (Yq _ (o_ hb e)))).1,λb hb=>?_,w16⟩;obtain⟨o,e,d⟩:=T2.obj _ _ Ik b hb;exact(JH.pin (b,o) (Yq _ (Yq _ (o_ hb e)))).2.1
   exact X6 R7 (T2.self _ 0 _ _ _ S2 R7)
 exact codeAny_compStart_list (loop _ rfl) (T.self _ 0 _ _ _ wY (loop _ rfl))
def ZeG(n:Nat)(wi:TI)(fr:List (Str×Nat))(jJ:TG)(jK:TI)(lU:TG)(te:TE):TE:=λσ H Q=>wi σ H λJ H1=>∀D,H1 D=none->GD n J jJ jK lU te (fZ σ fr) D H1 Q
theorem ZbR(hc:X.calm=true)(S:vv X scope cl xs fr)(hg:∀C s H fp,PG (cS X xs fr scope cl C s H fp) t1 jJ)(hi:PI X t1 i1 wi)(JC:∀C s H fp,PI (cS X xs fr scope cl C s H fp) t2 i2 jK)(JD:∀C s H fp,PG (cS X xs fr scope cl C s H fp) t2 lU)
  (he:∀C s H fp,PE (cS X xs fr scope cl C s H fp) elt te)(hs:∀x,foldedSetIterable i1 X.env x=pure x:=by intro _;rfl)(ux:∀C x,foldedSetIterable i2 (compEnvC scope cl C X.env) x=pure x:=by intro _ _;rfl):
  PE X (.ListComp elt [⟨t1,i1,[],0⟩,⟨t2,i2,[],0⟩] scope pos) (ZeG xs.length wi fr jJ jK lU te):=by
 intro pins s σ H Q I h;refine wpAny_comprehension_free rfl hs S.uf S.kind S.names (aC (hi pins s σ H _ I h) λv s1 h1=>aC h1 λrR s2 h2=>?_);obtain⟨it,fp,tn,J,H2,e,I2,T,d5,f2,hw⟩:=h2;subst e;refine Z2 (RR:=λacc C=>compPost (model X.prog X.w) X.A X.xe none (EP X pins σ Q) acc C) hc S hg JC JD he ux I2 T d5 f2 hw ?_;intro D C s1 H1 m I1 hn f0 f1 f3 f4 f5 q;exact⟨m,hn,λh' lS=>⟨.ref D,H1,I1.turned (λb o hb e=>lS.extBut b o hb e) f0 f1 (.inr f3) f4 f5,rfl,q⟩⟩
end
theorem eV{X:Cx}{K:PySem.W.Frag}{tg l:Expr}{tl:TE}(h:X.K=K)(hl:PE X l tl):PI X tg l (RS K tl):=h▸OX hl
theorem gT{X:Cx}{K:PySem.W.Frag}{pos:Pos}{es:List Expr}{k:Nat}{t:mW}{n:Nat}(h:X.K=K)(hc:X.calm=true)(hg:wK X es t)
  (hn:(assignEach es X.env).length=n:=by rfl)(gZ:(assignEach es X.env).findIdx? (·.1)=none:=by rfl):PG X (.Tuple es k pos) (SH K n t):=h▸ZdX hc hg hn gZ
theorem Zc0{K:PySem.W.Frag}{a:Addr}{xs:List V}{n:Nat}{jJ:TG}{jK:TI}{lU:TG}{te:TE}{fv:St}{D:Addr}{H:Hp}{Q:VK}(Pv:Nat->List V->Hp->Prop)(h0:Pv 0 [] (upd H D (.lst [])))(hl:∀i ys H,i<=xs.length->Pv i ys H->ak K H a xs)
  (hs:∀i v ys H,xs[i]?=some v->Pv i ys H->∀os:St,os.length=n->jJ v (os++fv) H λdt H2=>(∃jH:St,jH.length=n/\dt=jH++fv)/\jK dt H2 λJ2 H3=>∃(b:Addr) (zs:List V) (Pw:Nat->List V->St->Hp->Prop),J2=jd K b/\Pw 0 ys dt H3/\
   (∀k ys σ H,k<=zs.length->Pw k ys σ H->ak K H b zs)/\
   (∀k v2 ys σ H,zs[k]?=some v2->Pw k ys σ H->lU v2 σ H λxg H6=>te xg H6 λy H7=>H7 D=some (.lst ys)/\ys.length<sizeLine/\Pw (k+1) (ys++[y]) xg (upd H7 D (.lst (ys++[y]))))/\
   ∀ys σ H,Pw zs.length ys σ H->(∃uz:St,uz.length=n/\σ=uz++fv)/\Pv (i+1) ys H)
  (hd:∀ys H,Pv xs.length ys H->Q (.ref D) H)(ZfC:∀σ H (R R':It->Hp->Prop),(∀J H,R J H->R' J H)->jK σ H R->jK σ H R')(ZfD:∀v σ H (R R':St->Hp->Prop),(∀σ H,R σ H->R' σ H)->jJ v σ H R->jJ v σ H R'):GD n (jd K a) jJ jK lU te fv D H Q:=by
 refine⟨λi m ys H=>m=xs.length-i/\i<=xs.length/\Pv i ys H,⟨xs.length,by simp,Yv _,h0⟩,?_⟩;rintro i m ys H ⟨rfl,hi,p⟩;have q:=hl i ys H hi p;by_cases bN:i<xs.length
 ·refine .inr ⟨⟨xs,xs[i],q,by simp[bN]⟩,Pv (i+1),λgm H' p'=>⟨xs.length-(i+1),by omega,rfl,bN,p'⟩,λx H' y os oB=>?_⟩;obtain⟨e,y⟩:=y;subst e;refine ZfD _ _ _ _ _ (λdt H2 ⟨h1,h2⟩=>⟨h1,ZfC _ _ _ _ (λJ2 H3 h3=>?_) h2⟩) (hs i x ys _ (y xs q) p os oB);obtain⟨b,zs,Pw,rfl,w0,wl,ws,wd⟩:=h3;refine⟨λk m2 fN cM H4=>m2=zs.length-k/\k<=zs.length/\Pw k fN cM H4,⟨zs.length,by simp,Yv _,w0⟩,?_⟩;rintro k m2 fN cM H4 ⟨rfl,hk,w⟩;have q2:=wl k fN cM H4 hk w;by_cases uB:k<zs.length
  ·refine .inr ⟨⟨zs,zs[k],q2,by simp[uB]⟩,Pw (k+1),λgm aO H' p'=>⟨zs.length-(k+1),by omega,rfl,uB,p'⟩,λv2 H5 y2=>?_⟩;obtain⟨e2,y2⟩:=y2;subst e2;exact ws k v2 fN cM _ (y2 zs q2) w
  ·have e:k=zs.length:=by omega
   subst e;exact .inl ⟨⟨zs,q2,Yd _⟩,(wd fN cM H4 w).1,(wd fN cM H4 w).2⟩
 ·have e:i=xs.length:=by omega
  subst e;exact .inl ⟨⟨xs,q,Yd _⟩,hd ys H p⟩
section
variable {prog:Program}{w:World}{κ:Type}[DecidableEq κ]{knd:PySem.KeyKind prog w κ}{A:Around}{E:Value->Shared->Prop}{s:Shared}
theorem WB{d:Addr}{kvs:List (κ×Value)}{k:κ}{key dflt:Value}{Q:Value->Shared->Prop}(mP:knd.is k key=true)(hm:s.heap.DictOf knd d kvs)
  (ZeH:∀v,valueAt kvs k=some v->Q v {s with toks:=s.toks+1})
  (Zgn:valueAt kvs k=none->∀h',h'.DictOf knd d (stored kvs k dflt)->Heap.SameBut d s.heap h'->Q dflt {s with heap:=h',toks:=s.toks+1})
  (hsz:kvs.length<=sizeLine):wpAny (model prog w) A (dictSetDefault d key dflt) Q E s:=by
 obtain⟨o,es,ep,ho,hc,hd,hk,hp,hn⟩:=hm;have hes:es.size<=sizeLine:=by
  have e1:=hp.length
  grind
 have hf:∀x,findBy knd.is es x=valueAt kvs x:=λx=>by
  rw[←hp.find x];simp[findBy]
 unfold dictSetDefault;try with_reducible refine wpAny_holding ?_
 refine wpAny_bind (knd.pyHash mP (wpAny_bind (wpAny_dictFind_of mP ho hd hk ?_)));have Zhw:(es.findIdx? λe=>knd.is k e.key)=kvs.findIdx? λkv=>decide (kv.1=k):=by
  rw[←hp.findIdx k];obtain⟨l⟩:=es;simp
 cases hi:es.findIdx? λe=>knd.is k e.key with
 |some i=>
  have Ag:valueAt kvs k=(es[i]?).map (·.val):=by rw[←hf k,findBy_of_findIdx?,hi]
  refine wpAny_bind (wpAny_dictEntries ho hd ?_);cases he:es[i]? with
  |none=>
   have:=Array.findIdx?_eq_some_iff_findIdx_eq.mp hi
   grind
  |some e=>
   rw[he] at Ag;exact wpAny_bind (wpAny_rule (wpAny_pure (ZeH e.val Ag)))
 |none=>
  have Ag:valueAt kvs k=none:=by rw[←hf k,findBy_of_findIdx?,hi]
  have S5:¬(kvs.any λkv=>decide (kv.1=k))=true:=by
   grind
  refine wpAny_bind (wpAny_rule (wpAny_bind (wpAny_updateDictKeys ho hd (wpAny_pure (Zgn Ag _ ⟨_,_,ep+1,Jz _ ho (Obj.isFreed_of_dict (Obj.data_mapDictKeys hd _)),
   hc.mapDictKeys _,Obj.data_mapDictKeys hd _,hk.push mP _,?_,?_⟩ (Heap.SameBut.update ..))))))
  ·rw[stored,if_neg S5];have:=hp.append mP (knd.hash k) dflt
   grind
  ·rw[stored,if_neg S5,Yp,Wv]
   grind
theorem WT{d:Addr}{k:κ}{key:Value}(mP:knd.is k key=true)(hd:(d==sysModules)=false)(dflt:Value):
  MeetsIn prog w (Builtin.«dict.setdefault» ⟨[.ref d,key,dflt],[]⟩) (λ_ R s=>∃kvs,s.heap.DictOf knd d kvs/\kvs.length<=sizeLine/\
   (∀v,valueAt kvs k=some v->R (.ok (.ret v)) {s with toks:=s.toks+1})/\
   (valueAt kvs k=none->∀h',h'.DictOf knd d (stored kvs k dflt)->Heap.SameBut d s.heap h'->R (.ok (.ret dflt)) {s with heap:=h',toks:=s.toks+1})):=
 .of_wp λA R s ⟨kvs,hm,hz,h1,h2⟩=>by
  refine wpAny_bind (wpAny_bind (wpAny_notOrdered_dict hm.typeIs (wpAny_pure ?_)));show wpAny _ _ (if(d==sysModules)=true then _ else(dictSetDefault d key dflt>>=_)) _ _ s;rw[if_neg (by rw[hd];exact Yi)];exact wpAny_bind (WB mP hm (λv hv=>wpAny_pure ⟨v,rfl,h1 v hv⟩) (λhn h' hm' lS=>wpAny_pure ⟨dflt,rfl,h2 hn h' hm' lS⟩) hz)
end
section
variable {X:Cx}{pins:List (Addr×Obj)}{σ:St}{H:Hp}{s:Shared}{a:Addr}{kvs:List (Key×V)}{k:Key}{z:V}{u r:Value}{A:Around}{E:Value->Shared->Prop}
theorem ZbS(I:Inv X pins σ H s)(e:H a=some (.dK kvs))(ry:RelV (kV k) u)(rz:RelV z r)(l:kvs.length<sizeLine)
  (h1:∀v w' s',aS kvs k=some v->Inv X pins σ H s'->RelV v w'->Q w' s')(h2:∀s',aS kvs k=none->Inv X pins σ (upd H a (.dK (putK kvs k z))) s'->Q r s'):
  wpAny (model X.prog X.w) A (call (.builtin "dict.setdefault") [.ref a,u,r]) Q E s:=by
 obtain⟨zz,hd,vs,rel,dd⟩:=mI I.ay e;have hz:vs.length<=sizeLine:=by rw[←rel.length];exact zz
 have rv:=rel.val k;refine call_meetsIn PySem.F.slot_dict_setdefault dd.typeIs PySem.F.entry_dict_setdefault (PySem.F.args_dict_setdefault_3 _ _ _) (WT (lF ry) hd r) ⟨vs,dd,hz,λv hv=>?_,λhn h' ir hs=>?_⟩
 ·cases ev:aS kvs k with
  |none=>rw[ev,hv] at rv;cases rv
  |some x=>
   rw[ev,hv] at rv;exact h1 x v _ ev (I.tok _) rv
 ·have ev:aS kvs k=none:=by
   cases ev:aS kvs k with
   |none=>rfl
   |some x=>rw[ev,hn] at rv;cases rv
  have hl:(putK kvs k z).length<=sizeLine:=by have:=yb kvs k z;omega
  exact h2 _ ev (qN I (by rw[e];exact True.intro) hs (let⟨q,_,_,hq,_⟩:=ir;⟨q,hq⟩) (vT hl hd (rel.put k rz) ir))
end
def Fs(td ty tx:TE):TE:=λσ H Q=>td σ H λx H1=>∃a,x=.ref a/\xc H1 a/\ty σ H1 λy H2=>tx σ H2 λz H3=>∃kvs k,H3 a=some (.dK kvs)/\y=kV k/\kvs.length<sizeLine/\
 (∀v,aS kvs k=some v->Q v H3)/\(aS kvs k=none->Ch H3 a (.dK (kvs++[(k,z)])) (Q z))
def Zc1(td ty:TE):TE:=λσ H Q=>td σ H λx H1=>∃a,x=.ref a/\xc H1 a/\ty σ H1 λy H2=>∃kvs k v,H2 a=some (.dK kvs)/\y=kV k/\aS kvs k=some v/\Ch H2 a (.dK (f_ kvs k)) (Q v)
section
variable {X:Cx}{o e f:Expr}{apos cL:Pos}{td ty tx:TE}
theorem MA(ho:PE X o td)(he:PE X e ty)(hf:PE X f tx)(m:M2 X o "setdefault" apos e f cL):PE X (.Call (.Attribute o "setdefault" apos) [e,f] [] cL) (Fs td ty tx):=by
 intro pins s σ H Q I h;refine wpAny_Call_method m.base m.iT m.line plainAttrs_dict PySem.F.slot_dict_setdefault PySem.F.type_dict_setdefault (aC (ho pins s σ H _ I h) λu s1 zq=>?_);obtain⟨x,H1,I1,rx,a,ex,d,q1⟩:=zq;subst ex;obtain rfl:u=Value.ref a:=rx;obtain⟨t1,t2,_⟩:=vU I1 d;refine⟨t1,t2,?_⟩;rw[m.trees];refine Calls.callWith_builtin rfl (Calls.evalArgs_plain (Calls.spliced_cons (aC (he pins s1 σ H1 _ I1 q1) λiv s2 ⟨y,H2,I2,ry,q2⟩=>
  Calls.spliced_cons (aC (hf pins s2 σ H2 _ I2 q2) λfv s3 ⟨z,H3,I3,rz,kvs,k,ea,ey,lz,q3,q4⟩=>Calls.spliced_nil ?_))))
 subst ey;refine ZbS I3 ea ry rz lz (λv w' s4 ev I4 rv=>⟨v,H3,I4,rv,q3 v ev⟩) λs4 ev I4=>?_;rw[kq _ ev] at I4;exact⟨z,_,I4,rz,(q4 ev).at⟩
theorem M_(ho:PE X o td)(he:PE X e ty)(m:M1 X o "pop" apos e cL):PE X (.Call (.Attribute o "pop" apos) [e] [] cL) (Zc1 td ty):=by
 intro pins s σ H Q I h;refine wpAny_Call_method m.base m.iT m.line plainAttrs_dict slot_dict_pop PySem.F.type_dict_pop (aC (ho pins s σ H _ I h) λu s1 zq=>?_);obtain⟨x,H1,I1,rx,a,ex,d,q1⟩:=zq;subst ex;obtain rfl:u=Value.ref a:=rx;obtain⟨t1,t2,_⟩:=vU I1 d;refine⟨t1,t2,?_⟩;rw[m.trees];refine Calls.callWith_builtin rfl (Calls.evalArgs_plain (Calls.spliced_cons (aC (he pins s1 σ H1 _ I1 q1) λiv s2 ⟨y,H2,I2,ry,kvs,k,v,ea,ey,l,q2⟩=>Calls.spliced_nil ?_)));subst ey;exact Zft I2 ea ry l (.inl rfl) λw' s3 I3 fM=>⟨v,_,I3,fM,q2.at⟩
end
end L2
namespace L2
open PySem PySem.W PySem.Calls PySem.Spec PyProof.Rows
def dX{α:Type}(n:Nat)(P:α->Prop):KasT α->Prop
 |.ret a=>P a
 |.ask i j k=>i<n/\j<n/\∀b,dX n P (k b)
theorem dX.bind{α β:Type}{n:Nat}{P:α->Prop}{Q:β->Prop}{f:α->KasT β}(hf:∀a,P a->dX n Q (f a)):∀{t:KasT α},dX n P t->dX n Q (t.bind f)
 |.ret a,h=>hf a h
 |.ask _ _ _,h=>⟨h.1,h.2.1,λb=>dX.bind hf (h.2.2 b)⟩
def Good(n:Nat)(p:Array Nat):Prop:=0<n/\p.Perm (List.range n).toArray
theorem Good.get(g:Good n p)(m:Nat):p.getD m 0<n:=by
 by_cases h:m<p.size
 ·have e:p.getD m 0=p[m]:=by rw[Y9,W8 h];rfl
  rw[e];have:=g.2.mem_iff.mp (Array.getElem_mem h);simpa using this
 ·have e:p.getD m 0=0:=by rw[Y9,Jw (by omega)];rfl
  rw[e];exact g.1
theorem Good.rev(g:Good n p)(i j:Nat):Good n (kas_rev p i j):=⟨g.1,(mirror_perm p i j _).trans g.2⟩
theorem Ft(g:Good n p):∀f m,dX n (λ_=>True) (kas_asc p f m)
 |0,_=>trivial
 |f+1,m=>⟨g.get m,g.get (m-1),λb=>by
  cases b with
  |true=>(dsimp only;rw[if_pos rfl]);exact trivial
  |false=>(dsimp only;rw[if_neg Yi]);exact Ft g f (m+1)⟩
theorem yt:∀f (p:Array Nat) m q,Good n p->dX n (λr=>Good n r.1) (kas_desc f p m q)
 |0,_,_,_,g=>g
 |f+1,p,m,q,g=>⟨g.get m,g.get (m-1),λb=>by
  cases b with
  |true=>
   split;·exact yt f _ _ _ (g.rev _ _)
   ·exact yt f _ _ _ g
  |false=>
   refine⟨g.get (m-1),g.get m,λd=>?_⟩;cases d with
   |true=>(dsimp only;rw[if_pos rfl]);exact g
   |false=>(dsimp only;rw[if_neg Yi]);exact yt f _ _ _ g⟩
theorem MB{n m k:Nat}{p:Array Nat}(g:Good n p):dX n (λr=>Good n r.2) (kas_tail3 m k p):=by
 refine dX.bind (λa _=>?_) (Ft (g.rev 0 m) _ _);exact g.rev 0 m
theorem L1{n m k:Nat}{p:Array Nat}(g:Good n p):dX n (λr=>Good n r.2) (kas_descPart m k p):=by
 refine dX.bind (λr hr=>?_) (yt _ p _ _ g);split;·exact MB (Good.rev hr _ _)
 ·exact MB hr
theorem MC{n k:Nat}{p:Array Nat}(g:Good n p):dX n (λr=>Good n r.2) (kas_count k p):=by
 refine dX.bind (λm _=>?_) (Ft g _ _);split;·exact g
 ·split
  ·refine⟨g.get _,g.get _,λb=>?_⟩;cases b with
   |true=>(dsimp only;rw[if_pos rfl]);exact g
   |false=>(dsimp only;rw[if_neg Yi]);exact L1 (g.rev _ _)
  ·exact L1 g
theorem D8(g:Good n p):∀f l r,dX n (λ_=>True) (kas_place p k f l r)
 |0,_,_=>trivial
 |f+1,l,r=>by
  unfold kas_place;split;·exact trivial
  ·refine⟨g.get _,g.get _,λb=>?_⟩;cases b with
   |true=>(dsimp only;rw[if_pos rfl]);exact D8 g f _ _
   |false=>(dsimp only;rw[if_neg Yi]);exact D8 g f _ _
theorem NY{n:Nat}:∀f (p:Array Nat) k,Good n p->dX n (Good n) (kas_bin f p k)
 |0,_,_,g=>g
 |f+1,p,k,g=>dX.bind (λl _=>NY f _ _ ⟨g.1,(bubble_perm p k _).trans g.2⟩) (D8 g _ _ _)
theorem Za2{n:Nat}(h:0<n):dX n (Good n) (kas_sort n):=by
 refine dX.bind (λr hr=>?_) (MC ⟨h,Array.Perm.refl _⟩);split;·exact NY _ _ _ hr
 ·exact hr
theorem range_getD(vs:List α)(d:α):(List.range vs.length).map (λi=>vs.getD i d)=vs:=by
 refine Wj λi=>?_
 grind
section
variable {prog:Program}{w:World}{A:Around}{E:Value->Shared->Prop}{s:Shared}
end
def zh(h:Heap)(vs:List Value):Prop:=∀v∈vs,∃(a:Addr) (o:Obj) (n:Nat) (x y:Int) (t u:Tok),v=.ref a/\h.get? a=some o/\o.cls=.type "tuple"/\o.data=.seq #[.int x t,.int y u] n
theorem zh.Uj:∀{vs:List Value},zh h vs->∃fs:List Value,KatTups h vs fs/\fs.length=vs.length/\∀v∈fs,∃x t,v=Value.int x t
 |[],_=>⟨[],KatTups.nil,rfl,λ_ h=>by cases h⟩
 |v::vs,hv=>by
  obtain⟨a,o,n,x,y,t,u,rfl,h1,h2,h3⟩:=hv v Yh;obtain⟨fs,k1,k2,k3⟩:=zh.Uj λz hz=>hv z (Yx _ hz);refine⟨.int x t::fs,KatTups.cons h1 h2 h3 rfl k1,by rw[Wl,Wl,k2],λv hv=>?_⟩
  grind
section
variable {prog:Program}{w:World}{A:Around}{E:Value->Shared->Prop}{s:Shared}
end
section
variable {prog:Program}{w:World}{A:Around}{E:Value->Shared->Prop}{s:Shared}
end
theorem Na:∀{as:List Addr} {us:List Value},Vals (as.map V.ref) us->us=as.map Value.ref
 |[],_,.nil=>rfl
 |a::as,u::us,.cons r t=>by
  rw[r,Na t,Wn]
theorem Nb:∀as:List Addr,Vals (as.map V.ref) (as.map Value.ref)
 |[]=>.nil
 |_::as=>.cons rfl (Nb as)
def Run{α:Type}(lt:Nat->Nat->Bool):KasT α->α
 |.ret a=>a
 |.ask i j k=>Run lt (k (lt i j))
theorem Run.bind:∀t:KasT α,Run lt (t.bind f)=Run lt (f (Run lt t))
 |.ret _=>rfl
 |.ask i j k=>Run.bind (k (lt i j))
theorem dX.run(hc:∀i j (C:Bool->Shared->Prop),i<n->j<n->C (lt i j) s->cmp i j C s):∀{t:KasT α},dX n P t->G (Run lt t) s->t.kasWp cmp G s
 |.ret _,_,hG=>hG
 |.ask i j k,h,hG=>hc i j _ h.1 h.2.1 (dX.run hc (h.2.2 _) hG)
structure jL(n:Nat)(lt:Nat->Nat->Bool):Prop where
 trans:∀i j k,i<n->j<n->k<n->lt i j=true->lt j k=true->lt i k=true
 Ah:∀i j,i<n->j<n->i≠j->lt i j=false->lt j i=true
 Zgo:∀i j,i<n->j<n->lt i j=true->lt j i=false
def Sd(lt:Nat->Nat->Bool)(p:Array Nat)(m:Nat):Prop:=∀i j,i<j->j<m->lt (p.getD i 0) (p.getD j 0)=true
def Ds(lt:Nat->Nat->Bool)(p:Array Nat)(m:Nat):Prop:=∀i j,i<j->j<m->lt (p.getD j 0) (p.getD i 0)=true
theorem Good.size(g:Good n p):p.size=n:=by
 have:=g.2.size_eq
 grind
theorem Good.ne(g:Good n p)(hi:i<n)(hj:j<n)(ne:i≠j):p.getD i 0≠p.getD j 0:=by
 have nd:p.toList.Nodup:=by
  have:=(Jm.mp g.2).nodup_iff.mpr (by simpa using List.nodup_range);exact this
 have sz:=g.size;have e:∀k (hk:k<n),p.getD k 0=p.toList[k]'(by rw[Wo];omega):=λk hk=>by
  simp_all
 have pw:=Ww.mp nd
 grind
section
variable {n:Nat}{lt:Nat->Nat->Bool}
theorem Pb(L:jL n lt)(g:Good n p)(h1:1<=m)(sd:Sd lt p m)(h:lt (p.getD (m-1) 0) (p.getD m 0)=true):Sd lt p (m+1):=by
 intro i j jM hj;by_cases e:j=m
 ·subst e;by_cases e2:i=j-1;·rw[e2];exact h
  ·exact L.trans _ _ _ (g.get _) (g.get _) (g.get _) (sd i (j-1) (by omega) (by omega)) h
 ·exact sd i j jM (by omega)
theorem Zc2(L:jL n lt)(g:Good n p)(h1:1<=m)(ds:Ds lt p m)(h:lt (p.getD m 0) (p.getD (m-1) 0)=true):Ds lt p (m+1):=by
 intro i j jM hj;by_cases e:j=m
 ·subst e;by_cases e2:i=j-1;·rw[e2];exact h
  ·exact L.trans _ _ _ (g.get _) (g.get _) (g.get _) h (ds i (j-1) (by omega) (by omega))
 ·exact ds i j jM (by omega)
theorem yT(L:jL n lt)(g:Good n p):∀f m,1<=m->m+f<=n->Sd lt p m->Sd lt p (Run lt (kas_asc p f m))/\m<=Run lt (kas_asc p f m)/\Run lt (kas_asc p f m)<=m+f
 |0,m,_,_,sd=>⟨sd,Yd _,Yd _⟩
 |f+1,m,h1,h2,sd=>by
  have e:Run lt (kas_asc p (f+1) m)=Run lt (if lt (p.getD m 0) (p.getD (m-1) 0)=true then KasT.ret m else kas_asc p f (m+1)):=rfl;rw[e];by_cases c:lt (p.getD m 0) (p.getD (m-1) 0)=true
  ·rw[if_pos c];exact⟨sd,Yd _,by show m<=_;omega⟩
  ·rw[if_neg c];have c':lt (p.getD m 0) (p.getD (m-1) 0)=false:=by cases z:lt (p.getD m 0) (p.getD (m-1) 0) with|true=>exact absurd z c|false=>rfl
   obtain⟨a,b,d⟩:=yT L g f (m+1) (by omega) (by omega) (Pb L g h1 sd (L.Ah _ _ (g.get _) (g.get _) (g.ne (by omega) (by omega) (by omega)) c'))
   grind
theorem NZ(L:jL n lt)(g:Good n p):∀f m,1<=m->m+f<=n->Ds lt p m->∃m',Run lt (kas_desc f p m 0)=(p,m',0)/\Ds lt p m'/\m<=m'/\m'<=m+f
 |0,m,_,_,ds=>⟨m,rfl,ds,Yd _,Yd _⟩
 |f+1,m,h1,h2,ds=>by
  have e:Run lt (kas_desc (f+1) p m 0)=Run lt (if lt (p.getD m 0) (p.getD (m-1) 0)=true then(if 0>0 then kas_desc f (kas_rev p (m-(0+1)) m) (m+1) 0 else kas_desc f p (m+1) 0) else KasT.ask (p.getD (m-1) 0) (p.getD m 0) λd=>if d=true then KasT.ret (p,m,0) else kas_desc f p (m+1) (0+1)):=rfl;rw[e];by_cases c:lt (p.getD m 0) (p.getD (m-1) 0)=true
  ·rw[if_pos c,if_neg (by omega)];obtain⟨m',a,b,d,d'⟩:=NZ L g f (m+1) (by omega) (by omega) (Zc2 L g h1 ds c)
   grind
  ·rw[if_neg c];have c':lt (p.getD m 0) (p.getD (m-1) 0)=false:=by cases z:lt (p.getD m 0) (p.getD (m-1) 0) with|true=>exact absurd z c|false=>rfl
   have e2:Run lt (KasT.ask (p.getD (m-1) 0) (p.getD m 0) λd=>if d=true then KasT.ret (p,m,0) else kas_desc f p (m+1) (0+1))=Run lt (if lt (p.getD (m-1) 0) (p.getD m 0)=true then KasT.ret (p,m,0) else kas_desc f p (m+1) (0+1)):=rfl;rw[e2,if_pos (L.Ah _ _ (g.get m) (g.get (m-1)) (g.ne (by omega) (by omega) (by omega)) c')];exact⟨m,rfl,ds,Yd _,by omega⟩
theorem Pc(hm:m<=p.size)(hi:i<m):(kas_rev p 0 m).getD i 0=p.getD (m-1-i) 0:=by
 unfold kas_rev;rw[Y9,getElem?_mirror_all hm,if_pos ⟨Yv _,hi⟩,←Y9]
 congr 1
 omega
theorem Za3(L:jL n lt)(g:Good n p)(h1:1<=m)(hm:m<=n)(ds:Ds lt p m):Good n (Run lt (kas_tail3 m n p)).2/\Sd lt (Run lt (kas_tail3 m n p)).2 (Run lt (kas_tail3 m n p)).1/\m<=(Run lt (kas_tail3 m n p)).1/\(Run lt (kas_tail3 m n p)).1<=n:=by
 have sd:Sd lt (kas_rev p 0 m) m:=λi j jM hj=>by
  rw[Pc (by rw[g.size];exact hm) (by omega),Pc (by rw[g.size];exact hm) hj];exact ds _ _ (by omega) (by omega)
 have e:Run lt (kas_tail3 m n p)=(Run lt (kas_asc (kas_rev p 0 m) (n-m) m),kas_rev p 0 m):=by
  unfold kas_tail3;rw[Run.bind];rfl
 obtain⟨a,b,c⟩:=yT L (g.rev 0 m) (n-m) m h1 (by omega) sd;rw[e];exact⟨g.rev 0 m,a,b,by show Run lt _<=n;omega⟩
theorem Za4(L:jL n lt)(g:Good n p):Good n (Run lt (kas_count n p)).2/\Sd lt (Run lt (kas_count n p)).2 (Run lt (kas_count n p)).1/\1<=(Run lt (kas_count n p)).1/\(Run lt (kas_count n p)).1<=n:=by
 have n0:=g.1;obtain⟨sd,h1,h2⟩:=yT L g (n-1) 1 (Yd _) (by omega) (λi j jM hj=>by omega);have e:Run lt (kas_count n p)=Run lt (if(Run lt (kas_asc p (n-1) 1)==n)=true then KasT.ret (Run lt (kas_asc p (n-1) 1),p) else if Run lt (kas_asc p (n-1) 1)>1 then KasT.ask (p.getD 0 0) (p.getD (Run lt (kas_asc p (n-1) 1)-1) 0) λc=>if c=true then KasT.ret (Run lt (kas_asc p (n-1) 1),p) else kas_descPart (Run lt (kas_asc p (n-1) 1)) n (kas_rev p 0 (Run lt (kas_asc p (n-1) 1))) else kas_descPart (Run lt (kas_asc p (n-1) 1)) n p):=by
  unfold kas_count;rw[Run.bind]
 rw[e];generalize er:Run lt (kas_asc p (n-1) 1)=r at sd h1 h2;by_cases c1:(r==n)=true
 ·rw[if_pos c1];exact⟨g,sd,h1,by show r<=n;omega⟩
 ·rw[if_neg c1];have rn:r≠n:=λz=>c1 (beq_iff_eq.mpr z);by_cases c2:r>1
  ·rw[if_pos c2];have e2:Run lt (KasT.ask (p.getD 0 0) (p.getD (r-1) 0) λc=>if c=true then KasT.ret (r,p) else kas_descPart r n (kas_rev p 0 r))=Run lt (if lt (p.getD 0 0) (p.getD (r-1) 0)=true then KasT.ret (r,p) else kas_descPart r n (kas_rev p 0 r)):=rfl;rw[e2,if_pos (sd 0 (r-1) (by omega) (by omega))];exact⟨g,sd,h1,by show r<=n;omega⟩
  ·rw[if_neg c2];have r1:r=1:=by omega
   subst r1;have hd:lt (p.getD 1 0) (p.getD 0 0)=true:=by
    have:n-1=(n-2)+1:=by omega
    rw[this] at er;have e3:Run lt (kas_asc p (n-2+1) 1)=Run lt (if lt (p.getD 1 0) (p.getD (1-1) 0)=true then KasT.ret 1 else kas_asc p (n-2) (1+1)):=rfl;rw[e3] at er;by_cases c:lt (p.getD 1 0) (p.getD (1-1) 0)=true;·exact c
    ·rw[if_neg c] at er;have c':lt (p.getD 1 0) (p.getD (1-1) 0)=false:=by cases z:lt (p.getD 1 0) (p.getD (1-1) 0) with|true=>exact absurd z c|false=>rfl
     have JI:Sd lt p 2:=Pb L g (m:=1) (Yd _) (λi j jM hj=>by omega) (L.Ah _ _ (g.get _) (g.get _) (g.ne (by omega) (by omega) (by omega)) c');obtain⟨_,b,_⟩:=yT L g (n-2) 2 (by omega) (by omega) JI;rw[show 1+1=2 from rfl] at er;omega
   have ds2:Ds lt p 2:=λi j jM hj=>by
    grind
   obtain⟨m',a,b,c,d⟩:=NZ L g (n-(1+1)) (1+1) (by omega) (by omega) ds2;have e4:Run lt (kas_descPart 1 n p)=Run lt (kas_tail3 m' n p):=by
    unfold kas_descPart;rw[Run.bind,a];dsimp only;rw[if_neg (by omega)]
   rw[e4];obtain⟨x1,x2,x3,x4⟩:=Za3 L g (m:=m') (by omega) (by omega) b;exact⟨x1,x2,by omega,x4⟩
theorem Pd(L:jL n lt)(g:Good n p)(sd:Sd lt p n):∀f m,1<=m->m+f<=n->Run lt (kas_asc p f m)=m+f
 |0,_,_,_=>rfl
 |f+1,m,h1,h2=>by
  have e:Run lt (kas_asc p (f+1) m)=Run lt (if lt (p.getD m 0) (p.getD (m-1) 0)=true then KasT.ret m else kas_asc p f (m+1)):=rfl;rw[e,if_neg (by rw[L.Zgo _ _ (g.get _) (g.get _) (sd (m-1) m (by omega) (by omega))];exact Yi),Pd L g sd f (m+1) (by omega) (by omega)];omega
theorem Za5(L:jL n lt)(g:Good n p)(sd:Sd lt p n):Run lt (kas_count n p)=(n,p):=by
 have n0:=g.1;unfold kas_count;rw[Run.bind,(Pd L g sd (n-1) 1 (Yd _) (by omega)),if_pos (beq_iff_eq.mpr (by omega))];show(1+(n-1),p)=(n,p)
 grind
theorem ES(L:jL n lt)(g:Good n p)(hk:k<n)(sd:Sd lt p k):∀f l r,l<=r->r<=k->r-l<=f->(∀i,i<l->lt (p.getD i 0) (p.getD k 0)=true)->(∀i,r<=i->i<k->lt (p.getD k 0) (p.getD i 0)=true)->
  Run lt (kas_place p k f l r)<=k/\(∀i,i<Run lt (kas_place p k f l r)->lt (p.getD i 0) (p.getD k 0)=true)/\∀i,Run lt (kas_place p k f l r)<=i->i<k->lt (p.getD k 0) (p.getD i 0)=true
 |0,l,r,h1,h2,h3,hl,hr=>⟨by show l<=k;omega,hl,λi (hi:l<=i) xh=>hr i (by omega) xh⟩
 |f+1,l,r,h1,h2,h3,hl,hr=>by
  rw[kas_place];by_cases c:l≥r
  ·rw[if_pos c];exact⟨by show l<=k;omega,hl,λi (hi:l<=i) xh=>hr i (by omega) xh⟩
  ·rw[if_neg c];have m1:l<=(l+r)/2:=by omega
   have m2:(l+r)/2<r:=by omega
   generalize(l+r)/2=m at m1 m2;have e2:Run lt (KasT.ask (p.getD k 0) (p.getD m 0) λc=>if c=true then kas_place p k f l m else kas_place p k f (m+1) r)=Run lt (if lt (p.getD k 0) (p.getD m 0)=true then kas_place p k f l m else kas_place p k f (m+1) r):=rfl;rw[e2];by_cases c2:lt (p.getD k 0) (p.getD m 0)=true
   ·rw[if_pos c2];refine ES L g hk sd f l m m1 (by omega) (by omega) hl λi hi xh=>?_;by_cases e:i=m;·rw[e];exact c2
    ·exact L.trans _ _ _ (g.get _) (g.get _) (g.get _) c2 (sd m i (by omega) xh)
   ·rw[if_neg c2];have c':lt (p.getD k 0) (p.getD m 0)=false:=by cases z:lt (p.getD k 0) (p.getD m 0) with|true=>exact absurd z c2|false=>rfl
    have t:=L.Ah _ _ (g.get k) (g.get m) (g.ne hk (by omega) (by omega)) c';refine ES L g hk sd f (m+1) r (by omega) h2 (by omega) (λi hi=>?_) hr;by_cases e:i=m;·rw[e];exact t
    ·exact L.trans _ _ _ (g.get _) (g.get _) (g.get _) (sd i m (by omega) (by omega)) t
theorem Pf(L:jL n lt):∀f (p:Array Nat) k,Good n p->k+f=n->Sd lt p k->Good n (Run lt (kas_bin f p k))/\Sd lt (Run lt (kas_bin f p k)) n
 |0,p,k,g,e,sd=>by
  have e':k=n:=by omega
  refine⟨g,?_⟩;rw[←e'];exact sd
 |f+1,p,k,g,e,sd=>by
  have hk:k<n:=by omega
  obtain⟨a,b,c⟩:=ES L g hk sd k 0 k (Yv _) (Yd _) (by omega) (λi hi=>absurd hi (Wk _)) (λi h1 h2=>by omega);have e2:Run lt (kas_bin (f+1) p k)=Run lt (kas_bin f (bubble p k (k-Run lt (kas_place p k k 0 k))) (k+1)):=by
   rw[kas_bin,Run.bind]
  rw[e2];generalize Run lt (kas_place p k k 0 k)=l at a b c;have gb:Good n (bubble p k (k-l)):=⟨g.1,(bubble_perm p k _).trans g.2⟩;have sz:=g.size;have get:∀i,(bubble p k (k-l)).getD i 0=if i=l then p.getD k 0 else if l<i/\i<=k then p.getD (i-1) 0 else p.getD i 0:=λi=>by
   have h:=getElem?_bubble (xs:=p) (src:=k) (by omega) (k-l) (by omega) i;rw[show k-(k-l)=l by omega] at h;rw[Y9,h];by_cases z:i=l;·rw[if_pos z,if_pos z,←Y9]
   ·rw[if_neg z,if_neg z];by_cases z2:l<i/\i<=k;·rw[if_pos z2,if_pos z2,←Y9]
    ·rw[if_neg z2,if_neg z2,←Y9]
  refine Pf L f _ (k+1) gb (by omega) λi j jM hj=>?_;rw[get i,get j];by_cases i1:i=l
  ·rw[if_pos i1,if_neg (by omega),if_pos (by omega)];exact c (j-1) (by omega) (by omega)
  ·rw[if_neg i1];by_cases i2:l<i/\i<=k
   ·rw[if_pos i2,if_neg (by omega),if_pos (by omega)];exact sd (i-1) (j-1) (by omega) (by omega)
   ·rw[if_neg i2];have il:i<l:=by omega
    by_cases j1:j=l;·rw[if_pos j1];exact b i il
    ·rw[if_neg j1];by_cases j2:l<j/\j<=k
     ·rw[if_pos j2];exact sd i (j-1) (by omega) (by omega)
     ·rw[if_neg j2];exact sd i j jM (by omega)
theorem ZbT(L:jL n lt)(h:0<n):Good n (Run lt (kas_sort n))/\Sd lt (Run lt (kas_sort n)) n:=by
 obtain⟨a,b,c,d⟩:=Za4 L ⟨h,Array.Perm.refl _⟩;have e:Run lt (kas_sort n)=Run lt (if(Run lt (kas_count n (List.toArray (List.range n)))).1<n then kas_bin (n-max (Run lt (kas_count n (List.toArray (List.range n)))).1 1) (Run lt (kas_count n (List.toArray (List.range n)))).2 (max (Run lt (kas_count n (List.toArray (List.range n)))).1 1) else KasT.ret (Run lt (kas_count n (List.toArray (List.range n)))).2):=by
  unfold kas_sort;rw[Run.bind]
 rw[e];generalize Run lt (kas_count n (List.toArray (List.range n)))=r at a b c d;have mx:max r.1 1=r.1:=by omega
 by_cases z:r.1<n
 ·rw[if_pos z,mx];exact Pf L _ _ _ a (by omega) b
 ·rw[if_neg z];have:r.1=n:=by omega
  refine⟨a,?_⟩;rw[this] at b;exact b
end
def iM(p q:Int×Int):Prop:=p.1<q.1\/(p.1=q.1/\p.2<q.2)
def ltB(p q:Int×Int):Bool:=if p.1=q.1 then decide (p.2<q.2) else decide (p.1<q.1)
theorem ltB_iff:ltB p q=true↔iM p q:=by
 unfold ltB iM
 grind
def jN(ps:List (Int×Int))(i j:Nat):Bool:=ltB (ps.getD i (0,0)) (ps.getD j (0,0))
theorem ZeI(nd:ps.Nodup):jL ps.length (jN ps):=by
 have fl:∀{p q:Int×Int},ltB p q=false->¬iM p q:=λ{p q} h z=>by rw[ltB_iff.mpr z] at h;cases h
 refine⟨λi j k _ _ _ h1 h2=>?_,λi j hi hj ne h=>?_,λi j _ _ h=>?_⟩
 ·have a:=ltB_iff.mp h1;have b:=ltB_iff.mp h2;refine ltB_iff.mpr ?_;unfold iM at*;omega
 ·refine ltB_iff.mpr ?_;have a:=fl h;have e:ps.getD i (0,0)≠ps.getD j (0,0):=by
   rw[Yk,Yk,Yc hi,Yc hj];have pw:=Ww.mp nd
   grind
  have e':¬((ps.getD i (0,0)).1=(ps.getD j (0,0)).1/\(ps.getD i (0,0)).2=(ps.getD j (0,0)).2):=λz=>e (Prod.ext z.1 z.2);unfold iM at*;omega
 ·cases z:jN ps j i with
  |false=>rfl
  |true=>
   have a:=ltB_iff.mp h;have b:=ltB_iff.mp z;unfold iM at a b;omega
def rh(h:Heap)(vs:List Value)(ps:List (Int×Int)):Prop:=Paired (λv (p:Int×Int)=>∃(a:Addr) (o:Obj) (n:Nat) (t u:Tok),v=.ref a/\h.get? a=some o/\o.cls=.type "tuple"/\o.data=.seq #[.int p.1 t,.int p.2 u] n) vs ps
theorem rh.kJ(q:rh h vs ps):zh h vs:=by
 intro v hv;induction q with
 |nil=>cases hv
 |cons f _ ih=>grind
theorem DD{α β:Type}{F:α->β->Prop}{xs:List α}{ys:List β}(h:Paired F xs ys){i:Nat}(hi:i<xs.length)(x:α)(y:β):F (xs.getD i x) (ys.getD i y):=by
 obtain⟨b,e,f⟩:=fk h (Yc hi)
 grind
section
variable {prog:Program}{w:World}{A:Around}{E:Value->Shared->Prop}{s:Shared}
theorem ZbU{vs:List Value}{ps:List (Int×Int)}(tv:rh s.heap vs ps){i j:Nat}{C:Bool->Shared->Prop}(hi:i<vs.length)(hj:j<vs.length)(hC:C (jN ps i j) s):kas_ask prog w A (tuples' true) vs i j C s:=by
 unfold kas_ask;obtain⟨a,o,n,t,u,e1,h1,h2,h3⟩:=DD tv hi Value.none (0,0);obtain⟨a',o',n',t',u',rX,kP,kQ,Uk⟩:=DD tv hj Value.none (0,0);unfold jN at hC;rw[e1,rX];generalize ps.getD i (0,0)=p at hC h3;generalize ps.getD j (0,0)=q at hC Uk;refine kat_lt h1 h3 kP Uk ?_;unfold ltB at hC;refine kat_cons (SeqAt.EqAt.int_int p.1 t q.1 t' prog w _ _ (kat_go (λb1=>kat_yes (kat_cons (SeqAt.EqAt.int_int p.2 u q.2 u' prog w _ _ (kat_go (λb2=>kat_yes (kat_nil ?_)) λb2=>kat_no ?_)))) λb1=>kat_no ?_));·grind
 ·rw[if_pos (beq_iff_eq.mp b1)] at hC;exact kat_one _ _ (lt_int hC)
 ·rw[if_neg (λz=>by rw[beq_iff_eq.mpr z] at b1;cases b1)] at hC;show wpAny _ _ (oneLt' true _ _) _ _ _;exact kat_lt_int hC
theorem ZeJ
  (hQ:∀aI:SortSt,arrOf aI=(List.toArray (List.range 64)).map (kas_item it)->failedOf aI=none->Q () aI s)
  (h:(kas_count 64 (List.toArray (List.range 64))).kasWp (kas_cmp prog w A κ it) (λr s'=>r=(64,List.toArray (List.range 64))/\s'=s) s):kasC (model prog w) A E sortRuns' Q (kas_st κ it (List.toArray (List.range 64))) s:=by
 have S6:(List.toArray (List.range 64)).size=64:=rfl;have szA:(arrOf (kas_st κ it (List.toArray (List.range 64)))).size=64:=(Array.size_map (f:=kas_item it)).trans S6;have mr:minRun' 64 64 0=32:=by decide+kernel
 rw[sortRuns'_eq];refine kasC_bind (kasC_get ?_);(try dsimp only);simp only[szA,mr];refine kasC_bind (kasC_range ?_);show kasC _ _ _ (forIn (0::1::List.range' 2 62) _ _) _ _ _;refine kasC_cons ?_;(try dsimp only);rw[if_neg (show ¬(0:Nat)≥64 by omega)];simp only[Nat.sub_zero];refine kasC_bind (kas_count_ (show 1<=64 by omega) (Nat.le_of_eq S6.symm) (λm p' s' _ _ _ hg=>?_) h);obtain⟨e,rfl⟩:=hg;cases e;(try dsimp only);rw[if_neg (show ¬(64:Nat)<32 by omega)];refine kasC_bind (kasC_get ?_);rw[show(pendingOf (kas_st κ it (List.toArray (List.range 64)))).back?=none from rfl];(try dsimp only);refine kasC_bind (kasC_modify (kasC_pure ?_));show kasC _ _ _ (forIn (1::List.range' 2 62) _ _) _ _ _;refine kasC_cons ?_;(try dsimp only);rw[if_pos (show(0:Nat)+64≥64 by omega)];refine kasC_pure ?_;(try dsimp only);refine kasC_bind (kasC_range ?_);show kasC _ _ _ (forIn (0::1::List.range' 2 62) _ _) _ _ _;refine kasC_cons ?_;refine kasC_bind (kasC_get ?_);(try dsimp only);rw[if_pos (show(pendingOf (setPending (kas_st κ it (List.toArray (List.range 64))) ((pendingOf (kas_st κ it (List.toArray (List.range 64)))).push (0,64,0)))).size<=1 from Yd 1)];refine kasC_pure ?_;(try dsimp only);exact kasC_pure (hQ _ rfl rfl)
theorem XG{R:Array Nat->Prop}{a:Addr}{vs:List Value}{n:Nat}{P:PySem.Fin->Shared->Prop}(ho:s.heap.get? a=some (seqObj "list" vs.toArray n))(gn:vs.length<=64)
  (hk:2<=vs.length->∀h':Heap,(∀b o,b≠a->s.heap.get? b=some o->h'.get? b=some o)->∃κ:SortKind,(∀(Q:SortKind->Shared->Prop),Q κ {s with heap:=h'}->wpAny (model prog w) A (keyKind' vs.toArray) Q E {s with heap:=h'})/\
   ∀Q':SortSt->Shared->Prop,(∀(p:Array Nat) (aI:SortSt),p.size=vs.length->arrOf aI=p.map (kas_item (vs.toArray.zip vs.toArray))->failedOf aI=none->Good vs.length p->R p->Q' aI {s with heap:=h'})->wpAny (model prog w) A (sortRuns'.run (SortSt.mk' κ (vs.toArray.zip vs.toArray) #[] 7 none)) (λr s'=>Q' r.2 s') E {s with heap:=h'})
  (h:∀out:List Value,out.Perm vs->(2<=vs.length->∃p:Array Nat,Good vs.length p/\R p/\out=p.toList.map λi=>vs.getD i Value.none)->P (.done (.ret .none)) {s with heap:=sortedHeap s.heap a vs out.toArray}):
  wpAny (model prog w) A (Builtin.«list.sort» ⟨[.ref a],[]⟩) P E s:=by
 rw[list_sort_plain];have ha:a<s.heap.objs.size:=Yw ho;refine wpAny_bind (listItems_at ho rfl ?_);refine wpAny_bind (listUpdate_at ho rfl ?_);obtain⟨e1,Ai⟩:∃e1,(s.heap.update a (Obj.mapSeq λ_=>#[])).get? a=some (seqObj "list" #[] e1):=⟨_,get?_update_seq ho (λ_=>#[])⟩;refine wpAny_bind (seqEpoch_at Ai rfl ?_);refine wpAny_bind (wpAny_newTuple ?_);refine wpAny_bind (wpAny_newList ?_);refine wpAny_holding ?_;have Aj:(((s.heap.update a (Obj.mapSeq λ_=>#[])).push (seqObj "tuple" vs.toArray 0)).push (seqObj "list" #[] 0)).get? a=some (seqObj "list" #[] e1):=by
  rw[Jj _ _ _ (by rw[size_push',Heap.size_update];exact Yy (Wp ha)),Jj _ _ _ (by rw[Heap.size_update];exact Yy ha)];exact Ai
 have keep:∀b o,b≠a->s.heap.get? b=some o->(((s.heap.update a (Obj.mapSeq λ_=>#[])).push (seqObj "tuple" vs.toArray 0)).push (seqObj "list" #[] 0)).get? b=some o:=λb o nb e=>
  Yb _ (Yb _ (by rw[Heap.get?_update_ne _ _ _ _ nb];exact e))
 dsimp only;have hsz:vs.toArray.size=vs.length:=by simp
 by_cases h2:vs.toArray.size<2
 ·rw[if_pos h2,if_pos h2];refine wpAny_bind (wpAny_pure ?_);rw[StateT.run_pure];refine wpAny_bind (wpAny_pure ?_);dsimp only;refine wpAny_bind (seqEpoch_at Aj rfl ?_);refine wpAny_bind (listUpdate_at Aj rfl ?_ (hsz2:=by rw[Array.size_map];show(pairsOf vs).size<=_;rw[pairsOf_size,sizeLine_eq];omega));simp only[bne_self_eq_false,Bool.false_eq_true,if_false];have e:(arrOf (SortSt.mk' general' (vs.toArray.zip vs.toArray) #[] 7 none)).map (·.2)=vs.toArray:=by
   grind
  have:=h vs (List.Perm.refl _) (λz=>by omega);rw[←e] at this;exact wpAny_pure this
 ·rw[if_neg h2,if_neg h2];have kQ:2<=vs.length:=by omega
  obtain⟨κ,kk,cmp⟩:=hk kQ _ keep;refine wpAny_bind (kk _ ?_);refine wpAny_bind (wpAny_mono (cmp (λaI s'=>s'={s with heap:=((s.heap.update a (Obj.mapSeq λ_=>#[])).push (seqObj "tuple" vs.toArray 0)).push (seqObj "list" #[] 0)}/\∃p:Array Nat,p.size=vs.length/\arrOf aI=p.map (kas_item (vs.toArray.zip vs.toArray))/\failedOf aI=none/\R p/\Good vs.length p) λp aI a1 a2 a3 a4 a5=>⟨rfl,p,a1,a2,a3,a5,a4⟩) ?_ λ_ _ e=>e);rintro⟨⟨⟩,aI⟩ s' ⟨rfl,p,hp,har,hf,ep,g⟩;dsimp only;have S7:=kat_snds rfl har;have perm:(p.toList.map λi=>vs.getD i Value.none).Perm vs:=by
   have e1:p.toList.Perm (List.range vs.length):=by
    have:=Jm.mp g.2;simpa using this
   have e2:=e1.map λi=>vs.getD i Value.none;rw[range_getD] at e2;exact e2
  refine wpAny_bind (seqEpoch_at Aj rfl ?_);refine wpAny_bind (listUpdate_at Aj rfl ?_ (hsz2:=by rw[S7,Yr,perm.length_eq,sizeLine_eq];omega));rw[hf];simp only[bne_self_eq_false,Bool.false_eq_true,if_false];have:=h _ perm (λ_=>⟨p,g,ep,rfl⟩);rw[←S7] at this;exact wpAny_pure this
theorem ZbV(h:ps.Pairwise iM):Sd (jN ps) (List.toArray (List.range ps.length)) ps.length:=λi j jM hj=>by
 have e:∀k,k<ps.length->(List.toArray (List.range ps.length)).getD k 0=k:=λk hk=>by
  simp_all
 rw[e i (by omega),e j hj];refine ltB_iff.mpr ?_;rw[Yk,Yk,Yc (by omega),Yc hj];exact Ww.mp h i j (by omega) hj jM
theorem ZfE{κ:SortKind}{ai:List Value}{ps:List (Int×Int)}{Q':SortSt->Shared->Prop}(JJ:ai.length=64)(lp:ai.length=ps.length)(L:jL ai.length (jN ps))(pw:ps.Pairwise iM)(ask:∀i j (C:Bool->Shared->Prop),i<ai.length->j<ai.length->C (jN ps i j) s->kas_ask prog w A κ ai i j C s)
  (JK:∀(p:Array Nat) (aI:SortSt),p.size=ai.length->arrOf aI=p.map (kas_item (ai.toArray.zip ai.toArray))->failedOf aI=none->Good ai.length p->Sd (jN ps) p ai.length->Q' aI s):wpAny (model prog w) A (sortRuns'.run (SortSt.mk' κ (ai.toArray.zip ai.toArray) #[] 7 none)) (λr s'=>Q' r.2 s') E s:=by
 have gR:Good ai.length (List.toArray (List.range ai.length)):=⟨by omega,Array.Perm.refl _⟩;have Ul:Sd (jN ps) (List.toArray (List.range ai.length)) ai.length:=by rw[lp];exact ZbV pw
 rw[kat_ask_eq (vs:=ai) rfl] at ask;have sz0:(ai.toArray.zip ai.toArray).size=ai.length:=by simp
 have JM:SortSt.mk' κ (ai.toArray.zip ai.toArray) #[] 7 none=kas_st κ (ai.toArray.zip ai.toArray) (List.toArray (List.range ai.length)):=by
  unfold kas_st;rw[←sz0,kas_range]
 rw[JM];have wp:=dX.run (G:=λr s'=>r=(ai.length,List.toArray (List.range ai.length))/\s'=s) ask (MC gR) ⟨(Za5 L gR Ul),rfl⟩;have Um:=λaI a b=>JK _ aI (by simp) a b gR Ul;rw[JJ] at wp Um⊢;exact ZeJ (Q:=λ_ aI s'=>Q' aI s') Um wp
theorem X7(ho:s.heap.get? l=some o)(hc:o.cls=.type "list")(hd:o.data=.seq ai.toArray n)(tv:rh s.heap ai ps)(nd:ps.Nodup)(gn:ai.length<64\/(ai.length=64/\ps.Pairwise iM))(hsz:ai.toArray.size<=sizeLine)
  (h:∀(h1 h':Heap) (out:List Value) (e:Nat),(∀b o,s.heap.get? b=some o->h1.get? b=some o)->(∀b o,h1.get? b=some o->h'.get? b=some o)->h'.get? h1.objs.size=some (seqObj "list" out.toArray e)->out.Perm ai->(2<=ai.length->∃p:Array Nat,Good ai.length p/\Sd (jN ps) p ai.length/\out=p.toList.map λi=>ai.getD i Value.none)->Q (.ref h1.objs.size) {s with heap:=h'}):
  wpAny (model prog w) A (call (.builtin "sorted") [.ref l]) Q E s:=by
 refine Calls.call_function_entry kind_sorted plain_sorted entry_sorted (args_sorted1 _) ?_;unfold Builtin.«sorted»;refine wpAny_bind (m:=checkCount "sorted" 1 1 _) (wpAny_pure ?_);refine wpAny_bind (wpAny_collect_seq l (.inl rfl) ho hc hd (λh1 kp=>?_) hsz);refine wpAny_bind (wpAny_newList ?_);have e1:ai.toArray.toList=ai:=by simp
 rw[e1];have ow:(h1.push (seqObj "list" ai.toArray 0)).get? h1.objs.size=some (seqObj "list" ai.toArray 0):=Ys _ rfl;refine wpAny_bind (wpAny_holding (wpAny_call_entry slot_list_sort ⟨_,ow,rfl⟩ entry_list_sort (XG (R:=λp=>Sd (jN ps) p ai.length) ow (by omega) (λh2 h' kp'=>?_) λout pm eo=>⟨_,rfl,?_⟩) (args_list_sort _)))
 ·have JN:rh h' ai ps:=L2.Paired.bu tv λv p ⟨a,o,n,t,u,e,q1,q2,q3⟩=>by
   have Uo:=kp _ _ q1;exact⟨a,o,n,t,u,e,kp' _ _ (Yy (Yw Uo)) (Yb _ Uo),q2,q3⟩
  obtain⟨fs,k1,k2,k3⟩:=JN.kJ.Uj;have lp:=cR JN;have ask:∀(B:Around) i j (C:Bool->Shared->Prop),i<ai.length->j<ai.length->C (jN ps i j) {s with heap:=h'}->kas_ask prog w B (tuples' true) ai i j C {s with heap:=h'}:=λB i j C hi hj hC=>ZbU (s:={s with heap:=h'}) JN hi hj hC;have L:=ZeI nd;rw[←lp] at L;refine⟨tuples' true,λQ hQ=>?_,λQ' JK=>?_⟩
  rotate_left
  ·rcases gn with lt|⟨JJ,pw⟩
   ·obtain⟨g,sd⟩:=ZbT L (by omega);refine kat_run (ks:=ai) (vs:=ai) (G:=λp s'=>s'={s with heap:=h'}/\p=Run (jN ps) (kas_sort ai.length)) rfl h2 lt (λp aI s' a1 a2 a3 a4=>?_) (dX.run (ask _) (Za2 (by omega)) ⟨rfl,rfl⟩)
    grind
   ·exact ZfE (s:={s with heap:=h'}) JJ lp L pw (ask _) JK
  refine kat_kind (s:={s with heap:=h'}) (T:=.type "int") k1 (by omega) (λv hv=>?_) (by decide) hQ;obtain⟨x,t,rfl⟩:=k3 v hv;exact .now
 ·obtain⟨e,he⟩:=sortedHeap_at (out:=out.toArray) ow;exact wpAny_pure ⟨_,rfl,h h1 _ out e kp (λb ob hb=>by
   have bN:=Yw hb;rw[sortedHeap_old (Yy bN) (by rw[size_push'];exact Wp bN),Jj _ _ _ (Yy bN)];exact hb) he pm eo⟩
end
def ZbW(K:PySem.W.Frag):List V->Hp->VK->Prop:=λxs H Q=>∃(p:Addr) (as:List Addr) (bU:List (Int×Int)),xs=[.ref p]/\ak K H p (as.map V.ref)/\Paired (λa (p:Int×Int)=>H a=some (.tup [.int p.1,.int p.2])) as bU/\bU.Nodup/\(as.length<64\/(as.length=64/\bU.Pairwise iM))/\
 ∀(gq:List Addr) (lL:List (Int×Int)),Paired (λa (p:Int×Int)=>H a=some (.tup [.int p.1,.int p.2])) gq lL->lL.Perm bU->lL.Pairwise iM->Nw H (.lst (gq.map V.ref)) Q
theorem Mb:∀{zs:List γ},(∀z∈zs,F (f z) (g z))->Paired F (zs.map f) (zs.map g)
 |[],_=>.nil
 |z::zs,h=>.cons (h z Yh) (Mb λz hz=>h z (Yx _ hz))
theorem ZbX{X:Cx}{K:PySem.W.Frag}(hK:X.K=K):c7 X (.builtin "sorted") (ZbW K):=by
 subst hK;intro pins s σ H xs us Q I r h;obtain⟨p,as,bU,rfl,hq,ht,nd,gn,q⟩:=h;obtain⟨u,rfl,rx⟩:=vals1 r;cases rx;obtain⟨ai,r',pl,hz⟩:=I.list hq;obtain⟨o,n,ho,hc,_,hd⟩:=pl;have ei:=Na r';subst ei;rw[Ya] at hz;have lp:=cR ht;have tq:rh s.heap (as.map Value.ref) bU:=by
  have aux:∀{as:List Addr} {bU:List (Int×Int)},Paired (λa (p:Int×Int)=>H a=some (.tup [.int p.1,.int p.2])) as bU->rh s.heap (as.map Value.ref) bU:=λ{as bU} h=>by
   induction h with
   |nil=>exact .nil
   |cons h1 _ ih=>
    refine .cons ?_ ih;obtain⟨eN,r2,⟨o2,g1,g2,n2,g3⟩,_⟩:=I.tuple (aA.of h1);obtain⟨u1,u2,rfl,⟨t1,rfl⟩,⟨t2,rfl⟩⟩:=vals2 r2
    grind
  exact aux ht
 refine X7 (ps:=bU) ho hc hd tq nd (by rw[Ya];exact gn) (by rw[Yr,Ya];exact hz) λh1 h' out e kp w8 he pm eo=>?_;have I1:Inv X pins σ H {s with heap:=h1}:=I.kept (t':=s.toks) kp;obtain⟨gq,lL,Zgp,pa,pr,pw⟩:∃(gq:List Addr) (lL:List (Int×Int)),out=gq.map Value.ref/\Paired (λa (p:Int×Int)=>H a=some (.tup [.int p.1,.int p.2])) gq lL/\lL.Perm bU/\lL.Pairwise iM:=by
  by_cases z:2<=(as.map Value.ref).length
  ·have eo:=eo z;rw[Ya] at eo z;obtain⟨P,g,sd,eo⟩:=eo;rw[lp] at g sd;have e1:P.toList.Perm (List.range bU.length):=by
    have:=Jm.mp g.2;simpa using this
   have fE:∀i∈P.toList,i<bU.length:=λi hi=>Wq.mp (e1.subset hi);refine⟨P.toList.map λi=>as.getD i 0,P.toList.map λi=>bU.getD i (0,0),?_,Mb λi hi=>DD ht (by rw[lp];exact fE i hi) 0 (0,0),?_,?_⟩
   ·rw[eo,Wa];refine W4 λi hi=>?_;have:=fE i hi;show(as.map Value.ref).getD i Value.none=Value.ref (as.getD i 0);rw[Yk,Yf,Yc (by omega),Yk,Yc (by omega)];rfl
   ·have:=e1.map λi=>bU.getD i (0,0);rw[range_getD] at this;exact this
   ·rw[Wu,Ww];intro i j hi hj jM;have sz:=g.size;have gi:P.toList[i]=P.getD i 0:=by
     rw[Wo] at hi;simp_all
    have gj:P.toList[j]=P.getD j 0:=by
     rw[Wo] at hj;simp_all
    rw[gi,gj];rw[Wo] at hj;exact ltB_iff.mp (sd i j jM (by omega))
  ·rw[Ya] at z;have eq:out=as.map Value.ref:=by
    match as,out,z,pm with
    |[],out,_,pm=>exact List.Perm.eq_nil pm
    |[a],out,_,pm=>exact List.Perm.eq_singleton pm
    |_::_::_,_,z,_=>exact absurd (by simp) z
   refine⟨as,bU,eq,ht,List.Perm.refl _,?_⟩;match bU,lp with
   |[],_=>exact .nil
   |[a],_=>exact List.pairwise_singleton _ _
   |_::_::_,lp=>exact absurd lp (by simp;omega)
 refine⟨.ref h1.objs.size,_,I1.laid (t':=s.toks) (o:=.lst (gq.map V.ref)) w8 (Yd _) ⟨?_,out,e,by rw[Zgp];exact Nb gq,by simpa[seqObj] using he⟩,rfl,(q gq lL pa pr pw).at _ (I1.ay.fresh (Yd _))⟩;rw[Ya,cR pa,pr.length_eq];exact Jr (jo (by omega))
end L2
namespace L2
open PySem PySem.Spec PyProof.Rows
theorem mD{X:Cx}{K:PySem.W.Frag}{ex:Expr}{T:String}{r:V->List V->Hp->VK->Prop}{to:TE}{t:TA}(h:X.K=K)(p:PE X ex (wR X.K T r to t)):PE X ex (wR K T r to t):=h▸p
theorem Pg{X:Cx}{K:PySem.W.Frag}{ex:Expr}{T:String}{r:V->List V->Hp->VK->Prop}{to:TE}(h:X.K=K)(p:PE X ex (Ib X.K T r to)):PE X ex (Ib K T r to):=h▸p
theorem Nc{X:Cx}{K:PySem.W.Frag}{a:Expr}{ta:TE}(h:X.K=K)(p:PT X a (λσ H Q=>ta σ H λx H'=>∃k,zH X.K x H' k/\Q k H')):PT X a (λσ H Q=>ta σ H λx H'=>∃k,zH K x H' k/\Q k H'):=h▸p
theorem F5{X:Cx}{K:PySem.W.Frag}{f:Value->Value->Sem Value}{b:Bool}(h:X.K=K)(p:cE X f (zM X.K b)):cE X f (zM K b):=h▸p
def n_(H0:Hp)(d:Addr):Prop:=(∀xs,H0 d≠some (.tup xs))/\(∀o u,H0 d≠some (.cC o u))/\∀ps,H0 d≠some (.pV ps)
section
variable {X:Cx}{pins:List (Addr×Obj)}{σ:St}{H:Hp}{s:Shared}{d:Addr}{kvs:List (Key×V)}
theorem Inv.R8(I:Inv X pins σ H s)(e:H d=some (.dK kvs)):n_ X.kK d:=
 ⟨(λxs z=>by have:=I.base.kJ d xs z;rw[e] at this;cases this),(λo u z=>by have:=I.base.lI d o u z;rw[e] at this;cases this),(λps z=>by obtain⟨m,h⟩:=I.base.mN d ps z;rw[e] at h;cases h)⟩
theorem Inv.swap(I:Inv X pins σ H s)(e:H d=some o)(nf:n_ X.kK d)(no:∀a,o≠.own a)(nt:∀xs,o≠.tup xs)(ok:cT X.prog X.w H s.heap d o'):Inv X pins σ (upd H d o') s:=by
 have jz:∀{a:Addr} {o1:HO},cT X.prog X.w H s.heap a o1->cT X.prog X.w (upd H d o') s.heap a o1:=λ{a o1} x=>x.jz (λ_ _ _ z=>z)
  (λb z=>by rw[bg (λq=>no a (Yo (e.symm.trans (by rw[←q];exact z))))];exact z)
  (λb xs z=>by rw[bg (λq=>nt xs (Yo (e.symm.trans (by rw[←q];exact z))))];exact z)
 have ne:∀{b:Addr},H b=none->b≠d:=λ{b} hb z=>by rw[z,e] at hb;cases hb
 refine⟨I.ok,I.os,I.bare,⟨I.base.keep,I.base.slot,λb ob q n hx=>?_,I.base.there,λb xs q=>?_,λb ob u q=>?_,λb ps q=>?_⟩,I.loc,I.cell,?_,λx c ec=>?_,λp hp=>?_,λa o1 e1=>?_,I.len⟩
 ·have h:=I.base.free b ob q n hx;rw[bg (ne h)];exact h
 ·rw[bg (λz=>nf.1 xs (by rw[←z];exact q))];exact I.base.kJ b xs q
 ·rw[bg (λz=>nf.2.1 ob u (by rw[←z];exact q))];exact I.base.lI b ob u q
 ·rw[bg (λz=>nf.2.2 ps (by rw[←z];exact q))];exact I.base.mN b ps q
 ·rw[bg (ne I.free)];exact I.free
 ·rw[bg (ne (I.kG x c ec))];exact I.kG x c ec
 ·obtain⟨p1,p2,p3⟩:=I.pin p hp;exact⟨p1,by rw[bg (ne p2)];exact p2,p3⟩
 ·by_cases z:a=d
  ·subst z;rw[aW] at e1
   grind
  ·rw[bg z] at e1;exact jz (I.ay a o1 e1)
end
theorem ZfF(h:(dz P w).is k u=true):RelV (kV k) u:=by
 rcases kX h with⟨i,t,rfl,rfl⟩|⟨x,t,rfl,rfl⟩;·exact⟨t,rfl⟩
 ·exact⟨t,rfl⟩
theorem QT:∀{kvs:List (Key×V)} {vs:List (Key×Value)} {i:Nat} {k:Key} {y:V},KV kvs vs->kvs[i]?=some (k,y)->∃v,vs[i]?=some (k,v)/\RelV y v:=λ{kvs vs i k y} r h=>by
 obtain⟨q,e,h1,h2⟩:=fk (F:=λ(p:Key×V) (q:Key×Value)=>p.1=q.1/\RelV p.2 q.2) r h
 grind
theorem zk(I:Inv X pins σ H s)(e:H d=some (.cC od (.dK kvs)))(jg:od.data=.dict es ep):∃vs,KV kvs vs/\s.heap.DictAt (dz X.prog X.w) d vs ep:=by
 obtain⟨g,_,_,vs,rel,o,zZ,z4,h1,h2,h3,h4⟩:=(show cT X.prog X.w H s.heap d (.cC od (.dK kvs)) from I.ay d _ e);rw[g] at h1;cases h1;rw[jg] at h3;cases h3;exact⟨vs,rel,od,es,g,h2,jg,h4⟩
theorem Inv.zN(I:Inv X pins σ H s)(nf:n_ X.kK d)(e:H d=some (.cC od (.dK kvs))):Inv X pins σ (upd H d (.dK kvs)) s:=
 I.swap e nf (λa z=>by cases z) (λxs z=>by cases z) (show cT X.prog X.w H s.heap d (.cC od (.dK kvs)) from I.ay d _ e).2
def JO(d:Addr)(od:Obj)(kvs:List (Key×V)):It:=⟨λi H=>H d=some (.cC od (.dK kvs))/\i<kvs.length,λi H v H'=>H'=H/\∃k y,kvs[i]?=some (k,y)/\v=kV k,λi H=>H d=some (.cC od (.dK kvs))/\kvs.length<=i⟩
theorem Za6{P:Program}{w:World}{K:PySem.W.Frag}{tg:Expr}(it d:Addr)(od:Obj)(es:Array DictEntry)(ep:Nat)(jg:od.data=.dict es ep)(kvs:List (Key×V)):Turn P w K tg (JO d od kvs) [it] it (λi h=>h.IsKeyIter it d i kvs.length ep) where
 mem:=by simp
 obj:=λi h st b hb=>by
  have e:b=it:=by simpa using hb
  obtain⟨o,e,c,dd⟩:=st
  grind
 keep:=λi h h' st k=>let⟨o,e,r⟩:=st;⟨o,k it (by simp) o e,r⟩
 item:=by
  intro X hP hw hK hc i pins s σ H E I hf st hg;subst hP hw hK;obtain⟨f0,f1,f2,f3,f4,f5⟩:=hf it (by simp);obtain⟨hz,bN⟩:=hg;obtain⟨vs,rel,da⟩:=zk I hz jg;have ll:=rel.length;obtain⟨k,y,hk⟩:∃k y,kvs[i]?=some (k,y):=⟨kvs[i].1,kvs[i].2,Yc bN⟩;obtain⟨v,hv,ry⟩:=QT rel hk;rw[ll] at st;refine wpAny_pyNext_dict_item st da hv λkey h' mP aI sb=>?_;obtain⟨o,e,c,dd⟩:=id aI;exact⟨_,rfl,q5 e c dd (by decide) ⟨kV k,H,(I.turned (λb o hb e=>sb.extBut b o hb e) f0 f1 f3 f4 f5),ZfF mP,⟨rfl,k,y,hk,rfl⟩,by rw[ll];exact aI,λb hb=>(hf b hb).1⟩⟩
 done:=by
  intro X hP hw hK hc i pins s σ H E I hf st hg;subst hP hw hK;obtain⟨f0,f1,f2,f3,f4,f5⟩:=hf it (by simp);obtain⟨hz,hle⟩:=hg;obtain⟨vs,rel,da⟩:=zk I hz jg;have ll:=rel.length;rw[ll] at st;exact wpAny_pyNext_dict_end (I.ok.hd hc) st da (Y4 (by omega)) λh' eb=>⟨rfl,I.turned (λb o hb e=>eb b o hb e) f0 f1 f3 f4 f5⟩
 self:=λA i s Q E st h=>wpAny_pyIter_keyiter st h
def G1(H0:Hp)(td:TE):TI:=λσ H R=>td σ H λx H1=>∃d kvs,x=.ref d/\H1 d=some (.dK kvs)/\∀od,n_ H0 d->R (JO d od kvs) (upd H1 d (.cC od (.dK kvs)))
theorem Zc3{X:Cx}{H0:Hp}{tg l:Expr}{td:TE}(h0:X.kK=H0)(hl:PE X l td):PI X tg l (G1 H0 td):=by
 subst h0;intro pins s σ H R I h;refine aC (hl pins s σ H _ I h) λv s1 zq=>?_;obtain⟨x,H1,I1,r1,d,kvs,ex,hd,q⟩:=zq;subst ex;obtain rfl:v=Value.ref d:=r1;obtain⟨zz,xk,vs,rel,dd⟩:=mI I1.ay hd;obtain⟨od,es,ep,rZ,hx,jg,wa⟩:=id dd;have nf:=I1.R8 hd;refine wpAny_pyIter_dict xk ⟨od,es,rZ,hx,jg,wa⟩ ?_;have I2:Inv X pins σ H1 {s1 with heap:=s1.heap.push {cls:=.type "dict_keyiterator",data:=.fields #[.ref d,.int 0 0,.int vs.length 0,.int ep 0]},toks:=s1.toks}:=I1.kept λb o e=>Yb _ e;refine⟨s1.heap.objs.size,[s1.heap.objs.size],_,JO d od kvs,_,rfl,(I2.swap (o':=.cC od (.dK kvs)) hd nf (λa z=>by cases z) (λxs z=>by cases z) ⟨Yb _ rZ,(I2.ay d _ hd)⟩),Za6 _ d od es ep jg kvs,⟨_,Ys _ rfl,rfl,by rw[rel.length];rfl⟩,λb hb=>?_,q od nf⟩;have e:b=s1.heap.objs.size:=by simpa using hb
 subst e;exact I1.pP (Yd _) (by rw[bg (J6 (Yw rZ))];exact I1.ay.fresh (Yd _))
def R9(H0:Hp)(td:TE)(g:TG)(tb:TS):TS:=λD σ H=>HP (G1 H0 td) g tb ⟨λaO H'=>∃d od kvs,n_ H0 d/\H' d=some (.cC od (.dK kvs))/\D.nx aO (upd H' d (.dK kvs)),λv H'=>∃d od kvs,n_ H0 d/\H' d=some (.cC od (.dK kvs))/\D.rt v (upd H' d (.dK kvs)),λ_ _=>False,λ_ _=>False⟩ σ H
theorem Z3(h0:X.kK=H0)(hp:PassesOwn (model X.prog X.w) X.A X.env X.xe)(hc:X.calm=true)(hi:PI X tg l (G1 H0 td))(hg:PG X tg g)(hb:gX X body tb)(hs:∀x,foldedSetIterable l X.env x=pure x:=by intro _;rfl):PS X (.For tg l body [] pos) (R9 H0 td g tb):=by
 subst h0;intro pins s σ H D I h;refine aC (fW hp hc hi hg hb hs pins s σ H _ I h) λf s1 q=>?_;cases f with
 |next=>obtain⟨aO,H',I',d,od,kvs,nf,e,q⟩:=q;exact⟨aO,_,I'.zN nf e,q⟩
 |brk=>obtain⟨_,_,_,q⟩:=q;exact False.elim q
 |cont=>obtain⟨_,_,_,q⟩:=q;exact False.elim q
 |ret u=>obtain⟨v,aO,H',I',r,d,od,kvs,nf,e,q⟩:=q;exact⟨v,aO,_,I'.zN nf e,r,q⟩
theorem ZbY(fO:∀R:VK,R (.ref d) H1->td σ H R)(hd:H1 d=some (.dK kvs))(Pv:Nat->St->Hp->Prop)
  (p0:∀od,Pv 0 σ (upd H1 d (.cC od (.dK kvs))))
  (hs:∀od i k y aO H' (N:St->Hp->Prop) (rt:VK) (bk:St->Hp->Prop),kvs[i]?=some (k,y)->Pv i aO H'->H' d=some (.cC od (.dK kvs))->(∀cM H3,Pv (i+1) cM H3->H3 d=some (.cC od (.dK kvs))->N cM H3)->g (kV k) aO H' λdt H2=>tb ⟨N,rt,bk,N⟩ dt H2)
  (Il:∀od aO H',Pv kvs.length aO H'->H' d=some (.cC od (.dK kvs))->D.nx aO (upd H' d (.dK kvs))):R9 H0 td g tb D σ H:=by
 refine fO _ ⟨d,kvs,rfl,hd,λod nf=>⟨λi m aO H'=>m=kvs.length-i/\i<=kvs.length/\Pv i aO H'/\H' d=some (.cC od (.dK kvs)),⟨kvs.length,by omega,Yv _,p0 od,aW⟩,?_⟩⟩;rintro i m aO H' ⟨rfl,hi,p,fz⟩;by_cases bN:i<kvs.length
 ·refine .inr ⟨⟨fz,bN⟩,λcM H3=>Pv (i+1) cM H3/\H3 d=some (.cC od (.dK kvs)),λcM H3 ⟨a,c⟩=>⟨kvs.length-(i+1),by omega,rfl,bN,a,c⟩,?_⟩;rintro x H4 ⟨rfl,k,y,hk,rfl⟩;exact hs od i k y aO H4 (λcM H3=>Pv (i+1) cM H3/\H3 d=some (.cC od (.dK kvs))) _ _ hk p fz λcM H3 p3 f3=>⟨p3,f3⟩
 ·have e:i=kvs.length:=by omega
  subst e;exact .inl ⟨⟨fz,Yd _⟩,d,od,kvs,nf,fz,Il od _ _ p fz⟩
section
variable {P:Program}{w:World}{A:Around}{E:Value->Shared->Prop}{s:Shared}{it d:Addr}{i n ep:Nat}{ok ov:Value}{o:Obj}{es:Array DictEntry}{e:DictEntry}
end
section
variable {P:Program}{w:World}{A:Around}{E:Value->Shared->Prop}{s:Shared}{d o:Addr}{knd:HeapKind P w (List Key)}{xs ms:List (List Key×Addr×Value)}
end
section
variable {X:Cx}
theorem Zc4{H:Hp}{kvs:List (List Key×V)}{xs:List (List Key×Addr×Value)}(r:KT H kvs xs):xs.map (·.1)=kvs.map (·.1):=by
 induction r with
 |nil=>rfl
 |cons f _ ih=>grind
end
section
variable {X:Cx}{pins:List (Addr×Obj)}{σ:St}{H:Hp}{s:Shared}{d:Addr}{kvs:List (List Key×V)}
end
theorem Zc5:bootBuiltins "dict"=some (.type "dict"):=by decide+kernel
def JP(d:Addr)(od:Obj)(kvs:List (Key×V)):It:=⟨λi H=>H d=some (.cC od (.dK kvs))/\i<kvs.length,λi H v H'=>H'=H/\∃k,kvs[i]?=some (k,v),λi H=>H d=some (.cC od (.dK kvs))/\kvs.length<=i⟩
theorem Za7{P:Program}{w:World}{K:PySem.W.Frag}{tg:Expr}(it d:Addr)(od:Obj)(es:Array DictEntry)(ep:Nat)(jg:od.data=.dict es ep)(kvs:List (Key×V)):Turn P w K tg (JP d od kvs) [it] it (λi h=>h.IsValIter it d i kvs.length ep) where
 mem:=by simp
 obj:=λi h st b hb=>by
  have e:b=it:=by simpa using hb
  obtain⟨o,e,c,dd⟩:=st
  grind
 keep:=λi h h' st k=>let⟨o,e,r⟩:=st;⟨o,k it (by simp) o e,r⟩
 item:=by
  intro X hP hw hK hc i pins s σ H E I hf st hg;subst hP hw hK;obtain⟨f0,f1,f2,f3,f4,f5⟩:=hf it (by simp);obtain⟨hz,bN⟩:=hg;obtain⟨vs,rel,da⟩:=zk I hz jg;have ll:=rel.length;obtain⟨k,y,hk⟩:∃k y,kvs[i]?=some (k,y):=⟨kvs[i].1,kvs[i].2,Yc bN⟩;obtain⟨v,hv,ry⟩:=QT rel hk;rw[ll] at st;refine wpAny_pyNext_values_item st da hv λh' aI sb=>?_;obtain⟨o,e,c,dd⟩:=id aI;exact⟨_,rfl,q5 e c dd (by decide) ⟨y,H,(I.turned (λb o hb e=>sb.extBut b o hb e) f0 f1 f3 f4 f5),ry,⟨rfl,k,hk⟩,by rw[ll];exact aI,λb hb=>(hf b hb).1⟩⟩
 done:=by
  intro X hP hw hK hc i pins s σ H E I hf st hg;subst hP hw hK;obtain⟨f0,f1,f2,f3,f4,f5⟩:=hf it (by simp);obtain⟨hz,hle⟩:=hg;obtain⟨vs,rel,da⟩:=zk I hz jg;have ll:=rel.length;rw[ll] at st;exact wpAny_pyNext_values_end (I.ok.hd hc) st da (Y4 (by omega)) λh' eb=>⟨rfl,I.turned (λb o hb e=>eb b o hb e) f0 f1 f3 f4 f5⟩
 self:=λA i s Q E st h=>wpAny_pyIter_valiter st h
def G3(H0:Hp)(td:TE):TI:=λσ H R=>td σ H λx H1=>∃d kvs,x=.ref d/\H1 d=some (.dK kvs)/\∀od,n_ H0 d->R (JP d od kvs) (upd H1 d (.cC od (.dK kvs)))
theorem Zc6{X:Cx}{H0:Hp}{tg:Expr}{apos cL:Pos}{o:Expr}{td:TE}(h0:X.kK=H0)(ho:PE X o td)(q_:attributeBase o "values" X.env (eval o X.env)=eval o X.env:=by rfl)(rf:(apos.endLine==cL.line)=true:=by rfl):PI X tg (.Call (.Attribute o "values" apos) [] [] cL) (G3 H0 td):=by
 subst h0;intro pins s σ H R I h;refine wpAny_Call_method0_late q_ rf (aC (ho pins s σ H _ I h) λv s1 zq=>?_);obtain⟨x,H1,I1,r1,d,kvs,ex,hd,q⟩:=zq;subst ex;obtain rfl:v=Value.ref d:=r1;obtain⟨t1,t2,xk⟩:=vU I1 (.inl ⟨kvs,.inl hd⟩);refine⟨"dict","dict.values",plainAttrs_dict,PySem.F.slot_dict_values,PySem.F.type_dict_values,t1,t2,Calls.callWith_builtin rfl (PySem.evalArgs_none ?_)⟩;obtain⟨zz,_,vs,rel,dd⟩:=mI I1.ay hd;refine call_meetsIn PySem.F.slot_dict_values dd.typeIs PySem.F.entry_dict_values (PySem.F.args_dict_values_1 _) (meets_dict_values (dz X.prog X.w) d xk) ⟨⟨vs,dd⟩,?_⟩;obtain⟨od,es,ep,rZ,hx,jg,wa⟩:=id dd;have nf:=I1.R8 hd;have up:∀b o,s1.heap.get? b=some o->(s1.heap.push {cls:=.type "dict_values",data:=.fields #[.ref d]}).get? b=some o:=λb o e=>Yb _ e;refine wpAny_pyIter_values (knd:=dz X.prog X.w) (d:=d) (kvs:=vs) (ep:=ep) ⟨_,Ys _ rfl,rfl,rfl⟩ ⟨od,es,up _ _ rZ,hx,jg,wa⟩ ?_;generalize hG:s1.heap.push {cls:=.type "dict_values",data:=.fields #[.ref d]}=G at up⊢;have I2:Inv X pins σ H1 {s1 with heap:=G.push {cls:=.type "dict_valueiterator",data:=.fields #[.ref d,.int 0 0,.int vs.length 0,.int ep 0]},toks:=s1.toks}:=I1.kept (t':=s1.toks) λb o e=>Yb _ (up b o e);have hdk:cT X.prog X.w H1 _ d (.dK kvs):=I2.ay d _ hd;have I3:=I2.swap (o':=.cC od (.dK kvs)) hd nf (λa z=>by cases z) (λxs z=>by cases z) ⟨Yb _ (up _ _ rZ),hdk⟩;have JQ:s1.heap.objs.size<=G.objs.size:=by rw[←hG,Je];omega
 refine⟨G.objs.size,[G.objs.size],_,JP d od kvs,_,rfl,I3,Za7 _ d od es ep jg kvs,⟨_,Ys _ rfl,rfl,by rw[rel.length];rfl⟩,λb hb=>?_,q od nf⟩;have e:b=G.objs.size:=by simpa using hb
 subst e;have dlt:d<s1.heap.objs.size:=Yw rZ;exact I1.pP JQ (by rw[bg (J6 (Y1 dlt JQ))];exact I1.ay.fresh JQ)
def R_(H0:Hp)(td:TE)(g:TG)(tb:TS):TS:=λD σ H=>HP (G3 H0 td) g tb ⟨λaO H'=>∃d od kvs,n_ H0 d/\H' d=some (.cC od (.dK kvs))/\D.nx aO (upd H' d (.dK kvs)),λv H'=>∃d od kvs,n_ H0 d/\H' d=some (.cC od (.dK kvs))/\D.rt v (upd H' d (.dK kvs)),λ_ _=>False,λ_ _=>False⟩ σ H
theorem Z4(h0:X.kK=H0)(hp:PassesOwn (model X.prog X.w) X.A X.env X.xe)(hc:X.calm=true)(hi:PI X tg (.Call (.Attribute o "values" apos) [] [] cL) (G3 H0 td))(hg:PG X tg g)(hb:gX X body tb):
  PS X (.For tg (.Call (.Attribute o "values" apos) [] [] cL) body [] pos) (R_ H0 td g tb):=by
 subst h0;intro pins s σ H D I h;refine aC (fW hp hc hi hg hb (λ_=>rfl) pins s σ H _ I h) λf s1 q=>?_;cases f with
 |next=>obtain⟨aO,H',I',d,od,kvs,nf,e,q⟩:=q;exact⟨aO,_,I'.zN nf e,q⟩
 |brk=>obtain⟨_,_,_,q⟩:=q;exact False.elim q
 |cont=>obtain⟨_,_,_,q⟩:=q;exact False.elim q
 |ret u=>obtain⟨v,aO,H',I',r,d,od,kvs,nf,e,q⟩:=q;exact⟨v,aO,_,I'.zN nf e,r,q⟩
theorem ZbZ(fO:∀R:VK,R (.ref d) H1->td σ H R)(hd:H1 d=some (.dK kvs))(Pv:Nat->St->Hp->Prop)
  (p0:∀od,Pv 0 σ (upd H1 d (.cC od (.dK kvs))))
  (hs:∀od i k y aO H' (N:St->Hp->Prop) (rt:VK) (bk:St->Hp->Prop),kvs[i]?=some (k,y)->Pv i aO H'->H' d=some (.cC od (.dK kvs))->(∀cM H3,Pv (i+1) cM H3->H3 d=some (.cC od (.dK kvs))->N cM H3)->g y aO H' λdt H2=>tb ⟨N,rt,bk,N⟩ dt H2)
  (Il:∀od aO H',Pv kvs.length aO H'->H' d=some (.cC od (.dK kvs))->D.nx aO (upd H' d (.dK kvs))):R_ H0 td g tb D σ H:=by
 refine fO _ ⟨d,kvs,rfl,hd,λod nf=>⟨λi m aO H'=>m=kvs.length-i/\i<=kvs.length/\Pv i aO H'/\H' d=some (.cC od (.dK kvs)),⟨kvs.length,by omega,Yv _,p0 od,aW⟩,?_⟩⟩;rintro i m aO H' ⟨rfl,hi,p,fz⟩;by_cases bN:i<kvs.length
 ·refine .inr ⟨⟨fz,bN⟩,λcM H3=>Pv (i+1) cM H3/\H3 d=some (.cC od (.dK kvs)),λcM H3 ⟨a,c⟩=>⟨kvs.length-(i+1),by omega,rfl,bN,a,c⟩,?_⟩;rintro x H4 ⟨rfl,k,hk⟩;exact hs od i k x aO H4 (λcM H3=>Pv (i+1) cM H3/\H3 d=some (.cC od (.dK kvs))) _ _ hk p fz λcM H3 p3 f3=>⟨p3,f3⟩
 ·have e:i=kvs.length:=by omega
  subst e;exact .inl ⟨⟨fz,Yd _⟩,d,od,kvs,nf,fz,Il od _ _ p fz⟩
section
variable {X:Cx}{o i:Expr}{td ty:TE}{zI pos:Pos}
def ZeK(td ty:TE):TS:=λD σ H=>td σ H λx H1=>ty σ H1 λy H2=>∃a kvs k,x=.ref a/\H2 a=some (.dK kvs)/\y=kV k/\(aS kvs k).isSome=true/\Ch H2 a (.dK (f_ kvs k)) (D.nx σ)
theorem Zb0(ho:PE X o td)(hi:PE X i ty):PS X (.Delete [.Subscript o i zI] pos) (ZeK td ty):=by
 intro pins s σ H D I h;refine wpAny_Delete (wpAny_deleteEach_cons (wpAny_delete_Subscript (aC (ho pins s σ H _ I h) λu s1 zq=>?_)));obtain⟨x,H1,I1,rx,q1⟩:=zq;refine aC (hi pins s1 σ H1 _ I1 q1) λiv s2 zq=>?_;obtain⟨y,H2,I2,ry,a,kvs,k,ex,e,ey,l,q2⟩:=zq;subst ex ey;obtain rfl:u=Value.ref a:=rx;exact ZaT I2 e ry l λs3 I3=>wpAny_deleteEach_nil ⟨σ,_,I3,q2.at⟩
theorem N0[DecidableEq α]:∀{xs:List (α×β)} {j:Nat} {k:α} {p:β},(xs.map (·.1)).Nodup->xs[j]?=some (k,p)->xs.eraseIdx j=xs.filter λx=>decide (x.1≠k)
 |[],_,_,_,_,h=>rfl
 |x::xs,0,k,p,nd,h=>by
  have e:x=(k,p):=by simpa using h
  subst e;rw[List.eraseIdx_cons_zero,List.filter_cons_of_neg (by simp)];refine(List.filter_eq_self.mpr λy hy=>?_).symm
  grind
 |x::xs,j+1,k,p,nd,h=>by
  obtain⟨n1,n2⟩:=Yz.mp (show(x.1::xs.map (·.1)).Nodup from nd);have h':xs[j]?=some (k,p):=by simpa using h
  rw[List.eraseIdx_cons_succ,N0 n2 h',Js (by simpa using(λz=>n1 (by rw[z];exact Ye.mpr ⟨_,Yg h',rfl⟩)))]
theorem N1(f:α->β):∀(xs:List α) (j:Nat),(xs.map f).eraseIdx j=(xs.eraseIdx j).map f
 |[],_=>rfl
 |_::_,0=>rfl
 |x::xs,j+1=>by
  show f x::(xs.map f).eraseIdx j=f x::(xs.eraseIdx j).map f;rw[N1 f xs j]
theorem Zc7(k:List Key)(r:KT H kvs xs):KT H (f_ kvs k) (xs.filter λx=>decide (x.1≠k)):=by
 unfold f_;induction r with
 |nil=>exact .nil
 |@cons p x ps xs f t ih=>
  by_cases e:p.1=k;·grind
  ·rw[Js (by simpa using e),Js (by rw[←f.1];simpa using e)];exact .cons f ih
theorem Zb1{P:Program}{w:World}{A:Around}{E:Value->Shared->Prop}{s:Shared}{d a:Addr}{knd:HeapKind P w (List Key)}{xs:List (List Key×Addr×Value)}{k:List Key}{Q:Option DictEntry->Shared->Prop}(room:knd.room A)(is:knd.is s.heap k a)(D:s.heap.DictOfH knd d xs)(there:k∈xs.map (·.1))(hz:xs.length<=sizeLine)
  (hQ:∀e h' t',h'.DictOfH knd d (xs.filter λx=>decide (x.1≠k))->Heap.SameBut d s.heap h'->Q (some e) {s with heap:=h',toks:=t'}):wpAny (model P w) A (Builtin.Dict.takeOut d (.ref a)) Q E s:=by
 obtain⟨ob,es,ep,g,ex,hd,he,Up,nd⟩:=D;refine wpAny_holding (wpAny_bind (knd.pyHash room is (wpAny_bind (wpAny_dictFind_heap room is g hd he Up nd (λno=>?_) λj p e=>?_))))
 ·obtain⟨x,hx,e⟩:=Ye.mp there;obtain⟨j,hj,ej⟩:=Ws.mp hx;exact absurd (show xs[j]?=some (k,x.2) by rw[Yc hj,ej,←e]) (no j x.2)
 ·have sz:es.size=xs.length:=by rw[←Wo,he,Ya]
  refine wpAny_bind (wpAny_dictEntries g hd ?_);rw[entry_at he j,e];have sb:=Heap.SameBut.update s.heap d (Obj.mapDictKeys λx=>x.eraseIdxIfInBounds j);refine wpAny_bind (wpAny_updateDictKeys g hd (wpAny_pure (hQ _ _ _ ⟨_,_,ep+1,Jz _ g (Obj.isFreed_of_dict (Obj.data_mapDictKeys hd _)),ex.mapDictKeys _,Obj.data_mapDictKeys hd _,?_,λx hx=>?_,?_⟩ sb)) (by rw[sz];exact hz))
  ·have hj:j<xs.length:=(Yl.mp e).1;rw[←N0 nd e];have e1:(es.eraseIdxIfInBounds j).toList=es.toList.eraseIdx j:=by
    simp_all
   rw[e1,he,N1]
  ·exact knd.keeps (Up x (Y5.mp hx).1) g hd sb
  ·grind
theorem Z5{pins:List (Addr×Obj)}{σ:St}{H:Hp}{s:Shared}{a b:Addr}{kvs:List (List Key×V)}{k:List Key}{A:Around}{E:Value->Shared->Prop}{Q:Unit->Shared->Prop}(hu:A.units+1<cLine)(I:Inv X pins σ H s)(e:H a=some (.dT kvs))(eb:H b=some (.tup (k.map kV)))(l:(aS kvs k).isSome=true)(h:∀s',Inv X pins σ (upd H a (.dT (f_ kvs k))) s'->Q () s'):
  wpAny (model X.prog X.w) A (delItem (.ref a) (.ref b)) Q E s:=by
 obtain⟨z,sm,xs,rel,dd⟩:=R5 I.ay e;have l1:kvs.length=xs.length:=Paired.length rel;have there:k∈xs.map (·.1):=by
  rw[Zc4 rel];cases ev:aS kvs k with
  |none=>rw[ev] at l;cases l
  |some v=>
   unfold aS at ev;cases ef:kvs.find? λkv=>decide (kv.1=k) with
   |none=>rw[ef] at ev;cases ev
   |some p=>exact Ye.mpr ⟨p,List.mem_of_find?_eq_some ef,of_decide_eq_true (by simpa using List.find?_some ef)⟩
 refine wpAny_delItem_slot dd.typeIs (by decide) slot_dict_delitem (wpAny_call_entry slot_dict_delitem dd.typeIs PySem.F.entry_dict_delitem ?_ (PySem.F.args_dict_delitem_2 _ _));unfold Builtin.«dict.__delitem__»;refine wpAny_bind ?_;unfold Builtin.Dict.dictSlotArgs;refine wpAny_bind (wpAny_notOrdered_dict dd.typeIs ?_);show wpAny _ _ (pure (Value.ref a,Value.ref b)) _ _ s;refine wpAny_pure ?_;show wpAny _ _ (Builtin.Dict.takeOut a (.ref b)>>=_) _ _ s;refine wpAny_bind (Zb1 (tupleKind_room_in1 hu) (pK I.ay eb) dd there (by omega) λen h' t' d' sb=>?_);refine wpAny_bind (wpAny_letGo (wpAny_pure ⟨.none,rfl,?_⟩));obtain⟨q',es,ep,hq,h2,h3,h4,_,h5⟩:=d';refine h _ (qN (t':=t') (ob:=.dT (f_ kvs k)) I (by rw[e];exact True.intro) sb ⟨q',hq⟩ ⟨Y3 (Wg _ _) z,sm,_,(Zc7 k rel).keeps λc ys ec=>by
   rw[bg (RK ec e (λz=>nomatch z))];exact ec,q',es,ep,hq,h2,h3,h4,h5⟩)
def ZeL(td ty:TE):TS:=λD σ H=>td σ H λx H1=>ty σ H1 λy H2=>∃a b kvs k,x=.ref a/\H2 a=some (.dT kvs)/\y=.ref b/\H2 b=some (.tup (k.map kV))/\(aS kvs k).isSome=true/\Ch H2 a (.dT (f_ kvs k)) (D.nx σ)
theorem N3(hu:X.A.units+1<cLine)(ho:PE X o td)(hi:PE X i ty):PS X (.Delete [.Subscript o i zI] pos) (ZeL td ty):=by
 intro pins s σ H D I h;refine wpAny_Delete (wpAny_deleteEach_cons (wpAny_delete_Subscript (aC (ho pins s σ H _ I h) λu s1 zq=>?_)));obtain⟨x,H1,I1,rx,q1⟩:=zq;refine aC (hi pins s1 σ H1 _ I1 q1) λiv s2 zq=>?_;obtain⟨y,H2,I2,ry,a,b,kvs,k,ex,e,ey,eb,l,q2⟩:=zq;subst ex ey;obtain rfl:u=Value.ref a:=rx;obtain rfl:iv=Value.ref b:=ry;exact Z5 hu I2 e eb l λs3 I3=>wpAny_deleteEach_nil ⟨σ,_,I3,q2.at⟩
end
end L2
namespace L2
open PySem PySem.W PySem.Spec PyProof.Rows
def ZeM:List V->Hp->VK->Prop:=λxs H Q=>∃(p:Addr) (kvs:List (Key×V)) (ns:List Int),xs=[.ref p]/\H p=some (.dK kvs)/\kvs.map (·.1)=ns.map Sum.inl/\ns.length<64/\∀cB:List Int,cB.Perm ns->cB.Pairwise (·<=·)->Nw H (.lst (cB.map V.int)) Q
theorem Zk(xk:(d==sysModules)=false)(hh:A.handled=none)
  (da:s.heap.DictAt (dz prog w) d vs ep)(hk:vs.map (·.1)=ns.map Sum.inl)(gn:vs.length<64)
  (h:∀(h1 h':Heap) (tk:Nat) (out:Array Value) (cB:List Int) (e:Nat),(∀b o,s.heap.get? b=some o->h1.get? b=some o)->(∀b o,h1.get? b=some o->h'.get? b=some o)->h'.get? h1.objs.size=some (seqObj "list" out e)->IntsAre out.toList cB->cB.Perm ns->cB.Pairwise (·<=·)->Q (.ref h1.objs.size) {s with heap:=h',toks:=tk}):
  wpAny (model prog w) A (call (.builtin "sorted") [.ref d]) Q E s:=by
 refine Calls.call_function_entry kind_sorted plain_sorted entry_sorted (args_sorted1 _) ?_;refine wpAny_bind (wpAny_pure ?_);have small:vs.length<=sizeLine:=by rw[sizeLine_eq];omega
 refine wpAny_bind (kdu_collect (kdl_dict (kvs:=vs) (ep:=ep) xk) hh da small λh1 tk acc kp it=>?_);have vals:Vals ((vs.map (·.1)).map kV) acc.toList:=by
  refine ER (P:=prog) (w:=w) (by rw[Wo,Ya];exact it.1) λj v hj=>?_;obtain⟨k,x,hx,xl⟩:=it.2 j v (by rw[←Jh];exact hj)
  grind
 have e0:(vs.map (·.1)).map kV=ns.map V.int:=by rw[hk,Wa];rfl
 rw[e0] at vals;have hl:acc.toList.length<64:=by rw[Wo,it.1];exact gn
 refine wpAny_bind (wpAny_newList ?_);have Im:(h1.push (seqObj "list" acc.toList.toArray 0)).get? h1.objs.size=some (seqObj "list" acc.toList.toArray 0):=by rw[Array.toArray_toList];exact(Ys _ rfl)
 refine wpAny_bind (wpAny_holding (wpAny_call_entry slot_list_sort ⟨_,Im,rfl⟩ entry_list_sort (list_sort_tree Im (intsAre_of vals) hl λout cB a1 a2 a3=>⟨_,rfl,?_⟩) (args_list_sort _)));obtain⟨e,he⟩:=sortedHeap_at (out:=out) Im;exact wpAny_pure ⟨_,rfl,h h1 _ tk out cB e kp (λb ob hb=>by
  have bN:=Yw hb;rw[sortedHeap_old (Yy bN) (by rw[size_push'];exact Wp bN),Jj _ _ _ (Yy bN)];exact hb) he a1 a2 a3⟩
theorem XH(hc:X.calm=true):c7 X (.builtin "sorted") ZeM:=by
 rintro pins s σ H xs us Q I r ⟨p,kvs,ns,rfl,hp,hk,gn,q⟩;obtain⟨u,rfl,ru⟩:=vals1 r;obtain rfl:u=Value.ref p:=ru;obtain⟨lim,wz,vs,kv,dd⟩:=mI I.ay hp;obtain⟨ep,da⟩:=dd.dictAt;have kl:=kv.length;have nl:kvs.length=ns.length:=by have:=congrArg List.length hk;rwa [Ya,Ya] at this
 refine Zk wz (I.ok.hd hc) da (by rw[←kv.keys];exact hk) (by omega) λh1 h' tk out cB e kp w8 he a1 a2 a3=>?_;have I1:=I.kept (t':=s.toks) kp;refine⟨.ref h1.objs.size,_,I1.laid (o:=.lst (cB.map V.int)) w8 (Yd _) ⟨?_,out.toList,e,EL a1,by simpa[seqObj] using he⟩,rfl,(q cB a2 a3).at _ (I1.ay.fresh (Yd _))⟩;rw[Ya,a2.length_eq]
 grind
def Zc8:List V->Hp->VK->Prop:=λxs H Q=>∃(p:Addr) (kvs:List (Key×V)),xs=[.ref p]/\H p=some (.dK kvs)/\Nw H (.dK kvs) Q
theorem Zl:c7 X (.type "dict") Zc8:=by
 rintro pins s σ H xs us Q I r ⟨p,kvs,rfl,hp,q⟩;obtain⟨u,rfl,ru⟩:=vals1 r;obtain rfl:u=Value.ref p:=ru;obtain⟨lim,wz,vs,kv,dd⟩:=mI I.ay hp;have kl:=kv.length;exact PySem.kt_call_dict wz dd (by omega) λh' d' sb=>⟨.ref s.heap.objs.size,_,I.laid (o:=.dK kvs) (λb o e=>(sb.2 b (Yy (Yw e))).trans (Yb _ e)) (Yd _) ⟨lim,beq_eq_false_iff_ne.mpr (Ne.symm (Yy I.big)),vs,kv,d'⟩,rfl,q.at _ (I.ay.fresh (Yd _))⟩
theorem Z6(val:Nat->Str)(wA:∀i v,P i v->∃t,v=.str (val i) t):CmpOf prog w A .Lt P (λi j=>decide ((val i).cps.toList<(val j).cps.toList)):=λi j vi vj s Q E hi hj h=>by
 obtain⟨t,rfl⟩:=wA i vi hi;obtain⟨u,rfl⟩:=wA j vj hj;exact richCompare_gives (op:=.Lt) (typeIs_str s _ t) (typeIs_str s _ u) F.slot_str_lt F.entry_str_lt (F.args_str_lt_2 _ _) (gives_str_lt _ _ t u) (λx=>nomatch x) h
theorem Z7(val:Nat->Str)(wA:∀i v,P i v->∃t,v=.str (val i) t):CmpOf prog w A .Gt P (λi j=>decide ((val j).cps.toList<(val i).cps.toList)):=λi j vi vj s Q E hi hj h=>by
 obtain⟨t,rfl⟩:=wA i vi hi;obtain⟨u,rfl⟩:=wA j vj hj;exact richCompare_gives (op:=.Gt) (typeIs_str s _ t) (typeIs_str s _ u) F.slot_str_gt F.entry_str_gt (F.args_str_gt_2 _ _) (gives_str_gt _ _ t u) (λx=>nomatch x) h
def lM(a b:Str):Str:=if b.cps.toList<a.cps.toList then b else a
def lN(a b:Str):Str:=if a.cps.toList<b.cps.toList then b else a
theorem ZeN{a b:Value}{s:Shared}:(s.heap.push {cls:=.type "tuple",data:=.seq #[a,b]}).IsTuple s.heap.objs.size #[a,b]:=⟨_,Ys _ rfl,rfl,0,rfl⟩
section
variable {prog:Program}{w:World}{A:Around}{E:Value->Shared->Prop}{s:Shared}
theorem Ph(i:Nat)(v:Value)(h:(#[Value.str a t,Value.str b u]:Array Value)[i]?=some v):∃t',v=.str (([a,b]:List Str).getD i "") t':=by
 match i,h with
 |0,h=>grind
 |1,h=>grind
 |i+2,h=>simp at h
theorem N4{a b:Str}{t u:Tok}{Q:Value->Shared->Prop}{op:CmpOp}(f:Str->Str->Bool)(hh:A.handled=none)
  (cmp:CmpOf prog w A.in1 op (λi v=>(#[Value.str a t,Value.str b u]:Array Value)[i]?=some v) λi j=>f (([a,b]:List Str).getD i "") (([a,b]:List Str).getD j ""))
  (h:∀h' tk t',(∀c o,s.heap.get? c=some o->h'.get? c=some o)->Q (.str (if f b a=true then b else a) t') {s with heap:=h',toks:=tk}):
  wpAny (model prog w) A.in1 (pyIter (.ref s.heap.objs.size)) (λit dU=>∃I fp wr n P St bt,it=.ref I/\Walks prog w A.in1 I fp wr n P St/\St 0 dU.heap/\(∀b∈fp,b<dU.heap.objs.size)/\0<n/\CmpOf prog w A.in1 op P bt/\
   ∀v h' tk,P (argBest bt (n-1)) v->(∀b o,b∉wr->dU.heap.get? b=some o->h'.get? b=some o)->Q v {dU with heap:=h',toks:=tk}) E
   {s with heap:=s.heap.push {cls:=.type "tuple",data:=.seq #[.str a t,.str b u]}}:=by
 have hT:=ZeN (a:=.str a t) (b:=.str b u) (s:=s);refine wpAny_pyIter_tuple hT ?_;have hsz:(s.heap.push {cls:=.type "tuple",data:=.seq #[.str a t,.str b u]}).objs.size=s.heap.objs.size+1:=Je ..;refine⟨_,[_,s.heap.objs.size],[_],_,_,_,_,rfl,Walks.tuple (A:=A.in1) hh _ s.heap.objs.size (by rw[hsz];exact Yy (W6 _)) #[.str a t,.str b u],
  ⟨⟨_,Ys _ rfl,rfl,rfl⟩,hT.push _⟩,λc hc=>?_,by simp,cmp,λv h' tk hP hk=>?_⟩
 ·show c<((s.heap.push _).push _).objs.size;rw[Je,hsz];rcases Ym.mp hc with rfl|hc;·rw[hsz];exact W6 _
  ·rw[Yn.mp hc];exact Wp (W6 _)
 ·have hold:∀c o,s.heap.get? c=some o->h'.get? c=some o:=λc o e=>by
   refine hk c o (λhm=>?_) (Yb _ (Yb _ e));have:=Yw e;rw[Yn.mp hm,hsz] at this;exact Y7 _ (Nat.lt_of_succ_lt this)
  have kO:(#[Value.str a t,Value.str b u]:Array Value)[if f b a=true then 1 else 0]?=some v:=hP;obtain⟨t',ev⟩:∃t',v=.str (if f b a=true then b else a) t':=by
   by_cases c:f b a=true
   ·rw[if_pos c] at kO⊢;exact⟨u,by simpa using kO.symm⟩
   ·rw[if_neg c] at kO⊢;exact⟨t,by simpa using kO.symm⟩
  subst ev;exact h h' tk t' hold
end
theorem Z8(hc:X.calm=true):c7 X (.builtin "min") (λxs H Q=>∃i j:Str,xs=[.str i,.str j]/\Q (.str (lM i j)) H):=by
 intro pins s σ H xs us Q I r h;obtain⟨i,j,rfl,q⟩:=h;obtain⟨u,w',rfl,⟨t,rfl⟩,⟨t',rfl⟩⟩:=vals2 r;exact call_min_two (N4 (λx y=>decide (x.cps.toList<y.cps.toList)) (I.ok.hd hc) (Z6 _ λi v=>Ph i v) λh' tk t2 k=>⟨.str (lM i j),H,I.kept k,⟨t2,by unfold lM;simp only[decide_eq_true_eq]⟩,q⟩)
theorem Z9(hc:X.calm=true):c7 X (.builtin "max") (λxs H Q=>∃i j:Str,xs=[.str i,.str j]/\Q (.str (lN i j)) H):=by
 intro pins s σ H xs us Q I r h;obtain⟨i,j,rfl,q⟩:=h;obtain⟨u,w',rfl,⟨t,rfl⟩,⟨t',rfl⟩⟩:=vals2 r;exact call_max_two (N4 (λx y=>decide (y.cps.toList<x.cps.toList)) (I.ok.hd hc) (Z7 _ λi v=>Ph i v) λh' tk t2 k=>⟨.str (lN i j),H,I.kept k,⟨t2,by unfold lN;simp only[decide_eq_true_eq]⟩,q⟩)
theorem ZeO:bootBuiltins "max"=some (.builtin "max"):=by decide+kernel
theorem Pj:cE X (binaryOp .Mult) (λx y H Q=>∃(z:Str) (n:Nat),x=.str z/\y=.int (n:Int)/\z.length<=100/\n<=100/\Q (.str (Txt.mul z (n:Int))) H):=by
 intro pins s σ H x y v u Q I rx ry h;obtain⟨z,n,rfl,rfl,lz,ln,q⟩:=h;obtain⟨t,rfl⟩:=rx;obtain⟨t',rfl⟩:=ry;have lm:z.length*n<=10000:=Y3 (Nat.mul_le_mul lz ln) (by omega);refine PySem.SB.mul ⟨?_,λh1 _=>?_,λ_ _=>?_⟩ λt2 k=>⟨.str (Txt.mul z (n:Int)),H,I.tok k,⟨t2,rfl⟩,q⟩;·rw[decide_eq_false (by omega),decide_eq_false (by omega)];rfl
 ·have hn:(1:Int)<=(n:Int):=by omega
  intro hgt;have h3:((2:Int)^63-1)/(n:Int)≥(2^63-1)/100:=by
   refine Int.le_ediv_of_mul_le (by omega) ?_
   grind
  have h4:((2:Int)^63-1)/100>100:=by decide
  omega
 ·rw[Y6];exact decide_eq_false (by rw[sizeLine_eq];omega)
def eQ:V->Bool
 |.int _=>true
 |.str _=>true
 |_=>false
theorem yU(h:eQ x=true):iK x=true:=by cases x<;>first|rfl|cases h
theorem ZeP(hx:eQ x=true)(hy:eQ y=true):iq x y=decide (x=y):=by
 cases x with
 |int a=>
  cases y with
  |int b=>
   show(a==b)=_
   grind
  |str b=>rfl
  |_=>cases hy
 |str a=>
  cases y with
  |int b=>rfl
  |str b=>
   show(a==b)=_
   grind
  |_=>cases hy
 |_=>cases hx
theorem ET:∀{xs ys:List V},xs.length=ys.length->xs.all eQ=true->ys.all eQ=true->((List.range xs.length).all λj=>iq (xs.getD j .aB) (ys.getD j .aB))=decide (xs=ys)
 |[],[],_,_,_=>rfl
 |[],_::_,h,_,_=>by simp at h
 |_::_,[],h,_,_=>by simp at h
 |x::xs,y::ys,h,fx,fy=>by
  rw[Wi,Wh] at fx fy;rw[Wl,List.range_succ_eq_map,Wi,JR];have e:((λj=>iq ((x::xs).getD j .aB) ((y::ys).getD j .aB))∘Nat.succ)=λj=>iq (xs.getD j .aB) (ys.getD j .aB):=rfl;rw[e,(ET (by simpa using h) fx.2 fy.2)];show(iq x y&&_)=_;rw[ZeP fx.1 fy.1,Wf,Wh,decide_eq_true_iff,decide_eq_true_iff,decide_eq_true_iff,List.cons.injEq]
def Zgq(K:PySem.W.Frag)(neg:Bool):R2:=λx y H Q=>∃(p q:Addr) (xs ys:List V),x=.ref p/\y=.ref q/\aA K H p xs/\aA K H q ys/\xs.all eQ=true/\ys.all eQ=true/\Q (.bl (if neg=true then !decide (xs=ys) else decide (xs=ys))) H
theorem yV(r:Vals xs us):∀{j:Nat} (h:j<us.length),RelV (xs.getD j .aB) us[j]:=by
 induction r with
 |nil=>grind
 |cons f _ ih=>grind
theorem yW{xs:List V}{j:Nat}(f:xs.all eQ=true)(h:j<xs.length):eQ (xs.getD j .aB)=true:=by
 grind
theorem ZeQ{X:Cx}{K:PySem.W.Frag}(hK:X.K=K)(hu:X.A.units<cLine):cE X (compareOp .NotEq) (Zgq K true):=by
 subst hK;intro pins s σ H x y v u Q I rx ry h;obtain⟨p,q,xs,ys,rfl,rfl,h1,h2,f1,f2,k⟩:=h;cases rx;cases ry;obtain⟨ai,r1,p1,z1⟩:=I.tuple h1;obtain⟨eN,r2,p2,z2⟩:=I.tuple h2;have l1:=r1.length;have l2:=r2.length;show wpAny _ _ (richCompare .NotEq _ _) _ _ _;refine SeqAt.RcNeAt.tuples (e:=λj=>iq (xs.getD j .aB) (ys.getD j .aB)) p1 p2 hu (λj h1 h2=>?_) _ _ _ _ (cH I k ?_)
 ·have j1:j<ai.length:=by simpa using h1
  have j2:j<eN.length:=by simpa using h2
  have e1:=yV r1 j1;have e2:=yV r2 j2;have a1:ai.toArray[j]=ai[j]:=by simp
  have a2:eN.toArray[j]=eN[j]:=by simp
  rw[a1,a2];exact Gx e1 e2 (yU (yW f1 (by omega))) (yU (yW f2 (by omega)))
 ·rw[if_pos rfl,Yr,Yr,←l1,←l2];by_cases hl:xs.length=ys.length
  ·rw[←hl,Nat.min_self,ET hl f1 f2];simp
  ·grind
theorem Zc9{X:Cx}{K:PySem.W.Frag}(h:X.K=K):pZ X (SO K):=h▸Zd2
def oa(H:Hp)(xs:List V)(u:Value):Bool:=match u with
 |.ref a=>match H a with
  |some (.tup ys)=>decide (ys=xs)
  |_=>false
 |_=>false
def Io(neg:Bool):R2:=λx y H Q=>∃(p q:Addr) (xs:List V) (as:List Addr) (kR:List (List V)),x=.ref p/\y=.ref q/\H p=some (.tup xs)/\xs.all eQ=true/\H q=some (.lst (as.map V.ref))/\Paired (λa ys=>H a=some (.tup ys)/\ys.all eQ=true) as kR/\Q (.bl (if neg=true then !kR.any λys=>decide (ys=xs) else kR.any λys=>decide (ys=xs))) H
theorem Fu(h:H a=some (.tup ys)):oa H xs (.ref a)=decide (ys=xs):=by
 unfold oa
 grind
theorem EU:∀{as:List Addr} {kR:List (List V)} {us:List Value},Vals (as.map V.ref) us->Paired (λa ys=>H a=some (.tup ys)/\ys.all eQ=true) as kR->us.any (oa H xs)=kR.any λys=>decide (ys=xs)
 |_,_,_,v,.nil=>by cases v;rfl
 |a::as,ys::kR,us,v,.cons e p=>by
  cases v with
  |cons r t=>
   cases r;rw[W7,W7,Fu e.1,EU t p]
theorem EV{H:Hp}:∀{as:List Addr} {kR:List (List V)} {us:List Value},Vals (as.map V.ref) us->Paired (λa ys=>H a=some (.tup ys)/\ys.all eQ=true) as kR->∀u∈us,∃a ys,u=.ref a/\H a=some (.tup ys)/\ys.all eQ=true
 |_,_,_,v,.nil=>by cases v;intro u hu;cases hu
 |a::as,ys::kR,us,v,.cons e p=>by
  cases v with
  |cons r t=>
   cases r;intro u hu;rcases Ym.mp hu with rfl|hu;·grind
   ·exact EV t p u hu
section
variable {X:Cx}
theorem N5(hu:X.A.units+1<cLine)(I:Inv X pins σ H s)(h1:H p=some (.tup xs))(f1:xs.all eQ=true)(h2:H a=some (.tup ys))(f2:ys.all eQ=true):SeqAt.EqAt X.A.in1 s (.ref a) (.ref p) (decide (ys=xs)):=by
 by_cases e:a=p
 ·subst e;have:ys=xs:=by
   rw[h1] at h2;injection h2 with h2;injection h2 with h2;exact h2.symm
  rw[decide_eq_true this];exact SeqAt.EqAt.same _
 obtain⟨ai,r1,p1,z1⟩:=I.tuple (aA.of h2);obtain⟨eN,r2,p2,z2⟩:=I.tuple (aA.of h1);have l1:=r1.length;have l2:=r2.length;refine SeqAt.EqAt.of_refs e ?_;have rc:=SeqAt.RcAt.tuples (A:=X.A.in1) (e:=λj=>iq (ys.getD j .aB) (xs.getD j .aB)) p1 p2 hu (λj h1 h2=>?_)
 ·have eb:((List.range (min ai.toArray.size eN.toArray.size)).all (λj=>iq (ys.getD j .aB) (xs.getD j .aB))&&ai.toArray.size==eN.toArray.size)=decide (ys=xs):=by
   rw[Yr,Yr,←l1,←l2];by_cases hl:ys.length=xs.length
   ·rw[←hl,Nat.min_self,ET hl f2 f1];simp
   ·grind
  rw[←eb];exact rc
 ·have j1:j<ai.length:=by simpa using h1
  have j2:j<eN.length:=by simpa using h2
  have e1:=yV r1 j1;have e2:=yV r2 j2;have a1:ai.toArray[j]=ai[j]:=by simp
  have a2:eN.toArray[j]=eN[j]:=by simp
  rw[a1,a2];exact Gx e1 e2 (yU (yW f2 (by omega))) (yU (yW f1 (by omega)))
theorem QU(hu:X.A.units+1<cLine):cE X (compareOp .In) (Io false):=by
 rintro pins s σ H x y v u Q I rx ry ⟨p,q,xs,as,kR,rfl,rfl,h1,f1,h2,pr,k⟩;cases rx;cases ry;obtain⟨ai,r,pl,hz⟩:=I.list (ak.of h2);refine SeqAt.in_listAt (oa H xs) pl.isList (λw hw=>?_) ⟨.bl _,H,I,rfl,?_⟩
 ·obtain⟨a,ys,rfl,ha,fa⟩:=EV r pr w (by simpa using hw);rw[Fu ha];exact N5 hu I h1 f1 ha fa
 ·rw[show ai.toArray.any (oa H xs)=ai.any (oa H xs) by simp,EU r pr];exact k
theorem Za8(hu:X.A.units+1<cLine):cE X (compareOp .NotIn) (Io true):=by
 rintro pins s σ H x y v u Q I rx ry ⟨p,q,xs,as,kR,rfl,rfl,h1,f1,h2,pr,k⟩;cases rx;cases ry;obtain⟨ai,r,pl,hz⟩:=I.list (ak.of h2);refine SeqAt.notIn_listAt (oa H xs) pl.isList (λw hw=>?_) ⟨.bl _,H,I,rfl,?_⟩
 ·obtain⟨a,ys,rfl,ha,fa⟩:=EV r pr w (by simpa using hw);rw[Fu ha];exact N5 hu I h1 f1 ha fa
 ·rw[show ai.toArray.any (oa H xs)=ai.any (oa H xs) by simp,EU r pr];exact k
end
def Ak(g:Nat->Value):Nat->Nat->List Value
 |0,_=>[]
 |n+1,i=>g i::Ak g n (i+1)
theorem QV(g:Nat->Value):∀(us:List Value) (i:Nat),(∀k,us[k]?=some (g (i+k))\/us.length<=k)->us=Ak g us.length i
 |[],_,_=>rfl
 |a::r,i,h=>by
  have e:a=g i:=by
   rcases h 0 with z|z;·grind
   ·cases z
  refine congr (congrArg _ e) (QV g r (i+1) λk=>?_);have:=h (k+1)
  grind
inductive aL(K:PySem.W.Frag)(x:Str)(st:Stmt)(f:Addr):Prop
 |mk {od an:Option Addr} {sl:Array (Option Value)} {oc kV dc pm cd ct:Value} (a:nsIn K mainGlobals x=some (some (.ref f))) (l:K.lookup f=some ⟨oc,od,.func (fnOf x x (nQ st) (k9 st) (aM st) .none kV dc pm an cd ct),sl⟩) (c:codeIn K cd x=true) (k:keepIn K (.ref f)=true):aL K x st f
inductive bA(K:PySem.W.Frag)(C:Addr)(x q:Str)(st:Stmt)(f:Addr):Prop
 |mk {od an:Option Addr} {sl:Array (Option Value)} {oc kV dc pm cd ct:Value} (a:PySem.W.findIn K (.ref C) x=some (some (.ref f))) (b:isFn K (.ref f)=true) (l:K.lookup f=some ⟨oc,od,.func (fnOf x q (nQ st) (k9 st) (aM st) .none kV dc pm an cd ct),sl⟩) (c:codeIn K cd q=true) (k:keepIn K (.ref f)=true):bA K C x q st f
inductive m5(P:Program)(w:World)(K:PySem.W.Frag)(mg:Str->Option Value)(base:Heap):Prop
 |mk {h:Heap} (X:K.In h) (G:h.Ns mainGlobals mg):m5 P w K mg base
abbrev oK(x q:Str)(st:Stmt)(ps:List Str):Prop:=∀(kV doc pm:Value) (an:Option Addr) (aF ct:Value) (g:Nat->Value),bindArgs (fnOf x q (nQ st) (k9 st) (aM st) .none kV doc pm an aF ct) ⟨Ak g ps.length 0,[]⟩=pure (ps.zip (Ak g ps.length 0))
theorem oK.at{x q:Str}{st:Stmt}{ps:List Str}(b:oK x q st ps)(kV doc pm:Value)(an:Option Addr)(aF ct:Value)(us:List Value)(hl:us.length=ps.length):bindArgs (fnOf x q (nQ st) (k9 st) (aM st) .none kV doc pm an aF ct) ⟨us,[]⟩=pure (ps.zip us):=by
 have e:=QV (λk=>us.getD k .none) us 0 λk=>by
  grind
 grind
section
variable {P:Program}{w:World}{K:PySem.W.Frag}{mg:Str->Option Value}{base:Heap}{C f:Addr}{x q:Str}{st:Stmt}{ps:List Str}{n:Nat}{sp:Sp}
theorem m5.p(D:m5 P w K mg base)(p:aL K x st f)(b:oK x x st ps:=by intro _ _ _ _ _ _ _;rfl):∃fd,aN K x x st f fd/\Binds K fd ps []/\keepIn K (.ref f)=true/\mg x=some (.ref f):=by
 obtain⟨X,G⟩:=D;obtain⟨a,l,c,k⟩:=p;exact⟨_,vR l c k,(vR l c k).binds (oK.at b),k,mg_of X G a⟩
theorem m5.d(D:m5 P w K mg base)(p:aL K x st f)(o:∀fd,aN K x x st f fd->aK P w K mg base aP n f fd ps sp)(b:oK x x st ps:=by intro _ _ _ _ _ _ _;rfl):HasFn P w K mg base n x ps sp:=by
 obtain⟨fd,F,b,k,m⟩:=D.p p b;exact⟨f,fd,o _ F,b,k,m⟩
theorem bA.p(p:bA K C x q st f)(b:oK x q st ps):∃fd,aN K x q st f fd/\Binds K fd ps []/\Meth K C x f/\PySem.W.findIn K (.ref C) x=some (some (.ref f))/\isFn K (.ref f)=true:=by
 obtain⟨a,e,l,c,k⟩:=p;exact⟨_,vR l c k,(vR l c k).binds (oK.at b),⟨a,e,k⟩,a,e⟩
theorem m5.m(_:m5 P w K mg base)(kc:fL K C)(p:bA K C x q st f)(o:∀fd,aN K x q st f fd->aK P w K mg base aP n f fd ps sp)(b:oK x q st ps:=by intro _ _ _ _ _ _ _;rfl):cD P w K mg base n x C ps sp:=by
 obtain⟨fd,F,b,m,_,_⟩:=p.p b;exact⟨f,fd,kc,m,o _ F,b⟩
theorem m5.i(_:m5 P w K mg base){y:Str}(m:mg y=some (.ref C))(cb:makesIn K C=true)(cc:keepIn K (.ref C)=true)(p:bA K C "__init__" q st f)(o:∀fd,aN K "__init__" q st f fd->aK P w K mg base aP n f fd ps sp)(b:oK "__init__" q st ps:=by intro _ _ _ _ _ _ _;rfl):wb P w K mg base n y C ps sp:=by
 obtain⟨fd,F,b,_,a,e⟩:=p.p b;exact⟨f,fd,⟨cb,a,e,cc⟩,o _ F,b,m⟩
end
end L2
namespace JT
open PySem L2
variable {P:Program}{w:World}{K:PySem.W.Frag}{mg:Str->Option Value}{base:Heap}{f C CL CJ:Addr}{fd:FuncData}
def top(i:Nat):Stmt:=PySem.Challenge.pw_kinhearth_k24_facts_kept_and_asked.main.body.getD i (.Pass ⟨0,0,0,0⟩)
abbrev EW:Stmt:=top 19
abbrev F6:Stmt:=top 20
abbrev Fv:Stmt:=top 21
abbrev GF:Stmt:=top 23
abbrev C5:Stmt:=top 25
abbrev C6:Stmt:=top 73
abbrev BJ:Stmt:=top 74
abbrev EX:Stmt:=top 75
abbrev D9:Stmt:=top 22
abbrev CC:Stmt:=top 24
abbrev D_:Stmt:=top 2
abbrev Fw:Stmt:=top 34
abbrev Ea:Stmt:=top 35
abbrev Eb:Stmt:=top 38
abbrev DE:Stmt:=top 39
abbrev DF:Stmt:=top 40
abbrev EY:Stmt:=top 47
abbrev B9:Stmt:=top 48
abbrev DG:Stmt:=top 49
abbrev DH:Stmt:=top 50
abbrev B_:Stmt:=top 51
abbrev Ca:Stmt:=top 52
abbrev Cb:Stmt:=top 53
abbrev BK:Stmt:=top 54
abbrev DI:Stmt:=top 68
abbrev MD:Stmt:=top 77
abbrev Mc:Stmt:=top 78
abbrev ME:Stmt:=top 79
abbrev EZ:Stmt:=top 80
abbrev CD:Stmt:=top 81
abbrev DJ:Stmt:=top 82
abbrev DK:Stmt:=top 83
abbrev yh:Stmt:=top 84
abbrev Ec:Stmt:=top 85
abbrev CF:Stmt:=top 86
abbrev Ed:Stmt:=top 87
abbrev Ee:Stmt:=top 88
abbrev Fx:Stmt:=top 89
abbrev Ef:Stmt:=top 90
abbrev DL:Stmt:=top 91
abbrev Eg:Stmt:=top 92
abbrev Eh:Stmt:=top 93
abbrev Ei:Stmt:=top 94
abbrev E1:Stmt:=top 95
abbrev Ej:Stmt:=top 96
abbrev Ek:Stmt:=top 97
abbrev El:Stmt:=top 98
abbrev rp:Stmt:=top 99
abbrev DM:Stmt:=inClass (top 72) 0
abbrev DN:Stmt:=inClass (top 72) 1
abbrev C7:Stmt:=inClass (top 56) 0
abbrev DO:Stmt:=inClass (top 56) 1
abbrev DP:Stmt:=inClass (top 56) 2
abbrev DQ:Stmt:=inClass (top 56) 3
abbrev BM:Stmt:=inClass (top 56) 4
abbrev C8:Stmt:=inClass (top 56) 5
abbrev Bv:Stmt:=inClass (top 56) 6
abbrev CG:Stmt:=inClass (top 56) 8
abbrev Cc:Stmt:=inClass (top 56) 12
abbrev A9:Stmt:=inClass (top 56) 13
abbrev C9:Stmt:=inClass (top 56) 14
abbrev CH:Stmt:=inClass (top 67) 0
abbrev BN:Stmt:=inClass (top 67) 1
abbrev C_:Stmt:=inClass (top 67) 2
abbrev Dc:Stmt:=inClass (top 67) 3
abbrev CI:Stmt:=inClass (top 67) 4
abbrev CK:Stmt:=inClass (top 67) 5
abbrev BO:Stmt:=inClass (top 67) 10
abbrev Bw:Stmt:=inClass (top 67) 11
abbrev CM:Stmt:=inClass (top 67) 12
abbrev Dd:Stmt:=inClass (top 67) 13
abbrev Bg:Stmt:=inClass (top 67) 17
abbrev Bb:Stmt:=inClass (top 67) 18
abbrev Cd:Stmt:=inClass (top 67) 19
abbrev Bx:Stmt:=inClass (top 67) 20
abbrev Ce:Stmt:=inClass (top 67) 21
abbrev BP:Stmt:=inClass (top 67) 22
abbrev Bh:Stmt:=inClass (top 67) 23
abbrev Bp:Stmt:=inClass (top 67) 24
abbrev Sa:Stmt:=MD
abbrev QW:Stmt:=Mc
abbrev Sb:Stmt:=ME
section
theorem ZeR:aU ["_law_script","_law_k"] ["_law_script","_law_k"] (aM Sa):=⟨rfl,rfl,rfl,by decide+kernel,rfl,by decide+kernel,by decide+kernel⟩
theorem Zc_(F:aN K "_law_cell" "_law_cell" Sa f fd)(ml:mg "len"=none):aK P w K mg base aP 1 f fd ["_law_script","_law_k"] (QL K):=by
 refine F.ok ZeR (λvs H Q E h=>?_) (λaF A outer s H vs Q E hr h=>?_)
 ·obtain⟨a,ns,k,rfl,_⟩:=h;rfl
 obtain⟨a,ns,k,rfl,hS,h0,q⟩:=h;refine⟨_,au (aR (bb mH (pv 1) (bM L3 rfl ml cV (ae (pv 0) ag)) (aQ _)) (aw (aH (aX F3 (pv 0) (pv 1) (λ_ _=>rfl)))) a_)
  (aw (aH aG)),?_⟩
 refine⟨_,rfl,_,rfl,a,_,rfl,.inl hS,_,_,rfl,rfl,_,rfl,?_⟩;refine bI (λc=>?_) (λc=>?_)
 ·have c':k<(((ns.map V.int).length:Nat):Int):=of_decide_eq_true c;rw[(Ya _)] at c';exact⟨_,rfl,_,rfl,a,_,_,_,rfl,rfl,hS,mC h0 c',q _⟩
 ·exact q _
theorem nR:aU ["_law_cell_here","_law_parts","_law_one","_law_two","_law_six","_law_found","_law_part"] ["_law_cell_here","_law_parts"] (aM QW):=⟨rfl,rfl,rfl,by decide+kernel,rfl,by decide+kernel,by decide+kernel⟩
theorem Zb2(F:aN K "_law_draws" "_law_draws" QW f fd)(ma:mg "abs"=none):aK P w K mg base aP 1 f fd ["_law_cell_here","_law_parts"] (yQ K):=by
 refine F.ok nR (λvs H Q E h=>?_) (λaF A outer s H vs Q E hr h=>?_)
 ·obtain⟨c,a,ps,rfl,_⟩:=h;rfl
 obtain⟨c,a,ps,rfl,hS,hps,hlen,q⟩:=h;refine⟨_,au (aR (bb mH (bM NL rfl ma QI (ae (pv 0) ag)) (a8 Qv aG aG) (aQ _))
   (au (bq (i:=2) nR.nd rfl (Or.inl rfl) (a8 dJ (a8 fX (a8 nU (pv 0) aG) aG) aG))
   (au (bq (i:=3) nR.nd rfl (Or.inl rfl) (a8 dJ (a8 fX (a8 fX (a8 nU (pv 2) (pv 2)) (a8 nU aG (pv 2))) (pv 0)) aG))
   (au (bq (i:=4) nR.nd rfl (Or.inl rfl) (a8 dJ (a8 fX (a8 nU (pv 3) aG) (pv 2)) aG))
   (aw (bq (i:=0) nR.nd rfl (Or.inl rfl) (a8 fX (pv 3) (a8 nU aG (a8 fX (pv 4) (a8 nU aG (pv 2))))))))))
   (aw (bq (i:=0) nR.nd rfl (Or.inl rfl) (a8 ze (bM NL rfl ma QI (ae (pv 0) ag)) (a8 Qv aG aG)))))
  (au (bq (i:=5) nR.nd rfl (Or.inl rfl) (vP ag))
  (au (fW PassesOwn.never rfl (OX (pv 1)) (bo (i:=6) nR.nd rfl (Or.inl rfl))
   (au (cA (jw plainAttrs_list PySem.F.slot_list_append PySem.F.type_list_append vB (pv 5) (ae (a8 dJ (pv 0) (pv 6)) ag)))
   (aw (bq (i:=0) nR.nd rfl (Or.inl rfl) (a8 yK (pv 0) (pv 6))))))
  (aw (aH (pv 5))))),?_⟩
 refine iI (λσ H'=>H'=H/\∃c' o2 o3 o4,σ=[some (.int c'),some (.ref a),o2,o3,o4,none,none]) (λnx k=>?_) ?_
 ·refine⟨_,rfl,c,rfl,_,_,rfl,rfl,⟨by decide,by decide,by decide⟩,_,_,rfl,rfl,_,rfl,?_⟩;refine bI (λ_=>?_) (λ_=>?_)
  ·refine⟨_,rfl,_,_,rfl,rfl,.inr ⟨by decide,by decide⟩,_,_,rfl,rfl,_,_,rfl,rfl,(by show(0:Int)<2147483647;decide),?_⟩;refine⟨_,rfl,_,rfl,_,_,rfl,rfl,.inl (Zd_ _ (by decide) (by decide)),_,rfl,_,_,rfl,rfl,.inl ⟨by decide,by decide⟩,_,_,rfl,rfl,_,rfl,_,_,rfl,rfl,_,_,rfl,rfl,(by show(0:Int)<2147483399;decide),?_⟩;refine⟨_,rfl,_,_,rfl,rfl,.inr ⟨by decide,by decide⟩,_,rfl,_,_,rfl,rfl,_,_,rfl,rfl,(by show(0:Int)<1000000007;decide),?_⟩;refine⟨_,rfl,_,rfl,_,rfl,_,_,rfl,rfl,.inl ⟨by decide,by decide⟩,_,_,rfl,rfl,_,_,rfl,rfl,.inl ⟨by decide,by decide⟩,_,_,rfl,rfl,k _ _ ⟨rfl,_,_,_,_,rfl⟩⟩
  ·exact⟨_,rfl,c,rfl,_,_,rfl,rfl,⟨by decide,by decide,by decide⟩,_,_,rfl,rfl,k _ _ ⟨rfl,_,_,_,_,rfl⟩⟩
 ·rintro σ H0 ⟨rfl,c',o2,o3,o4,rfl⟩;refine⟨(by show 0<=sizeLine;decide),λl hl=>?_⟩;have s1:aj H0 (upd H0 l (.lst [])):=cq hl _;refine⟨_,rfl,a,rfl,⟨_,s1.seq hS⟩,jq (K:=K) (a:=a) (xs:=ps.map V.int) (λi σ H2=>∃c o2 o3 o4 o6 ds,σ=[some (.int c),some (.ref a),o2,o3,o4,some (.ref l),o6]/\aj H0 H2/\H2 l=some (.lst (ds.map V.int))/\Paired Bd ds (ps.take i))
   ⟨c',o2,o3,o4,none,[],rfl,s1,aW,by rw[List.take_zero];exact .nil⟩ (λi σ H2 _ ⟨_,_,_,_,_,_,_,s2,_⟩=>s2.seq hS) ?_ ?_⟩
  ·rintro i y σ H2 hi ⟨c,o2,o3,o4,o6,ds,rfl,s2,h2,b2⟩;obtain⟨p,rfl,hp⟩:=mj hi;have dH:i<ps.length:=(Yl.mp hp).1;obtain⟨p0,p1⟩:=hps p (Yg hp);have dl:=b2.length;rw[Y8] at dl;refine⟨_,rfl,.inl ⟨rfl,_,ak.of h2⟩,_,rfl,_,rfl,_,_,rfl,rfl,p0,l,_,_,rfl,rfl,h2,(by rw[Ya];exact jo (by omega)),?_⟩;refine⟨_,rfl,_,rfl,_,_,rfl,rfl,⟨p0,p1⟩,?_⟩;refine⟨_,o2,o3,o4,_,ds++[c % p],rfl,λb o e=>?_,?_,?_⟩
   ·rw[bg (ck e hl)];exact s2 b o e
   ·rw[aW,NO]
   ·rw[Y2,hp];exact b2.snoc ⟨Jc _ (I0 p0),Wz _ p0⟩
  ·rintro σ H2 ⟨c,o2,o3,o4,o6,ds,rfl,s2,h2,b2⟩;rw[Ya,Wd] at b2;exact⟨_,rfl,q l ds H2 hl s2 h2 b2⟩
theorem vV:aU ["_law_code","_law_size","_law_free","_law_found","_law_k"] ["_law_code","_law_size"] (aM Sb):=⟨rfl,rfl,rfl,by decide+kernel,rfl,by decide+kernel,by decide+kernel⟩
theorem Zda(F:aN K "_law_turn" "_law_turn" Sb f fd)(mL:mg "list"=none)(mR:mg "range"=none)(mT:mg "tuple"=none):aK P w K mg base aP 1 f fd ["_law_code","_law_size"] QM:=by
 refine F.ok vV (λvs H Q E h=>?_) (λaF A outer s H vs Q E hr h=>?_)
 ·obtain⟨c,n,rfl,_⟩:=h;rfl
 obtain⟨c,n,rfl,hn,q⟩:=h;refine⟨_,au (bq (i:=2) vV.nd rfl (Or.inl rfl) (eI (CA rfl) rfl mL tP (ae (eI ya rfl mR tJ (ae (pv 1) ag)) ag)))
  (au (bq (i:=3) vV.nd rfl (Or.inl rfl) (vP ag))
  (au (fW PassesOwn.never rfl (pj rfl mR (ae (pv 1) ag)) (bo (i:=4) vV.nd rfl (Or.inl rfl))
   (au (cA (jw plainAttrs_list PySem.F.slot_list_append PySem.F.type_list_append vB (pv 3) (ae (jw plainAttrs_list PySem.F.slot_list_pop PySem.F.type_list_pop Zbx (pv 2) (ae (a8 dJ (pv 0) (a8 ze (pv 1) (pv 4))) ag)) ag)))
   (aw (bq (i:=0) vV.nd rfl (Or.inl rfl) (a8 yK (pv 0) (a8 ze (pv 1) (pv 4)))))))
  (aw (aH (eI sL rfl mT mf (ae (pv 3) ag)))))),?_⟩
 refine⟨_,rfl,_,rfl,λr uC=>?_⟩;refine⟨r,n,rfl,aW,by omega,λu hu=>?_⟩;refine⟨(by show 0<=sizeLine;decide),λl hl=>?_⟩;have g1:aj H (upd H r (.jb 0 (n:Int))):=cq uC _;have g2:=g1.trans (cq hu (.lst ((bF n).map V.int)));have g3:=g2.trans (cq hl (.lst []));have JU:u≠l:=ck aW hl;refine⟨_,rfl,(n:Int),rfl,by omega,by omega,EJ (lo:=0) (n:=n) (λi σ H2=>∃c o4 ds fs,σ=[some (.int c),some (.int (n:Int)),some (.ref u),some (.ref l),o4]/\aj H H2/\H2 u=some (.lst (fs.map V.int))/\H2 l=some (.lst (ds.map V.int))/\(ds++fs).Perm (bF n)/\ds.length=i)
  ⟨c,none,[],bF n,rfl,g3,by rw[bg JU];exact aW,aW,by rw[Uq],rfl⟩ ?_ ?_⟩
 ·rintro i σ H2 hi ⟨c,o4,ds,fs,rfl,s2,JV,mY,pm,dl⟩;have pl:=pm.length_eq;rw[Yj,eG,dl] at pl;have zO:(0:Int)<(n:Int)-(0+(i:Int)):=by omega
  have m0:=Jc c (I0 zO);have m1:=Wz c zO;have hk:(c % ((n:Int)-(0+(i:Int)))).toNat<fs.length:=by omega
  refine⟨_,rfl,.inl ⟨rfl,_,ak.of mY⟩,_,rfl,.inl ⟨rfl,_,ak.of JV⟩,_,rfl,_,rfl,_,rfl,_,_,rfl,rfl,_,_,rfl,rfl,zO,u,_,_,_,.int fs[(c % ((n:Int)-(0+(i:Int)))).toNat],rfl,rfl,JV,by omega,by omega,((F1 (Gz m0 (by rw[Ya];omega))).1),by rw[Yf,Yc hk];rfl,?_⟩;refine⟨l,_,_,rfl,rfl,by rw[bg JU.symm];exact mY,(by rw[Ya];exact jo (by omega)),?_⟩;refine⟨_,rfl,_,rfl,_,rfl,_,_,rfl,rfl,_,_,rfl,rfl,⟨zO,by omega⟩,?_⟩;refine⟨_,_,ds++[fs[(c % ((n:Int)-(0+(i:Int)))).toNat]],fs.eraseIdx (c % ((n:Int)-(0+(i:Int)))).toNat,rfl,λb o e=>?_,?_,?_,?_,?_⟩
  ·have nl:b≠l:=ck (g2 b o e) hl;have nu:b≠u:=ck (g1 b o e) hu;rw[bg nl,bg nu];exact s2 b o e
  ·rw[bg JU,aW,MZ]
  ·rw[aW,NO]
  ·refine List.Perm.trans ?_ pm;rw[Jk];refine List.Perm.append_left ds ?_;exact(Mt fs _ hk).symm
  ·rw[Yj,List.length_singleton,dl]
 ·rintro σ H2 ⟨c,o4,ds,fs,rfl,s2,JV,mY,pm,dl⟩;have pl:=pm.length_eq;rw[Yj,eG,dl] at pl;have e:fs=[]:=List.eq_nil_of_length_eq_zero (by omega);rw[e,We] at pm;refine⟨_,rfl,l,_,rfl,.inl ⟨ak.of mY,λt ht=>?_⟩⟩;exact q t ds _ (s2.free ht) (s2.trans (cq ht _)) aW pm
end
theorem Zdb{ds:List Int}{a b c d e:Int}(h:Paired Bd ds [a,b,c,d,e]):∃v w x y z,ds=[v,w,x,y,z]/\Bd v a/\Bd w b/\Bd x c/\Bd y d/\Bd z e:=by
 cases h with|cons h1 h=>cases h with|cons h2 h=>cases h with|cons h3 h=>cases h with|cons h4 h=>cases h with|cons h5 h=>
  cases h
  grind
theorem bp{q:St->Hp->Prop}{i:Nat}{x:V}{σ:St}{H:Hp}(h:q (σ.set i (some x)) H):q0 i x σ H q:=h
theorem Zdc{ds:List Int}{a b c:Int}(h:Paired Bd ds [a,b,c]):∃v w x,ds=[v,w,x]/\Bd v a/\Bd w b/\Bd x c:=by
 cases h with|cons h1 h=>cases h with|cons h2 h=>cases h with|cons h3 h=>
  cases h;exact⟨_,_,_,rfl,h1,h2,h3⟩
theorem QX{K:PySem.W.Frag}{H:Hp}{p:Addr}{xs:List V}{i:Nat}{x:V}{Q:VK}(hp:ak K H p xs\/aA K H p xs)(h:xs[i]?=some x)(q:Q x H):IK K (.ref p) (.int (0+(i:Int))) H Q:=by
 rcases hp with hp|hp;·exact .inl ⟨p,_,_,_,rfl,rfl,hp,NS h,q⟩
 ·exact .inr (.inl ⟨p,_,_,_,rfl,rfl,hp,NS h,q⟩)
theorem yE(v:V):decide (v=v)=true:=decide_eq_true rfl
theorem all_true(n:Nat):(List.replicate n true).all id=true:=by
 induction n with
 |zero=>rfl
 |succ n ih=>rw[List.replicate_succ,Wi,ih];rfl
inductive N6(m:Nat)(vs:List V)(H:Hp)(Q:VK):Prop
 |mk (x y:V) (d:Dt) (k:Nat) (aE:vs=[x,y]) (aT:m=k+1) (bw:At H k x d) (bP:At H k y d) (cN:∀H',aj H H'->Q (.bl true) H'):N6 m vs H Q
def qV(m:Nat):Sp:=λvs H Q _=>N6 m vs H Q
section
theorem Zm:aU ["_law_found","_law_due"] ["_law_found","_law_due"] (aM yh):=⟨rfl,rfl,rfl,by decide+kernel,rfl,by decide+kernel,by decide+kernel⟩
theorem Zb3{n:Nat}(F:aN K "_law_same" "_law_same" yh f fd)(pd:HasFn P w K mg base n "_law_same" ["_law_found","_law_due"] (qV n))(bl:Bl mg):aK P w K mg base aP (n+1) f fd ["_law_found","_law_due"] (qV (n+1)):=by
 refine F.ok Zm (λvs H Q E h=>?_) (λaF A outer s H vs Q E hr h=>?_)
 ·obtain⟨x,y,d,k,rfl,_⟩:=h;rfl
 obtain⟨x,y,d,k,rfl,ek,hx,hy,q⟩:=h;obtain rfl:k=n:=by omega
 have hu:=hr.tU;refine⟨_,(au (aR (bb Gv (pv 1) lu (aQ _)) (aw (aH (dw Gv (pv 0) lu (aQ _)))) a_) (au (aR (eK (bM (kz (K:=K) rfl) rfl bl.kj kh (ae (pv 1) (ae (kH rfl bl.zf yP) ag)))) (aw (aH (nT (bM (kz (K:=K) rfl) rfl bl.kj kh (ae (pv 0) (ae (kH rfl bl.zf yP) ag))) (kB (dw cg (pv 0) (pv 1) (aQ _)))))) a_) (au (aR (eK (bM (kz (K:=K) rfl) rfl bl.kj kh (ae (pv 1) (ae (kH rfl bl.R1 QK) ag)))) (aw (aH (nT (bM (kz (K:=K) rfl) rfl bl.kj kh (ae (pv 0) (ae (kH rfl bl.R1 QK) ag))) (nT (ZdV (bM (kz (K:=K) rfl) rfl bl.kj kh (ae (pv 0) (ae (kH rfl bl.zf yP) ag)))) (kB (dw cg (pv 0) (pv 1) (aQ _))))))) a_) (au (aR (eK (bM (kz (K:=K) rfl) rfl bl.kj kh (ae (pv 1) (ae (kH rfl bl.v_ vS) ag)))) (aw (aH (nT (bM (kz (K:=K) rfl) rfl bl.kj kh (ae (pv 0) (ae (kH rfl bl.v_ vS) ag))) (kB (dw cg (pv 0) (pv 1) (aQ _)))))) a_) (au (aR (PW.pt (pw_or (bb lE (bM (kz (K:=K) rfl) rfl bl.kj kh (ae (pv 1) (ae (kH rfl bl.tW tP) ag))) (bM (kz (K:=K) rfl) rfl bl.kj kh (ae (pv 0) (ae (kH rfl bl.tW tP) ag))) (aQ _)) (pw_or1 (bb lE (bM (kz (K:=K) rfl) rfl bl.kj kh (ae (pv 1) (ae (kH rfl bl.mn mf) ag))) (bM (kz (K:=K) rfl) rfl bl.kj kh (ae (pv 0) (ae (kH rfl bl.mn mf) ag))) (aQ _))))) (aw (aH jv)) a_) (au (aR (bb lE (bM (c9 (K:=K) rfl) rfl bl.cX cV (ae (pv 0) ag)) (bM (c9 (K:=K) rfl) rfl bl.cX cV (ae (pv 1) ag)) (aQ _)) (aw (aH jv)) a_) (aw (aH (bM (S0 (K:=K) rfl rfl) rfl bl.R0 QJ (ae (iH (x:="_law_k") (fr:=[("_law_found",0),("_law_due",1)]) (cl:=[("_law_found",s.heap.objs.size+1),("_law_due",s.heap.objs.size+1+1)]) rfl ⟨by with_unfolding_all rfl,⟨rfl,⟨rfl,trivial⟩⟩,rfl,by decide+kernel,rfl,by decide+kernel,rfl,⟨⟨rfl,.inl rfl,.inl rfl,rfl⟩,⟨⟨rfl,.inl rfl,.inl rfl,rfl⟩,trivial⟩⟩,by decide+kernel⟩ (pj rfl bl.jt (ae (bM (c9 (K:=K) rfl) rfl bl.cX cV (ae (pv 1) ag)) ag)) (λ_ _ _ _=>ku) (λ_ _ _ _=>(aY pd hr (by omega) rfl (ae (aX (O9 (K:=K) rfl) (pv 1) (pv 0) (λ_ _=>rfl)) (ae (aX (O9 (K:=K) rfl) (pv 2) (pv 0) (λ_ _=>rfl)) ag))))) ag)))))))))),?_⟩;have sq:(∃(p r:Addr) (xs ys:List V) (ds:List Dt) (t:Value) (b1 b2:Bool) (m:Nat),x=.ref p/\y=.ref r/\iO K H (.ref p) t/\iO K H (.ref r) t/\kitOne K t (.type "bool")=some false/\kitOne K t (.type "int")=some false/\kitOne K t (.type "str")=some false/\
   kitOne K t (.type "list")=some b1/\kitOne K t (.type "tuple")=some b2/\(ak K H p xs\/aA K H p xs)/\(ak K H r ys\/aA K H r ys)/\ds.length<=1000/\Paired (At H m) xs ds/\Paired (At H m) ys ds/\k=m+1)\/
   (x=.aB/\y=.aB)\/(∃b,x=.bl b/\y=.bl b)\/(∃i,x=.int i/\y=.int i)\/∃z,x=.str z/\y=.str z:=by
  cases d with
  |aB=>unfold At at hx hy;exact .inr (.inl ⟨hx,hy⟩)
  |bl b=>unfold At at hx hy;exact .inr (.inr (.inl ⟨b,hx,hy⟩))
  |int i=>unfold At at hx hy;exact .inr (.inr (.inr (.inl ⟨i,hx,hy⟩)))
  |str z=>unfold At at hx hy;exact .inr (.inr (.inr (.inr ⟨z,hx,hy⟩)))
  |lst ds=>
   cases k with
   |zero=>unfold At at hx;exact hx.elim
   |succ m=>
    unfold At at hx hy;obtain⟨a,xs,e0,e1,lz,p1⟩:=hx;obtain⟨b,ys,JW,e2,_,p2⟩:=hy;exact .inl ⟨a,b,xs,ys,ds,.type "list",true,false,m,e0,JW,.lst e1,.lst e2,Zef,Zeg,Zeh,Zei,Zej,.inl (ak.of e1),.inl (ak.of e2),lz,p1,p2,rfl⟩
  |tup ds=>
   cases k with
   |zero=>unfold At at hx;exact hx.elim
   |succ m=>
    unfold At at hx hy;obtain⟨a,xs,e0,e1,lz,p1⟩:=hx;obtain⟨b,ys,JW,e2,_,p2⟩:=hy;exact .inl ⟨a,b,xs,ys,ds,.type "tuple",false,true,m,e0,JW,.tup e1,.tup e2,Zek,Zel,Zem,Zen,Zeo,.inr (aA.of e1),.inr (aA.of e2),lz,p1,p2,rfl⟩
 clear hx hy;rcases sq with⟨p,r,xs,ys,ds,t,b1,b2,m,rfl,rfl,T1,T2,kb,ki,ksr,kl,kt,hp,hq,hz,p1,p2,ek⟩|⟨rfl,rfl⟩|⟨b,rfl,rfl⟩|⟨i,rfl,rfl⟩|⟨z,rfl,rfl⟩
 ·have l1:=cR p1;have l2:=cR p2;refine⟨_,rfl,rfl,_,rfl,?_⟩;refine bI (λc=>absurd (of_decide_eq_true c) (λz=>nomatch z)) (λ_=>aZ ?_);refine⟨_,rfl,_,_,_,false,rfl,T2,kb,_,rfl,cj (aZ ?_)⟩;refine⟨_,rfl,_,_,_,false,rfl,T2,ki,_,rfl,cj (aZ ?_)⟩;refine⟨_,rfl,_,_,_,false,rfl,T2,ksr,_,rfl,cj (aZ ?_)⟩;refine⟨_,rfl,_,_,_,b1,rfl,T2,kl,_,rfl,_,_,_,b1,rfl,T1,kl,rfl,_,rfl,t8 rfl ?_⟩;refine⟨_,rfl,_,_,_,b2,rfl,T2,kt,_,rfl,_,_,_,b2,rfl,T1,kt,rfl,_,rfl,t8 rfl (aZ ?_)⟩;refine⟨_,rfl,p,_,rfl,hp,_,rfl,r,_,rfl,hq,rfl,_,rfl,t8 (by rw[l1,l2]) (aZ ?_)⟩;refine⟨_,rfl,r,_,rfl,hq,_,rfl,by omega,by omega,λD hD=>vw (lo:=0) (n:=((ys.length:Nat):Int).toNat)
   (λi zs H1=>aj H H1/\H1 D=some (.lst zs)/\zs=(List.replicate i true).map V.bl) ⟨cq hD _,aW,rfl⟩ ?_ ?_⟩
  ·rintro i zs H1 hi ⟨g,h1,rfl⟩;rw[Y6] at hi;have sq:∀{a:Addr} {us:List V},(ak K H a us\/aA K H a us)->(ak K H1 a us\/aA K H1 a us):=λ{a us} z=>by
    rcases z with z|z;·exact .inl (g.seq z)
    ·exact .inr (g.iR z)
   have gx:xs[i]?=some xs[i]:=Yc (by omega);have gy:ys[i]?=some ys[i]:=Yc (by omega);obtain⟨d1,e1,a1⟩:=fk p1 gx;obtain⟨d2,e2,a2⟩:=fk p2 gy;rw[e1] at e2;cases e2;refine jB (c6 ?_);refine⟨_,rfl,_,rfl,QX (sq hp) gx ?_⟩;refine⟨_,rfl,_,rfl,QX (sq hq) gy ?_⟩;refine⟨_,_,d1,m,rfl,ek,a1.same g,a2.same g,λH2 g2=>?_⟩;refine⟨g2 _ _ h1,by rw[Ya,Wx];exact jo (by omega),λb o e=>?_,aW,?_⟩
   ·rw[bg (ck e hD)];exact g2 b o (g b o e)
   ·rw[List.replicate_succ',Yp];rfl
  ·rintro zs H1 ⟨g,h1,e⟩;refine⟨D,_,rfl,ak.of (by rw[h1,e]),?_⟩;rw[all_true];exact q H1 g
 ·refine⟨_,rfl,rfl,_,rfl,?_⟩;refine bI (λc=>?_) (λc=>absurd (yE _) c);exact⟨_,rfl,rfl,q H (aj.refl H)⟩
 ·refine⟨_,rfl,rfl,_,rfl,?_⟩;refine bI (λc=>absurd (of_decide_eq_true c) (λz=>nomatch z)) (λ_=>aZ ?_);refine⟨_,rfl,_,_,_,true,rfl,.bl b,QO,_,rfl,c6 ?_⟩;refine⟨_,rfl,_,_,_,true,rfl,.bl b,QO,_,rfl,c6 ?_⟩;refine⟨_,rfl,_,rfl,rfl,?_⟩;rw[yE];exact q H (aj.refl H)
 ·refine⟨_,rfl,rfl,_,rfl,?_⟩;refine bI (λc=>absurd (of_decide_eq_true c) (λz=>nomatch z)) (λ_=>aZ ?_);refine⟨_,rfl,_,_,_,false,rfl,.int i,GB,_,rfl,cj (aZ ?_)⟩;refine⟨_,rfl,_,_,_,true,rfl,.int i,QN,_,rfl,c6 ?_⟩;refine⟨_,rfl,_,_,_,true,rfl,.int i,QN,_,rfl,c6 ?_⟩;refine⟨_,rfl,_,_,_,false,rfl,.int i,GB,_,rfl,_,rfl,c6 ?_⟩;refine⟨_,rfl,_,rfl,rfl,?_⟩;rw[yE];exact q H (aj.refl H)
 ·refine⟨_,rfl,rfl,_,rfl,?_⟩;refine bI (λc=>absurd (of_decide_eq_true c) (λz=>nomatch z)) (λ_=>aZ ?_);refine⟨_,rfl,_,_,_,false,rfl,.str z,Zed,_,rfl,cj (aZ ?_)⟩;refine⟨_,rfl,_,_,_,false,rfl,.str z,Zee,_,rfl,cj (aZ ?_)⟩;refine⟨_,rfl,_,_,_,true,rfl,.str z,QP,_,rfl,c6 ?_⟩;refine⟨_,rfl,_,_,_,true,rfl,.str z,QP,_,rfl,c6 ?_⟩;refine⟨_,rfl,_,rfl,rfl,?_⟩;rw[yE];exact q H (aj.refl H)
theorem same_none:aK P w K mg base aP 0 f fd ["_law_found","_law_due"] (qV 0):=by
 have no:∀vs H Q E,¬qV 0 vs H Q E:=λvs H Q E h=>by
  obtain⟨_,_,_,_,_,z,_⟩:=h;omega
 exact⟨λvs H Q E h=>absurd h (no vs H Q E),λA outer s H args us vs Q E _ _ _ _ h=>absurd h (no vs H Q E)⟩
theorem Pk(F:aN K "_law_same" "_law_same" yh f fd)(bS:Binds K fd ["_law_found","_law_due"] [])(kS:keepIn K (.ref f)=true)(m:mg "_law_same"=some (.ref f))(bl:Bl mg):
  ∀n:Nat,aK P w K mg base aP n f fd ["_law_found","_law_due"] (qV n)
 |0=>same_none
 |n+1=>Zb3 F ⟨f,fd,Pk F bS kS m bl n,bS,kS,m⟩ bl
end
inductive QY(K:PySem.W.Frag)(vs:List V)(H:Hp)(Q:VK):Prop
 |mk (p:Addr) (ns:List Int) (aE:vs=[.ref p]) (aT:Row K H p ns) (bw:ns.length<64) (bP:∀H',aj H H'->Q (.bl (full ns)) H'):QY K vs H Q
def Ip(K:PySem.W.Frag):Sp:=λvs H Q _=>QY K vs H Q
def bL(ys xs:List Int):List Int:=xs.map λx=>ys.getD x.toNat 0
theorem pG{ys:List Int}(h:full ys=true){x:Int}(hx:x∈ys):0<=x/\x<ys.length:=by
 have hm:=(pq h).subset hx;unfold bF at hm;obtain⟨i,hi,rfl⟩:=Ye.mp hm;have:=Wq.mp hi;omega
section
variable {c:Addr}
theorem Z_:aU ["row"] ["row"] (aM EW):=⟨rfl,rfl,rfl,by decide+kernel,rfl,by decide+kernel,by decide+kernel⟩
theorem Zaa(F:aN K "is_turn" "is_turn" EW f fd)(bl:Bl mg):aK P w K mg base aP 1 f fd ["row"] (Ip K):=by
 refine F.ok Z_ (λvs H Q E h=>?_) (λaF A outer s H vs Q E hr h=>?_)
 ·obtain⟨p,ns,rfl,_⟩:=h;rfl
 obtain⟨p,ns,rfl,hR,gn,q⟩:=h;have hu:=hr.tU;refine⟨_,(au (aR (eK (bM (Zge (K:=K) rfl rfl) rfl bl.Zfp Zea (ae (iH (x:="number") (fr:=[]) (cl:=[]) rfl ⟨by with_unfolding_all rfl,trivial,rfl,by decide+kernel,rfl,by decide+kernel,rfl,trivial,by decide+kernel⟩ (Zd9 (pv 0)) (λ_ _ _ _=>ku) (λ_ _ _ _=>(bM (kz (K:=K) rfl) rfl bl.kj kh (ae (pv 0) (ae (kH rfl bl.zf yP) ag))))) ag))) (aw (aH jv)) a_) (aw (aH (dw (QH hu) (bM (sortedK (K:=K) rfl) rfl bl.yD yr (ae (pv 0) ag)) (eI (CA rfl) rfl bl.tW tP (ae (eI ya rfl bl.jt tJ (ae (bM (c9 (K:=K) rfl) rfl bl.cX cV (ae (pv 0) ag)) ag)) ag)) (aQ _))))),?_⟩;have hl:(ns.map V.int).length=ns.length:=Ya _;have rest:∀(D:Addr) (H1:Hp),aj H H1->H1 D=some (.lst ((List.replicate ns.length false).map V.bl))->
   ∃(Ur:Addr) (bs:List Bool),[V.ref D]=[V.ref Ur]/\ak K H1 Ur (bs.map V.bl)/\tB (tC (V.bl (bs.any id))) [] H1 (λc H2=>if c=true then Q (.bl false) H2 else
    (R3 K false (eW 0)) [some (.ref p)] H2 Q):=λD H1 g1 h1=>by
  refine⟨D,_,rfl,ak.of h1,_,rfl,?_⟩;rw[any_false];refine cj ?_;exact ZbD rfl (Row.same g1 hR) gn λH' g=>q H' (g1.trans g)
 have turn:∀(D:Addr),H D=none->∀(i:Nat) (v:V) (ys:List V) (H1:Hp),(ns.map V.int)[i]?=some v->(aj H H1/\H1 D=some (.lst ys)/\ys=(List.replicate i false).map V.bl)->
   pY (Ii K) (fY (eW 0) (fY (tC (V.ty "bool")) i4)) [some v] H1 λy H3=>H3 D=some (.lst ys)/\ys.length<sizeLine/\
    (aj H (upd H3 D (.lst (ys++[y])))/\upd H3 D (.lst (ys++[y])) D=some (.lst (ys++[y]))/\ys++[y]=(List.replicate (i+1) false).map V.bl):=λD hD i v ys H1 hi ⟨g,h1,e⟩=>by
  obtain⟨z,rfl,hz⟩:=mj hi;have dH:i<ns.length:=(Yl.mp hz).1;refine⟨_,rfl,_,_,_,false,rfl,.int z,GB,h1,?_,λb o q=>?_,aW,?_⟩
  ·rw[e,Ya,Wx];exact jo (by omega)
  ·rw[bg (ck q hD)];exact g b o q
  ·rw[e,List.replicate_succ',Yp];rfl
 refine⟨_,rfl,p,rfl,?_⟩;rcases hR with xm|xm
 ·refine .inl ⟨⟨_,xm⟩,λD hD=>EN (xs:=ns.map V.int) (λi ys H1=>aj H H1/\H1 D=some (.lst ys)/\ys=(List.replicate i false).map V.bl) ⟨cq hD _,aW,rfl⟩ (λi ys H1 _ ⟨g,_,_⟩=>g.seq xm) (λi v ys H1 hi h=>jB (c6 (turn D hD i v ys H1 hi h))) ?_⟩;rintro ys H1 ⟨g,h1,e⟩;exact rest D H1 g (by rw[h1,e,hl])
 ·refine .inr ⟨⟨_,xm⟩,λD hD=>yC (xs:=ns.map V.int) (λi ys H1=>aj H H1/\H1 D=some (.lst ys)/\ys=(List.replicate i false).map V.bl) ⟨cq hD _,aW,rfl⟩ (λi ys H1 _ ⟨g,_,_⟩=>g.iR xm) (λi v ys H1 hi h=>jB (c6 (turn D hD i v ys H1 hi h))) ?_⟩;rintro ys H1 ⟨g,h1,e⟩;exact rest D H1 g (by rw[h1,e,hl])
end
inductive Pl(K:PySem.W.Frag)(vs:List V)(H:Hp)(Q:VK):Prop
 |mk (a b:Addr) (xs ys:List Int) (aE:vs=[.ref a,.ref b]) (aT:aA K H a (xs.map V.int)) (bw:aA K H b (ys.map V.int)) (bP:(∀x∈xs,0<=x/\x<ys.length)) (cN:xs.length<64) (dR:∀(t:Addr) (H':Hp),H t=none->aj H H'->H' t=some (.tup ((bL ys xs).map V.int))->Q (.ref t) H'):Pl K vs H Q
def G4(K:PySem.W.Frag):Sp:=λvs H Q _=>Pl K vs H Q
section
theorem Zn:aU ["first","then"] ["first","then"] (aM D9):=⟨rfl,rfl,rfl,by decide+kernel,rfl,by decide+kernel,by decide+kernel⟩
theorem Zo(F:aN K "followed" "followed" D9 f fd)(bl:Bl mg):aK P w K mg base aP 1 f fd ["first","then"] (G4 K):=by
 refine F.ok Zn (λvs H Q E h=>?_) (λaF A outer s H vs Q E hr h=>?_)
 ·obtain⟨a,b,xs,ys,rfl,_⟩:=h;rfl
 obtain⟨a,b,xs,ys,rfl,hA,hB,qc,hl,q⟩:=h;have al:(bL ys xs).length=xs.length:=by unfold bL;rw[Ya]
 refine⟨_,(aw (aH (eI (sL) rfl bl.mn mf (ae (iH (x:="section") (fr:=[("then",1)]) (cl:=[("then",s.heap.objs.size+1)]) rfl ⟨by with_unfolding_all rfl,⟨rfl,trivial⟩,rfl,by decide+kernel,rfl,by decide+kernel,rfl,⟨⟨rfl,.inl rfl,.inl rfl,rfl⟩,trivial⟩,by decide+kernel⟩ (Gu (pv 0)) (λ_ _ _ _=>ku) (λ_ _ _ _=>(aX (fU (K:=K) rfl) (pv 1) (pv 0) (λ_ _=>rfl)))) ag)))),?_⟩;refine⟨_,rfl,a,rfl,⟨_,hA⟩,λD hD=>yC (xs:=xs.map V.int) (λi zs H3=>aj H H3/\H3 D=some (.lst zs)/\zs=((bL ys xs).take i).map V.int) ⟨cq hD _,aW,rfl⟩ (λi zs H3 _ ⟨g3,_,_⟩=>g3.iR hA) ?_ ?_⟩
 ·rintro i v zs H3 hi ⟨g3,h3,e3⟩;obtain⟨z,rfl,hz⟩:=mj hi;have bz:=qc z (Yg hz);refine jB (c6 ⟨_,rfl,_,rfl,b,_,_,_,rfl,rfl,g3.iR hB,mC bz.1 bz.2,h3,?_,λd o qd=>?_,aW,?_⟩)
  ·rw[e3,Ya,Y8,al];exact jo (by omega)
  ·rw[bg (ck qd hD)];exact g3 d o qd
  ·rw[e3,Y2,EO];unfold bL;rw[Yf,hz];rfl
 ·rintro zs H3 ⟨g3,h3,e3⟩;refine⟨D,_,rfl,.inl ⟨ak.of h3,λt ht=>q t _ (g3.free ht) (g3.trans (cq ht _)) ?_⟩⟩;show upd H3 t (.tup zs) t=_;rw[aW,e3,Ya,Wt (by rw[al];omega)]
end
def jC(x:Int):List Int->Nat
 |[]=>0
 |y::r=>if y=x then 0 else jC x r+1
theorem yF{x:Int}:∀{l:List Int},x∈l->l[jC x l]?=some x/\∀m,m<jC x l->l[m]?≠some x
 |[],h=>by cases h
 |y::r,h=>by
  unfold jC;by_cases e:y=x;·grind
  ·rw[if_neg e];obtain⟨h1,h2⟩:=yF ((Ym.mp h).resolve_left λz=>e z.symm);refine⟨by rw[List.getElem?_cons_succ];exact h1,λm hm=>?_⟩;cases m with
   |zero=>grind
   |succ m=>grind
theorem yu{l:List Int}(nd:l.Nodup){k:Nat}{x:Int}(h:l[k]?=some x):jC x l=k:=by
 obtain⟨h1,h2⟩:=yF (Yg h);exact(List.getElem?_inj (by rcases Yl.mp h1 with⟨z,_⟩;exact z) nd).mp (h1.trans h.symm)
def inv(xs:List Int):List Int:=(bF xs.length).map λi=>(jC i xs:Int)
theorem fq(xs:List Int):(inv xs).length=xs.length:=by unfold inv;rw[Ya,eG]
theorem yX{xs:List Int}{i:Nat}(h:i<xs.length):(inv xs)[i]?=some (jC (i:Int) xs:Int):=by
 unfold inv;rw[Yf,kZ h];rfl
theorem yi{xs:List Int}(h:full xs=true):xs.Nodup:=(pq h).nodup_iff.mpr (I_.Mu _)
theorem N7{xs:List Int}(h:full xs=true){i:Nat}(hi:i<xs.length):(i:Int)∈xs:=(pq h).symm.subset (Yg (kZ hi))
theorem js{xs:List Int}(h:full xs=true):full (inv xs)=true:=by
 have p:(xs.map λi=>(jC i xs:Int)).Perm (inv xs):=(pq h).map _;have e:xs.map (λi=>(jC i xs:Int))=bF xs.length:=by
  refine Wj λi=>?_;rw[Yf];by_cases hi:i<xs.length
  ·rw[kZ hi,Yc hi];show some (jC xs[i] xs:Int)=some (i:Int);rw[yu (yi h) (Yc hi)]
  ·rw[Y4 (by omega),Y4 (by rw[eG];omega)];rfl
 rw[e] at p;exact qM p.symm
theorem inv_inv{xs:List Int}(h:full xs=true):inv (inv xs)=xs:=by
 refine Wj λi=>?_;by_cases hi:i<xs.length
 ·rw[yX (by rw[fq];exact hi),Yc hi];have b:=pG h (Jo hi);have hk:(xs[i]).toNat<xs.length:=by omega
  have e:((xs[i].toNat:Nat):Int)=xs[i]:=by omega
  have g:(inv xs)[(xs[i]).toNat]?=some (i:Int):=by rw[yX hk,e,yu (yi h) (Yc hi)]
  rw[yu (yi (js h)) g,e]
 ·rw[Y4 (by rw[fq,fq];omega),Y4 (by omega)]
theorem N8{xs:List Int}{i:Nat}(hi:i<xs.length):(inv xs).take (i+1)=(inv xs).take i++[(jC (i:Int) xs:Int)]:=by
 rw[Y2,yX hi];rfl
inductive QZ(vs:List V)(H:Hp)(Q:VK):Prop
 |mk (a:Addr) (xs:List Int) (aE:vs=[.ref a]) (aT:H a=some (.tup (xs.map V.int))) (bw:xs.length<64) (bP:full xs=true) (cN:∀(t:Addr) (H':Hp),H t=none->aj H H'->H' t=some (.tup ((inv xs).map V.int))->Q (.ref t) H'):QZ vs H Q
def zP:Sp:=λvs H Q _=>QZ vs H Q
section
theorem Xs:aU ["turn"] ["turn"] (aM CC):=⟨rfl,rfl,rfl,by decide+kernel,rfl,by decide+kernel,by decide+kernel⟩
theorem Xt(F:aN K "turned_back" "turned_back" CC f fd)(bl:Bl mg):aK P w K mg base aP 1 f fd ["turn"] zP:=by
 refine F.ok Xs (λvs H Q E h=>?_) (λaF A outer s H1 vs Q E hr h=>?_)
 ·obtain⟨a,xs,rfl,_⟩:=h;rfl
 obtain⟨a,xs,rfl,hA,lx,fx,q⟩:=h;refine⟨_,(aw (aH (eI (sL) rfl bl.mn mf (ae (iH (x:="section") (fr:=[("turn",0)]) (cl:=[("turn",s.heap.objs.size+1)]) rfl ⟨by with_unfolding_all rfl,⟨rfl,trivial⟩,rfl,by decide+kernel,rfl,by decide+kernel,rfl,⟨⟨rfl,.inl rfl,.inl rfl,rfl⟩,trivial⟩,by decide+kernel⟩ (pj rfl bl.jt (ae (bM (c9 (K:=K) rfl) rfl bl.cX cV (ae (pv 0) ag)) ag)) (λ_ _ _ _=>ku) (λ_ _ _ _=>(L_ (pv 1) (ae (pv 0) ag)))) ag)))),?_⟩;have el:(xs.map V.int).length=xs.length:=Ya _;refine⟨_,rfl,a,_,rfl,.inr (aA.of hA),_,rfl,by rw[el];omega,by rw[el];omega,λD hD=>vw (lo:=0) (n:=(((xs.map V.int).length:Nat):Int).toNat)
   (λi zs H2=>aj H1 H2/\H2 D=some (.lst zs)/\zs=((inv xs).take i).map V.int) ⟨cq hD _,aW,rfl⟩ ?_ ?_⟩
 ·rintro i zs H2 hi ⟨g2,h2,e2⟩;rw[Y6,el] at hi;rw[J7];have hx:=yF (N7 fx hi);have xn:=g2 _ _ hA;refine jB (c6 ⟨_,rfl,a,xs,rfl,xn,_,rfl,(i:Int),jC (i:Int) xs,rfl,xn,hx.1,hx.2,h2,?_,λd o qd=>?_,aW,?_⟩)
  ·rw[e2,Ya,Y8,fq];exact jo (by omega)
  ·rw[bg (ck qd hD)];exact g2 d o qd
  ·rw[e2,N8 hi,Yp];rfl
 ·rintro zs H2 ⟨g2,h2,e2⟩;refine⟨D,_,rfl,.inl ⟨ak.of h2,λt ht=>q t _ (g2.free ht) (g2.trans (cq ht _)) ?_⟩⟩;rw[aW,e2,Y6,el,Wt (by rw[fq];omega)]
end
inductive Nd(vs:List V)(H:Hp)(Q:VK):Prop
 |mk (n:Nat) (aE:vs=[.int (n:Int)]) (aT:n<=1000) (bw:∀(t:Addr) (H':Hp),H t=none->aj H H'->H' t=some (.tup ((bF n).map V.int))->Q (.ref t) H'):Nd vs H Q
def F7:Sp:=λvs H Q _=>Nd vs H Q
section
variable {c:Addr}
theorem Zb4:aU ["size"] ["size"] (aM F6):=⟨rfl,rfl,rfl,by decide+kernel,rfl,by decide+kernel,by decide+kernel⟩
theorem Zb5(F:aN K "still" "still" F6 f fd)(bl:Bl mg):aK P w K mg base aP 1 f fd ["size"] F7:=by
 refine F.ok Zb4 (λvs H Q E h=>?_) (λaF A outer s H vs Q E hr h=>?_)
 ·obtain⟨n,rfl,_⟩:=h;rfl
 obtain⟨n,rfl,hn,q⟩:=h;refine⟨_,(aw (aH (eI (LZ rfl) rfl bl.mn mf (ae (eI ya rfl bl.jt tJ (ae (pv 0) ag)) ag)))),?_⟩;exact⟨_,rfl,_,rfl,λr uC=>⟨r,n,rfl,aW,hn,λt ht=>q t _ ((cq uC _).free ht) ((cq uC _).trans (cq ht _)) aW⟩⟩
end
inductive Pm(K:PySem.W.Frag)(vs:List V)(H:Hp)(Q:VK):Prop
 |mk (p:Addr) (ns:List Int) (aE:vs=[.ref p]) (aT:aA K H p (ns.map V.int)) (bw:ns.length<64) (bP:full ns=true) (cN:∀H',aj H H'->Q .aB H'):Pm K vs H Q
def G5(K:PySem.W.Frag):Sp:=λvs H Q _=>Pm K vs H Q
inductive Q0(K:PySem.W.Frag)(vs:List V)(H:Hp)(Q:VK):Prop
 |mk (a b:Addr) (xs ys:List Int) (aE:vs=[.ref a,.ref b]) (aT:aA K H a (xs.map V.int)) (bw:aA K H b (ys.map V.int)) (bP:xs.length<64) (cN:full xs=true) (dR:full ys=true) (hE:xs.length=ys.length) (iS:∀(t:Addr) (H':Hp),H t=none->aj H H'->H' t=some (.tup ((bL ys xs).map V.int))->Q (.ref t) H'):Q0 K vs H Q
def Iq(K:PySem.W.Frag):Sp:=λvs H Q _=>Q0 K vs H Q
inductive Q4(vs:List V)(H:Hp)(Q:VK):Prop
 |mk (a:Addr) (xs:List Int) (aE:vs=[.ref a]) (aT:H a=some (.tup (xs.map V.int))) (bw:xs.length<64) (bP:full xs=true) (cN:∀(t:Addr) (H':Hp),H t=none->aj H H'->H' t=some (.tup ((inv xs).map V.int))->Q (.ref t) H'):Q4 vs H Q
def S8:Sp:=λvs H Q _=>Q4 vs H Q
inductive N9(K:PySem.W.Frag)(vs:List V)(H:Hp)(Q:VK):Prop
 |mk (l a0:Addr) (as:List Addr) (n:Nat) (aE:vs=[.ref l]) (aT:ak K H l ((a0::as).map V.ref)) (bw:2<=n) (bP:n<=8) (cN:(∀a∈a0::as,∃xs:List Int,aA K H a (xs.map V.int)/\xs.length=n/\full xs=true)) (dR:∀H',aj H H'->Q .aB H'):N9 K vs H Q
def GG(K:PySem.W.Frag):Sp:=λvs H Q _=>N9 K vs H Q
inductive Md(K:PySem.W.Frag)(vs:List V)(H:Hp)(Q:VK):Prop
 |mk (m f w:Addr) (xs ys:List Int) (aE:vs=[.ref m,.ref f,.ref w]) (aT:aA K H m (xs.map V.int)) (bw:aA K H f ((bL xs ys).map V.int)) (bP:aA K H w (ys.map V.int)) (cN:full xs=true) (dR:full ys=true) (hE:xs.length=ys.length) (iS:xs.length<=8) (qa:∀H',aj H H'->Q .aB H'):Md K vs H Q
def Nf(K:PySem.W.Frag):Sp:=λvs H Q _=>Md K vs H Q
theorem qI(xs ys:List Int):(bL xs ys).length=ys.length:=by unfold bL;rw[Ya]
theorem Fy{xs ys:List Int}(fx:full xs=true)(fy:full ys=true)(e:xs.length=ys.length):full (bL xs ys)=true:=by
 have p1:(bL xs ys).Perm ((bF ys.length).map λx=>xs.getD x.toNat 0):=(pq fy).map _;have e2:((bF ys.length).map λx=>xs.getD x.toNat 0)=xs:=by
  refine Wj λi=>?_;rw[Yf];by_cases hi:i<ys.length
  ·rw[kZ hi]
   grind
  ·rw[Y4 (by rw[eG];omega),Y4 (by omega)];rfl
 rw[e2] at p1;exact qM (p1.trans (pq fx))
abbrev ZfG(n:Nat)(m f w d:Addr):List (Str×V):=[("size",.int (n:Int)),("mother",.ref m),("father",.ref f),("wife",.ref w),("steps",.ref d)]
abbrev vW(m f w im jf iw st:Addr):List (Key×V):=[(.inr "c",.ref m),(.inr "k",.ref f),(.inr "w",.ref w),(.inr "m",.ref im),(.inr "f",.ref jf),(.inr "h",.ref iw),(.inr "s",.ref st)]
def bW(H:Hp)(a:Addr)(ns:List Int):Prop:=H a=some (.tup (ns.map V.int))
inductive N_(H:Hp)(C L:Addr)(xs ys:List Int):Prop
 |mk (dx d m f w im jf iw st:Addr) (aE:H L=some (.ins C dx (ZfG xs.length m f w d))) (aT:H d=some (.dK (vW m f w im jf iw st))) (bw:bW H m xs) (bP:bW H f (bL xs ys)) (cN:bW H w ys) (dR:bW H im (inv xs)) (hE:bW H jf (inv (bL xs ys))) (iS:bW H iw (inv ys)) (qa:bW H st (bF xs.length)):N_ H C L xs ys
def ib(H:Hp)(C L:Addr)(xs ys:List Int):Prop:=N_ H C L xs ys
theorem ib.same{H H':Hp}{C L:Addr}{xs ys:List Int}(g:aj H H')(h:ib H C L xs ys):ib H' C L xs ys:=by
 obtain⟨dx,d,m,f,w,im,jf,iw,st,h1,h2,h3,h4,h5,h6,h7,h8,h9⟩:=h;exact⟨dx,d,m,f,w,im,jf,iw,st,g _ _ h1,g _ _ h2,g _ _ h3,g _ _ h4,g _ _ h5,g _ _ h6,g _ _ h7,g _ _ h8,g _ _ h9⟩
inductive Oa(C:Addr)(vs:List V)(H:Hp)(Q:VK):Prop
 |mk (x dx m f w:Addr) (xs ys:List Int) (aE:vs=[.ref x,.ref m,.ref f,.ref w]) (aT:H x=some (.ins C dx [])) (bw:bW H m xs) (bP:bW H f (bL xs ys)) (cN:bW H w ys) (dR:full xs=true) (hE:full ys=true) (iS:xs.length=ys.length) (qa:2<=xs.length) (w_:xs.length<=8) (Ir:∀H',(∀b o,H b=some o->b≠x->H' b=some o)->ib H' C x xs ys->Q .aB H'):Oa C vs H Q
def Q5(C:Addr):Sp:=λvs H Q _=>Oa C vs H Q
inductive MF(C:Addr)(vs:List V)(H:Hp)(Q:VK):Prop
 |mk (m w:Addr) (xs ys:List Int) (aE:vs=[.ref m,.ref w]) (aT:bW H m xs) (bw:bW H w ys) (bP:full xs=true) (cN:full ys=true) (dR:xs.length=ys.length) (hE:2<=xs.length) (iS:xs.length<=8) (qa:∀(L:Addr) (H':Hp),aj H H'->ib H' C L xs ys->Q (.ref L) H'):MF C vs H Q
def Ob(C:Addr):Sp:=λvs H Q _=>MF C vs H Q
structure ua(K:PySem.W.Frag)(C:Addr):Prop where
 cls:fL K C
 qW:dD K C "size"
 Zb6:dD K C "mother"
 Zb7:dD K C "father"
 ZeS:dD K C "wife"
 F8:dD K C "steps"
section
variable {c:Addr}
theorem XI:aU ["row"] ["row"] (aM C5):=⟨rfl,rfl,rfl,by decide+kernel,rfl,by decide+kernel,by decide+kernel⟩
theorem ZeT(F:aN K "check_turn" "check_turn" C5 f fd)(tE:HasFn P w K mg base 1 "is_turn" ["row"] (Ip K)):aK P w K mg base aP 2 f fd ["row"] (G5 K):=by
 refine F.ok XI (λvs H Q E h=>?_) (λaF A outer s H vs Q E hr h=>?_)
 ·obtain⟨p,ns,rfl,_⟩:=h;rfl
 obtain⟨p,ns,rfl,hT,gn,fl,q⟩:=h;refine⟨_,(aw (aR (iY (eK (aY tE hr (by omega) rfl (ae (pv 0) ag)))) fI a_)),?_⟩;refine⟨_,rfl,p,ns,rfl,.inr hT,gn,λH1 g=>⟨_,rfl,?_⟩⟩;rw[fl];exact cj (q H1 g)
theorem Za9:aU ["first","then"] ["first","then"] (aM Fv):=⟨rfl,rfl,rfl,by decide+kernel,rfl,by decide+kernel,by decide+kernel⟩
theorem ZfH(F:aN K "behind" "behind" Fv f fd)(qE:HasFn P w K mg base 2 "check_turn" ["row"] (G5 K))(ph:HasFn P w K mg base 1 "followed" ["first","then"] (G4 K))(bl:Bl mg):aK P w K mg base aP 3 f fd ["first","then"] (Iq K):=by
 refine F.ok Za9 (λvs H Q E h=>?_) (λaF A outer s H vs Q E hr h=>?_)
 ·obtain⟨a,b,xs,ys,rfl,_⟩:=h;rfl
 obtain⟨a,b,xs,ys,rfl,hA,hB,lx,fx,fy,eq,q⟩:=h;refine⟨_,(au (cA (aY qE hr (by omega) rfl (ae (pv 0) ag))) (au (cA (aY qE hr (by omega) rfl (ae (pv 1) ag))) (au (aR (bb lE (bM (c9 (K:=K) rfl) rfl bl.cX cV (ae (pv 0) ag)) (bM (c9 (K:=K) rfl) rfl bl.cX cV (ae (pv 1) ag)) (aQ _)) fI a_) (aw (aH (aY ph hr (by omega) rfl (ae (pv 0) (ae (pv 1) ag)))))))),?_⟩;refine⟨_,rfl,a,xs,rfl,hA,lx,fx,λH1 g1=>?_⟩;refine⟨_,rfl,b,ys,rfl,g1.iR hB,by omega,fy,λH2 g2=>?_⟩;have g:=g1.trans g2;have Us:=g.iR hA;have Ut:=g.iR hB;have el:∀zs:List Int,(zs.map V.int).length=zs.length:=λzs=>Ya _;refine⟨_,rfl,a,_,rfl,.inr Us,_,rfl,b,_,rfl,.inr Ut,rfl,_,rfl,t8 (by rw[el,el,eq]) (aZ ?_)⟩;exact⟨_,rfl,_,rfl,a,b,xs,ys,rfl,Us,Ut,λz hz=>by rw[←eq];exact pG fx hz,lx,λt H3 nt g3 ht=>q t H3 (g.free nt) (g.trans g3) ht⟩
theorem Zdd:aU ["turn"] ["turn"] (aM GF):=⟨rfl,rfl,rfl,by decide+kernel,rfl,by decide+kernel,by decide+kernel⟩
theorem ZfI(F:aN K "back" "back" GF f fd)(qE:HasFn P w K mg base 2 "check_turn" ["row"] (G5 K))(nA:HasFn P w K mg base 1 "turned_back" ["turn"] zP)(bl:Bl mg):aK P w K mg base aP 3 f fd ["turn"] S8:=by
 refine F.ok Zdd (λvs H Q E h=>?_) (λaF A outer s H vs Q E hr h=>?_)
 ·obtain⟨a,xs,rfl,_⟩:=h;rfl
 obtain⟨a,xs,rfl,hA,lx,fx,q⟩:=h;refine⟨_,(au (cA (aY qE hr (by omega) rfl (ae (pv 0) ag))) (aw (aH (aY nA hr (by omega) rfl (ae (pv 0) ag))))),?_⟩;refine⟨_,rfl,a,xs,rfl,aA.of hA,lx,fx,λH1 g1=>?_⟩;exact⟨_,rfl,a,xs,rfl,g1 _ _ hA,lx,fx,λt H2 nt g2 ht=>q t H2 (g1.free nt) (g1.trans g2) ht⟩
theorem CN:aU ["rows","size","row"] ["rows"] (aM C6):=⟨rfl,rfl,rfl,by decide+kernel,rfl,by decide+kernel,by decide+kernel⟩
theorem Zde(F:aN K "check_rows" "check_rows" C6 f fd)(tE:HasFn P w K mg base 1 "is_turn" ["row"] (Ip K)){t1 t2:Tok}(De:mg "LEAST_SIZE"=some (.int 2 t1))(DR:mg "MOST_SIZE"=some (.int 8 t2))(bl:Bl mg):aK P w K mg base aP 2 f fd ["rows"] (GG K):=by
 refine F.ok CN (λvs H Q E h=>?_) (λaF A outer s H vs Q E hr h=>?_)
 ·obtain⟨l,a0,as,n,rfl,_⟩:=h;rfl
 obtain⟨l,a0,as,n,rfl,hL,n2,n8,rows,q⟩:=h;refine⟨_,(au (bq (i:=1) CN.nd rfl (Or.inl rfl) (bM (c9 (K:=K) rfl) rfl bl.cX cV (ae (aX (bQ (K:=K) rfl) (pv 0) aG (λ_ _=>rfl)) ag))) (au (aR (PW.pt (pw_or (bb mH (pv 1) (dv (v:=.int (2)) rfl De ⟨_,rfl⟩) (aQ _)) (pw_or1 (bb GY (pv 1) (dv (v:=.int (8)) rfl DR ⟨_,rfl⟩) (aQ _))))) fI a_) (aw (fW PassesOwn.never rfl (eV (K:=K) rfl (pv 0)) (bo (i:=2) CN.nd rfl (Or.inl rfl)) (aw (aR (PW.pt (pw_or (bb lE (bM (c9 (K:=K) rfl) rfl bl.cX cV (ae (pv 2) ag)) (pv 1) (aQ _)) (pw_or1 (iY (eK (aY tE hr (by omega) rfl (ae (pv 2) ag))))))) fI a_)))))),?_⟩;have el:∀zs:List Int,(zs.map V.int).length=zs.length:=λzs=>Ya _;obtain⟨x0,h0,l0,f0⟩:=rows a0 Yh;refine⟨_,rfl,l,_,0,.ref a0,rfl,rfl,hL,gQ (j:=0) rfl,a0,_,rfl,.inr h0,?_⟩;rw[el,l0];refine⟨_,rfl,_,_,rfl,rfl,_,rfl,bI (λcc=>absurd (of_decide_eq_true cc) (by omega)) (λ_=>?_)⟩;refine⟨_,rfl,_,_,rfl,rfl,_,rfl,bI (λcc=>absurd (of_decide_eq_true cc) (by omega)) (λ_=>aZ ?_)⟩;refine⟨_,rfl,l,rfl,⟨_,hL⟩,jq (xs:=(a0::as).map V.ref) (λi σ H1=>aj H H1/\∃o2:Option V,σ=[some (.ref l),some (.int (n:Int)),o2]) ⟨aj.refl _,none,rfl⟩ (λi σ H1 _ ⟨g,_⟩=>g.seq hL) ?_ ?_⟩
 ·rintro i v σ H1 hi ⟨g,o2,rfl⟩;rw[Yf] at hi;obtain⟨a,ha,rfl⟩:∃a,a∈a0::as/\V.ref a=v:=by
   cases e:(a0::as)[i]? with
   |none=>rw[e] at hi;cases hi
   |some a=>grind
  obtain⟨xs,hx,lx,fx⟩:=rows a ha;refine⟨_,rfl,a,_,rfl,.inr (g.iR hx),_,rfl,rfl,_,rfl,t8 (by rw[el,lx]) ?_⟩;refine⟨_,rfl,a,xs,rfl,.inr (g.iR hx),by omega,λH2 g2=>⟨_,rfl,?_⟩⟩;rw[fx];exact cj (aZ ⟨g.trans g2,_,rfl⟩)
 ·rintro σ H1 ⟨g,o2,rfl⟩;exact q H1 g
theorem By:aU ["mother","father","wife","by_mothers","section"] ["mother","father","wife"] (aM BJ):=⟨rfl,rfl,rfl,by decide+kernel,rfl,by decide+kernel,by decide+kernel⟩
theorem Zab(F:aN K "check_parents" "check_parents" BJ f fd)(tL:HasFn P w K mg base 3 "behind" ["first","then"] (Iq K))(bl:Bl mg):aK P w K mg base aP 4 f fd ["mother","father","wife"] (Nf K):=by
 refine F.ok By (λvs H Q E h=>?_) (λaF A outer s H vs Q E hr h=>?_)
 ·obtain⟨m,fa,wi,xs,ys,rfl,_⟩:=h;rfl
 obtain⟨m,fa,wi,xs,ys,rfl,hM,hF,hW,fx,fy,eq,l8,q⟩:=h;refine⟨_,(au (bq (i:=3) By.nd rfl (Or.inl rfl) (aY tL hr (by omega) rfl (ae (pv 2) (ae (pv 0) ag)))) (aw (fW PassesOwn.never rfl (pj rfl bl.jt (ae (bM (c9 (K:=K) rfl) rfl bl.cX cV (ae (pv 1) ag)) ag)) (bo (i:=4) By.nd rfl (Or.inl rfl)) (aw (aR (bb lE (aX (fU (K:=K) rfl) (pv 3) (pv 4) (λ_ _=>rfl)) (aX (fU (K:=K) rfl) (pv 1) (pv 4) (λ_ _=>rfl)) (aQ _)) fI a_))))),?_⟩;have el:∀zs:List Int,(zs.map V.int).length=zs.length:=λzs=>Ya _;refine⟨_,rfl,_,rfl,wi,m,ys,xs,rfl,hW,hM,by omega,fy,fx,eq.symm,λt H1 nt g ht=>?_⟩;have al:=qI xs ys;refine⟨_,rfl,fa,_,rfl,.inr (g.iR hF),_,rfl,by rw[el];omega,by rw[el];omega,EJ (lo:=0) (n:=((((bL xs ys).map V.int).length:Nat):Int).toNat)
  (λi σ H2=>H2=H1/\∃o4:Option V,σ=[some (.ref m),some (.ref fa),some (.ref wi),some (.ref t),o4]) ⟨rfl,none,rfl⟩ ?_ ?_⟩
 ·rintro i σ H2 hi ⟨rfl,o4,rfl⟩;rw[Y6,el] at hi;have at_:dA ((bL xs ys).map V.int) (0+(i:Int))=some (.int ((bL xs ys).getD (0+(i:Int)).toNat 0)):=mC (by omega) (by omega);refine⟨_,rfl,_,rfl,t,_,_,_,rfl,rfl,aA.of ht,at_,_,rfl,_,rfl,fa,_,_,_,rfl,rfl,g.iR hF,at_,rfl,_,rfl,t8 rfl (aZ ⟨rfl,_,rfl⟩)⟩
 ·rintro σ H2 ⟨rfl,o4,rfl⟩;exact q _ g
end
theorem uD{f:Str}{y:V}{fs:List (Str×V)}{n:Nat}(h:fs.length<=n):(cP f y fs).length<=n+1:=Y3 (Dz f y fs) (Nat.succ_le_succ h)
theorem fs4(a b c d:V):cP "wife" d (cP "father" c (cP "mother" b (cP "size" a [])))=([("size",a),("mother",b),("father",c),("wife",d)]:List (Str×V)):=rfl
theorem fs5(a b c d e:V):cP "steps" e [("size",a),("mother",b),("father",c),("wife",d)]=([("size",a),("mother",b),("father",c),("wife",d),("steps",e)]:List (Str×V)):=rfl
theorem ds7(a b c d e f g:V):nX [] [(.inr "c",a),(.inr "k",b),(.inr "w",c),(.inr "m",d),(.inr "f",e),(.inr "h",f),(.inr "s",g)]=[(.inr "c",a),(.inr "k",b),(.inr "w",c),(.inr "m",d),(.inr "f",e),(.inr "h",f),(.inr "s",g)]:=rfl
section
variable {c:Addr}
theorem X8:aU ["self","mother","father","wife"] ["self","mother","father","wife"] (aM DM):=⟨rfl,rfl,rfl,by decide+kernel,rfl,by decide+kernel,by decide+kernel⟩
theorem Zdf(F:aN K "__init__" "Land.__init__" DM f fd)(lc:ua K C)(sO:HasFn P w K mg base 2 "check_rows" ["rows"] (GG K))(BQ:HasFn P w K mg base 4 "check_parents" ["mother","father","wife"] (Nf K))
  (vX:HasFn P w K mg base 3 "back" ["turn"] S8)(tQ:HasFn P w K mg base 1 "still" ["size"] F7)(bl:Bl mg):aK P w K mg base aP 5 f fd ["self","mother","father","wife"] (Q5 C):=by
 refine F.ok X8 (λvs H Q E h=>?_) (λaF A outer s H vs Q E hr h=>?_)
 ·obtain⟨x,dx,m,fa,wi,xs,ys,rfl,_⟩:=h;rfl
 obtain⟨x,dx,m,fa,wi,xs,ys,rfl,hx,hM,hF,hW,fx,fy,eq,l2,l8,q⟩:=h;refine⟨_,(au (cA (aY sO hr (by omega) rfl (ae (vP (ae (pv 1) (ae (pv 2) (ae (pv 3) ag)))) ag))) (au (cA (aY BQ hr (by omega) rfl (ae (pv 1) (ae (pv 2) (ae (pv 3) ag))))) (au (vO (pv 0) (bM (c9 (K:=K) rfl) rfl bl.cX cV (ae (pv 1) ag)) rfl) (au (vO (pv 0) (pv 1) rfl) (au (vO (pv 0) (pv 2) rfl) (au (vO (pv 0) (pv 3) rfl) (aw (vO (pv 0) (yS (jr bc (pv 1) (jr bc (pv 2) (jr bc (pv 3) (jr bc (aY vX hr (by omega) rfl (ae (pv 1) ag)) (jr bc (aY vX hr (by omega) rfl (ae (pv 2) ag)) (jr bc (aY vX hr (by omega) rfl (ae (pv 3) ag)) (jr bc (aY tQ hr (by omega) rfl (ae (bM (c9 (K:=K) rfl) rfl bl.cX cV (ae (pv 1) ag)) ag)) yR))))))) rfl rfl (λz=>nomatch z) (Ji rfl)) rfl)))))))),?_⟩;have el:∀zs:List Int,(zs.map V.int).length=zs.length:=λzs=>Ya _;have Uu:=Fy fx fy eq;have al:=qI xs ys;refine⟨_,rfl,_,rfl,_,rfl,by show 3<=sizeLine;decide,λl nl=>?_⟩;have g1:=cq nl (.lst [.ref m,.ref fa,.ref wi]);refine⟨l,m,[fa,wi],xs.length,rfl,ak.of aW,l2,l8,λa ha=>?_,λH2 g2=>?_⟩
 ·rcases Ym.mp ha with rfl|ha;·exact⟨xs,aA.of (g1 _ _ hM),rfl,fx⟩
  ·rcases Ym.mp ha with rfl|ha;·exact⟨bL xs ys,aA.of (g1 _ _ hF),by rw[al,eq],Uu⟩
   ·rw[Yn] at ha;subst ha;exact⟨ys,aA.of (g1 _ _ hW),eq.symm,fy⟩
 have qf:=g1.trans g2;refine⟨_,rfl,_,rfl,_,rfl,m,fa,wi,xs,ys,rfl,aA.of (qf _ _ hM),aA.of (qf _ _ hF),aA.of (qf _ _ hW),fx,fy,eq,l8,λH3 g3=>?_⟩;have g:=qf.trans g3;have Al:=g _ _ hx;have Am:=g _ _ hM;have JX:=g _ _ hF;have JY:=g _ _ hW;have nm:m≠x:=λe=>by rw[e,Al] at Am;cases Am
 have nf:fa≠x:=λe=>by rw[e,Al] at JX;cases JX
 have nw:wi≠x:=λe=>by rw[e,Al] at JY;cases JY
 refine⟨_,rfl,m,_,rfl,.inr (aA.of Am),_,rfl,x,C,dx,_,rfl,Al,lc.cls,lc.qW,by decide,?_⟩;refine⟨_,rfl,_,rfl,x,C,dx,_,rfl,aW,lc.cls,lc.Zb6,Wy (uD (Yd 0)) (by decide),?_⟩;refine⟨_,rfl,_,rfl,x,C,dx,_,rfl,aW,lc.cls,lc.Zb7,Wy (uD (uD (Yd 0))) (by decide),?_⟩;refine⟨_,rfl,_,rfl,x,C,dx,_,rfl,aW,lc.cls,lc.ZeS,Wy (uD (uD (uD (Yd 0)))) (by decide),?_⟩;rw[FY,FY,FY,el,fs4];have JZ:upd H3 x (.ins C dx [("size",.int (xs.length:Int)),("mother",.ref m),("father",.ref fa),("wife",.ref wi)]) x=some (.ins C dx [("size",.int (xs.length:Int)),("mother",.ref m),("father",.ref fa),("wife",.ref wi)]):=aW;have o4:∀b o,H3 b=some o->b≠x->upd H3 x (.ins C dx [("size",.int (xs.length:Int)),("mother",.ref m),("father",.ref fa),("wife",.ref wi)]) b=some o:=λb o e n=>by rw[bg n];exact e
 generalize upd H3 x (.ins C dx [("size",.int (xs.length:Int)),("mother",.ref m),("father",.ref fa),("wife",.ref wi)])=H4 at JZ o4⊢;have J_:=o4 _ _ Am nm;have Uv:=o4 _ _ JX nf;have Uw:=o4 _ _ JY nw;intro d nd;have g5:=cq nd (.dK []);have Ka:upd H4 d (.dK []) d=some (.dK []):=aW;generalize upd H4 d (.dK [])=H5 at g5 Ka⊢;refine⟨_,rfl,_,rfl,_,rfl,?_⟩;refine⟨_,rfl,m,xs,rfl,g5 _ _ J_,by omega,fx,λim H6 nim g6 Kb=>?_⟩;refine⟨_,rfl,fa,bL xs ys,rfl,g6 _ _ (g5 _ _ Uv),by omega,Uu,λjf H7 njf g7 Kc=>?_⟩;refine⟨_,rfl,wi,ys,rfl,g7 _ _ (g6 _ _ (g5 _ _ Uw)),by omega,fy,λiw H8 niw g8 hiw=>?_⟩;have Ux:=(g6.trans g7).trans g8;refine⟨_,rfl,m,_,rfl,.inr (aA.of (Ux _ _ (g5 _ _ J_))),xs.length,by rw[el];rfl,by omega,λst H9 An g9 gZ=>?_⟩;have lW:=Ux.trans g9;refine⟨lW _ _ Ka,vW m fa wi im jf iw st,rfl,by show 7<=15;decide,?_⟩;have iU:d≠x:=ck JZ nd |>.symm;have Uy:=lW _ _ (g5 _ _ JZ);refine⟨_,rfl,x,C,dx,_,rfl,by rw[bg iU.symm];exact Uy,lc.cls,lc.F8,by show 4<1000;decide,?_⟩;rw[fs5,ds7];have key:∀{b:Addr} {o:HO},H9 b=some o->b≠d->b≠x->upd (upd H9 d (.dK (vW m fa wi im jf iw st))) x (.ins C dx [("size",.int (xs.length:Int)),("mother",.ref m),("father",.ref fa),("wife",.ref wi),("steps",.ref d)]) b=some o:=λ{b o} e n1 n2=>by
  rw[bg n2,bg n1];exact e
 have rH:∀{b:Addr} {zs:List Int},H9 b=some (.tup (zs.map V.int))->bW (upd (upd H9 d (.dK (vW m fa wi im jf iw st))) x (.ins C dx [("size",.int (xs.length:Int)),("mother",.ref m),("father",.ref fa),("wife",.ref wi),("steps",.ref d)])) b zs:=λ{b zs} e=>
  key e (λz=>by rw[z,lW _ _ Ka] at e;cases e) (λz=>by rw[z,Uy] at e;cases e)
 refine q _ (λb o e n=>?_) ⟨dx,d,m,fa,wi,im,jf,iw,st,aW,by rw[bg iU];exact aW,rH (lW _ _ (g5 _ _ J_)),rH (lW _ _ (g5 _ _ Uv)),rH (lW _ _ (g5 _ _ Uw)),rH (g9 _ _ (g8 _ _ (g7 _ _ Kb))),rH (g9 _ _ (g8 _ _ Kc)),rH (g9 _ _ hiw),rH gZ⟩;have e4:=o4 _ _ (g _ _ e) n;refine key (lW _ _ (g5 _ _ e4)) (ck e4 nd) n
theorem Zac:aU ["mother","wife"] ["mother","wife"] (aM EX):=⟨rfl,rfl,rfl,by decide+kernel,rfl,by decide+kernel,by decide+kernel⟩
theorem Zad(F:aN K "land_of" "land_of" EX f fd)(sO:HasFn P w K mg base 2 "check_rows" ["rows"] (GG K))(tL:HasFn P w K mg base 3 "behind" ["first","then"] (Iq K))
  (GH:wb P w K mg base 5 "Land" C ["self","mother","father","wife"] (Q5 C)):aK P w K mg base aP 7 f fd ["mother","wife"] (Ob C):=by
 refine F.ok Zac (λvs H Q E h=>?_) (λaF A outer s H vs Q E hr h=>?_)
 ·obtain⟨m,wi,xs,ys,rfl,_⟩:=h;rfl
 obtain⟨m,wi,xs,ys,rfl,hM,hW,fx,fy,eq,l2,l8,q⟩:=h;refine⟨_,(au (cA (aY sO hr (by omega) rfl (ae (vP (ae (pv 0) (ae (pv 1) ag))) ag))) (aw (aH (GZ GH hr (by omega) rfl (ae (pv 0) (ae (aY tL hr (by omega) rfl (ae (pv 1) (ae (pv 0) ag))) (ae (pv 1) ag))))))),?_⟩;refine⟨_,rfl,_,rfl,by show 2<=sizeLine;decide,λl nl=>?_⟩;have g1:=cq nl (.lst [.ref m,.ref wi]);refine⟨l,m,[wi],xs.length,rfl,ak.of aW,l2,l8,λa ha=>?_,λH2 g2=>?_⟩
 ·rcases Ym.mp ha with rfl|ha;·exact⟨xs,aA.of (g1 _ _ hM),rfl,fx⟩
  ·rw[Yn] at ha;subst ha;exact⟨ys,aA.of (g1 _ _ hW),eq.symm,fy⟩
 have g:=g1.trans g2;refine⟨_,rfl,_,rfl,_,rfl,wi,m,ys,xs,rfl,aA.of (g _ _ hW),aA.of (g _ _ hM),by omega,fy,fx,eq.symm,λfa H3 Uz g3 cY=>?_⟩;have eY:=g.trans g3;refine⟨_,rfl,λx dx nx xp ne=>?_⟩;have xq:upd H3 dx (.own x) x=none:=by rw[bg (λz=>ne z.symm)];exact nx
 have g4:aj H3 (upd (upd H3 dx (.own x)) x (.ins C dx [])):=(cq xp _).trans (cq xq _);refine⟨x,dx,m,fa,wi,xs,ys,rfl,aW,g4 _ _ (eY _ _ hM),g4 _ _ cY,g4 _ _ (eY _ _ hW),fx,fy,eq,l2,l8,λH5 k5 la=>⟨rfl,q x H5 (λb o e=>?_) la⟩⟩;have e3:=eY _ _ e;exact k5 b o (g4 _ _ e3) (ck e3 nx)
end
abbrev zm(xs ys:List Int):List (Str×List Int):=[("c",xs),("k",bL xs ys),("w",ys),("m",inv xs),("f",inv (bL xs ys)),("h",inv ys),("s",bF xs.length)]
inductive Oc(C:Addr)(vs:List V)(H:Hp)(Q:VK):Prop
 |mk (L:Addr) (z:Str) (xs ys ns:List Int) (aE:vs=[.ref L,.str z]) (aT:ib H C L xs ys) (bw:(z,ns)∈zm xs ys) (bP:∀t:Addr,bW H t ns->Q (.ref t) H):Oc C vs H Q
def Q6(C:Addr):Sp:=λvs H Q _=>Oc C vs H Q
theorem step_at{H:Hp}{xs ys ns:List Int}{z:Str}{m f w im jf iw st:Addr}(h:(z,ns)∈zm xs ys)(h3:bW H m xs)(h4:bW H f (bL xs ys))(h5:bW H w ys)(h6:bW H im (inv xs))(h7:bW H jf (inv (bL xs ys)))(h8:bW H iw (inv ys))(h9:bW H st (bF xs.length)):
  ∃t,aS (vW m f w im jf iw st) (.inr z)=some (.ref t)/\bW H t ns:=by
 simp only[Ym,Y0,or_false] at h;rcases h with⟨rfl,rfl⟩|⟨rfl,rfl⟩|⟨rfl,rfl⟩|⟨rfl,rfl⟩|⟨rfl,rfl⟩|⟨rfl,rfl⟩|⟨rfl,rfl⟩;·exact⟨m,rfl,h3⟩
 ·exact⟨f,rfl,h4⟩
 ·exact⟨w,rfl,h5⟩
 ·exact⟨im,rfl,h6⟩
 ·exact⟨jf,rfl,h7⟩
 ·exact⟨iw,rfl,h8⟩
 ·exact⟨st,rfl,h9⟩
section
theorem X9:aU ["self","letter"] ["self","letter"] (aM DN):=⟨rfl,rfl,rfl,by decide+kernel,rfl,by decide+kernel,by decide+kernel⟩
theorem Zdg(F:aN K "step" "Land.step" DN f fd)(lc:ua K C):aK P w K mg base aP 1 f fd ["self","letter"] (Q6 C):=by
 refine F.ok X9 (λvs H Q E h=>?_) (λaF A outer s H vs Q E hr h=>?_)
 ·obtain⟨L,z,xs,ys,ns,rfl,_⟩:=h;rfl
 obtain⟨L,z,xs,ys,ns,rfl,la,hz,q⟩:=h;refine⟨_,(au (aR (kA (nH (bH hr) (pv 1) (aV (K:=K) rfl (pv 0) rfl)) (by with_unfolding_all rfl)) fI a_) (aw (aH (dh (bH hr) (aV (K:=K) rfl (pv 0) rfl) (pv 1) (λ_ _=>rfl))))),?_⟩;obtain⟨dx,d,m,fa,wi,im,jf,iw,st,h1,h2,h3,h4,h5,h6,h7,h8,h9⟩:=la;obtain⟨t,hv,ht⟩:=step_at hz h3 h4 h5 h6 h7 h8 h9;have dg:=hv▸dW.k h2;exact⟨_,rfl,_,rfl,L,C,dx,_,.ref d,rfl,h1,lc.cls,lc.F8,rfl,d,_,rfl,dg,_,rfl,cj (aZ ⟨_,rfl,L,C,dx,_,.ref d,rfl,h1,lc.cls,lc.F8,rfl,_,rfl,d,_,rfl,dg,q t ht⟩)⟩
end
structure JS where
 hd:List Nat
 ld:List (List Int)
 mem:List (Nat×List Nat)
 fr:List (Nat×List Int)
structure JL where
 J:Addr
 ha:Addr
 la:Addr
 md:Addr
 fd:Addr
 eC:List Addr
 fF:List Addr
 bZ:List Addr
def JL.fp(l:JL):List Addr:=l.J::l.ha::l.la::l.md::l.fd::l.fF
abbrev JF(n:Nat)(ha la md fd:Addr):List (Str×V):=[("size",.int (n:Int)),("heads",.ref ha),("leads",.ref la),("members",.ref md),("free",.ref fd)]
theorem jf5(a b c d e:V):cP "free" e (cP "members" d (cP "leads" c (cP "heads" b (cP "size" a []))))=([("size",a),("heads",b),("leads",c),("members",d),("free",e)]:List (Str×V)):=rfl
abbrev dI(is:List Nat):List V:=is.map λi:Nat=>V.int (i:Int)
def bB(ks:List Nat)(as:List Addr):List (Key×V):=(ks.zip as).map λp=>(.inl (p.1:Int),.ref p.2)
structure cJ(H:Hp)(C:Addr)(n:Nat)(l:JL)(st:JS):Prop where
 obj:∃dx,H l.J=some (.ins C dx (JF n l.ha l.la l.md l.fd))
 heads:H l.ha=some (.lst (dI st.hd))
 ie:H l.la=some (.lst (l.eC.map V.ref))
 lead:Paired (λa xs=>H a=some (.tup (xs.map V.int))) l.eC st.ld
 i8:H l.md=some (.dK (bB (st.mem.map (·.1)) l.fF))
 mem:Paired (λa p=>H a=some (.lst (dI p.2))) l.fF st.mem
 frees:H l.fd=some (.dK (bB (st.fr.map (·.1)) l.bZ))
 free:Paired (λa p=>H a=some (.lst (p.2.map V.int))) l.bZ st.fr
 nd:l.fp.Nodup
 out:∀a∈l.bZ,a∉l.fp
theorem cJ.same{H H':Hp}{C:Addr}{n:Nat}{l:JL}{st:JS}(g:aj H H')(a:cJ H C n l st):cJ H' C n l st:=
 ⟨let⟨dx,h⟩:=a.obj;⟨dx,g _ _ h⟩,g _ _ a.heads,g _ _ a.ie,L2.Paired.bu a.lead λ_ _ h=>g _ _ h,g _ _ a.i8,L2.Paired.bu a.mem λ_ _ h=>g _ _ h,g _ _ a.frees,L2.Paired.bu a.free λ_ _ h=>g _ _ h,a.nd,a.out⟩
theorem vA{α β:Type}{F:α->β->Prop}:∀{xs:List α} {ys:List β} {x:α},Paired F xs ys->x∈xs->∃y,F x y:=by
 intro xs ys x p;induction p with
 |nil=>grind
 |cons f t ih=>grind
theorem cJ.ne{H:Hp}{C p:Addr}{n:Nat}{l:JL}{st:JS}(a:cJ H C n l st)(h:H p=none):p∉l.fp:=by
 intro z;unfold JL.fp at z;simp only[Ym] at z;rcases z with rfl|rfl|rfl|rfl|rfl|z
 ·obtain⟨dx,e⟩:=a.obj
  grind
 ·rw[a.heads] at h;cases h
 ·rw[a.ie] at h;cases h
 ·rw[a.i8] at h;cases h
 ·rw[a.frees] at h;cases h
 ·obtain⟨y,e⟩:=vA a.mem z
  grind
theorem nI{α:Type}{H:Hp}{f:α->HO}:∀{as:List Addr} {ps:List (Nat×α)} {k:Nat} {v:α},Paired (λa p=>H a=some (f p.2)) as ps->ps.lookup k=some v->∃a,a∈as/\aS (bB (ps.map (·.1)) as) (.inl (k:Int))=some (.ref a)/\H a=some (f v):=by
 intro as ps k v pr;induction pr with
 |nil=>grind
 |@cons a p as ps e t ih=>
  intro h;have e0:bB ((p::ps).map (·.1)) (a::as)=(Sum.inl (p.1:Int),V.ref a)::bB (ps.map (·.1)) as:=rfl;rw[W0] at h;by_cases ek:k=p.1
  ·have eb:(k==p.1)=true:=beq_iff_eq.mpr ek;rw[eb] at h;exact⟨a,Yh,fw (p:=((Sum.inl (p.1:Int):Key),V.ref a)) (by rw[ek]),by rw[←(Yo h)];exact e⟩
  ·have eb:(k==p.1)=false:=beq_eq_false_iff_ne.mpr ek;rw[eb] at h;obtain⟨b,hb,q,w⟩:=ih h;refine⟨b,Yx _ hb,?_,w⟩;rw[e0,eU (p:=((Sum.inl (p.1:Int):Key),V.ref a)) (λz=>ek (by have:=Ao z;omega))];exact q
theorem Zb8{q k:Nat}{ks:List Nat}{v:V}(z:((Sum.inl (q:Int):Key),v).1=.inl (k:Int)):k∈q::ks:=by
 grind
theorem yv:∀{as:List Addr} {ks:List Nat} {k:Nat},k∉ks->aS (bB ks as) (.inl (k:Int))=none
 |[],ks,k,_=>by unfold bB;rw[List.zip_nil_right];rfl
 |a::as,[],k,_=>rfl
 |a::as,q::ks,k,h=>by
  have e0:bB (q::ks) (a::as)=(Sum.inl (q:Int),V.ref a)::bB ks as:=rfl;rw[e0,eU (p:=((Sum.inl (q:Int):Key),V.ref a)) (λz=>h (Zb8 z))];exact yv λz=>h (Yx _ z)
theorem yj:∀{ks:List Nat} {as:List Addr} (k:Nat) (a:Addr),ks.length=as.length->bB ks as++[(.inl (k:Int),.ref a)]=bB (ks++[k]) (as++[a])
 |[],[],_,_,_=>rfl
 |q::ks,b::as,k,a,h=>by
  have e0:bB (q::ks) (b::as)=(Sum.inl (q:Int),V.ref b)::bB ks as:=rfl;rw[e0,Ug,(yj (ks:=ks) (as:=as) k a (by simpa using h))];rfl
 |[],_::_,_,_,h=>by simp at h
 |_::_,[],_,_,h=>by simp at h
structure mE(K:PySem.W.Frag)(C:Addr):Prop where
 cls:fL K C
 qW:dD K C "size"
 ju:dD K C "heads"
 mw:dD K C "leads"
 tF:dD K C "members"
 qX:dD K C "free"
def JS.more(n:Nat)(st:JS):JS:=⟨st.hd++[st.hd.length],st.ld++[bF n],st.mem++[(st.hd.length,[st.hd.length])],st.fr++[(st.hd.length,bF n)]⟩
inductive Od(C:Addr)(vs:List V)(H:Hp)(Q:VK):Prop
 |mk (x dx:Addr) (n:Nat) (aE:vs=[.ref x,.int (n:Int)]) (aT:H x=some (.ins C dx [])) (bw:∀(l:JL) (H':Hp),l.J=x->l.fF=[]->(∀b∈l.fp,b≠x->H b=none)->az x H H'->cJ H' C n l ⟨[],[],[],[]⟩->Q .aB H'):Od C vs H Q
def Pn(C:Addr):Sp:=λvs H Q _=>Od C vs H Q
inductive Me(C:Addr)(vs:List V)(H:Hp)(Q:VK):Prop
 |mk (l:JL) (st:JS) (n i j a b:Nat) (aE:vs=[.ref l.J,.int (i:Int),.int (j:Int)]) (aT:cJ H C n l st) (bw:st.hd[i]?=some a) (bP:st.hd[j]?=some b) (cN:Q (.bl (decide (a=b))) H):Me C vs H Q
def Em(C:Addr):Sp:=λvs H Q _=>Me C vs H Q
inductive Ng(C:Addr)(vs:List V)(H:Hp)(Q:VK):Prop
 |mk (l:JL) (st:JS) (n i h:Nat) (t secs:List Int) (aE:vs=[.ref l.J,.int (i:Int)]) (aT:cJ H C n l st) (bw:st.hd[i]?=some h) (bP:st.ld[i]?=some t) (cN:st.fr.lookup h=some secs) (dR:(∀z∈secs,0<=z/\z<t.length)) (hE:secs.length<64) (iS:∀(p:Addr) (ns:List Int) (H':Hp),H p=none->aj H H'->ns.Perm (secs.map λz=>t.getD z.toNat 0)->ns.Pairwise (·<=·)->H' p=some (.lst (ns.map V.int))->Q (.ref p) H'):Ng C vs H Q
def yG(C:Addr):Sp:=λvs H Q _=>Ng C vs H Q
inductive Q7(C:Addr)(vs:List V)(H:Hp)(Q:VK):Prop
 |mk (l:JL) (st:JS) (n:Nat) (aE:vs=[.ref l.J]) (aT:cJ H C n l st) (bw:n<=1000) (bP:st.hd.length<1000) (cN:st.mem.length<=st.hd.length) (dR:st.fr.length<=st.hd.length) (hE:st.ld.length=st.hd.length) (iS:st.hd.length∉st.mem.map (·.1)) (qa:st.hd.length∉st.fr.map (·.1)) (w_:∀(l':JL) (H':Hp),l'.J=l.J->Out l.fp H H'->(∀b∈l'.fp,b∈l.fp\/H b=none)->cJ H' C n l' (st.more n)->Q (.int (st.hd.length:Int)) H'):Q7 C vs H Q
def G6(C:Addr):Sp:=λvs H Q _=>Q7 C vs H Q
theorem nS{is:List Nat}{i h:Nat}(e:is[i]?=some h):dA (dI is) (i:Int)=some (.int (h:Int)):=gQ (by rw[Yf,e];rfl)
section
theorem XJ:aU ["self","size"] ["self","size"] (aM C7):=⟨rfl,rfl,rfl,by decide+kernel,rfl,by decide+kernel,by decide+kernel⟩
theorem Zb9(F:aN K "__init__" "Joins.__init__" C7 f fd)(jc:mE K C)(bl:Bl mg):aK P w K mg base aP 1 f fd ["self","size"] (Pn C):=by
 refine F.ok XJ (λvs H Q E h=>?_) (λaF A outer s H vs Q E hr h=>?_)
 ·obtain⟨x,dx,n,rfl,_⟩:=h;rfl
 obtain⟨x,dx,n,rfl,hx,q⟩:=h;refine⟨_,(au (fV (K:=K) rfl (pv 0) (pv 1)) (au (fV (K:=K) rfl (pv 0) (cZ ag)) (au (fV (K:=K) rfl (pv 0) (cZ ag)) (au (fV (K:=K) rfl (pv 0) qK) (aw (fV (K:=K) rfl (pv 0) qK)))))),?_⟩;refine⟨_,rfl,_,rfl,x,C,dx,[],rfl,hx,jc.cls,jc.qW,by show 0<1000;omega,λH1 b1 h1=>?_⟩;refine⟨by show 0<=sizeLine;exact Yv _,λha H2 n2 g2 e2=>⟨_,rfl,x,C,dx,_,rfl,g2 _ _ h1,jc.cls,jc.ju,by show 1<1000;omega,λH3 b3 h3=>?_⟩⟩;refine⟨by show 0<=sizeLine;exact Yv _,λla H4 n4 g4 e4=>⟨_,rfl,x,C,dx,_,rfl,g4 _ _ h3,jc.cls,jc.mw,by show 2<1000;omega,λH5 b5 h5=>?_⟩⟩;refine λmd H6 n6 g6 e6=>⟨_,rfl,x,C,dx,_,rfl,g6 _ _ h5,jc.cls,jc.tF,by show 3<1000;omega,λH7 b7 h7=>?_⟩;refine λfe H8 n8 g8 e8=>⟨_,rfl,x,C,dx,_,rfl,g8 _ _ h7,jc.cls,jc.qX,by show 4<1000;omega,λH9 b9 h9=>?_⟩;rw[jf5] at h9;have k8:az x H8 H9:=b9;have k6:az x H6 H9:=b7.trans ((az.of g8).trans k8);have k4:az x H4 H9:=b5.trans ((az.of g6).trans k6);have k2:az x H2 H9:=b3.trans ((az.of g4).trans k4);have k0:az x H H9:=b1.trans ((az.of g2).trans k2);have d2:ha≠x:=λz=>by rw[z,h1] at n2;cases n2
 have d4:la≠x:=λz=>by rw[z,h3] at n4;cases n4
 have d6:md≠x:=λz=>by rw[z,h5] at n6;cases n6
 have d8:fe≠x:=λz=>by rw[z,h7] at n8;cases n8
 have i3:=b3 _ _ e2 d2;have i5:=b5 _ _ (g4 _ _ i3) d2;have i7:=b7 _ _ (g6 _ _ i5) d2;have j5:=b5 _ _ e4 d4;have j7:=b7 _ _ (g6 _ _ j5) d4;have l7:=b7 _ _ e6 d6;have a1:ha≠la:=λz=>by rw[←z,i3] at n4;cases n4
 have a2:ha≠md:=λz=>by rw[←z,i5] at n6;cases n6
 have a3:ha≠fe:=λz=>by rw[←z,i7] at n8;cases n8
 have a4:la≠md:=λz=>by rw[←z,j5] at n6;cases n6
 have a5:la≠fe:=λz=>by rw[←z,j7] at n8;cases n8
 have a6:md≠fe:=λz=>by rw[←z,l7] at n8;cases n8
 have Ap:∀{b:Addr} {H':Hp},az x H H'->b≠x->H' b=none->H b=none:=λ{b H'} k d n=>by
  cases e:H b with
  |none=>rfl
  |some o=>rw[k b o e d] at n;cases n
 have t3:az x H H3:=b1.trans ((az.of g2).trans b3);have t5:az x H H5:=t3.trans ((az.of g4).trans b5);have t7:az x H H7:=t5.trans ((az.of g6).trans b7);refine q ⟨x,ha,la,md,fe,[],[],[]⟩ H9 rfl rfl (λb hb nb=>?_) k0 ⟨⟨dx,h9⟩,k2 _ _ e2 d2,k4 _ _ e4 d4,.nil,k6 _ _ e6 d6,.nil,k8 _ _ e8 d8,.nil,?_,λa qg=>by cases qg⟩
 ·simp only[JL.fp,Ym,Y0,or_false] at hb;rcases hb with rfl|rfl|rfl|rfl|rfl;·exact absurd rfl nb
  ·exact Ap b1 d2 n2
  ·exact Ap t3 d4 n4
  ·exact Ap t5 d6 n6
  ·exact Ap t7 d8 n8
 ·simp only[JL.fp,Yz,Ym,Y0,or_false,not_or,not_false_eq_true,W9,and_true];exact⟨⟨λz=>d2 z.symm,λz=>d4 z.symm,λz=>d6 z.symm,λz=>d8 z.symm⟩,⟨a1,a2,a3⟩,⟨a4,a5⟩,a6⟩
theorem WL:aU ["self","one","other"] ["self","one","other"] (aM Bv):=⟨rfl,rfl,rfl,by decide+kernel,rfl,by decide+kernel,by decide+kernel⟩
theorem Zp(F:aN K "together" "Joins.together" Bv f fd)(jc:mE K C)(bl:Bl mg):aK P w K mg base aP 1 f fd ["self","one","other"] (Em C):=by
 refine F.ok WL (λvs H Q E h=>?_) (λaF A outer s H vs Q E hr h=>?_)
 ·obtain⟨l,st,n,i,j,a,b,rfl,_⟩:=h;rfl
 obtain⟨l,st,n,i,j,a,b,rfl,ja,hi,hj,q⟩:=h;refine⟨_,(aw (aH (dw cg (aX (bQ (K:=K) rfl) (aV (K:=K) rfl (pv 0) rfl) (pv 1) (λ_ _=>rfl)) (aX (bQ (K:=K) rfl) (aV (K:=K) rfl (pv 0) rfl) (pv 2) (λ_ _=>rfl)) (aQ _)))),?_⟩;obtain⟨dx,ho⟩:=ja.obj;have q':Q (.bl (decide (V.int (a:Int)=V.int (b:Int)))) H:=by
  have e:decide (V.int (a:Int)=V.int (b:Int))=decide (a=b):=by
   rw[Wf,decide_eq_true_iff,decide_eq_true_iff];exact⟨λz=>by have:=V.int.inj z;omega,λz=>by rw[z]⟩
  rw[e];exact q
 exact⟨_,rfl,l.J,C,dx,_,_,rfl,ho,jc.cls,jc.ju,rfl,_,rfl,l.ha,_,_,_,rfl,rfl,ak.of ja.heads,nS hi,_,rfl,l.J,C,dx,_,_,rfl,ho,jc.cls,jc.ju,rfl,_,rfl,l.ha,_,_,_,rfl,rfl,ak.of ja.heads,nS hj,rfl,q'⟩
end
theorem dP{H:Hp}{a b:Addr}{o o':HO}(h:H a=some o)(h':H b=some o')(ne:o≠o'):a≠b:=λz=>by
 grind
theorem Zb_(is:List Nat)(k:Nat):dI (is++[k])=dI is++[.int (k:Int)]:=Yp
theorem qG{H:Hp}{a b:Addr}{o:HO}(h:H a=some o)(h':H b=none):b≠a:=λz=>by
 grind
theorem iX{α β:Type}{F:α->β->Prop}{x:α}{y:β}(f:F x y){xs:List α}{ys:List β}(h:Paired F xs ys):Paired F (xs++[x]) (ys++[y]):=by
 induction h with
 |nil=>exact .cons f .nil
 |cons r t ih=>exact .cons r ih
theorem tG{α β:Type}{F:α->β->Prop}:∀{xs:List α} {ys:List β},Paired F xs ys->Paired (λa b=>F a b/\a∈xs) xs ys
 |_,_,.nil=>.nil
 |_,_,.cons g t=>.cons ⟨g,Yh⟩ (L2.Paired.bu (tG t) λ_ _ h=>⟨h.1,Yx _ h.2⟩)
theorem nY{H:Hp}{a:Addr}{kvs:List (Key×V)}{k:Nat}{o:Option V}(h:H a=some (.dK kvs))(e:aS kvs (.inl (k:Int))=o):dW H a (.int (k:Int)) o:=.inl ⟨kvs,.inl (k:Int),.inl h,rfl,e.symm⟩
section
theorem LX:aU ["self","one","lead"] ["self","one"] (aM BM):=⟨rfl,rfl,rfl,by decide+kernel,rfl,by decide+kernel,by decide+kernel⟩
theorem Zae(F:aN K "open_at" "Joins.open_at" BM f fd)(jc:mE K C)(bl:Bl mg):aK P w K mg base aP 2 f fd ["self","one"] (yG C):=by
 refine F.ok LX (λvs H Q E h=>?_) (λaF A outer s H vs Q E hr h=>?_)
 ·obtain⟨l,st,n,i,h,t,secs,rfl,_⟩:=h;rfl
 obtain⟨l,st,n,i,h,t,secs,rfl,ja,hi,ht,hf,qc,gn,q⟩:=h;refine⟨_,(au (bq (i:=2) LX.nd rfl (Or.inr rfl) (aX (bQ (K:=K) rfl) (aV (K:=K) rfl (pv 0) rfl) (pv 1) (λ_ _=>rfl))) (aw (aH (bM (ZbN (K:=K) rfl) rfl bl.yD yr (ae (iH (x:="section") (fr:=[("lead",2)]) (cl:=[("lead",s.heap.objs.size+1)]) rfl ⟨by with_unfolding_all rfl,⟨rfl,trivial⟩,rfl,by decide+kernel,rfl,by decide+kernel,rfl,⟨⟨rfl,.inl rfl,.inl rfl,rfl⟩,trivial⟩,by decide+kernel⟩ (eV (K:=K) rfl (dh (bH hr) (aV (K:=K) rfl (pv 0) rfl) (aX (bQ (K:=K) rfl) (aV (K:=K) rfl (pv 0) rfl) (pv 1) (λ_ _=>rfl)) (λ_ _=>rfl))) (λ_ _ _ _=>ku) (λ_ _ _ _=>(aX (fU (K:=K) rfl) (pv 1) (pv 0) (λ_ _=>rfl)))) ag))))),?_⟩;obtain⟨dx,ho⟩:=ja.obj;obtain⟨fa,UA,vf,cY⟩:=nI (f:=λv:List Int=>HO.lst (v.map V.int)) ja.free hf;obtain⟨ta,eta,Kd⟩:∃ta,l.eC[i]?=some ta/\H ta=some (.tup (t.map V.int)):=by
  have hl:=cR ja.lead;have dH:i<l.eC.length:=by rw[hl];exact(Yl.mp ht).1
  obtain⟨y,ey,hy⟩:=fk ja.lead (Yc dH)
  grind
 have Ke:dA (l.eC.map V.ref) (i:Int)=some (.ref ta):=gQ (by rw[Yf,eta];rfl);refine bX ?_;refine⟨_,rfl,l.J,C,dx,_,_,rfl,ho,jc.cls,jc.mw,rfl,_,rfl,l.la,_,_,_,rfl,rfl,ak.of ja.ie,Ke,?_⟩;refine⟨_,rfl,l.J,C,dx,_,_,rfl,ho,jc.cls,jc.qX,rfl,_,rfl,l.J,C,dx,_,_,rfl,ho,jc.cls,jc.ju,rfl,_,rfl,l.ha,_,_,_,rfl,rfl,ak.of ja.heads,nS hi,l.fd,_,rfl,nY ja.frees vf,fa,rfl,⟨_,ak.of cY⟩,λD hD=>ZY (xs:=secs.map V.int) (ak.of cY) (by rw[Ya];omega) hD (λv=>match v with|.int z=>.int (t.getD z.toNat 0)|_=>.aB) (λj v hj H1 g1 Kt k=>?_) λH1 g1 h1=>?_⟩
 ·obtain⟨z,rfl,hz⟩:=mj hj;have bz:=qc z (Yg hz);exact⟨_,rfl,_,rfl,ta,_,_,_,rfl,rfl,aA.of (g1 _ _ Kd),mC bz.1 bz.2,k H1 (aj.refl _)⟩
 ·have hy:H1 D=some (.lst ((secs.map λz=>t.getD z.toNat 0).map V.int)):=by
   rw[h1,Wa,Wa];rfl
  exact⟨D,_,rfl,.inl (ak.of hy),by rw[Ya];exact gn,λcB pm so p H2 np g2 h2=>q p cB H2 (g1.free np) (g1.trans g2) pm so h2⟩
theorem L4:aU ["self","number"] ["self"] (aM DO):=⟨rfl,rfl,rfl,by decide+kernel,rfl,by decide+kernel,by decide+kernel⟩
theorem ZeU(F:aN K "add" "Joins.add" DO f fd)(jc:mE K C)(tQ:HasFn P w K mg base 1 "still" ["size"] F7)(bl:Bl mg):aK P w K mg base aP 2 f fd ["self"] (G6 C):=by
 refine F.ok L4 (λvs H Q E h=>?_) (λaF A outer s H vs Q E hr h=>?_)
 ·obtain⟨l,st,n,rfl,_⟩:=h;rfl
 obtain⟨l,st,n,rfl,ja,hn,lh,lm,lf,ll,nm,nf,q⟩:=h;refine⟨_,(au (bq (i:=1) L4.nd rfl (Or.inl rfl) (bM (c9 (K:=K) rfl) rfl bl.cX cV (ae (aV (K:=K) rfl (pv 0) rfl) ag))) (au (cA (mD (K:=K) rfl (jw plainAttrs_list PySem.F.slot_list_append PySem.F.type_list_append nF (aV (K:=K) rfl (pv 0) rfl) (ae (pv 1) ag)))) (au (cA (mD (K:=K) rfl (jw plainAttrs_list PySem.F.slot_list_append PySem.F.type_list_append nF (aV (K:=K) rfl (pv 0) rfl) (ae (aY tQ hr (by omega) rfl (ae (aV (K:=K) rfl (pv 0) rfl) ag)) ag)))) (au (nL (bH hr) (aV (K:=K) rfl (pv 0) rfl) (pv 1) (cZ (ae (pv 1) ag))) (au (nL (bH hr) (aV (K:=K) rfl (pv 0) rfl) (pv 1) (eI (Xq rfl) rfl bl.tW tP (ae (eI C4 rfl bl.jt tJ (ae (aV (K:=K) rfl (pv 0) rfl) ag)) ag))) (aw (aH (pv 1)))))))),?_⟩;have sz:(10000:Nat)<=sizeLine:=by rw[sizeLine_eq];omega
 obtain⟨dx,ho⟩:=ja.obj;have hl:(dI st.hd).length=st.hd.length:=Ya _;have pl1:=cR ja.lead;have Kg:=cR ja.mem;have Aq:=cR ja.free;have nd:=ja.nd;simp only[JL.fp,Yz,Ym,not_or] at nd;obtain⟨⟨x1,x2,x3,x4,x5⟩,⟨y1,y2,y3,y4⟩,⟨z1,z2,z3⟩,⟨w1,w2⟩,v1,v2⟩:=nd;have dl:∀{ks:List Nat} {as:List Addr},(bB ks as).length<=as.length:=λ{ks as}=>by unfold bB;rw[Ya,Jd];exact Nat.min_le_right _ _
 refine bX ?_;refine⟨_,rfl,l.J,C,dx,_,_,rfl,ho,jc.cls,jc.ju,rfl,l.ha,_,rfl,.inl (ak.of ja.heads),?_⟩;rw[hl];refine⟨_,rfl,l.J,C,dx,_,_,rfl,ho,jc.cls,jc.ju,rfl,.inl ⟨rfl,_,ak.of ja.heads⟩,_,rfl,l.ha,_,_,rfl,rfl,ja.heads,by rw[hl];omega,λH1 b1 e1=>?_⟩;have o1:=b1 _ _ ho x1;have l1:=b1 _ _ ja.ie (λz=>y1 z.symm);refine⟨_,rfl,l.J,C,dx,_,_,rfl,o1,jc.cls,jc.mw,rfl,.inl ⟨rfl,_,ak.of l1⟩,_,rfl,l.J,C,dx,_,_,rfl,o1,jc.cls,jc.qW,rfl,n,rfl,hn,λt H2 nt g2 ht=>?_⟩;refine⟨l.la,_,_,rfl,rfl,g2 _ _ l1,by rw[Ya];omega,λH3 b3 e3=>?_⟩;have o3:=b3 _ _ (g2 _ _ o1) x2;have m3:=b3 _ _ (g2 _ _ (b1 _ _ ja.i8 (λz=>y2 z.symm))) (λz=>z1 z.symm);refine⟨_,rfl,by show 1<=sizeLine;omega,λm H4 uE g4 em=>?_⟩;have o4:=g4 _ _ o3;refine⟨_,rfl,l.J,C,dx,_,_,rfl,o4,jc.cls,jc.tF,rfl,_,rfl,l.md,_,.inl (st.hd.length:Int),rfl,g4 _ _ m3,rfl,?_,λH5 b5 e5=>?_⟩
 ·have:=dl (ks:=st.mem.map (·.1)) (as:=l.fF);omega
 have o5:=b5 _ _ o4 x3;refine⟨_,rfl,l.J,C,dx,_,_,rfl,o5,jc.cls,jc.qW,rfl,(n:Int),rfl,λr H6 nr g6 er=>⟨r,n,rfl,er,hn,λfa H7 Uz g7 ef=>?_⟩⟩;have Ar:=g6.trans g7;have f5:=b5 _ _ (g4 _ _ (b3 _ _ (g2 _ _ (b1 _ _ ja.frees (λz=>y3 z.symm))) (λz=>z2 z.symm))) (λz=>w1 z.symm);refine⟨_,rfl,l.J,C,dx,_,_,rfl,Ar _ _ o5,jc.cls,jc.qX,rfl,_,rfl,l.fd,_,.inl (st.hd.length:Int),rfl,Ar _ _ f5,rfl,?_,λH8 b8 e8=>?_⟩
 ·have:=dl (ks:=st.fr.map (·.1)) (as:=l.bZ);omega
 have keep:∀b o,H b=some o->b≠l.ha->b≠l.la->b≠l.md->b≠l.fd->H8 b=some o:=λb o e n1 n2 n3 n4=>b8 _ _ (Ar _ _ (b5 _ _ (g4 _ _ (b3 _ _ (g2 _ _ (b1 _ _ e n1)) n2)) n3)) n4;rw[kq _ (yv nm),yj _ _ (by rw[Ya];omega)] at e5;rw[kq _ (yv nf),yj _ _ (by rw[Ya];omega)] at e8;have Kh:H m=none:=by
  cases e:H m with
  |none=>rfl
  |some o=>
   have hm1:m≠l.ha:=λz=>by rw[z,b3 _ _ (g2 _ _ e1) y1] at uE;cases uE
   have hm2:m≠l.la:=λz=>by rw[z,e3] at uE;cases uE
   rw[b3 _ _ (g2 _ _ (b1 _ _ e hm1)) hm2] at uE;cases uE
 have en:=ja.ne Kh;have Ki:fa∉l.fp/\fa≠m:=by
  have e6:H6 fa=none:=Uz;have h5:∀b o,H b=some o->b≠l.ha->b≠l.la->b≠l.md->H6 b=some o:=λb o e n1 n2 n3=>g6 _ _ (b5 _ _ (g4 _ _ (b3 _ _ (g2 _ _ (b1 _ _ e n1)) n2)) n3);have f1:H6 l.ha=some _:=g6 _ _ (b5 _ _ (g4 _ _ (b3 _ _ (g2 _ _ e1) y1)) y2);have f2:H6 l.la=some _:=g6 _ _ (b5 _ _ (g4 _ _ e3) z1);have f3:H6 l.md=some _:=g6 _ _ e5;have f4:H6 m=some _:=g6 _ _ (b5 _ _ em (λz=>en (by rw[z];simp[JL.fp])));have f5':H6 l.fd=some _:=g6 _ _ f5;have f6:H6 l.J=some _:=g6 _ _ o5;refine⟨λz=>?_,qG f4 e6⟩;simp only[JL.fp,Ym] at z;rcases z with z|z|z|z|z|z;·exact qG f6 e6 z
  ·exact qG f1 e6 z
  ·exact qG f2 e6 z
  ·exact qG f3 e6 z
  ·exact qG f5' e6 z
  ·obtain⟨y,ey⟩:=vA ja.mem z;refine qG (h5 _ _ ey ?_ ?_ ?_) e6 rfl;·exact λq=>y4 (by rw[←q];exact z)
   ·exact λq=>z3 (by rw[←q];exact z)
   ·exact λq=>w2 (by rw[←q];exact z)
 have kt:∀a∈l.eC,∀xs:List Int,H a=some (.tup (xs.map V.int))->H8 a=some (.tup (xs.map V.int)):=λa _ xs e=>keep a _ e (dP e ja.heads (λz=>by cases z)) (dP e ja.ie (λz=>by cases z)) (dP e ja.i8 (λz=>by cases z)) (dP e ja.frees (λz=>by cases z));have k8:∀b o,H5 b=some o->b≠l.fd->H8 b=some o:=λb o e n=>b8 _ _ (Ar _ _ e) n;have nmd:m≠l.md:=λz=>en (by rw[z];simp[JL.fp]);have nmf:m≠l.fd:=λz=>en (by rw[z];simp[JL.fp]);have ntf:t≠l.fd:=λz=>by
  have:=b1 _ _ ja.frees (λz=>y3 z.symm);rw[←z,nt] at this;cases this
 have Kj:t≠l.la:=λz=>by rw[←z,nt] at l1;cases l1
 have UB:t≠l.md:=λz=>by
  have:=b1 _ _ ja.i8 (λz=>y2 z.symm);rw[←z,nt] at this;cases this
 refine⟨_,rfl,q ⟨l.J,l.ha,l.la,l.md,l.fd,l.eC++[t],l.fF++[m],l.bZ++[fa]⟩ H8 rfl (λb o e nb=>?_) (λb hb=>?_) ⟨⟨dx,k8 _ _ o5 x4⟩,?_,?_,?_,?_,?_,?_,?_,?_,?_⟩⟩
 ·simp only[JL.fp,Ym,not_or] at nb;exact keep b o e nb.2.1 nb.2.2.1 nb.2.2.2.1 nb.2.2.2.2.1
 ·simp only[JL.fp,Ym,Yu,Y0,or_false] at hb⊢;rcases hb with h|h|h|h|h|h|h;·exact .inl (.inl h)
  ·exact .inl (.inr (.inl h))
  ·exact .inl (.inr (.inr (.inl h)))
  ·exact .inl (.inr (.inr (.inr (.inl h))))
  ·exact .inl (.inr (.inr (.inr (.inr (.inl h)))))
  ·exact .inl (.inr (.inr (.inr (.inr (.inr h)))))
  ·rw[h];exact .inr Kh
 ·show H8 l.ha=some (.lst (dI (st.hd++[st.hd.length])));rw[k8 _ _ (b5 _ _ (g4 _ _ (b3 _ _ (g2 _ _ e1) y1)) y2) y3,Zb_]
 ·show H8 l.la=some (.lst ((l.eC++[t]).map V.ref));rw[k8 _ _ (b5 _ _ (g4 _ _ e3) z1) z2,Yp];rfl
 ·exact iX (F:=λa (xs:List Int)=>H8 a=some (.tup (xs.map V.int))) (k8 _ _ (b5 _ _ (g4 _ _ (b3 _ _ ht Kj)) UB) ntf) (L2.Paired.bu (tG ja.lead) λa xs h=>kt a h.2 xs h.1)
 ·show H8 l.md=some (.dK (bB ((st.mem++[(st.hd.length,[st.hd.length])]).map (·.1)) (l.fF++[m])));rw[k8 _ _ e5 w1,Yp];rfl
 ·refine iX (F:=λa (p:Nat×List Nat)=>H8 a=some (.lst (dI p.2))) (k8 _ _ (b5 _ _ em nmd) nmf) (L2.Paired.bu (tG ja.mem) λa p h=>keep a _ h.1 ?_ ?_ ?_ ?_);·exact λz=>y4 (by rw[←z];exact h.2)
  ·exact λz=>z3 (by rw[←z];exact h.2)
  ·exact λz=>w2 (by rw[←z];exact h.2)
  ·exact λz=>v1 (by rw[←z];exact h.2)
 ·show H8 l.fd=some (.dK (bB ((st.fr++[(st.hd.length,bF n)]).map (·.1)) (l.bZ++[fa])));rw[e8,Yp];rfl
 ·have nfd:fa≠l.fd:=λz=>Ki.1 (by rw[z];simp[JL.fp]);refine iX (F:=λa (p:Nat×List Int)=>H8 a=some (.lst (p.2.map V.int))) (b8 _ _ ef nfd) (L2.Paired.bu (tG ja.free) λa p h=>?_);have no:=ja.out a h.2;simp only[JL.fp,Ym,not_or] at no;exact keep a _ h.1 no.2.1 no.2.2.1 no.2.2.2.1 no.2.2.2.2.1
 ·have nd:=ja.nd;have e0:JL.fp ⟨l.J,l.ha,l.la,l.md,l.fd,l.eC++[t],l.fF++[m],l.bZ++[fa]⟩=l.fp++[m]:=rfl;rw[e0,Wv];refine⟨nd,by simp,λa ha b hb=>?_⟩;have eb:b=m:=by simpa using hb
  intro z;rw[z,eb] at ha;exact en ha
 ·intro a ha;have e0:JL.fp ⟨l.J,l.ha,l.la,l.md,l.fd,l.eC++[t],l.fF++[m],l.bZ++[fa]⟩=l.fp++[m]:=rfl;rw[e0,Yu];have qg:a∈l.bZ++[fa]:=ha;rcases Yu.mp qg with h|h
  ·rintro(z|z);·exact ja.out a h z
   ·have e:a=m:=by simpa using z
    obtain⟨y,ey⟩:=vA ja.free h;rw[e,Kh] at ey;cases ey
  ·have e:a=fa:=by simpa using h
   rw[e];rintro(z|z);·exact Ki.1 z
   ·exact Ki.2 (by simpa using z)
end
theorem Zaf{K:PySem.W.Frag}{a:Addr}{ns:List Int}{tt:TT}{te:TE}{fv:St}{D:Addr}{H:Hp}{Q:VK}(hs:ak K H a (ns.map V.int))(hn:ns.length<=1000)(hD:H D=none)(p:Int->Bool)(g:Int->V)
  (turn:∀z∈ns,∀H1,aj H H1->∀(Kt:VK) (Kf:Hp->Prop),(p z=true->∀H3,aj H1 H3->Kt (g z) H3)->(p z=false->∀H3,aj H1 H3->Kf H3)->tt (some (.int z)::fv) H1 λc H2=>if c=true then te (some (.int z)::fv) H2 Kt else Kf H2)
  (fin:∀H',aj H H'->H' D=some (.lst ((ns.filter p).map g))->Q (.ref D) H'):iL (jd K a) tt te fv D H Q:=by
 refine EN (λi ys H1=>i<=ns.length/\aj H H1/\H1 D=some (.lst ys)/\ys=((ns.take i).filter p).map g) ⟨Yv _,cq hD _,aW,rfl⟩ (λi ys H1 _ ⟨_,g1,_,_⟩=>g1.seq hs) ?_ ?_
 ·rintro i v ys H1 hi ⟨_,g1,h1,e⟩;obtain⟨z,rfl,hz⟩:=mj hi;have dH:=(Yl.mp hz).1;have yl:ys.length<sizeLine:=by
   have:=Wg p (ns.take i);rw[Y8] at this;rw[e,Ya,sizeLine_eq];omega
  refine turn z (Yg hz) H1 g1 _ _ (λpz H3 g3=>⟨g3 _ _ h1,yl,dH,λb o q=>?_,aW,?_⟩) (λpz H3 g3=>⟨dH,g1.trans g3,g3 _ _ h1,?_⟩)
  ·rw[bg (ck q hD)];exact g3 _ _ (g1 _ _ q)
  ·rw[e,Y2,hz,Wr,Yp]
   grind
  ·rw[e,Y2,hz,Wr,Yp]
   grind
 ·grind
theorem yY(x:Int):∀ss:List Int,eX (.int x) (ss.map V.int)=decide (x∈ss)
 |[]=>rfl
 |s::ss=>by
  have ih:=yY x ss;unfold eX at ih⊢;rw[Wn,W7,ih];show((s==x)||decide (x∈ss))=_
  grind
theorem Fz(ss:List Int):(ss.map V.int).all iK=true:=by
 rw[JR,Wm];intro p _;rfl
def iP(ks:List Nat)(as:List Addr)(h:Nat)(a':Addr):List Addr:=(ks.zip as).map λp=>if p.1=h then a' else p.2
theorem Nh(h:Nat)(a':Addr):∀{ks:List Nat} {as:List Addr},ks.length=as.length->(bB ks as).map (λkv=>if kv.1=(.inl (h:Int):Key) then(kv.1,V.ref a') else kv)=bB ks (iP ks as h a')
 |[],[],_=>rfl
 |k::ks,a::as,e=>by
  have ih:=Nh h a' (by simpa using e);have e0:bB (k::ks) (a::as)=(Sum.inl (k:Int),V.ref a)::bB ks as:=rfl;have e1:iP (k::ks) (a::as) h a'=(if k=h then a' else a)::iP ks as h a':=rfl;have e2:bB (k::ks) ((if k=h then a' else a)::iP ks as h a')=(Sum.inl (k:Int),V.ref (if k=h then a' else a))::bB ks (iP ks as h a'):=rfl
  grind
 |[],_::_,e=>rfl
 |_::_,[],e=>rfl
theorem Zca{ks:List Nat}{as:List Addr}{h:Nat}{a a':Addr}(e:ks.length=as.length)(hv:aS (bB ks as) (.inl (h:Int))=some (.ref a)):putK (bB ks as) (.inl (h:Int)) (.ref a')=bB ks (iP ks as h a'):=by
 unfold putK;rw[if_pos (by rw[tK,hv];rfl)];exact Nh h a' e
def dY{α:Type}(h:Nat)(v:α)(ps:List (Nat×α)):List (Nat×α):=ps.map λp=>if p.1=h then(p.1,v) else p
theorem qL{α:Type}(h:Nat)(v:α):∀ps:List (Nat×α),(dY h v ps).map (·.1)=ps.map (·.1)
 |[]=>rfl
 |p::ps=>by
  have ih:=qL h v ps;show(if p.1=h then(p.1,v) else p).1::(dY h v ps).map (·.1)=_
  grind
theorem Zag{α:Type}{F G:Addr->Nat×α->Prop}{h:Nat}{a':Addr}{v:α}(new:∀k,G a' (k,v)):∀{as:List Addr} {ps:List (Nat×α)},Paired F as ps->(∀a p,F a p->a∈as->G a p)->Paired G (iP (ps.map (·.1)) as h a') (dY h v ps):=by
 intro as ps pr;induction pr with
 |nil=>intro _;exact .nil
 |@cons a p as ps f t ih=>
  intro k;have e1:iP ((p::ps).map (·.1)) (a::as) h a'=(if p.1=h then a' else a)::iP (ps.map (·.1)) as h a':=rfl;have e2:dY h v (p::ps)=(if p.1=h then(p.1,v) else p)::dY h v ps:=rfl;refine .cons ?_ (ih λb q fb hb=>k b q fb (Yx _ hb))
  grind
theorem Oe{h:Nat}{a' b:Addr}:∀{ks:List Nat} {as:List Addr},b∈iP ks as h a'->b=a'\/b∈as
 |[],_,m=>by unfold iP at m;simp at m
 |_::_,[],m=>by unfold iP at m;simp at m
 |k::ks,a::as,m=>by
  have e1:iP (k::ks) (a::as) h a'=(if k=h then a' else a)::iP ks as h a':=rfl;rcases Ym.mp m with z|z;·grind
  ·rcases Oe z with w|w;·exact .inl w
   ·grind
def JS.kI(st:JS)(h:Nat)(v:List Int):JS:={st with fr:=dY h v st.fr}
structure rJ(st:JS)(i h:Nat)(t secs:List Int):Prop where
 hd:st.hd[i]?=some h
 ld:st.ld[i]?=some t
 fr:st.fr.lookup h=some secs
 fE:∀z∈secs,0<=z/\z<t.length
 iT:secs.length<64
 dist:(secs.map λz=>t.getD z.toNat 0).Nodup
inductive Ni(K:PySem.W.Frag)(C:Addr)(vs:List V)(H:Hp)(Q:VK):Prop
 |mk (l:JL) (st:JS) (n i h:Nat) (t secs ss:List Int) (sl:Addr) (aE:vs=[.ref l.J,.int (i:Int),.ref sl]) (aT:cJ H C n l st) (bw:rJ st i h t secs) (bP:st.fr.length<1000) (cN:ak K H sl (ss.map V.int)) (dR:∀(l':JL) (H':Hp),l'.J=l.J->l'.fp=l.fp->Out l.fp H H'->cJ H' C n l' (st.kI h (secs.filter λz=>decide (t.getD z.toNat 0∈ss)))->Q .aB H'):Ni K C vs H Q
def FA(K:PySem.W.Frag)(C:Addr):Sp:=λvs H Q _=>Ni K C vs H Q
section
theorem BR:aU ["self","one","sections","lead","head"] ["self","one","sections"] (aM Cc):=⟨rfl,rfl,rfl,by decide+kernel,rfl,by decide+kernel,by decide+kernel⟩
theorem Za_(F:aN K "narrow" "Joins.narrow" Cc f fd)(jc:mE K C)(bl:Bl mg):aK P w K mg base aP 2 f fd ["self","one","sections"] (FA K C):=by
 refine F.ok BR (λvs H Q E h=>?_) (λaF A outer s H vs Q E hr h=>?_)
 ·obtain⟨l,st,n,i,h,t,secs,ss,sl,rfl,_⟩:=h;rfl
 obtain⟨l,st,n,i,h,t,secs,ss,sl,rfl,ja,one,lf,hss,q⟩:=h;refine⟨_,(au (bq (i:=3) BR.nd rfl (Or.inr rfl) (aX (bQ (K:=K) rfl) (aV (K:=K) rfl (pv 0) rfl) (pv 1) (λ_ _=>rfl))) (au (bq (i:=4) BR.nd rfl (Or.inl rfl) (aX (bQ (K:=K) rfl) (aV (K:=K) rfl (pv 0) rfl) (pv 1) (λ_ _=>rfl))) (aw (nL (bH hr) (aV (K:=K) rfl (pv 0) rfl) (pv 4) (iH (x:="section") (fr:=[("sections",2),("lead",3)]) (cl:=[("sections",s.heap.objs.size+1),("lead",s.heap.objs.size+1+1)]) rfl ⟨by with_unfolding_all rfl,⟨rfl,⟨rfl,trivial⟩⟩,rfl,by decide+kernel,rfl,by decide+kernel,rfl,⟨⟨rfl,.inl rfl,.inl rfl,rfl⟩,⟨⟨rfl,.inl rfl,.inl rfl,rfl⟩,trivial⟩⟩,by decide+kernel⟩ (eV (K:=K) rfl (dh (bH hr) (aV (K:=K) rfl (pv 0) rfl) (pv 4) (λ_ _=>rfl))) (λ_ _ _ _=>vJ (bb (lT (K:=K) rfl) (aX (fU (K:=K) rfl) (pv 2) (pv 0) (λ_ _=>rfl)) (pv 1) (by with_unfolding_all rfl))) (λ_ _ _ _=>(pv 0))))))),?_⟩;have sz:(10000:Nat)<=sizeLine:=by rw[sizeLine_eq];omega
 obtain⟨dx,ho⟩:=ja.obj;obtain⟨fa,UA,vf,cY⟩:=nI (f:=λv:List Int=>HO.lst (v.map V.int)) ja.free one.fr;obtain⟨ta,eta,Kd⟩:∃ta,l.eC[i]?=some ta/\H ta=some (.tup (t.map V.int)):=by
  have hl:=cR ja.lead;have dH:i<l.eC.length:=by rw[hl];exact(Yl.mp one.ld).1
  obtain⟨y,ey,hy⟩:=fk ja.lead (Yc dH);rw[one.ld] at ey;cases ey;exact⟨_,Yc dH,hy⟩
 have Ke:dA (l.eC.map V.ref) (i:Int)=some (.ref ta):=gQ (by rw[Yf,eta];rfl);have Aq:=cR ja.free;refine bX ?_;refine⟨_,rfl,l.J,C,dx,_,_,rfl,ho,jc.cls,jc.mw,rfl,_,rfl,l.la,_,_,_,rfl,rfl,ak.of ja.ie,Ke,?_⟩;refine bX ?_;refine⟨_,rfl,l.J,C,dx,_,_,rfl,ho,jc.cls,jc.ju,rfl,_,rfl,l.ha,_,_,_,rfl,rfl,ak.of ja.heads,nS one.hd,?_⟩;refine⟨_,rfl,l.J,C,dx,_,_,rfl,ho,jc.cls,jc.qX,rfl,_,rfl,l.fd,_,rfl,nY ja.frees vf,fa,rfl,⟨_,ak.of cY⟩,λD hD=>Zaf (ns:=secs) (ak.of cY) (by have:=one.iT;omega) hD (λz=>decide (t.getD z.toNat 0∈ss)) V.int (λz hz H1 g1 Kt Kf kt kf=>?_) λH1 g1 h1=>?_⟩
 ·have bz:=one.fE z hz;refine⟨_,rfl,_,rfl,ta,_,_,_,rfl,rfl,aA.of (g1 _ _ Kd),mC bz.1 bz.2,_,rfl,sl,_,rfl,.inl (g1.seq hss),rfl,Fz ss,_,rfl,?_⟩;rw[if_neg Yi,yY];refine bI (λc=>?_) (λc=>?_);·exact⟨_,rfl,kt c H1 (aj.refl _)⟩
  ·exact kf (by cases e:decide (t.getD z.toNat 0∈ss) with|true=>exact absurd e c|false=>rfl) H1 (aj.refl _)
 ·refine⟨_,rfl,l.J,C,dx,_,_,rfl,g1 _ _ ho,jc.cls,jc.qX,rfl,_,rfl,l.fd,_,.inl (h:Int),rfl,g1 _ _ ja.frees,rfl,?_,λH2 b2 e2=>?_⟩
  ·unfold bB;rw[Ya,Jd,Ya];omega
  rw[Zca (by rw[Ya];exact Aq.symm) vf] at e2;have nd:=ja.nd;have As:l.fd∈l.fp:=by simp[JL.fp]
  simp only[JL.fp,Yz,Ym,not_or] at nd;obtain⟨⟨x1,x2,x3,x4,x5⟩,⟨y1,y2,y3,y4⟩,⟨z1,z2,z3⟩,⟨w1,w2⟩,v1,v2⟩:=nd;have keep:∀b o,H b=some o->b≠l.fd->H2 b=some o:=λb o e nb=>b2 _ _ (g1 _ _ e) nb;have nD:D∉l.fp:=ja.ne hD;have nDf:D≠l.fd:=λz=>nD (by rw[z];exact As);refine q ⟨l.J,l.ha,l.la,l.md,l.fd,l.eC,l.fF,iP (st.fr.map (·.1)) l.bZ h D⟩ H2 rfl rfl ((Out.of g1).trans (Out.bar b2 As)) ⟨⟨dx,keep _ _ ho x4⟩,keep _ _ ja.heads y3,keep _ _ ja.ie z2,L2.Paired.bu ja.lead λa xs e=>keep a _ e (dP e ja.frees (λz=>by cases z)),keep _ _ ja.i8 w1,L2.Paired.bu (tG ja.mem) λa p e=>keep a _ e.1 (λz=>v1 (by rw[←z];exact e.2)),?_,?_,ja.nd,λa ha=>?_⟩
  ·show H2 l.fd=some (.dK (bB ((dY h _ st.fr).map (·.1)) _));rw[qL];exact e2
  ·exact Zag (λk=>b2 _ _ h1 nDf) ja.free λa p e ma=>keep a _ e (λz=>ja.out a ma (by rw[z];exact As))
  ·rcases Oe ha with rfl|z;·exact nD
   ·exact ja.out a z
end
inductive Q8(C:Addr)(vs:List V)(H:Hp)(Q:VK):Prop
 |mk (l:JL) (st:JS) (n i h:Nat) (t secs:List Int) (a:Int) (aE:vs=[.ref l.J,.int (i:Int),.int a]) (aT:cJ H C n l st) (bw:rJ st i h t secs) (bP:st.fr.length<1000) (cN:(a∈secs.map (λz=>t.getD z.toNat 0)->∀(l':JL) (H':Hp),l'.J=l.J->l'.fp=l.fp->Out l.fp H H'->cJ H' C n l' (st.kI h (secs.filter λz=>decide (t.getD z.toNat 0∈[a])))->Q (.bl true) H')) (dR:(a∉secs.map (λz=>t.getD z.toNat 0)->∀H',aj H H'->Q (.bl false) H')):Q8 C vs H Q
def Se(C:Addr):Sp:=λvs H Q _=>Q8 C vs H Q
section
theorem X_:aU ["self","one","section"] ["self","one","section"] (aM DQ):=⟨rfl,rfl,rfl,by decide+kernel,rfl,by decide+kernel,by decide+kernel⟩
theorem ZeV(F:aN K "say" "Joins.say" DQ f fd)(l_:cD P w K mg base 2 "open_at" C ["self","one"] (yG C))(sJ:cD P w K mg base 2 "narrow" C ["self","one","sections"] (FA K C))(bl:Bl mg):aK P w K mg base aP 3 f fd ["self","one","section"] (Se C):=by
 refine F.ok X_ (λvs H Q E h=>?_) (λaF A outer s H vs Q E hr h=>?_)
 ·obtain⟨l,st,n,i,h,t,secs,a,rfl,_⟩:=h;rfl
 obtain⟨l,st,n,i,h,t,secs,a,rfl,ja,one,lf,q1,q2⟩:=h;refine⟨_,(au (aR (bb (GA (K:=K) rfl) (pv 2) (cO l_ hr (by omega) (pv 0) (ae (pv 1) ag)) (by with_unfolding_all rfl)) (aw (aH jv)) a_) (au (cA (cO sJ hr (by omega) (pv 0) (ae (pv 1) (ae (cZ (ae (pv 2) ag)) ag)))) (aw (aH jv)))),?_⟩;obtain⟨dx,ho⟩:=ja.obj;refine⟨_,rfl,_,rfl,l.J,dx,_,rfl,ho,rfl,_,rfl,l,st,n,i,h,t,secs,rfl,ja,one.hd,one.ld,one.fr,one.fE,one.iT,λp ns H1 np g1 pm so hp=>⟨p,_,rfl,.inl (ak.of hp),rfl,Fz ns,_,rfl,?_⟩⟩;rw[if_pos rfl,yY];refine bI (λc=>?_) (λc=>aZ ?_)
 ·refine q2 (λz=>?_) H1 g1;rw[decide_eq_true (pm.symm.subset z)] at c;cases c
 ·have qc:a∈ns:=by
   by_cases z:a∈ns;·exact z
   ·rw[decide_eq_false z] at c;exact absurd rfl c
  refine⟨_,rfl,l.J,dx,_,rfl,g1 _ _ ho,rfl,_,rfl,_,rfl,by show 1<=sizeLine;rw[sizeLine_eq];omega,λsl H2 n2 g2 e2=>?_⟩;exact⟨l,st,n,i,h,t,secs,[a],sl,rfl,(ja.same g1).same g2,one,lf,ak.of e2,λl' H3 k1 k2 o3 j3=>q1 (pm.subset qc) l' H3 k1 k2 ((Out.of (g1.trans g2)).trans o3) j3⟩
end
def dN(ks:List Nat)(as:List Addr)(h:Nat):List Addr:=((ks.zip as).filter λp=>decide (p.1≠h)).map (·.2)
def cU{α:Type}(h:Nat)(ps:List (Nat×α)):List (Nat×α):=ps.filter λp=>decide (p.1≠h)
theorem yk(h:Nat):∀{ks:List Nat} {as:List Addr},ks.length=as.length->f_ (bB ks as) (.inl (h:Int))=bB (ks.filter λk=>decide (k≠h)) (dN ks as h)
 |[],[],_=>rfl
 |k::ks,a::as,e=>by
  have ih:=yk h (by simpa using e);have e0:bB (k::ks) (a::as)=(Sum.inl (k:Int),V.ref a)::bB ks as:=rfl;unfold f_ at ih⊢;rw[e0,W1,W1];have e1:dN (k::ks) (a::as) h=(if decide (k≠h)=true then(a::dN ks as h) else dN ks as h):=by
   unfold dN;rw[J8,W1];split<;>rfl
  rw[e1,ih];by_cases z:k=h;·grind
  ·have z':¬((Sum.inl (k:Int):Key)=.inl (h:Int)):=λw=>z (by have:=Ao w;omega);rw[if_pos (by simp[z']),if_pos (by simp[z]),if_pos (by simp[z])];rfl
 |[],_::_,e=>rfl
 |_::_,[],e=>by simp at e
theorem nM{α:Type}(h:Nat):∀ps:List (Nat×α),(cU h ps).map (·.1)=(ps.map (·.1)).filter λk=>decide (k≠h)
 |[]=>rfl
 |p::ps=>by
  have ih:=nM h ps;unfold cU at ih⊢
  grind
theorem En{α:Type}{F G:Addr->Nat×α->Prop}{h:Nat}:∀{as:List Addr} {ps:List (Nat×α)},Paired F as ps->(∀a p,F a p->a∈as->p.1≠h->G a p)->Paired G (dN (ps.map (·.1)) as h) (cU h ps):=by
 intro as ps pr;induction pr with
 |nil=>intro _;exact .nil
 |@cons a p as ps f t ih=>
  intro k;have e1:dN ((p::ps).map (·.1)) (a::as) h=(if decide (p.1≠h)=true then(a::dN (ps.map (·.1)) as h) else dN (ps.map (·.1)) as h):=by
   unfold dN;rw[Wn,J8,W1];split<;>rfl
  have e2:cU h (p::ps)=(if decide (p.1≠h)=true then(p::cU h ps) else cU h ps):=by
   unfold cU
   grind
  rw[e1,e2];by_cases z:p.1=h;·grind
  ·rw[if_pos (by simp[z]),if_pos (by simp[z])];exact .cons (k a p f Yh z) (ih λb q fb hb nq=>k b q fb (Yx _ hb) nq)
theorem yH{h:Nat}:∀{ks:List Nat} {as:List Addr},(dN ks as h).Sublist as
 |[],as=>by
  unfold dN;simp_all
 |_::_,[]=>by
  unfold dN;simp_all
 |k::ks,a::as=>by
  have ih:=yH (h:=h) (ks:=ks) (as:=as);have e1:dN (k::ks) (a::as) h=(if decide (k≠h)=true then(a::dN ks as h) else dN ks as h):=by
   unfold dN;rw[J8,W1];split<;>rfl
  grind
theorem sX{α:Type}{h k:Nat}(ne:k≠h):∀{ps:List (Nat×α)},(cU h ps).lookup k=ps.lookup k
 |[]=>rfl
 |p::ps=>by
  have ih:=sX ne (ps:=ps);have e2:cU h (p::ps)=(if decide (p.1≠h)=true then(p::cU h ps) else cU h ps):=by
   unfold cU
   grind
  grind
theorem Zah{α:Type}{F G:Addr->Nat×α->Prop}{h:Nat}{m:Addr}{v:α}(new:∀k,G m (k,v)):∀{as:List Addr} {ps:List (Nat×α)},Paired F as ps->as.Nodup->(ps.map (·.1)).Nodup->aS (bB (ps.map (·.1)) as) (.inl (h:Int))=some (.ref m)->(∀a p,F a p->a∈as->a≠m->G a p)->Paired G as (dY h v ps):=by
 intro as ps pr;induction pr with
 |nil=>intro _ _ e _;cases e
 |@cons a p as ps f t ih=>
  intro n1 n2 e k;have e0:bB ((p::ps).map (·.1)) (a::as)=(Sum.inl (p.1:Int),V.ref a)::bB (ps.map (·.1)) as:=rfl;have e2:dY h v (p::ps)=(if p.1=h then(p.1,v) else p)::dY h v ps:=rfl;rw[Yz] at n1;rw[Wn,Yz] at n2;rw[e2];by_cases z:p.1=h
  ·rw[e0,fw (p:=((Sum.inl (p.1:Int):Key),V.ref a)) (by rw[z])] at e;have ea:a=m:=V.ref.inj (Yo e);have same:dY h v ps=ps:=by
    unfold dY;refine(W4 λq hq=>?_).trans (List.map_id _);rw[if_neg λw=>n2.1 (by rw[z,←w];exact Ye.mpr ⟨q,hq,rfl⟩)];rfl
   rw[if_pos z,same,ea];refine .cons (new p.1) (L2.Paired.bu (tG t) λb q hb=>k b q hb.1 (Yx _ hb.2) λw=>n1.1 (by rw[ea,←w];exact hb.2))
  ·rw[e0,eU (p:=((Sum.inl (p.1:Int):Key),V.ref a)) (λw=>z (by have:=Ao w;omega))] at e;rw[if_neg z];have am:a≠m:=λw=>by
    have:∀{ks:List Nat} {bs:List Addr},aS (bB ks bs) (.inl (h:Int))=some (.ref m)->m∈bs:=λ{ks}=>by
     induction ks with
     |nil=>intro bs q;unfold bB at q;rw[List.zip_nil_left] at q;cases q
     |cons x xs ih=>
      intro bs q;cases bs with
      |nil=>unfold bB at q;rw[List.zip_nil_right] at q;cases q
      |cons b bs=>
       have e0:bB (x::xs) (b::bs)=(Sum.inl (x:Int),V.ref b)::bB xs bs:=rfl;rw[e0] at q;by_cases y:x=h
       ·rw[fw (p:=((Sum.inl (x:Int):Key),V.ref b)) (by rw[y])] at q;have eb:b=m:=V.ref.inj (Yo q);rw[eb];exact Yh
       ·rw[eU (p:=((Sum.inl (x:Int):Key),V.ref b)) (λw=>y (by have:=Ao w;omega))] at q;exact Yx _ (ih q)
    exact n1.1 (by rw[w];exact this e)
   exact .cons (k a p f Yh am) (ih n1.2 n2.2 e λb q fb hb nb=>k b q fb (Yx _ hb) nb)
def oM(bj:List Int)(ld:List (List Int))(i:Nat):List (List Int):=ld.set i (bL (ld.getD i []) bj)
theorem iJ(xs ys:List Int):(bL xs ys).length=ys.length:=by unfold bL;rw[Ya]
theorem ZeW{xs ys:List Int}{n:Nat}(hx:∀x∈xs,0<=x/\x<n)(hy:∀y∈ys,0<=y/\y<xs.length):∀z∈bL xs ys,0<=z/\z<n:=λz hz=>by
 obtain⟨y,my,rfl⟩:=Ye.mp hz;obtain⟨y0,y1⟩:=hy y my;have hl:y.toNat<xs.length:=by omega
 have e:xs.getD y.toNat 0=xs[y.toNat]:=by rw[Yk,Yc hl];rfl
 simp_all
def jx(hb:Nat)(mv:List Nat)(hd:List Nat):List Nat:=mv.foldl (λacc i=>acc.set i hb) hd
def gk(bj:List Int)(mv:List Nat)(ld:List (List Int)):List (List Int):=mv.foldl (oM bj) ld
def JS.mv(st:JS)(hb hm:Nat)(mb mv:List Nat)(bj:List Int):JS:=⟨jx hb mv st.hd,gk bj mv st.ld,dY hb (mb++mv) (cU hm st.mem),cU hm st.fr⟩
inductive Po(C:Addr)(vs:List V)(H:Hp)(Q:VK):Prop
 |mk (l:JL) (st:JS) (n a b ha hb:Nat) (ta tb tn fm:List Int) (tu:Addr) (ma mb:List Nat) (aE:vs=[.ref l.J,.int (a:Int),.int (b:Int),.ref tu]) (aT:cJ H C n l st) (bw:H tu=some (.tup (tn.map V.int))) (bP:n<=8) (cN:tn.length=n) (dR:full tn=true) (hE:st.hd[a]?=some ha) (iS:st.hd[b]?=some hb) (qa:st.ld[a]?=some ta) (w_:st.ld[b]?=some tb) (Ir:(∀t∈st.ld,full t=true/\t.length=n)) (S9:st.ld.length=st.hd.length) (Zhx:st.mem.lookup ha=some ma) (Zhy:st.mem.lookup hb=some mb) (Zhz:st.fr.lookup ha=some fm) (ZhA:ha≠hb) (ZhB:(∀i∈ma,i<st.hd.length)) (ZhC:ma.length+mb.length<=1000) (ZhD:(st.mem.map (·.1)).Nodup) (ZhE:∀(l':JL) (H':Hp),l'.J=l.J->(∀c∈l'.fp,c∈l.fp)->Out l.fp H H'->cJ H' C n l' (st.mv hb ha mb ma (bL (inv ta) (bL tn tb)))->Q .aB H'):Po C vs H Q
def Q9(C:Addr):Sp:=λvs H Q _=>Po C vs H Q
theorem u_{α β:Type}{g:List α->β->List α}(hg:∀acc i,(g acc i).length=acc.length):∀(is:List β) (xs:List α),(is.foldl g xs).length=xs.length
 |[],_=>rfl
 |i::is,xs=>by
  rw[List.foldl_cons,u_ hg is,hg]
theorem MG{α β:Type}{g:List α->β->List α}{is:List β}{j:Nat}{i:β}(h:is[j]?=some i)(xs:List α):(is.take (j+1)).foldl g xs=g ((is.take j).foldl g xs) i:=by
 rw[Y2,h,List.foldl_append];rfl
theorem Zdh(is:List Nat)(i k:Nat):(dI is).set i (.int (k:Int))=dI (is.set i k):=by
 simp_all
theorem MH{α β:Type}{F:α->β->Prop}{x:α}{y:β}(f:F x y):∀{xs:List α} {ys:List β} (i:Nat),Paired F xs ys->Paired F (xs.set i x) (ys.set i y)
 |_,_,_,.nil=>.nil
 |_,_,0,.cons _ t=>.cons f t
 |_,_,i+1,.cons g t=>.cons g (MH f i t)
theorem pB{xs ys:List Int}(fx:full xs=true)(fy:full ys=true)(e:xs.length=ys.length):full (bL xs ys)=true:=by
 have p1:(bL xs ys).Perm ((bF ys.length).map λx=>xs.getD x.toNat 0):=(pq fy).map _;have e2:((bF ys.length).map λx=>xs.getD x.toNat 0)=xs:=by
  refine Wj λi=>?_;rw[Yf];by_cases hi:i<ys.length
  ·rw[kZ hi]
   grind
  ·rw[Y4 (by rw[eG];omega),Y4 (by omega)];rfl
 rw[e2] at p1;exact qM (p1.trans (pq fx))
inductive G7(H5:Hp)(l:JL)(hd:List Nat)(ld:List (List Int))(n:Nat)(sg:Option V->St)(σ:St)(H6:Hp):Prop
 |mk (gW:List Addr) (o9:Option V) (k1:H6 l.ha=some (.lst (dI hd))) (k2:H6 l.la=some (.lst (gW.map V.ref))) (k3:Paired (λa (xs:List Int)=>H6 a=some (.tup (xs.map V.int))) gW ld) (k4:∀t∈ld,full t=true/\t.length=n) (kp:∀c o,H5 c=some o->c≠l.ha->c≠l.la->H6 c=some o) (e:σ=sg o9):G7 H5 l hd ld n sg σ H6
def S_(l:JL)(a b hb ha:Int)(tu tm to mo:Addr)(o9:Option V):St:=[some (.ref l.J),some (.int a),some (.int b),some (.ref tu),some (.int hb),some (.int ha),some (.ref tm),some (.ref to),some (.ref mo),o9]
section
theorem qC:aU ["self","mover","stayer","turn","head","old_head","to_mover","to_old_head","moved","number"] ["self","mover","stayer","turn"] (aM C9):=⟨rfl,rfl,rfl,by decide+kernel,rfl,by decide+kernel,by decide+kernel⟩
theorem Zdi(F:aN K "move" "Joins.move" C9 f fd)(jc:mE K C)(ph:HasFn P w K mg base 1 "followed" ["first","then"] (G4 K))(nA:HasFn P w K mg base 1 "turned_back" ["turn"] zP)(bl:Bl mg):aK P w K mg base aP 2 f fd ["self","mover","stayer","turn"] (Q9 C):=by
 refine F.ok qC (λvs H Q E h=>?_) (λaF A outer s H vs Q E hr h=>?_)
 ·obtain⟨l,st,n,a,b,ha,hb,ta,tb,tn,fm,tu,ma,mb,rfl,_⟩:=h;rfl
 obtain⟨l,st,n,a,b,ha,hb,ta,tb,tn,fm,tu,ma,mb,rfl,ja,hu,n8,tl,ft,hA,hB,lA,lB,fl,ll,mA,mB,fA,neq,min,lm,ndk,q⟩:=h;refine⟨_,(au (bq (i:=4) qC.nd rfl (Or.inl rfl) (aX (bQ (K:=K) rfl) (aV (K:=K) rfl (pv 0) rfl) (pv 2) (λ_ _=>rfl))) (au (bq (i:=5) qC.nd rfl (Or.inl rfl) (aX (bQ (K:=K) rfl) (aV (K:=K) rfl (pv 0) rfl) (pv 1) (λ_ _=>rfl))) (au (bq (i:=6) qC.nd rfl (Or.inl rfl) (aY ph hr (by omega) rfl (ae (aX (bQ (K:=K) rfl) (aV (K:=K) rfl (pv 0) rfl) (pv 2) (λ_ _=>rfl)) (ae (pv 3) ag)))) (au (bq (i:=7) qC.nd rfl (Or.inl rfl) (aY ph hr (by omega) rfl (ae (pv 6) (ae (aY nA hr (by omega) rfl (ae (aX (bQ (K:=K) rfl) (aV (K:=K) rfl (pv 0) rfl) (pv 1) (λ_ _=>rfl)) ag)) ag)))) (au (bq (i:=8) qC.nd rfl (Or.inl rfl) (M_ (aV (K:=K) rfl (pv 0) rfl) (pv 5) ⟨rfl,rfl,rfl,rfl⟩)) (au (cA (M_ (aV (K:=K) rfl (pv 0) rfl) (pv 5) ⟨rfl,rfl,rfl,rfl⟩)) (au (fW PassesOwn.never rfl (eV (K:=K) rfl (pv 8)) (bo (i:=9) qC.nd rfl (Or.inl rfl)) (au (O8 (aV (K:=K) rfl (pv 0) rfl) (pv 9) M7 (pv 4)) (aw (O8 (aV (K:=K) rfl (pv 0) rfl) (pv 9) M7 (aY ph hr (by omega) rfl (ae (pv 7) (ae (aX (bQ (K:=K) rfl) (aV (K:=K) rfl (pv 0) rfl) (pv 9) (λ_ _=>rfl)) ag))))))) (aw (cA (mD (K:=K) rfl (jw plainAttrs_list PySem.F.slot_list_extend PySem.F.type_list_extend ZZ (dh (bH hr) (aV (K:=K) rfl (pv 0) rfl) (pv 4) (λ_ _=>rfl)) (ae (pv 8) ag)))))))))))),?_⟩;have sz:(10000:Nat)<=sizeLine:=by rw[sizeLine_eq];omega
 obtain⟨dx,ho⟩:=ja.obj;have wc:∀{i:Nat} {t:List Int},st.ld[i]?=some t->∃x,l.eC[i]?=some x/\H x=some (.tup (t.map V.int)):=λ{i t} ht=>by
  have hl:=cR ja.lead;have dH:i<l.eC.length:=by rw[hl];exact(Yl.mp ht).1
  obtain⟨y,ey,hy⟩:=fk ja.lead (Yc dH);rw[ht] at ey;cases ey;exact⟨_,Yc dH,hy⟩
 obtain⟨xa,exa,Kk⟩:=wc lA;obtain⟨xb,exb,Kl⟩:=wc lB;have ata:dA (l.eC.map V.ref) (a:Int)=some (.ref xa):=gQ (by rw[Yf,exa];rfl);have atb:dA (l.eC.map V.ref) (b:Int)=some (.ref xb):=gQ (by rw[Yf,exb];rfl);obtain⟨UC,lta⟩:=fl ta (Yg lA);obtain⟨Km,Kn⟩:=fl tb (Yg lB);obtain⟨mo,xr,vmo,UD⟩:=nI (f:=λv:List Nat=>HO.lst (dI v)) ja.mem mA;obtain⟨ms,mms,vms,hms⟩:=nI (f:=λv:List Nat=>HO.lst (dI v)) ja.mem mB;obtain⟨fo,mfo,vfo,hfo⟩:=nI (f:=λv:List Int=>HO.lst (v.map V.int)) ja.free fA;have Kg:=cR ja.mem;have Aq:=cR ja.free;have nd:=ja.nd;have As:∀{x:Addr},x∈l.fF->x∈l.fp:=λ{x} h=>by simp[JL.fp,h]
 simp only[JL.fp,Yz,Ym,not_or] at nd;obtain⟨⟨x1,x2,x3,x4,x5⟩,⟨y1,y2,y3,y4⟩,⟨z1,z2,z3⟩,⟨w1,w2⟩,v1,v2⟩:=nd;refine bX ?_;refine⟨_,rfl,l.J,C,dx,_,_,rfl,ho,jc.cls,jc.ju,rfl,_,rfl,l.ha,_,_,_,rfl,rfl,ak.of ja.heads,nS hB,?_⟩;refine bX ?_;refine⟨_,rfl,l.J,C,dx,_,_,rfl,ho,jc.cls,jc.ju,rfl,_,rfl,l.ha,_,_,_,rfl,rfl,ak.of ja.heads,nS hA,?_⟩;refine bX ?_;refine⟨_,rfl,l.J,C,dx,_,_,rfl,ho,jc.cls,jc.mw,rfl,_,rfl,l.la,_,_,_,rfl,rfl,ak.of ja.ie,atb,_,rfl,xb,tu,tb,tn,rfl,aA.of Kl,aA.of hu,λx hx=>by rw[tl,←Kn];exact pG Km hx,by omega,λtm H1 UB g1 htm=>?_⟩;refine bX ?_;refine⟨_,rfl,_,rfl,l.J,C,dx,_,_,rfl,g1 _ _ ho,jc.cls,jc.mw,rfl,_,rfl,l.la,_,_,_,rfl,rfl,ak.of (g1 _ _ ja.ie),ata,xa,ta,rfl,g1 _ _ Kk,by omega,UC,λti H2 nti g2 Au=>?_⟩;refine⟨tm,ti,bL tn tb,inv ta,rfl,aA.of (g2 _ _ htm),aA.of Au,?_,by rw[iJ];omega,λto H3 Av g3 UE=>?_⟩
 ·rw[fq,lta];exact ZeW (n:=n) (λx hx=>by rw[←tl];exact pG ft hx) (λy hy=>by rw[tl,←Kn];exact pG Km hy)
 have jh:=(g1.trans g2).trans g3;generalize Zgr:bL (inv ta) (bL tn tb)=bj at UE q;have ui:full bj=true/\bj.length=n:=by
  rw[←Zgr];refine⟨pB (js UC) (pB ft Km (by omega)) (by rw[fq,iJ];omega),by rw[iJ,iJ];exact Kn⟩
 refine bX ?_;refine⟨_,rfl,l.J,C,dx,_,_,rfl,jh _ _ ho,jc.cls,jc.tF,rfl,l.md,rfl,.inl ⟨_,.inl (jh _ _ ja.i8)⟩,_,rfl,_,.inl (ha:Int),.ref mo,jh _ _ ja.i8,rfl,vmo,λH4 b4 e4=>?_⟩;rw[yk ha (by rw[Ya];exact Kg.symm)] at e4;have o4:=b4 _ _ (jh _ _ ho) x3;have f4:=b4 _ _ (jh _ _ ja.frees) (λz=>w1 z.symm);refine⟨_,rfl,l.J,C,dx,_,_,rfl,o4,jc.cls,jc.qX,rfl,l.fd,rfl,.inl ⟨_,.inl f4⟩,_,rfl,_,.inl (ha:Int),.ref fo,f4,rfl,vfo,λH5 b5 e5=>?_⟩;rw[yk ha (by rw[Ya];exact Aq.symm)] at e5;have lG:∀c o,H c=some o->c≠l.md->c≠l.fd->H5 c=some o:=λc o e n1 n2=>b5 _ _ (b4 _ _ (jh _ _ e) n1) n2;have e45:H5 l.md=some _:=b5 _ _ e4 w1;have pS:∀{x:Addr},x∈l.fF->x≠l.ha/\x≠l.la/\x≠l.md/\x≠l.fd:=λ{x} hx=>⟨λz=>y4 (by rw[←z];exact hx),λz=>z3 (by rw[←z];exact hx),λz=>w2 (by rw[←z];exact hx),λz=>v1 (by rw[←z];exact hx)⟩;have UG:=lG _ _ UD (pS xr).2.2.1 (pS xr).2.2.2;have uF:H5 to=some (.tup (bj.map V.int)):=by
  have n1:to≠l.md:=λz=>by rw[z,g1.trans g2 _ _ ja.i8] at Av;cases Av
  have n2:to≠l.fd:=λz=>by rw[z,g1.trans g2 _ _ ja.frees] at Av;cases Av
  exact b5 _ _ (b4 _ _ UE n1) n2
 dsimp only;have Ko:(dI ma).length=ma.length:=Ya _;have hlen:∀is:List Nat,(jx hb is st.hd).length=st.hd.length:=λis=>u_ (λ_ _=>Jb) is st.hd;have Zgs:∀is:List Nat,(gk bj is st.ld).length=st.ld.length:=λis=>u_ (λ_ _=>by unfold oM;exact Jb) is st.ld;refine iI (G7 H5 l (jx hb ma st.hd) (gk bj ma st.ld) n (S_ l a b hb ha tu tm to mo)) (λoN fP=>?_) ?_
 ·refine⟨_,rfl,mo,rfl,⟨_,ak.of UG⟩,jq (K:=K) (a:=mo) (xs:=dI ma) (λj=>G7 H5 l (jx hb (ma.take j) st.hd) (gk bj (ma.take j) st.ld) n (S_ l a b hb ha tu tm to mo))
   ⟨l.eC,none,lG _ _ ja.heads y2 y3,lG _ _ ja.ie z1 z2,L2.Paired.bu ja.lead λc xs e=>lG c _ e (dP e ja.i8 (λz=>by cases z)) (dP e ja.frees (λz=>by cases z)),fl,λc o e _ _=>e,rfl⟩
   (λj σ H6 _ ⟨_,_,_,_,_,_,kp,_⟩=>ak.of (kp _ _ UG (pS xr).1 (pS xr).2.1)) ?_ ?_⟩
  ·rintro j v σ H6 hj ⟨gW,o9,k1,k2,k3,k4,kp,rfl⟩;rw[Yf] at hj;obtain⟨i,mi,rfl⟩:∃i,ma[j]?=some i/\V.int (i:Int)=v:=by
    cases e:ma[j]? with
    |none=>rw[e] at hj;cases hj
    |some i=>rw[e] at hj;exact⟨i,rfl,Yo hj⟩
   have hi:=min i (Yg mi);have il:i<(gk bj (ma.take j) st.ld).length:=by rw[Zgs];omega
   have Zho:=cR k3;obtain⟨t,et,Au⟩:=fk k3 (Yc (show i<gW.length by omega));obtain⟨ftt,UH⟩:=k4 t (Yg et);have oJ:=kp _ _ (lG _ _ ho x3 x4) x1 x2;have ixh:kN (dI (jx hb (ma.take j) st.hd)).length (i:Int)=some i:=by
    rw[Gz (by omega) (by rw[Ya,hlen];omega),Y6]
   have ixl:kN (gW.map V.ref).length (i:Int)=some i:=by
    rw[Gz (by omega) (by rw[Ya];omega),Y6]
   refine bp ?_;refine⟨_,rfl,_,rfl,l.J,C,dx,_,_,rfl,oJ,jc.cls,jc.ju,rfl,_,rfl,l.ha,_,_,i,rfl,rfl,k1,ixh,λH7 b7 e7=>?_⟩;have UI:=b7 _ _ oJ x1;have xt:=b7 _ _ k2 (λz=>y1 z.symm);have to7:H7 to=some (.tup (bj.map V.int)):=b7 _ _ (kp _ _ uF (dP uF (lG _ _ ja.heads y2 y3) (λz=>by cases z)) (dP uF (lG _ _ ja.ie z1 z2) (λz=>by cases z))) (dP (kp _ _ uF (dP uF (lG _ _ ja.heads y2 y3) (λz=>by cases z)) (dP uF (lG _ _ ja.ie z1 z2) (λz=>by cases z))) k1 (λz=>by cases z));have x7:H7 gW[i]=some (.tup (t.map V.int)):=b7 _ _ Au (dP Au k1 (λz=>by cases z));have atx:dA (gW.map V.ref) (i:Int)=some (.ref gW[i]):=gQ (by rw[Yf,Yc (show i<gW.length by omega)];rfl);refine⟨_,rfl,_,rfl,l.J,C,dx,_,_,rfl,UI,jc.cls,jc.mw,rfl,_,rfl,l.la,_,_,_,rfl,rfl,ak.of xt,atx,to,gW[i],bj,t,rfl,aA.of to7,aA.of x7,λx hx=>by rw[UH,←ui.2];exact pG ui.1 hx,by have:=ui.2;omega,λtt H8 UJ g8 htt=>?_⟩;refine⟨_,rfl,l.J,C,dx,_,_,rfl,g8 _ _ UI,jc.cls,jc.mw,rfl,_,rfl,l.la,_,_,i,rfl,rfl,g8 _ _ xt,ixl,λH9 b9 e9=>?_⟩;have gt:(gk bj (ma.take j) st.ld).getD i []=t:=by rw[Yk,et];rfl
   have eh:jx hb (ma.take (j+1)) st.hd=(jx hb (ma.take j) st.hd).set i hb:=MG mi st.hd;have el:gk bj (ma.take (j+1)) st.ld=(gk bj (ma.take j) st.ld).set i (bL t bj):=by
    have e1:gk bj (ma.take (j+1)) st.ld=oM bj (gk bj (ma.take j) st.ld) i:=MG mi st.ld;rw[e1,←gt];rfl
   have Kj:tt≠l.la:=λz=>by rw[z,xt] at UJ;cases UJ
   have h9:∀c o,H6 c=some o->c≠l.ha->c≠l.la->H9 c=some o:=λc o e n1 n2=>b9 _ _ (g8 _ _ (b7 _ _ e n1)) n2;refine⟨gW.set i tt,_,?_,?_,?_,?_,λc o e n1 n2=>h9 c o (kp c o e n1 n2) n1 n2,rfl⟩
   ·rw[eh,←Zdh];exact b9 _ _ (g8 _ _ e7) y1
   ·rw[e9,List.map_set]
   ·rw[el];exact MH (F:=λa (xs:List Int)=>H9 a=some (.tup (xs.map V.int))) (b9 _ _ htt Kj) i (L2.Paired.bu k3 λc xs e=>h9 c _ e (dP e k1 (λz=>by cases z)) (dP e k2 (λz=>by cases z)))
   ·intro u xu;rw[el] at xu;rcases List.mem_or_eq_of_mem_set xu with z|z;·exact k4 u z
    ·rw[z];exact⟨pB ftt ui.1 (by rw[UH,ui.2]),by rw[iJ];exact ui.2⟩
  ·rintro σ H6 ⟨gW,o9,k1,k2,k3,k4,kp,rfl⟩;rw[Ko,Wd] at k1 k3 k4;exact fP _ _ ⟨gW,o9,k1,k2,k3,k4,kp,rfl⟩
 rintro σ H6 ⟨gW,o9,k1,k2,k3,k4,kp,rfl⟩;have oJ:=kp _ _ (lG _ _ ho x3 x4) x1 x2;have UK:=kp _ _ e45 (λz=>y2 z.symm) (λz=>z1 z.symm);have fd6:=kp _ _ e5 (λz=>y3 z.symm) (λz=>z2 z.symm);have Aw:=pS mms;have Ax:=pS xr;have we:∀c o,H c=some o->c≠l.ha->c≠l.la->c≠l.md->c≠l.fd->H6 c=some o:=λc o e n1 n2 n3 n4=>kp _ _ (lG _ _ e n3 n4) n1 n2;have ms6:=we _ _ hms Aw.1 Aw.2.1 Aw.2.2.1 Aw.2.2.2;have mo6:=we _ _ UD Ax.1 Ax.2.1 Ax.2.2.1 Ax.2.2.2;have UL:Paired (λc (p:Nat×List Nat)=>H6 c=some (.lst (dI p.2))/\c∈l.fF) (dN (st.mem.map (·.1)) l.fF ha) (cU ha st.mem):=En ja.mem λc p e mc _=>by
  obtain⟨q1,q2,q3,q4⟩:=pS mc;exact⟨we _ _ e q1 q2 q3 q4,mc⟩
 have lkB:(cU ha st.mem).lookup hb=some mb:=by rw[sX (λz=>neq z.symm)];exact mB
 obtain⟨uG,Zgt,Iu,Iv⟩:=nI (f:=λv:List Nat=>HO.lst (dI v)) (L2.Paired.bu UL λ_ _ h=>h.1) lkB;rw[nM] at Iu;have zB:uG∈l.fF:=yH.subset Zgt;refine⟨_,rfl,l.J,C,dx,_,_,rfl,oJ,jc.cls,jc.tF,rfl,_,rfl,l.md,.ref uG,rfl,nY UK Iu,.inl ⟨rfl,_,ak.of Iv⟩,_,rfl,uG,mo,_,_,rfl,rfl,Iv,mo6,by rw[Ko,Ya];omega,λH7 b7 e7=>?_⟩;obtain⟨r1,r2,r3,r4⟩:=pS zB;have sub:=yH (h:=ha) (ks:=st.mem.map (·.1)) (as:=l.fF);have Zgu:=yH (h:=ha) (ks:=st.fr.map (·.1)) (as:=l.bZ);have UM:∀c∈JL.fp ⟨l.J,l.ha,l.la,l.md,l.fd,gW,dN (st.mem.map (·.1)) l.fF ha,dN (st.fr.map (·.1)) l.bZ ha⟩,c∈l.fp:=λc hc=>by
  simp only[JL.fp,Ym] at hc⊢;rcases hc with h|h|h|h|h|h;·exact .inl h
  ·exact .inr (.inl h)
  ·exact .inr (.inr (.inl h))
  ·exact .inr (.inr (.inr (.inl h)))
  ·exact .inr (.inr (.inr (.inr (.inl h))))
  ·exact .inr (.inr (.inr (.inr (.inr (sub.subset h)))))
 have h7:∀c o,H6 c=some o->c≠uG->H7 c=some o:=λc o e n1=>b7 _ _ e n1;refine q ⟨l.J,l.ha,l.la,l.md,l.fd,gW,dN (st.mem.map (·.1)) l.fF ha,dN (st.fr.map (·.1)) l.bZ ha⟩ H7 rfl UM (λc o e nc=>?_) ⟨⟨dx,h7 _ _ oJ (λz=>x5 (by rw[z];exact zB))⟩,h7 _ _ k1 (λz=>r1 z.symm),h7 _ _ k2 (λz=>r2 z.symm),L2.Paired.bu k3 λc xs e=>h7 c _ e (dP e Iv (λz=>by cases z)),?_,?_,?_,?_,?_,λc hc z=>?_⟩
 ·simp only[JL.fp,Ym,not_or] at nc;exact h7 _ _ (we _ _ e nc.2.1 nc.2.2.1 nc.2.2.2.1 nc.2.2.2.2.1) (λz=>nc.2.2.2.2.2 (by rw[z];exact zB))
 ·show H7 l.md=some (.dK (bB ((dY hb (mb++ma) (cU ha st.mem)).map (·.1)) _));rw[qL,nM];exact h7 _ _ UK (λz=>r3 z.symm)
 ·refine Zah (F:=λc (p:Nat×List Nat)=>H6 c=some (.lst (dI p.2))/\c∈l.fF) (m:=uG) (λk=>?_) UL (sub.nodup v2) ?_ (by rw[nM];exact Iu) λc p e _ nc=>h7 _ _ e.1 nc
  ·show H7 uG=some (.lst (dI (mb++ma)));rw[e7,dI,dI,dI,Yp]
  ·rw[nM];exact ndk.filter _
 ·show H7 l.fd=some (.dK (bB ((cU ha st.fr).map (·.1)) _));rw[nM];exact h7 _ _ fd6 (λz=>r4 z.symm)
 ·refine En ja.free λc p e mc _=>?_;have no:=ja.out c mc;simp only[JL.fp,Ym,not_or] at no;exact h7 _ _ (we _ _ e no.2.1 no.2.2.1 no.2.2.2.1 no.2.2.2.2.1) (λz=>no.2.2.2.2.2 (by rw[z];exact zB))
 ·have e0:(JL.fp ⟨l.J,l.ha,l.la,l.md,l.fd,gW,dN (st.mem.map (·.1)) l.fF ha,dN (st.fr.map (·.1)) l.bZ ha⟩).Sublist l.fp:=(((((sub.cons₂ l.fd).cons₂ l.md).cons₂ l.la).cons₂ l.ha).cons₂ l.J);exact e0.nodup ja.nd
 ·exact ja.out c (Zgu.subset hc) (UM c z)
end
structure Ta(st:JS)(n a b ha hb:Nat)(ta tb fma uH:List Int)(ma mb:List Nat):Prop where
 hA:st.hd[a]?=some ha
 hB:st.hd[b]?=some hb
 lA:st.ld[a]?=some ta
 lB:st.ld[b]?=some tb
 fl:∀t∈st.ld,full t=true/\t.length=n
 ll:st.ld.length=st.hd.length
 mA:st.mem.lookup ha=some ma
 mB:st.mem.lookup hb=some mb
 fA:st.fr.lookup ha=some fma
 fB:st.fr.lookup hb=some uH
 ne:ha≠hb
 iA:∀i∈ma,i<st.hd.length
 iB:∀i∈mb,i<st.hd.length
 lm:ma.length+mb.length<=1000
 nd:(st.mem.map (·.1)).Nodup
inductive Of(C:Addr)(vs:List V)(H:Hp)(Q:VK):Prop
 |mk (l:JL) (st:JS) (n a b ha hb:Nat) (ta tb tn fma uH:List Int) (tu:Addr) (ma mb:List Nat) (aE:vs=[.ref l.J,.int (a:Int),.int (b:Int),.ref tu]) (aT:cJ H C n l st) (bw:H tu=some (.tup (tn.map V.int))) (bP:n<=8) (cN:tn.length=n) (dR:full tn=true) (hE:Ta st n a b ha hb ta tb fma uH ma mb) (iS:∀(l':JL) (aI:JS) (H':Hp),l'.J=l.J->(∀c∈l'.fp,c∈l.fp)->Out l.fp H H'->cJ H' C n l' aI->(aI=st.mv hb ha mb ma (bL (inv ta) (bL (inv tn) tb))\/aI=st.mv ha hb ma mb (bL (inv tb) (bL tn ta)))->Q .aB H'):Of C vs H Q
def Pp(C:Addr):Sp:=λvs H Q _=>Of C vs H Q
section
theorem V_:aU ["self","one","other","turn"] ["self","one","other","turn"] (aM A9):=⟨rfl,rfl,rfl,by decide+kernel,rfl,by decide+kernel,by decide+kernel⟩
theorem Zcb(F:aN K "bring_together" "Joins.bring_together" A9 f fd)(jc:mE K C)(nA:HasFn P w K mg base 1 "turned_back" ["turn"] zP)(x_:cD P w K mg base 2 "move" C ["self","mover","stayer","turn"] (Q9 C))(bl:Bl mg):aK P w K mg base aP 3 f fd ["self","one","other","turn"] (Pp C):=by
 refine F.ok V_ (λvs H Q E h=>?_) (λaF A outer s H vs Q E hr h=>?_)
 ·obtain⟨l,st,n,a,b,ha,hb,ta,tb,tn,fma,uH,tu,ma,mb,rfl,_⟩:=h;rfl
 obtain⟨l,st,n,a,b,ha,hb,ta,tb,tn,fma,uH,tu,ma,mb,rfl,ja,hu,n8,tl,ft,two,q⟩:=h;refine⟨_,(aw (aR (bb mH (bM (c9 (K:=K) rfl) rfl bl.cX cV (ae (dh (bH hr) (aV (K:=K) rfl (pv 0) rfl) (aX (bQ (K:=K) rfl) (aV (K:=K) rfl (pv 0) rfl) (pv 1) (λ_ _=>rfl)) (λ_ _=>rfl)) ag)) (bM (c9 (K:=K) rfl) rfl bl.cX cV (ae (dh (bH hr) (aV (K:=K) rfl (pv 0) rfl) (aX (bQ (K:=K) rfl) (aV (K:=K) rfl (pv 0) rfl) (pv 2) (λ_ _=>rfl)) (λ_ _=>rfl)) ag)) (aQ _)) (aw (cA (cO x_ hr (by omega) (pv 0) (ae (pv 1) (ae (pv 2) (ae (aY nA hr (by omega) rfl (ae (pv 3) ag)) ag)))))) (aw (cA (cO x_ hr (by omega) (pv 0) (ae (pv 2) (ae (pv 1) (ae (pv 3) ag)))))))),?_⟩;obtain⟨dx,ho⟩:=ja.obj;obtain⟨xa,mxa,vxa,Kk⟩:=nI (f:=λv:List Nat=>HO.lst (dI v)) ja.mem two.mA;obtain⟨xb,mxb,vxb,Kl⟩:=nI (f:=λv:List Nat=>HO.lst (dI v)) ja.mem two.mB;refine⟨_,rfl,l.J,C,dx,_,_,rfl,ho,jc.cls,jc.tF,rfl,_,rfl,l.J,C,dx,_,_,rfl,ho,jc.cls,jc.ju,rfl,_,rfl,l.ha,_,_,_,rfl,rfl,ak.of ja.heads,nS two.hA,l.md,.ref xa,rfl,nY ja.i8 vxa,xa,_,rfl,.inl (ak.of Kk),?_⟩;refine⟨_,rfl,l.J,C,dx,_,_,rfl,ho,jc.cls,jc.tF,rfl,_,rfl,l.J,C,dx,_,_,rfl,ho,jc.cls,jc.ju,rfl,_,rfl,l.ha,_,_,_,rfl,rfl,ak.of ja.heads,nS two.hB,l.md,.ref xb,rfl,nY ja.i8 vxb,xb,_,rfl,.inl (ak.of Kl),_,_,rfl,rfl,_,rfl,bI (λ_=>?_) (λ_=>?_)⟩
 ·refine⟨_,rfl,l.J,dx,_,rfl,ho,rfl,_,rfl,_,rfl,_,rfl,tu,tn,rfl,hu,by omega,ft,λtv H1 ntv g1 htv=>?_⟩;refine⟨l,st,n,a,b,ha,hb,ta,tb,inv tn,fma,tv,ma,mb,rfl,ja.same g1,htv,n8,by rw[fq];exact tl,js ft,two.hA,two.hB,two.lA,two.lB,two.fl,two.ll,two.mA,two.mB,two.fA,two.ne,two.iA,two.lm,two.nd,λl' H2 k1 k2 o2 j2=>q l' _ H2 k1 k2 ((Out.of g1).trans o2) j2 (.inl rfl)⟩
 ·refine⟨_,rfl,l.J,dx,_,rfl,ho,rfl,_,rfl,_,rfl,_,rfl,?_⟩;exact⟨l,st,n,b,a,hb,ha,tb,ta,tn,uH,tu,mb,ma,rfl,ja,hu,n8,tl,ft,two.hB,two.hA,two.lB,two.lA,two.fl,two.ll,two.mB,two.mA,two.fB,(λz=>two.ne z.symm),two.iB,by have:=two.lm;omega,two.nd,λl' H2 k1 k2 o2 j2=>q l' _ H2 k1 k2 o2 j2 (.inr rfl)⟩
end
def Sf(H:Hp)(as:List Addr)(bU:List (Int×Int)):Prop:=Paired (λa (p:Int×Int)=>H a=some (.tup [.int p.1,.int p.2])) as bU
def iN(hi hj:Nat)(ti tj si sj:List Int):List (Int×Int):=if hi=hj then si.map λz=>(ti.getD z.toNat 0,tj.getD z.toNat 0) else(si.map λz=>ti.getD z.toNat 0).flatMap λx=>sj.map λz=>(x,tj.getD z.toNat 0)
inductive Og(C:Addr)(vs:List V)(H:Hp)(Q:VK):Prop
 |mk (l:JL) (st:JS) (n i j hi hj:Nat) (ti tj si sj:List Int) (aE:vs=[.ref l.J,.int (i:Int),.int (j:Int)]) (aT:cJ H C n l st) (bw:rJ st i hi ti si) (bP:rJ st j hj tj sj) (cN:∀(p:Addr) (as:List Addr) (bU:List (Int×Int)) (H':Hp),H p=none->aj H H'->H' p=some (.lst (as.map V.ref))->Sf H' as bU->bU.Perm (iN hi hj ti tj si sj)->bU.Pairwise iM->Q (.ref p) H'):Og C vs H Q
def Pq(C:Addr):Sp:=λvs H Q _=>Og C vs H Q
inductive Pr(C:Addr)(vs:List V)(H:Hp)(Q:VK):Prop
 |mk (l:JL) (st:JS) (n i j hi hj:Nat) (ti tj si sj tn:List Int) (tu:Addr) (aE:vs=[.ref l.J,.int (i:Int),.int (j:Int),.ref tu]) (aT:cJ H C n l st) (bw:rJ st i hi ti si) (bP:rJ st j hj tj sj) (cN:H tu=some (.tup (tn.map V.int))) (dR:(∀q∈iN hi hj ti tj si sj,0<=q.1/\q.1<tn.length)) (hE:(iN hi hj ti tj si sj).length<=1000) (iS:∀(p:Addr) (ns:List Int) (H':Hp),H p=none->aj H H'->H' p=some (.lst (ns.map V.int))->ns.Perm (((iN hi hj ti tj si sj).filter λq=>decide (tn.getD q.1.toNat 0=q.2)).map (·.1))->ns.Pairwise (·<·)->Q (.ref p) H'):Pr C vs H Q
def GI(C:Addr):Sp:=λvs H Q _=>Pr C vs H Q
section
theorem XM:aU ["self","one","other","turn"] ["self","one","other","turn"] (aM C8):=⟨rfl,rfl,rfl,by decide+kernel,rfl,by decide+kernel,by decide+kernel⟩
theorem Zdj(F:aN K "left" "Joins.left" C8 f fd)(CO:cD P w K mg base 3 "pairs" C ["self","one","other"] (Pq C))(bl:Bl mg):aK P w K mg base aP 4 f fd ["self","one","other","turn"] (GI C):=by
 refine F.ok XM (λvs H Q E h=>?_) (λaF A outer s H vs Q E hr h=>?_)
 ·obtain⟨l,st,n,i,j,hi,hj,ti,tj,si,sj,tn,tu,rfl,_⟩:=h;rfl
 obtain⟨l,st,n,i,j,hi,hj,ti,tj,si,sj,tn,tu,rfl,ja,o1,o2,hu,fE,iT,q⟩:=h;refine⟨_,(aw (aH (ZbQ (xs:=["first","second"]) (fr:=[("turn",3)]) (cl:=[("turn",s.heap.objs.size+1)]) rfl ⟨by with_unfolding_all rfl,⟨rfl,trivial⟩,rfl,by decide+kernel,by decide+kernel,rfl,⟨⟨rfl,.inl rfl,.inl rfl,rfl⟩,trivial⟩,by decide+kernel⟩ (λ_ _ _ _=>(gT (K:=K) (n:=2) rfl rfl (bJ (bo (i:=0) (show(["first","second","turn"]:List Str).Nodup by decide+kernel) rfl (Or.inl rfl)) (bJ (bo (i:=1) (show(["first","second","turn"]:List Str).Nodup by decide+kernel) rfl (Or.inl rfl)) gP)))) (eV (K:=K) rfl (cO CO hr (by omega) (pv 0) (ae (pv 1) (ae (pv 2) ag)))) (λ_ _ _ _=>vJ (bb cg (aX (fU (K:=K) rfl) (pv 2) (pv 0) (λ_ _=>rfl)) (pv 1) (aQ _))) (λ_ _ _ _=>(pv 0))))),?_⟩;obtain⟨dx,ho⟩:=ja.obj;refine⟨_,rfl,l.J,dx,_,rfl,ho,rfl,_,rfl,_,rfl,l,st,n,i,j,hi,hj,ti,tj,si,sj,rfl,ja,o1,o2,λp as bU H1 np g1 hp pr pm pw=>?_⟩;have pl:=cR pr;have al:(as.map V.ref).length=bU.length:=by rw[Ya];exact pl
 have Tb:=pm.length_eq;refine⟨p,rfl,⟨_,ak.of hp⟩,λD hD=>Z1 (xs:=as.map V.ref) (λk ys H2=>k<=bU.length/\aj H1 H2/\H2 D=some (.lst ys)/\ys=((bU.take k).filter λq=>decide (tn.getD q.1.toNat 0=q.2)).map λq=>V.int q.1) ⟨Yv _,cq hD _,aW,rfl⟩ (λk ys H2 _ ⟨_,g2,_,_⟩=>ak.of (g2 _ _ hp)) ?_ ?_⟩
 ·rintro k v ys H2 hk ⟨_,g2,h2,ey⟩ os oB;obtain⟨u1,u2,rfl⟩:∃u1 u2,os=[u1,u2]:=by
   match os,oB with
   |[u1,u2],_=>exact⟨u1,u2,rfl⟩
  rw[Yf] at hk;obtain⟨c,ec,rfl⟩:∃c,as[k]?=some c/\V.ref c=v:=by
   cases e:as[k]? with
   |none=>rw[e] at hk;cases hk
   |some c=>rw[e] at hk;exact⟨c,rfl,Yo hk⟩
  obtain⟨⟨x,y⟩,Kp,hxy⟩:=fk pr ec;have kl:k<bU.length:=(Yl.mp Kp).1;have bx:=fE (x,y) (pm.subset (Yg Kp));have hx2:=g2 _ _ hxy;have yl:ys.length<sizeLine:=by
   have:=Wg (λq:Int×Int=>decide (tn.getD q.1.toNat 0=q.2)) (bU.take k);rw[Y8] at this;rw[ey,Ya,sizeLine_eq];omega
  refine⟨c,_,rfl,aA.of hx2,rfl,_,_,rfl,bp ⟨_,_,rfl,bp ⟨rfl,⟨[some (.int x),some (.int y)],rfl,rfl⟩,?_⟩⟩⟩;refine⟨_,rfl,_,rfl,tu,_,_,_,rfl,rfl,aA.of (g2 _ _ (g1 _ _ hu)),mC bx.1 bx.2,_,rfl,rfl,_,rfl,?_⟩;have ed:decide (V.int (tn.getD x.toNat 0)=V.int y)=decide (tn.getD x.toNat 0=y):=by
   rw[Wf,decide_eq_true_iff,decide_eq_true_iff];exact⟨V.int.inj,λz=>by rw[z]⟩
  rw[ed];have et:∀(b:Bool),decide (tn.getD x.toNat 0=y)=b->((bU.take (k+1)).filter λq=>decide (tn.getD q.1.toNat 0=q.2)).map (λq=>V.int q.1)=ys++(if b=true then[V.int x] else[]):=λb eb=>by
   rw[ey,Y2,Kp,Wr,Yp]
   congr 1
   show([((x,y):Int×Int)].filter _).map _=_;rw[W1,eb];cases b<;>rfl
  refine bI (λcc=>?_) (λcc=>?_)
  ·refine⟨_,rfl,h2,yl,kl,λb o e=>?_,aW,?_⟩
   ·rw[bg (ck e hD)];exact g2 _ _ e
   ·rw[et true cc];rfl
  ·refine⟨kl,g2,h2,?_⟩;rw[et false (by cases e:decide (tn.getD x.toNat 0=y) with|true=>exact absurd e cc|false=>rfl)];simp
 ·rintro ys H2 ⟨_,g2,h2,ey⟩;rw[al,Wd] at ey;refine q D ((bU.filter λq=>decide (tn.getD q.1.toNat 0=q.2)).map (·.1)) H2 (g1.free hD) (g1.trans g2) (by rw[h2,ey,Wa];rfl) ((pm.filter _).map _) ?_;rw[Wu];refine(List.Pairwise.and_mem.mp (pw.filter _)).imp ?_;rintro a b ⟨ma,mb,lt⟩;have e1:tn.getD a.1.toNat 0=a.2:=of_decide_eq_true (Y5.mp ma).2;have e2:tn.getD b.1.toNat 0=b.2:=of_decide_eq_true (Y5.mp mb).2;rcases lt with lt|⟨e,lt⟩;·exact lt
  ·rw[←e1,←e2,e] at lt;exact absurd lt (Int.lt_irrefl _)
end
theorem ZeX{H:Hp}{g:Nat->Int×Int}:∀{ys:List V} {ks:List Nat},Paired (λy k=>∃a,y=V.ref a/\H a=some (.tup [.int (g k).1,.int (g k).2])) ys ks->∃as:List Addr,ys=as.map V.ref/\Sf H as (ks.map g):=by
 intro ys ks pr;induction pr with
 |nil=>exact⟨[],rfl,.nil⟩
 |cons z t ih=>
  obtain⟨a,e,h⟩:=z;obtain⟨as,e2,h2⟩:=ih;exact⟨a::as,by rw[e,e2];rfl,.cons h h2⟩
theorem map_range{α:Type}(g:Int->α)(si:List Int):(List.range si.length).map (λk=>g (si.getD k 0))=si.map g:=by
 have e2:(List.range si.length).map (λk=>g (si.getD k 0))=((List.range si.length).map λk=>si.getD k 0).map g:=by rw[Wa];rfl
 rw[e2,(range_getD si 0)]
def Tc(D:Addr)(H:Hp)(as:List Addr)(bU:List (Int×Int)):Prop:=Paired (λa (p:Int×Int)=>a≠D/\H a=some (.tup [.int p.1,.int p.2])) as bU
theorem FC{α β γ:Type}(g:α->β->γ)(ys:List β):∀xs:List α,(xs.flatMap λx=>ys.map (g x)).length=xs.length*ys.length
 |[]=>by simp
 |x::xs=>by rw[List.flatMap_cons,Yj,FC g ys xs,Ya,Wl,Nat.succ_mul];omega
theorem Zba{α β γ:Type}{g:α->List γ}{xs:List α}{i:Nat}{x:α}(h:xs[i]?=some x):(xs.take (i+1)).flatMap g=(xs.take i).flatMap g++g x:=by
 rw[Y2,h,List.flatMap_append];simp
theorem Nj{ns:List Int}(so:ns.Pairwise (·<=·))(nd:ns.Nodup):ns.Pairwise (·<·):=by
 refine(List.Pairwise.and so (W5.mp nd)).imp ?_
 grind
theorem Zdk(x:Int){ns:List Int}(st:ns.Pairwise (·<·)):(ns.map λy=>((x,y):Int×Int)).Pairwise iM:=by
 rw[Wu];exact st.imp λh=>.inr ⟨rfl,h⟩
theorem Zdl{ns:List Int}(st:ns.Pairwise (·<·)){k:Nat}{x y:Int}(hx:ns[k]?=some x)(my:y∈ns.take k):y<x:=by
 obtain⟨i,hi,rfl⟩:=Ws.mp my;obtain⟨hk,rfl⟩:=Yl.mp hx;rw[Y8] at hi;rw[List.getElem_take];exact Ww.mp st i k (by omega) hk (by omega)
section
theorem Cf:aU ["self","one","other","here","there"] ["self","one","other"] (aM CG):=⟨rfl,rfl,rfl,by decide+kernel,rfl,by decide+kernel,by decide+kernel⟩
theorem Zcc(F:aN K "pairs" "Joins.pairs" CG f fd)(jc:mE K C)(sI:cD P w K mg base 1 "together" C ["self","one","other"] (Em C))(l_:cD P w K mg base 2 "open_at" C ["self","one"] (yG C))(bl:Bl mg):aK P w K mg base aP 3 f fd ["self","one","other"] (Pq C):=by
 refine F.ok Cf (λvs H Q E h=>?_) (λaF A outer s H vs Q E hr h=>?_)
 ·obtain⟨l,st,n,i,j,hi,hj,ti,tj,si,sj,rfl,_⟩:=h;rfl
 obtain⟨l,st,n,i,j,hi,hj,ti,tj,si,sj,rfl,ja,o1,o2,q⟩:=h;refine⟨_,(au (aR (iY (eK (cO sI hr (by omega) (pv 0) (ae (pv 1) (ae (pv 2) ag))))) (aw (aH (ZbR (xs:=["first","second"]) (fr:=[("self",0),("other",2)]) (cl:=[("self",s.heap.objs.size+1),("other",s.heap.objs.size+1+1)]) rfl ⟨by with_unfolding_all rfl,⟨rfl,⟨rfl,trivial⟩⟩,rfl,by decide+kernel,by decide+kernel,rfl,⟨⟨rfl,.inl rfl,.inl rfl,rfl⟩,⟨⟨rfl,.inl rfl,.inl rfl,rfl⟩,trivial⟩⟩,by decide+kernel⟩ (λ_ _ _ _=>(bo (i:=0) (show(["first","second","self","other"]:List Str).Nodup by decide+kernel) rfl (Or.inl rfl))) (eV (K:=K) rfl (cO l_ hr (by omega) (pv 0) (ae (pv 1) ag))) (λ_ _ _ _=>(eV (K:=K) rfl (cO l_ hr (by omega) (pv 2) (ae (pv 3) ag)))) (λ_ _ _ _=>(bo (i:=1) (show(["first","second","self","other"]:List Str).Nodup by decide+kernel) rfl (Or.inl rfl))) (λ_ _ _ _=>(cK (ae (pv 0) (ae (pv 1) ag))))))) a_) (au (bq (i:=3) Cf.nd rfl (Or.inr rfl) (aX (bQ (K:=K) rfl) (aV (K:=K) rfl (pv 0) rfl) (pv 1) (λ_ _=>rfl))) (au (bq (i:=4) Cf.nd rfl (Or.inr rfl) (aX (bQ (K:=K) rfl) (aV (K:=K) rfl (pv 0) rfl) (pv 2) (λ_ _=>rfl))) (aw (aH (bM (ZbX (K:=K) rfl) rfl bl.yD yr (ae (iH (x:="section") (fr:=[("there",4),("here",3)]) (cl:=[("there",s.heap.objs.size+1+1+1+1),("here",s.heap.objs.size+1+1+1)]) rfl ⟨by with_unfolding_all rfl,⟨rfl,⟨rfl,trivial⟩⟩,rfl,by decide+kernel,rfl,by decide+kernel,rfl,⟨⟨rfl,.inl rfl,.inl rfl,rfl⟩,⟨⟨rfl,.inl rfl,.inl rfl,rfl⟩,trivial⟩⟩,by decide+kernel⟩ (eV (K:=K) rfl (dh (bH hr) (aV (K:=K) rfl (pv 0) rfl) (aX (bQ (K:=K) rfl) (aV (K:=K) rfl (pv 0) rfl) (pv 1) (λ_ _=>rfl)) (λ_ _=>rfl))) (λ_ _ _ _=>ku) (λ_ _ _ _=>(cK (ae (aX (fU (K:=K) rfl) (pv 2) (pv 0) (λ_ _=>rfl)) (ae (aX (fU (K:=K) rfl) (pv 1) (pv 0) (λ_ _=>rfl)) ag))))) ag))))))),?_⟩;obtain⟨dx,ho⟩:=ja.obj;have f1:=o1.iT;have f2:=o2.iT;refine⟨_,rfl,l.J,dx,_,rfl,ho,rfl,_,rfl,_,rfl,l,st,n,i,j,hi,hj,rfl,ja,o1.hd,o2.hd,_,rfl,?_⟩;by_cases eh:hi=hj
 ·rw[decide_eq_true eh];refine cj (aZ ?_);have es:si=sj:=by have a:=o1.fr;have b:=o2.fr;rw[eh,b] at a;exact(Yo a).symm
  have wc:∀{k:Nat} {t:List Int},st.ld[k]?=some t->∃x,l.eC[k]?=some x/\H x=some (.tup (t.map V.int)):=λ{k t} ht=>by
   have hl:=cR ja.lead;have dH:k<l.eC.length:=by rw[hl];exact(Yl.mp ht).1
   obtain⟨y,ey,hy⟩:=fk ja.lead (Yc dH);rw[ht] at ey;cases ey;exact⟨_,Yc dH,hy⟩
  obtain⟨xi,exi,hxi⟩:=wc o1.ld;obtain⟨xj,exj,hxj⟩:=wc o2.ld;have ati:dA (l.eC.map V.ref) (i:Int)=some (.ref xi):=gQ (by rw[Yf,exi];rfl);have atj:dA (l.eC.map V.ref) (j:Int)=some (.ref xj):=gQ (by rw[Yf,exj];rfl);obtain⟨fa,UA,vf,cY⟩:=nI (f:=λv:List Int=>HO.lst (v.map V.int)) ja.free o1.fr;refine bX ?_;refine⟨_,rfl,l.J,C,dx,_,_,rfl,ho,jc.cls,jc.mw,rfl,_,rfl,l.la,_,_,_,rfl,rfl,ak.of ja.ie,ati,?_⟩;refine bX ?_;refine⟨_,rfl,l.J,C,dx,_,_,rfl,ho,jc.cls,jc.mw,rfl,_,rfl,l.la,_,_,_,rfl,rfl,ak.of ja.ie,atj,?_⟩;refine⟨_,rfl,l.J,C,dx,_,_,rfl,ho,jc.cls,jc.qX,rfl,_,rfl,l.J,C,dx,_,_,rfl,ho,jc.cls,jc.ju,rfl,_,rfl,l.ha,_,_,_,rfl,rfl,ak.of ja.heads,nS o1.hd,l.fd,_,rfl,nY ja.frees vf,fa,rfl,⟨_,ak.of cY⟩,λD hD=>vy (xs:=si.map V.int) (ak.of cY) (by rw[Ya];omega) hD (λ_=>true) (λk y H1=>∃a,y=V.ref a/\a≠D/\H1 a=some (.tup [.int (ti.getD (si.getD k 0).toNat 0),.int (tj.getD (si.getD k 0).toNat 0)])) (λk y H1 H2 b ⟨a,e1,e2,e3⟩=>⟨a,e1,e2,b _ _ e3 e2⟩) (λk v hk H1 g1 Kq Kt Kf kt kf=>?_) λys H1 g1 h1 pr=>?_⟩
  ·obtain⟨z,rfl,hz⟩:=mj hk;have gz:si.getD k 0=z:=by rw[Yk,hz];rfl
   have b1:=o1.fE z (Yg hz);have b2:=o2.fE z (by rw[←es];exact Yg hz);refine jB (c6 ?_);refine⟨_,rfl,_,rfl,xi,_,_,_,rfl,rfl,aA.of (g1 _ _ hxi),mC b1.1 b1.2,_,rfl,_,rfl,xj,_,_,_,rfl,rfl,aA.of (g1 _ _ hxj),mC b2.1 b2.2,by show 2<=sizeLine;rw[sizeLine_eq];omega,λa H2 na g2 ha=>?_⟩;obtain⟨ys,Kq⟩:=Kq;exact kt _ H2 rfl g2 ⟨a,rfl,(λz=>by rw[z,Kq] at na;cases na),by rw[gz];exact ha⟩
  ·rw[yg,Ya] at pr;obtain⟨as,eas,du⟩:=ZeX (g:=λk=>(ti.getD (si.getD k 0).toNat 0,tj.getD (si.getD k 0).toNat 0)) (L2.Paired.bu pr λy k ⟨a,e1,e2,e3⟩=>⟨a,e1,e3⟩);have em:(List.range si.length).map (λk=>((ti.getD (si.getD k 0).toNat 0,tj.getD (si.getD k 0).toNat 0):Int×Int))=si.map λz=>(ti.getD z.toNat 0,tj.getD z.toNat 0):=map_range (λz=>(ti.getD z.toNat 0,tj.getD z.toNat 0)) si;rw[em] at du;have al:=cR du;rw[Ya] at al;rw[eas] at h1;have ndp:(si.map λz=>((ti.getD z.toNat 0,tj.getD z.toNat 0):Int×Int)).Nodup:=by
    have d:=o1.dist;rw[W5,Wu] at d⊢;exact d.imp λh e=>h (congrArg (·.1) e)
   refine⟨D,as,_,rfl,ak.of h1,du,ndp,.inl (by omega),λgq lL pr2 p2 pw p H2 np g2 hp=>?_⟩;refine q p gq lL H2 (g1.free np) (g1.trans g2) hp (L2.Paired.bu pr2 λ_ _ e=>g2 _ _ e) ?_ pw;unfold iN;rw[if_pos eh];exact p2
 ·rw[decide_eq_false eh];refine c6 ?_;refine⟨_,rfl,l.J,dx,_,rfl,ho,rfl,_,rfl,l,st,n,i,hi,ti,si,rfl,ja,o1.hd,o1.ld,o1.fr,o1.fE,o1.iT,λp ns H1 np g1 pm srt hp=>?_⟩;have nl:=pm.length_eq;rw[Ya] at nl;have sns:=Nj srt (pm.nodup_iff.mpr o1.dist);refine⟨p,rfl,⟨_,ak.of hp⟩,λD hD=>Zc0 (xs:=ns.map V.int) (λk ys H2=>k<=ns.length/\aj H1 H2/\H2 D=some (.lst ys)/\∃(as:List Addr) (bU:List (Int×Int)),ys=as.map V.ref/\Tc D H2 as bU/\bU.Perm ((ns.take k).flatMap λx=>sj.map λz=>(x,tj.getD z.toNat 0))/\bU.Pairwise iM/\∀p∈bU,p.1∈ns.take k) ⟨Yv _,cq hD _,aW,[],[],rfl,.nil,.nil,.nil,λ_ h=>(nomatch h)⟩ (λk ys H2 _ ⟨_,g2,_⟩=>ak.of (g2 _ _ hp)) ?_ ?_ ?_ (λv σ H R R' m h=>m _ _ h)⟩
  ·rintro k v ys H2 hk ⟨kl,g2,h2,as,bU,ey,pa,pp,pw,pin⟩ os oB;obtain⟨u1,u2,rfl⟩:∃u1 u2,os=[u1,u2]:=by
    match os,oB with
    |[u1,u2],_=>exact⟨u1,u2,rfl⟩
   obtain⟨x,rfl,hx⟩:=mj hk;have kl':k<ns.length:=(Yl.mp hx).1;refine bp ⟨⟨[some (.int x),u2],rfl,rfl⟩,?_⟩;refine⟨_,rfl,l.J,dx,_,rfl,g2 _ _ (g1 _ _ ho),rfl,_,rfl,l,st,n,j,hj,tj,sj,rfl,ja.same (g1.trans g2),o2.hd,o2.ld,o2.fr,o2.fE,o2.iT,λp2 r6 H3 oO g3 Kr Zgv dG=>?_⟩;have xv:=Kr.length_eq;rw[Ya] at xv;have Zgw:=Nj Zgv (Kr.nodup_iff.mpr o2.dist);have pD:p2≠D:=λz=>by rw[z,h2] at oO;cases oO
   have Tb:=pp.length_eq;rw[FC (λx z=>((x,tj.getD z.toNat 0):Int×Int)) sj (ns.take k),Y8] at Tb;have ZhF:=cR pa;have ZhG:min k ns.length*sj.length<=64*64:=Nat.mul_le_mul (by omega) (by omega);refine⟨p2,rfl,⟨_,ak.of dG⟩,p2,r6.map V.int,λk2 fN σ H4=>k2<=r6.length/\aj H1 H4/\H4 D=some (.lst fN)/\H4 p2=some (.lst (r6.map V.int))/\(∃o2,σ=[some (.int x),o2]++_)/\∃(uI:List Addr) (uj:List (Int×Int)),fN=uI.map V.ref/\Tc D H4 uI uj/\uj=bU++(r6.take k2).map λy=>(x,y),rfl,⟨Yv _,g2.trans g3,g3 _ _ h2,dG,⟨u2,rfl⟩,as,bU,ey,L2.Paired.bu pa λ_ _ e=>⟨e.1,g3 _ _ e.2⟩,by simp⟩,λk2 fN σ H4 _ ⟨_,_,_,e,_⟩=>ak.of e,?_,?_⟩
   ·rintro k2 v2 fN σ H4 hk2 ⟨k2l,g4,h4,e4,⟨UN,rfl⟩,uI,uj,Ay,Az,r8⟩;obtain⟨y,rfl,hy⟩:=mj hk2;have Zgx:k2<r6.length:=(Yl.mp hy).1;have UO:=cR Az;rw[r8,Yj,Ya,Y8] at UO;refine bp ⟨_,rfl,_,rfl,by show 2<=sizeLine;rw[sizeLine_eq];omega,λa H5 na g5 ha=>⟨g5 _ _ h4,by rw[Ay,Ya,UO,sizeLine_eq];have:=o2.iT;omega,Zgx,?_,aW,?_,⟨some (.int y),rfl⟩,uI++[a],uj++[(x,y)],by rw[Ay,Yp];rfl,?_,?_⟩⟩
    ·intro b o e;rw[bg (ck e hD)];exact g5 _ _ (g4 _ _ e)
    ·rw[bg pD];exact g5 _ _ e4
    ·have aD:a≠D:=λz=>by rw[z,h4] at na;cases na
     exact iX (F:=λa (p:Int×Int)=>a≠D/\upd H5 D _ a=some (.tup [.int p.1,.int p.2])) ⟨aD,by rw[bg aD];exact ha⟩ (L2.Paired.bu Az λb p e=>⟨e.1,by rw[bg e.1];exact g5 _ _ e.2⟩)
    ·rw[r8,Y2,hy,Yp,Jk];rfl
   ·rintro fN σ H4 ⟨_,g4,h4,e4,⟨UN,rfl⟩,uI,uj,Ay,Az,r8⟩;rw[Ya,Wd] at r8;refine⟨⟨[some (.int x),UN],rfl,rfl⟩,kl',g4,h4,uI,uj,Ay,Az,?_,?_,λp mp=>?_⟩
    ·rw[r8,Zba (β:=Int) hx];refine pp.append ?_;have:=Kr.map λy:Int=>((x,y):Int×Int);rw[Wa] at this;exact this
    ·rw[r8];refine J0.mpr ⟨pw,Zdk x Zgw,λp mp q' mq=>.inl ?_⟩;obtain⟨y,_,rfl⟩:=Ye.mp mq;exact Zdl sns hx (pin p mp)
    ·rw[r8] at mp;rw[Y2,hx];rcases Yu.mp mp with mp|mp;·exact Yt _ (pin p mp)
     ·obtain⟨y,_,rfl⟩:=Ye.mp mp;exact Yq _ Yh
  ·rintro ys H2 ⟨_,g2,h2,as,bU,ey,pa,pp,pw,_⟩;rw[Ya,Wd] at pp;rw[ey] at h2;refine q D as bU H2 (g1.free hD) (g1.trans g2) h2 (L2.Paired.bu pa λ_ _ e=>e.2) (pp.trans ?_) pw;unfold iN;rw[if_neg eh];exact pm.flatMap_right _
  ·rintro σ H R R' m ⟨x1,e1,x2,x3,x4,e2,e3,e4,x5,e5,l,st,n,i,h,t,secs,e6,j1,j2,j3,j4,j5,j6,k⟩;refine⟨x1,e1,x2,x3,x4,e2,e3,e4,x5,e5,l,st,n,i,h,t,secs,e6,j1,j2,j3,j4,j5,j6,λp ns H' a b c d e=>?_⟩;obtain⟨a,e,s,r⟩:=k p ns H' a b c d e;exact⟨a,e,s,m _ _ r⟩
end
def ap(t:List Int)(z:Int):Int:=t.getD z.toNat 0
theorem GJ(h0:0<=z)(h:z<t.length):t[z.toNat]?=some (ap t z):=by
 unfold ap
 grind
theorem lH{t:List Int}{n:Nat}(ft:full t=true)(lt:t.length=n){z:Int}(h:0<=z/\z<n):0<=ap t z/\ap t z<n:=by
 have:=pG ft (Yg (GJ h.1 (by omega)));omega
theorem tR{t:List Int}{n:Nat}(ft:full t=true)(lt:t.length=n){z:Int}(h:0<=z/\z<n):ap (inv t) (ap t z)=z:=by
 have b:=lH ft lt h;have e2:=yX (xs:=t) (i:=(ap t z).toNat) (by omega);rw[(Jq b.1),yu (yi ft) (GJ h.1 (by omega))] at e2;have e3:ap (inv t) (ap t z)=((z.toNat:Nat):Int):=by
  show(inv t).getD (ap t z).toNat 0=_
  grind
 grind
theorem Pt{t:List Int}{n:Nat}(ft:full t=true)(lt:t.length=n){z:Int}(h:0<=z/\z<n):ap t (ap (inv t) z)=z:=by
 have:=tR (js ft) (by rw[fq];exact lt) h;rw[inv_inv ft] at this;exact this
theorem zo{t:List Int}{n:Nat}(ft:full t=true)(lt:t.length=n){z z':Int}(h:0<=z/\z<n)(h':0<=z'/\z'<n)(e:ap t z=ap t z'):z=z':=by
 have a:=tR ft lt h;rw[e,tR ft lt h'] at a;exact a.symm
theorem zp{xs ys:List Int}{z:Int}(h:0<=z/\z<ys.length):ap (bL xs ys) z=ap xs (ap ys z):=by
 show(bL xs ys).getD z.toNat 0=_;unfold bL;rw[Yk,Yf,(GJ h.1 h.2)];rfl
def JS.ah(st:JS)(i:Nat):Nat:=st.hd.getD i 0
def JS.bV(st:JS)(i:Nat):List Int:=st.ld.getD i []
def JS.cF(st:JS)(h:Nat):List Int:=(st.fr.lookup h).getD []
def c_(st:JS)(f:Nat->Int):Prop:=∃s:Nat->Int,∀i,i<st.hd.length->s (st.ah i)∈st.cF (st.ah i)/\f i=ap (st.bV i) (s (st.ah i))
structure WF(n:Nat)(st:JS):Prop where
 ll:st.ld.length=st.hd.length
 fl:∀t∈st.ld,full t=true/\t.length=n
 fr:∀i,i<st.hd.length->∃secs,st.fr.lookup (st.ah i)=some secs/\secs.Nodup/\∀z∈secs,0<=z/\z<(n:Int)
 mem:∀i,i<st.hd.length->∃ms,st.mem.lookup (st.ah i)=some ms/\ms.Nodup/\∀k,k∈ms↔k<st.hd.length/\st.ah k=st.ah i
 nm:(st.mem.map (·.1)).Nodup
 lm:∀k∈st.mem.map (·.1),k<st.hd.length
 nf:(st.fr.map (·.1)).Nodup
 lf:∀k∈st.fr.map (·.1),k<st.hd.length
 hf:∀k∈st.fr.map (·.1),∃i,i<st.hd.length/\st.ah i=k
theorem va{xs:List Nat}{m:Nat}(nd:xs.Nodup)(h:∀x∈xs,x<m):xs.length<=m:=by
 have l:=nd.length_le_of_subset λx hx=>Wq.mpr (h x hx)
 grind
theorem Df{xs:List Int}{n:Nat}(nd:xs.Nodup)(h:∀x∈xs,0<=x/\x<(n:Int)):xs.length<=n:=by
 have l:=nd.length_le_of_subset (l₂:=bF n) λx hx=>by
  obtain⟨a,b⟩:=h x hx;have:=Yg (kZ (n:=n) (i:=x.toNat) (by omega))
  grind
 rwa [eG] at l
theorem Eo{α:Type}:∀{ps:List (Nat×α)} {k:Nat} {v:α},ps.lookup k=some v->k∈ps.map (·.1)
 |[],_,_,h=>by simp at h
 |p::ps,k,v,h=>by
  rw[W0] at h;by_cases e:k=p.1;·grind
  ·rw[beq_eq_false_iff_ne.mpr e] at h;exact Yx _ (Eo h)
theorem yc{α:Type}(h:Nat)(v:α)(k:Nat):∀ps:List (Nat×α),(dY h v ps).lookup k=if k=h then(ps.lookup h).map λ_=>v else ps.lookup k
 |[]=>by show([]:List (Nat×α)).lookup k=_;simp
 |p::ps=>by
  have ih:=yc h v k ps;have e0:dY h v (p::ps)=(if p.1=h then(p.1,v) else p)::dY h v ps:=rfl
  grind
section
variable {n:Nat}{st:JS}
theorem vK{i:Nat}(h:i<st.hd.length):st.hd[i]?=some (st.ah i):=by
 unfold JS.ah;rw[Yk,Yc h];rfl
theorem WF.zr(wf:WF n st){i:Nat}(h:i<st.hd.length):st.ld[i]?=some (st.bV i):=by
 unfold JS.bV;rw[Yk,Yc (by rw[wf.ll];exact h)];rfl
theorem WF.jO(wf:WF n st){i:Nat}(h:i<st.hd.length):full (st.bV i)=true/\(st.bV i).length=n:=wf.fl _ (Yg (wf.zr h))
theorem WF.dM(wf:WF n st){i:Nat}(h:i<st.hd.length):st.fr.lookup (st.ah i)=some (st.cF (st.ah i))/\(st.cF (st.ah i)).Nodup/\∀z∈st.cF (st.ah i),0<=z/\z<(n:Int):=by
 obtain⟨secs,e,a,b⟩:=wf.fr i h;have e2:st.cF (st.ah i)=secs:=by unfold JS.cF;rw[e];rfl
 grind
theorem WF.dist(wf:WF n st){i:Nat}(h:i<st.hd.length):((st.cF (st.ah i)).map λz=>(st.bV i).getD z.toNat 0).Nodup:=by
 obtain⟨e,a,b⟩:=wf.dM h;rw[W5,Wu];refine(List.Pairwise.and_mem.mp (W5.mp a)).imp ?_;rintro u v ⟨mu,mv,ne⟩ z;exact ne (zo (wf.jO h).1 (wf.jO h).2 (b u mu) (b v mv) z)
theorem WF.one(wf:WF n st)(n8:n<=8){i:Nat}(h:i<st.hd.length):rJ st i (st.ah i) (st.bV i) (st.cF (st.ah i)):=by
 obtain⟨e,a,b⟩:=wf.dM h;have:=Df a b;refine⟨vK h,wf.zr h,e,λz hz=>by rw[(wf.jO h).2];exact b z hz,by omega,wf.dist h⟩
theorem WF.two(wf:WF n st){i j:Nat}(hi:i<st.hd.length)(hj:j<st.hd.length)(m4:st.hd.length<=400)(ne:st.ah i≠st.ah j):∃ma mb,Ta st n i j (st.ah i) (st.ah j) (st.bV i) (st.bV j) (st.cF (st.ah i)) (st.cF (st.ah j)) ma mb/\(ma.Nodup/\∀k,k∈ma↔k<st.hd.length/\st.ah k=st.ah i)/\(mb.Nodup/\∀k,k∈mb↔k<st.hd.length/\st.ah k=st.ah j):=by
 obtain⟨ma,e1,a1,b1⟩:=wf.mem i hi;obtain⟨mb,e2,a2,b2⟩:=wf.mem j hj;have l1:=va a1 λk hk=>((b1 k).mp hk).1;have l2:=va a2 λk hk=>((b2 k).mp hk).1;exact⟨ma,mb,⟨vK hi,vK hj,wf.zr hi,wf.zr hj,wf.fl,wf.ll,e1,e2,(wf.dM hi).1,(wf.dM hj).1,ne,λk hk=>((b1 k).mp hk).1,λk hk=>((b2 k).mp hk).1,by omega,wf.nm⟩,⟨a1,b1⟩,a2,b2⟩
theorem WF.zC(wf:WF n st):st.fr.length<=st.hd.length:=by
 have:=va wf.nf wf.lf
 grind
theorem WF.Q_(wf:WF n st):st.mem.length<=st.hd.length:=by
 have:=va wf.nm wf.lm
 grind
theorem wf0:WF n ⟨[],[],[],[]⟩:=⟨rfl,λ_ h=>(nomatch h),λ_ h=>absurd h (Wk _),λ_ h=>absurd h (Wk _),.nil,λ_ h=>(nomatch h),.nil,λ_ h=>(nomatch h),λ_ h=>(nomatch h)⟩
theorem E2(st:JS)(h k:Nat)(v:List Int)(hv:st.fr.lookup h≠none):(st.kI h v).cF k=if k=h then v else st.cF k:=by
 show((dY h v st.fr).lookup k).getD []=_;rw[yc];by_cases e:k=h
 ·rw[if_pos e,if_pos e];cases e2:st.fr.lookup h with
  |none=>grind
  |some x=>rfl
 ·rw[if_neg e,if_neg e];rfl
theorem WF.kI(wf:WF n st){i:Nat}(hi:i<st.hd.length){p:Int->Bool}:WF n (st.kI (st.ah i) ((st.cF (st.ah i)).filter p)):=by
 refine⟨wf.ll,wf.fl,λk hk=>?_,wf.mem,wf.nm,wf.lm,?_,?_,?_⟩
 ·obtain⟨e,a,b⟩:=wf.dM hk;show ∃secs,(dY _ _ st.fr).lookup (st.ah k)=some secs/\_;rw[yc]
  grind
 ·show((dY _ _ st.fr).map (·.1)).Nodup;rw[qL];exact wf.nf
 ·show ∀k∈(dY _ _ st.fr).map (·.1),_;rw[qL];exact wf.lf
 ·show ∀k∈(dY _ _ st.fr).map (·.1),_;rw[qL];exact wf.hf
theorem ve(wf:WF n st){i:Nat}(hi:i<st.hd.length)(ss:List Int)(f:Nat->Int):c_ (st.kI (st.ah i) ((st.cF (st.ah i)).filter λz=>decide ((st.bV i).getD z.toNat 0∈ss))) f↔c_ st f/\f i∈ss:=by
 have hv:st.fr.lookup (st.ah i)≠none:=by rw[(wf.dM hi).1];exact λz=>nomatch z
 constructor
 ·rintro⟨s,h⟩;have hk:∀k,k<st.hd.length->s (st.ah k)∈st.cF (st.ah k)/\f k=ap (st.bV k) (s (st.ah k)):=λk hk=>by
   obtain⟨a,b⟩:=h k hk;refine⟨?_,b⟩;have a':s (st.ah k)∈(st.kI (st.ah i) ((st.cF (st.ah i)).filter λz=>decide ((st.bV i).getD z.toNat 0∈ss))).cF (st.ah k):=a;rw[E2 st _ _ _ hv] at a'
   grind
  refine⟨⟨s,hk⟩,?_⟩;obtain⟨a,b⟩:=h i hi;have a':s (st.ah i)∈(st.kI (st.ah i) ((st.cF (st.ah i)).filter λz=>decide ((st.bV i).getD z.toNat 0∈ss))).cF (st.ah i):=a;rw[E2 st _ _ _ hv,if_pos rfl] at a';rw[b];exact of_decide_eq_true (Y5.mp a').2
 ·rintro⟨⟨s,h⟩,m⟩;refine⟨s,λk hk=>?_⟩;obtain⟨a,b⟩:=h k hk;refine⟨?_,b⟩;show s (st.ah k)∈(st.kI (st.ah i) ((st.cF (st.ah i)).filter λz=>decide ((st.bV i).getD z.toNat 0∈ss))).cF (st.ah k);rw[E2 st _ _ _ hv];by_cases z:st.ah k=st.ah i
  ·rw[if_pos z];rw[z] at a⊢;refine Y5.mpr ⟨a,decide_eq_true ?_⟩;rw[((h i hi).2)] at m;exact m
  ·grind
theorem E3(wf:WF n st){f:Nat->Int}(d:c_ st f)(h1 h2:Nat)(z1 z2:Int)(m1:z1∈st.cF h1)(m2:z2∈st.cF h2)(ne:h1=h2->z1=z2):∃f',c_ st f'/\∀k,k<st.hd.length->(st.ah k=h1->f' k=ap (st.bV k) z1)/\(st.ah k=h2->f' k=ap (st.bV k) z2):=by
 obtain⟨s,h⟩:=d;refine⟨λk=>ap (st.bV k) ((λq=>if q=h1 then z1 else if q=h2 then z2 else s q) (st.ah k)),⟨λq=>if q=h1 then z1 else if q=h2 then z2 else s q,λk hk=>⟨?_,rfl⟩⟩,λk hk=>⟨λe=>?_,λe=>?_⟩⟩;·grind
 ·grind
 ·grind
theorem vF(wf:WF n st){i j:Nat}(hi:i<st.hd.length)(hj:j<st.hd.length){f:Nat->Int}(d:c_ st f):(f i,f j)∈iN (st.ah i) (st.ah j) (st.bV i) (st.bV j) (st.cF (st.ah i)) (st.cF (st.ah j)):=by
 obtain⟨s,h⟩:=d;obtain⟨a1,b1⟩:=h i hi;obtain⟨a2,b2⟩:=h j hj;unfold iN;by_cases e:st.ah i=st.ah j
 ·rw[if_pos e];refine Ye.mpr ⟨s (st.ah i),a1,?_⟩;rw[b1,b2,←e];rfl
 ·rw[if_neg e];refine UP.mpr ⟨f i,Ye.mpr ⟨_,a1,b1.symm⟩,Ye.mpr ⟨_,a2,?_⟩⟩;rw[b2];rfl
theorem Oh(wf:WF n st){i j:Nat}(hi:i<st.hd.length)(hj:j<st.hd.length)(live:∃f,c_ st f){x y:Int}(m:(x,y)∈iN (st.ah i) (st.ah j) (st.bV i) (st.bV j) (st.cF (st.ah i)) (st.cF (st.ah j))):∃f,c_ st f/\f i=x/\f j=y:=by
 obtain⟨f0,d0⟩:=live;unfold iN at m;by_cases e:st.ah i=st.ah j
 ·rw[if_pos e] at m;obtain⟨z,mz,ez⟩:=Ye.mp m;obtain⟨f,d,q⟩:=E3 wf d0 (st.ah i) (st.ah i) z z mz mz (λ_=>rfl);exact⟨f,d,((q i hi).1 rfl).trans (congrArg (·.1) ez),((q j hj).1 e.symm).trans (congrArg (·.2) ez)⟩
 ·rw[if_neg e] at m;obtain⟨x',mx,my⟩:=UP.mp m;obtain⟨z1,Ks,Ku⟩:=Ye.mp mx;obtain⟨z2,Kv,xw⟩:=Ye.mp my;obtain⟨f,d,q⟩:=E3 wf d0 (st.ah i) (st.ah j) z1 z2 Ks Kv (λz=>absurd z e);exact⟨f,d,(((q i hi).1 rfl).trans Ku).trans (congrArg (·.1) xw),((q j hj).2 rfl).trans (congrArg (·.2) xw)⟩
end
theorem Nk(hb:Nat):∀(mv:List Nat) (hd:List Nat) (i:Nat),i<hd.length->(jx hb mv hd)[i]?=if i∈mv then some hb else hd[i]?
 |[],hd,i,h=>rfl
 |k::mv,hd,i,h=>by
  have ih:=Nk hb mv (hd.set k hb) i (by rw[Jb];exact h);have e0:jx hb (k::mv) hd=jx hb mv (hd.set k hb):=rfl
  grind
theorem Nl(bj:List Int):∀(mv:List Nat) (ld:List (List Int)) (i:Nat),mv.Nodup->i<ld.length->(gk bj mv ld)[i]?=if i∈mv then some (bL (ld.getD i []) bj) else ld[i]?
 |[],ld,i,_,h=>rfl
 |k::mv,ld,i,nd,h=>by
  obtain⟨n1,n2⟩:=Yz.mp nd;have e0:gk bj (k::mv) ld=gk bj mv (oM bj ld k):=rfl;rw[e0,(Nl bj mv (oM bj ld k) i n2 (by unfold oM;rw[Jb];exact h))];by_cases m:i∈mv
  ·have ne:k≠i:=λz=>n1 (by rw[z];exact m);unfold oM
   grind
  ·rw[if_neg m];unfold oM
   grind
theorem Nm(hb:Nat)(mv hd:List Nat):(jx hb mv hd).length=hd.length:=u_ (λ_ _=>Jb) mv hd
theorem Nn(bj:List Int)(mv:List Nat)(ld:List (List Int)):(gk bj mv ld).length=ld.length:=u_ (λ_ _=>by unfold oM;exact Jb) mv ld
section
variable {n:Nat}{st:JS}{a b:Nat}{ma mb:List Nat}{tn:List Int}
theorem pL(wf:WF n st)(im:∀k,k∈ma↔k<st.hd.length/\st.ah k=st.ah a)(bj:List Int){i:Nat}(hi:i<st.hd.length):(st.mv (st.ah b) (st.ah a) mb ma bj).ah i=if st.ah i=st.ah a then st.ah b else st.ah i:=by
 show(jx (st.ah b) ma st.hd).getD i 0=_;rw[Yk,Nk _ _ _ _ hi];by_cases e:st.ah i=st.ah a;·grind
 ·rw[if_neg (λz=>e ((im i).mp z).2),if_neg e,←Yk];rfl
theorem GK(wf:WF n st)(nd:ma.Nodup)(im:∀k,k∈ma↔k<st.hd.length/\st.ah k=st.ah a)(bj:List Int)(hb:Nat){i:Nat}(hi:i<st.hd.length):(st.mv hb (st.ah a) mb ma bj).bV i=if st.ah i=st.ah a then bL (st.bV i) bj else st.bV i:=by
 show(gk bj ma st.ld).getD i []=_;rw[Yk,Nl _ _ _ _ nd (by rw[wf.ll];exact hi)];by_cases e:st.ah i=st.ah a;·rw[if_pos ((im i).mpr ⟨hi,e⟩),if_pos e];rfl
 ·rw[if_neg (λz=>e ((im i).mp z).2),if_neg e,←Yk];rfl
theorem Ra(hb ha:Nat)(bj:List Int){h:Nat}(ne:h≠ha):(st.mv hb ha mb ma bj).cF h=st.cF h:=by
 show((cU ha st.fr).lookup h).getD []=_;rw[sX ne];rfl
theorem vY(hb ha:Nat)(bj:List Int):(st.mv hb ha mb ma bj).hd.length=st.hd.length:=Nm _ _ _
theorem WF.mv(wf:WF n st)(hA:a<st.hd.length)(hB:b<st.hd.length)(ne:st.ah a≠st.ah b)(m6:ma.Nodup)(hJ:∀k,k∈ma↔k<st.hd.length/\st.ah k=st.ah a)(uJ:mb.Nodup)(r9:∀k,k∈mb↔k<st.hd.length/\st.ah k=st.ah b)(eb:st.mem.lookup (st.ah b)=some mb){bj:List Int}(ft:full bj=true)(tl:bj.length=n):WF n (st.mv (st.ah b) (st.ah a) mb ma bj):=by
 have len:(st.mv (st.ah b) (st.ah a) mb ma bj).hd.length=st.hd.length:=vY _ _ _;have UQ:∀k,k<st.hd.length->(if st.ah k=st.ah a then st.ah b else st.ah k)≠st.ah a:=λk hk=>by
  grind
 have ky:(st.mv (st.ah b) (st.ah a) mb ma bj).mem.map (·.1)=(st.mem.map (·.1)).filter λk=>decide (k≠st.ah a):=by
  show(dY _ _ (cU _ st.mem)).map (·.1)=_;rw[qL,nM]
 have kf:(st.mv (st.ah b) (st.ah a) mb ma bj).fr.map (·.1)=(st.fr.map (·.1)).filter λk=>decide (k≠st.ah a):=nM _ _;refine⟨?_,λt ht=>?_,λi hi=>?_,λi hi=>?_,?_,?_,?_,?_,?_⟩
 ·show(gk _ _ _).length=(jx _ _ _).length;rw[Nn,Nm];exact wf.ll
 ·obtain⟨i,hi,rfl⟩:=Ws.mp ht;have jI:i<st.hd.length:=by
   have:(gk bj ma st.ld).length=st.ld.length:=Nn _ _ _;have h2:i<(gk bj ma st.ld).length:=hi;have:=wf.ll;omega
  have e:=GK (mb:=mb) wf m6 hJ bj (st.ah b) jI;have e2:(st.mv (st.ah b) (st.ah a) mb ma bj).bV i=(st.mv (st.ah b) (st.ah a) mb ma bj).ld[i]:=by
   unfold JS.bV;rw[Yk,Yc hi];rfl
  rw[←e2,e];obtain⟨f1,f2⟩:=wf.jO jI;by_cases z:st.ah i=st.ah a;·rw[if_pos z];exact⟨pB f1 ft (by omega),by rw[iJ];exact tl⟩
  ·rw[if_neg z];exact⟨f1,f2⟩
 ·rw[len] at hi;rw[pL (mb:=mb) wf hJ bj hi];show ∃secs,(cU (st.ah a) st.fr).lookup _=some secs/\_;rw[sX (UQ i hi)];by_cases e:st.ah i=st.ah a;·rw[if_pos e];exact⟨_,wf.dM hB⟩
  ·rw[if_neg e];exact⟨_,wf.dM hi⟩
 ·rw[len] at hi;rw[pL (mb:=mb) wf hJ bj hi];show ∃ms,(dY (st.ah b) (mb++ma) (cU (st.ah a) st.mem)).lookup _=some ms/\_;rw[yc,sX (UQ i hi),sX (λz=>ne z.symm),eb];have iff:∀k,k<st.hd.length->((st.mv (st.ah b) (st.ah a) mb ma bj).ah k=(if st.ah k=st.ah a then st.ah b else st.ah k)):=λk hk=>pL (mb:=mb) wf hJ bj hk;by_cases e:(if st.ah i=st.ah a then st.ah b else st.ah i)=st.ah b
  ·rw[if_pos e];refine⟨_,rfl,?_,λk=>?_⟩;·grind
   ·grind
  ·have e1:¬st.ah i=st.ah a:=λz=>e (if_pos z);rw[if_neg e1] at e⊢;rw[if_neg e];obtain⟨ms,m1,m2,m3⟩:=wf.mem i hi
   grind
 ·rw[ky];exact wf.nm.filter _
 ·rw[ky,len];exact λk hk=>wf.lm k (Y5.mp hk).1
 ·rw[kf];exact wf.nf.filter _
 ·rw[kf,len];exact λk hk=>wf.lf k (Y5.mp hk).1
 ·rw[kf,len];intro k hk;obtain⟨m1,m2⟩:=Y5.mp hk;obtain⟨i,hi,e⟩:=wf.hf k m1;refine⟨i,hi,?_⟩;rw[pL (mb:=mb) wf hJ bj hi,if_neg (λz=>of_decide_eq_true m2 (e.symm.trans z))];exact e
theorem Pu(wf:WF n st)(hA:a<st.hd.length)(hB:b<st.hd.length)(ne:st.ah a≠st.ah b)(m6:ma.Nodup)(hJ:∀k,k∈ma↔k<st.hd.length/\st.ah k=st.ah a)(ft:full tn=true)(tl:tn.length=n)(f:Nat->Int):
  c_ (st.mv (st.ah b) (st.ah a) mb ma (bL (inv (st.bV a)) (bL tn (st.bV b)))) f↔∃s:Nat->Int,(∀i,i<st.hd.length->(0<=s (st.ah i)/\s (st.ah i)<(n:Int))/\(st.ah i≠st.ah a->s (st.ah i)∈st.cF (st.ah i))/\f i=ap (st.bV i) (s (st.ah i)))/\f a=ap tn (f b):=by
 obtain⟨fa,la⟩:=wf.jO hA;obtain⟨fb,lb⟩:=wf.jO hB;have fi:=js fa;have li:(inv (st.bV a)).length=n:=by rw[fq];exact la
 generalize et:bL (inv (st.bV a)) (bL tn (st.bV b))=bj;have Kw:∀z:Int,0<=z/\z<(n:Int)->ap bj z=ap (inv (st.bV a)) (ap tn (ap (st.bV b) z)):=λz hz=>by
  rw[←et,zp (by rw[iJ,lb];exact hz),zp (by rw[lb];exact hz)]
 have Zgy:∀z:Int,0<=z/\z<(n:Int)->0<=ap bj z/\ap bj z<(n:Int):=λz hz=>by
  rw[Kw z hz];exact lH fi li (lH ft tl (lH fb lb hz))
 have Td:bj.length=n:=by rw[←et,iJ,iJ];exact lb
 constructor
 ·rintro⟨s,h⟩;have h':∀i,i<st.hd.length->s (if st.ah i=st.ah a then st.ah b else st.ah i)∈st.cF (if st.ah i=st.ah a then st.ah b else st.ah i)/\f i=ap (if st.ah i=st.ah a then bL (st.bV i) bj else st.bV i) (s (if st.ah i=st.ah a then st.ah b else st.ah i)):=λi hi=>by
   have x:=h i (by rw[vY];exact hi);rw[pL (mb:=mb) wf hJ bj hi,GK (mb:=mb) wf m6 hJ bj _ hi,Ra] at x;·exact x
   ·by_cases e:st.ah i=st.ah a;·rw[if_pos e];exact λz=>ne z.symm
    ·rw[if_neg e];exact e
  have hb:=h' b hB;rw[if_neg (λz=>ne z.symm),if_neg (λz=>ne z.symm)] at hb;have fE:=(wf.dM hB).2.2 _ hb.1;have eq:∀i,i<st.hd.length->f i=ap (st.bV i) (if st.ah i=st.ah a then ap bj (s (st.ah b)) else s (st.ah i)):=λi hi=>by
   have x:=(h' i hi).2;by_cases e:st.ah i=st.ah a
   ·rw[if_pos e,if_pos e,zp (by rw[Td];exact fE)] at x;rw[if_pos e];exact x
   ·rw[if_neg e,if_neg e] at x;rw[if_neg e];exact x
  refine⟨λq=>if q=st.ah a then ap bj (s (st.ah b)) else s q,λi hi=>⟨?_,λe=>?_,eq i hi⟩,?_⟩
  ·show 0<=(if st.ah i=st.ah a then _ else _)/\(if st.ah i=st.ah a then _ else _)<_;by_cases e:st.ah i=st.ah a;·rw[if_pos e];exact Zgy _ fE
   ·rw[if_neg e];have x:=(h' i hi).1;rw[if_neg e] at x;exact(wf.dM hi).2.2 _ x
  ·show(if st.ah i=st.ah a then _ else _)∈_;have x:=(h' i hi).1;rw[if_neg e] at x;rw[if_neg e];exact x
  ·rw[eq a hA,if_pos rfl,Kw _ fE,Pt fa la (lH ft tl (lH fb lb fE)),hb.2]
 ·rintro⟨s,h,ef⟩;have sb:=(h b hB).1;have sa:=(h a hA).1;have et2:ap bj (s (st.ah b))=s (st.ah a):=by
   rw[Kw _ sb,←(h b hB).2.2,←ef,(h a hA).2.2,tR fa la sa]
  refine⟨s,λi hi=>?_⟩;rw[vY] at hi;rw[pL (mb:=mb) wf hJ bj hi,GK (mb:=mb) wf m6 hJ bj _ hi,Ra]
  ·by_cases e:st.ah i=st.ah a
   ·rw[if_pos e,if_pos e];refine⟨(h b hB).2.1 (λz=>ne z.symm),?_⟩;rw[zp (by rw[Td];exact sb),et2,←e];exact(h i hi).2.2
   ·rw[if_neg e,if_neg e];exact⟨(h i hi).2.1 e,(h i hi).2.2⟩
  ·by_cases e:st.ah i=st.ah a;·rw[if_pos e];exact λz=>ne z.symm
   ·rw[if_neg e];exact e
end
section
variable {n:Nat}{st:JS}{i j:Nat}{tn ns:List Int}
theorem Oi{P:List (Int×Int)}(pm:ns.Perm ((P.filter λq=>decide (tn.getD q.1.toNat 0=q.2)).map (·.1)))(x:Int):x∈ns↔(x,ap tn x)∈P:=by
 rw[pm.mem_iff,Ye];constructor
 ·rintro⟨⟨u,v⟩,m,rfl⟩;obtain⟨m1,m2⟩:=Y5.mp m;have e:ap tn u=v:=of_decide_eq_true m2;rw[e];exact m1
 ·intro m;exact⟨_,Y5.mpr ⟨m,decide_eq_true rfl⟩,rfl⟩
abbrev JS.bU(st:JS)(i j:Nat):List (Int×Int):=iN (st.ah i) (st.ah j) (st.bV i) (st.bV j) (st.cF (st.ah i)) (st.cF (st.ah j))
theorem E4(ne:st.ah i≠st.ah j){x y:Int}(m:(x,y)∈st.bU i j):(∃z∈st.cF (st.ah i),ap (st.bV i) z=x)/\∃z∈st.cF (st.ah j),ap (st.bV j) z=y:=by
 unfold JS.bU iN at m;rw[if_neg ne] at m;obtain⟨x',mx,my⟩:=UP.mp m;obtain⟨z1,Ks,Ku⟩:=Ye.mp mx;obtain⟨z2,Kv,xw⟩:=Ye.mp my;exact⟨⟨z1,Ks,Ku.trans (congrArg (·.1) xw)⟩,z2,Kv,(congrArg (·.2) xw)⟩
theorem Rb(wf:WF n st)(hi:i<st.hd.length){x y:Int}(m:(x,y)∈st.bU i j):0<=x/\x<(n:Int):=by
 obtain⟨f1,l1⟩:=wf.jO hi;by_cases e:st.ah i=st.ah j
 ·unfold JS.bU iN at m;rw[if_pos e] at m;obtain⟨z,mz,ez⟩:=Ye.mp m;have e1:ap (st.bV i) z=x:=congrArg (·.1) ez;rw[←e1];exact lH f1 l1 ((wf.dM hi).2.2 z mz)
 ·obtain⟨⟨z,mz,ez⟩,_⟩:=E4 e m;rw[←ez];exact lH f1 l1 ((wf.dM hi).2.2 z mz)
theorem Px(wf:WF n st)(n8:n<=8)(hi:i<st.hd.length)(hj:j<st.hd.length):(st.bU i j).length<=64:=by
 have a:=Df (wf.dM hi).2.1 (wf.dM hi).2.2;have b:=Df (wf.dM hj).2.1 (wf.dM hj).2.2;unfold JS.bU iN;by_cases e:st.ah i=st.ah j;·grind
 ·rw[if_neg e,FC (λ(x z:Int)=>((x,(st.bV j).getD z.toNat 0):Int×Int)),Ya];exact Y3 (Nat.mul_le_mul (show _<=8 by omega) (show _<=8 by omega)) (by omega)
theorem Zcd(wf:WF n st)(hi:i<st.hd.length)(hj:j<st.hd.length)(e:st.ah i=st.ah j)(ms:∀x,x∈ns↔(x,ap tn x)∈st.bU i j)(f:Nat->Int):c_ st f/\f i∈ns↔c_ st f/\f j=ap tn (f i):=by
 refine and_congr_right λd=>?_;constructor
 ·intro m;have m':=(ms _).mp m;obtain⟨s,h⟩:=d;unfold JS.bU iN at m';rw[if_pos e] at m';obtain⟨z,mz,ez⟩:=Ye.mp m';have e2:ap (st.bV j) z=ap tn (f i):=congrArg (·.2) ez;obtain⟨f1,l1⟩:=wf.jO hi;have fE:=(wf.dM hi).2.2;rw[(h j hj).2,←e,←(zo f1 l1 (fE z mz) (fE _ (h i hi).1) ((congrArg (·.1) ez).trans (h i hi).2)),e2]
 ·intro m;have:=vF wf hi hj d
  grind
theorem Zdm(wf:WF n st)(hi:i<st.hd.length)(hj:j<st.hd.length)(ne:st.ah i≠st.ah j){ma mb:List Nat}(m6:ma.Nodup)(hJ:∀k,k∈ma↔k<st.hd.length/\st.ah k=st.ah i)(ft:full tn=true)(tl:tn.length=n)(ms:∀x,x∈ns↔(x,ap tn x)∈st.bU i j)(f:Nat->Int):
  c_ (st.mv (st.ah j) (st.ah i) mb ma (bL (inv (st.bV i)) (bL (inv tn) (st.bV j)))) f/\f i∈ns↔c_ st f/\f j=ap tn (f i):=by
 rw[Pu wf hi hj ne m6 hJ (js ft) (by rw[fq];exact tl)];obtain⟨f1,l1⟩:=wf.jO hi;obtain⟨f2,l2⟩:=wf.jO hj;constructor
 ·rintro⟨⟨s,h,ef⟩,m⟩;obtain⟨⟨z,mz,ez⟩,_⟩:=E4 ne ((ms _).mp m);have e1:=zo f1 l1 ((wf.dM hi).2.2 z mz) (h i hi).1 (ez.trans (h i hi).2.2);refine⟨⟨s,λk hk=>⟨?_,(h k hk).2.2⟩⟩,?_⟩;·grind
  ·have rj:0<=f j/\f j<(n:Int):=by rw[(h j hj).2.2];exact lH f2 l2 (h j hj).1
   rw[ef,Pt ft tl rj]
 ·rintro⟨d,e⟩;have m:=vF wf hi hj d;rw[e] at m;obtain⟨s,h⟩:=d;refine⟨⟨s,λk hk=>⟨(wf.dM hk).2.2 _ (h k hk).1,λ_=>(h k hk).1,(h k hk).2⟩,?_⟩,(ms _).mpr m⟩;have ri:0<=f i/\f i<(n:Int):=by rw[(h i hi).2];exact lH f1 l1 ((wf.dM hi).2.2 _ (h i hi).1)
  rw[e,tR ft tl ri]
theorem Zdn(wf:WF n st)(hi:i<st.hd.length)(hj:j<st.hd.length)(ne:st.ah i≠st.ah j){ma mb:List Nat}(uJ:mb.Nodup)(r9:∀k,k∈mb↔k<st.hd.length/\st.ah k=st.ah j)(ft:full tn=true)(tl:tn.length=n)(ms:∀x,x∈ns↔(x,ap tn x)∈st.bU i j)(f:Nat->Int):
  c_ (st.mv (st.ah i) (st.ah j) ma mb (bL (inv (st.bV j)) (bL tn (st.bV i)))) f/\f i∈ns↔c_ st f/\f j=ap tn (f i):=by
 rw[Pu wf hj hi (λz=>ne z.symm) uJ r9 ft tl];obtain⟨f2,l2⟩:=wf.jO hj;constructor
 ·rintro⟨⟨s,h,ef⟩,m⟩;obtain⟨_,z,mz,ez⟩:=E4 ne ((ms _).mp m);have e1:=zo f2 l2 ((wf.dM hj).2.2 z mz) (h j hj).1 ((ez.trans ef.symm).trans (h j hj).2.2);refine⟨⟨s,λk hk=>⟨?_,(h k hk).2.2⟩⟩,ef⟩
  grind
 ·rintro⟨d,e⟩;have m:=vF wf hi hj d;rw[e] at m;obtain⟨s,h⟩:=d;exact⟨⟨s,λk hk=>⟨(wf.dM hk).2.2 _ (h k hk).1,λ_=>(h k hk).1,(h k hk).2⟩,e⟩,(ms _).mpr m⟩
end
def qY(st aI:JS)(i j:Nat):Prop:=∀a c,a<st.hd.length->c<st.hd.length->(aI.ah a=aI.ah c↔st.ah a=st.ah c\/(st.ah a=st.ah i/\st.ah c=st.ah j)\/(st.ah a=st.ah j/\st.ah c=st.ah i))
theorem Zce{st:JS}{i j:Nat}(e:st.ah i=st.ah j):qY st st i j:=λa c _ _=>by omega
theorem Rc{n:Nat}{st:JS}(wf:WF n st){a b:Nat}{ma mb:List Nat}(im:∀k,k∈ma↔k<st.hd.length/\st.ah k=st.ah a)(bj:List Int)(ne:st.ah a≠st.ah b):qY st (st.mv (st.ah b) (st.ah a) mb ma bj) a b:=λx y hx hy=>by
 rw[pL wf im bj hx,pL wf im bj hy]
 grind
theorem qY.symm{st aI:JS}{i j:Nat}(h:qY st aI j i):qY st aI i j:=λa c ha hc=>by
 rw[h a c ha hc];omega
structure Rf(n:Nat)(st aI:JS)(b:Bool)(i j:Nat)(tn:List Int):Prop where
 wf:WF n aI
 len:aI.hd.length=st.hd.length
 yes:b=true->(∃f,c_ aI f)/\∀f,c_ aI f↔c_ st f/\f j=ap tn (f i)
 no:b=false->aI=st/\∀f,c_ st f->f j≠ap tn (f i)
 uy:b=true->qY st aI i j
inductive Rg(C:Addr)(vs:List V)(H:Hp)(Q:VK):Prop
 |mk (l:JL) (st:JS) (n i j:Nat) (tn:List Int) (tu:Addr) (aE:vs=[.ref l.J,.int (i:Int),.int (j:Int),.ref tu]) (aT:cJ H C n l st) (bw:WF n st) (bP:(∃f,c_ st f)) (cN:n<=8) (dR:st.hd.length<=400) (hE:i<st.hd.length) (iS:j<st.hd.length) (qa:H tu=some (.tup (tn.map V.int))) (w_:full tn=true) (Ir:tn.length=n) (S9:∀(b:Bool) (l':JL) (aI:JS) (H':Hp),l'.J=l.J->(∀c∈l'.fp,c∈l.fp)->Out l.fp H H'->cJ H' C n l' aI->Rf n st aI b i j tn->Q (.bl b) H'):Rg C vs H Q
def Sg(C:Addr):Sp:=λvs H Q _=>Rg C vs H Q
section
theorem L5:aU ["self","one","other","turn","sections"] ["self","one","other","turn"] (aM DP):=⟨rfl,rfl,rfl,by decide+kernel,rfl,by decide+kernel,by decide+kernel⟩
theorem ZeY(F:aN K "tie" "Joins.tie" DP f fd)(jc:mE K C)(sP:cD P w K mg base 4 "left" C ["self","one","other","turn"] (GI C))(sI:cD P w K mg base 1 "together" C ["self","one","other"] (Em C))(A_:cD P w K mg base 3 "bring_together" C ["self","one","other","turn"] (Pp C))(sJ:cD P w K mg base 2 "narrow" C ["self","one","sections"] (FA K C))(bl:Bl mg):aK P w K mg base aP 5 f fd ["self","one","other","turn"] (Sg C):=by
 refine F.ok L5 (λvs H Q E h=>?_) (λaF A outer s H vs Q E hr h=>?_)
 ·obtain⟨l,st,n,i,j,tn,tu,rfl,_⟩:=h;rfl
 obtain⟨l,st,n,i,j,tn,tu,rfl,ja,wf,live,n8,m4,hi,hj,hu,ft,tl,q⟩:=h;refine⟨_,(au (bq (i:=4) L5.nd rfl (Or.inl rfl) (cO sP hr (by omega) (pv 0) (ae (pv 1) (ae (pv 2) (ae (pv 3) ag))))) (au (aR (iY (Nc (K:=K) rfl (NK (pv 4) (λ_=>rfl)))) (aw (aH jv)) a_) (au (aR (iY (eK (cO sI hr (by omega) (pv 0) (ae (pv 1) (ae (pv 2) ag))))) (aw (cA (cO A_ hr (by omega) (pv 0) (ae (pv 1) (ae (pv 2) (ae (pv 3) ag)))))) a_) (au (cA (cO sJ hr (by omega) (pv 0) (ae (pv 1) (ae (pv 4) ag)))) (aw (aH jv)))))),?_⟩;obtain⟨dx,ho⟩:=ja.obj;have pf:=Px wf n8 hi hj;refine bX ?_;refine⟨_,rfl,l.J,dx,_,rfl,ho,rfl,_,rfl,_,rfl,_,rfl,l,st,n,i,j,_,_,_,_,_,_,tn,tu,rfl,ja,wf.one n8 hi,wf.one n8 hj,hu,λp hp=>by rw[tl];exact Rb wf hi (x:=p.1) (y:=p.2) hp,Y3 pf (by omega),λp ns H1 np g1 hp pm _=>?_⟩;have ms:=Oi pm;refine nW (λσ H2=>σ=[some (.ref l.J),some (.int (i:Int)),some (.int (j:Int)),some (.ref tu),some (.ref p)]/\H2=H1/\ns≠[]) (λnx hn=>?_) ?_
 ·refine⟨_,rfl,_,.inl ⟨_,ak.of hp,rfl⟩,?_⟩;refine bI (λc=>?_) (λc=>aZ (hn _ _ ⟨rfl,rfl,λz=>?_⟩))
  ·have e:ns=[]:=by
    cases ns with
    |nil=>rfl
    |cons a r=>cases c
   refine q false l st H1 rfl (λ_ h=>h) (Out.of g1) (ja.same g1) ⟨wf,rfl,(λz=>nomatch z),λ_=>⟨rfl,λf d z=>?_⟩,(λz=>nomatch z)⟩;have m:=vF wf hi hj d;rw[z] at m;have:=(ms _).mpr m;rw[e] at this;cases this
  ·rw[z] at c;exact c rfl
 rintro _ _ ⟨rfl,rfl,nne⟩;refine nW (λσ H2=>σ=[some (.ref l.J),some (.int (i:Int)),some (.int (j:Int)),some (.ref tu),some (.ref p)]/\∃(l1:JL) (m7:JS),l1.J=l.J/\(∀c∈l1.fp,c∈l.fp)/\Out l.fp H H2/\cJ H2 C n l1 m7/\H2 p=some (.lst (ns.map V.int))/\WF n m7/\m7.hd.length=st.hd.length/\(∀f,c_ m7 f/\f i∈ns↔c_ st f/\f j=ap tn (f i))/\qY st m7 i j) (λnx hn=>?_) ?_
 ·refine⟨_,rfl,l.J,dx,_,rfl,g1 _ _ ho,rfl,_,rfl,_,rfl,l,st,n,i,j,_,_,rfl,ja.same g1,vK hi,vK hj,_,rfl,?_⟩;refine bI (λc=>?_) (λc=>aZ (hn _ _ ⟨rfl,l,st,rfl,λ_ h=>h,Out.of g1,ja.same g1,hp,wf,rfl,?_,?_⟩))
  ·have ne:st.ah i≠st.ah j:=λz=>by
    rw[decide_eq_true z] at c;cases c
   obtain⟨ma,mb,two,⟨m6,hJ⟩,uJ,r9⟩:=wf.two hi hj m4 ne;refine⟨_,rfl,l.J,dx,_,rfl,g1 _ _ ho,rfl,_,rfl,_,rfl,_,rfl,l,st,n,i,j,_,_,_,_,tn,_,_,tu,ma,mb,rfl,ja.same g1,g1 _ _ hu,n8,tl,ft,two,λl1 m7 H2 k1 k2 o2 j2 es=>hn _ _ ⟨rfl,l1,m7,k1,k2,(Out.of g1).trans o2,j2,o2 _ _ hp (λz=>ja.ne np z),?_⟩⟩;obtain⟨fi,li⟩:=wf.jO hi;obtain⟨fj,lj⟩:=wf.jO hj;rcases es with rfl|rfl;·exact⟨wf.mv hi hj ne m6 hJ uJ r9 two.mB (pB (js fi) (pB (js ft) fj (by rw[fq];omega)) (by rw[fq,iJ];omega)) (by rw[iJ,iJ];exact lj),vY _ _ _,λf=>Zdm wf hi hj ne m6 hJ ft tl ms f,Rc wf hJ _ ne⟩
   ·exact⟨wf.mv hj hi (λz=>ne z.symm) uJ r9 m6 hJ two.mA (pB (js fj) (pB ft fi (by omega)) (by rw[fq,iJ];omega)) (by rw[iJ,iJ];exact li),vY _ _ _,λf=>Zdn wf hi hj ne uJ r9 ft tl ms f,(Rc wf r9 _ (λz=>ne z.symm)).symm⟩
  ·have e:st.ah i=st.ah j:=by
    by_cases z:st.ah i=st.ah j;·exact z
    ·rw[decide_eq_false z] at c;exact absurd rfl c
   exact λf=>Zcd wf hi hj e ms f
  ·have e:st.ah i=st.ah j:=by
    by_cases z:st.ah i=st.ah j;·exact z
    ·rw[decide_eq_false z] at c;exact absurd rfl c
   exact Zce e
 rintro _ H2 ⟨rfl,l1,m7,k1,k2,o2,j2,dG,xx,Te,iff,hdj⟩;obtain⟨uK,Ai⟩:=j2.obj;have AA:i<m7.hd.length:=by rw[Te];exact hi
 have fl:=xx.zC;refine⟨_,rfl,l1.J,uK,_,by rw[k1],Ai,rfl,_,rfl,_,rfl,l1,m7,n,i,_,_,_,ns,p,by rw[k1];rfl,j2,xx.one n8 AA,by omega,ak.of dG,λl2 H3 k3 k4 o3 j3=>?_⟩;refine q true l2 _ H3 (k3.trans k1) (λc hc=>k2 c (by rw[←k4];exact hc)) (λb o e nb=>o3 _ _ (o2 _ _ e nb) λz=>nb (k2 b z)) j3 ⟨xx.kI AA,Te,λ_=>⟨?_,λf=>?_⟩,(λz=>nomatch z),λ_=>hdj⟩
 ·obtain⟨x,mx⟩:∃x,x∈ns:=by
   cases ns with
   |nil=>exact absurd rfl nne
   |cons a r=>exact⟨a,Yh⟩
  obtain⟨f,d,e1,e2⟩:=Oh wf hi hj live ((ms x).mp mx);refine⟨f,(ve xx AA ns f).mpr ((iff f).mpr ⟨d,?_⟩)⟩;rw[e2,e1]
 ·exact(ve xx AA ns f).trans (iff f)
end
def mJ(xs ys:List Int):Prop:=full xs=true/\full ys=true/\xs.length=ys.length/\2<=xs.length/\xs.length<=8
theorem Zai(g:mJ xs ys)(h:(z,ns)∈zm xs ys):full ns=true/\ns.length=xs.length:=by
 obtain⟨fx,fy,e,_,_⟩:=g;have fa:=Fy fx fy e;simp only[Ym,Y0,or_false,Prod.mk.injEq] at h;rcases h with⟨rfl,rfl⟩|⟨rfl,rfl⟩|⟨rfl,rfl⟩|⟨rfl,rfl⟩|⟨rfl,rfl⟩|⟨rfl,rfl⟩|⟨rfl,rfl⟩;·exact⟨fx,rfl⟩
 ·exact⟨fa,by rw[qI];exact e.symm⟩
 ·exact⟨fy,e.symm⟩
 ·exact⟨js fx,fq _⟩
 ·exact⟨js fa,by rw[fq,qI];exact e.symm⟩
 ·exact⟨js fy,by rw[fq];exact e.symm⟩
 ·exact⟨qM (List.Perm.refl _),eG _⟩
structure Fc where
 k:Str
 one:Nat
 aJ:Int
 tn:List Int
abbrev bh:Str:="said"
def fD(F:List Fc)(x y:Nat)(t:List Int):Prop:=∃c∈F,c.k≠bh/\((c.one=x/\c.aJ.toNat=y/\t=c.tn)\/(c.aJ.toNat=x/\c.one=y/\t=inv c.tn))
def iZ(n:Nat)(F:List Fc)(g:Nat->Option Int):Prop:=(∀x y t u,fD F x y t->g x=some u->g y=some (ap t u))/\(∀c∈F,c.k=bh->∀u,g c.one=some u->u=c.aJ)/\∀k v,g k=some v->0<=v/\v<(n:Int)
structure dB(n m:Nat)(c:Fc):Prop where
 one:c.one<m
 gu:c.k≠bh->(0<=c.aJ/\c.aJ.toNat<m)/\full c.tn=true/\c.tn.length=n
def rK(L:Nat->List (Nat×List Int))(x:Nat)(p:Nat×List Int):Nat->List (Nat×List Int):=λz=>if z=x then L x++[p] else L z
theorem s_{kvs:List (Key×V)}{k k':Key}{v:V}(h:aS kvs k=none):aS (kvs++[(k,v)]) k'=if k'=k then some v else aS kvs k':=by
 rw[←kq v h];exact ZbE _ _ _ _
theorem Oj:q∈rK L x p z↔q∈L z\/(z=x/\q=p):=by
 unfold rK;by_cases e:z=x
 ·rw[if_pos e,Yu,e];simp
 ·rw[if_neg e];simp[e]
theorem Zcf:¬fD [] x y t:=λ⟨_,m,_⟩=>nomatch m
theorem pC:fD (F++[c]) x y t↔fD F x y t\/(c.k≠bh/\((c.one=x/\c.aJ.toNat=y/\t=c.tn)\/(c.aJ.toNat=x/\c.one=y/\t=inv c.tn))):=by
 constructor
 ·rintro⟨c',m,h1,h2⟩;rcases Yu.mp m with m|m;·exact .inl ⟨c',m,h1,h2⟩
  ·rw[Yn] at m;subst m;exact .inr ⟨h1,h2⟩
 ·rintro(⟨c',m,h⟩|h);·exact⟨c',Yt _ m,h⟩
  ·exact⟨c,Yq _ Yh,h⟩
theorem lookup_mem:∀{ps:List (Nat×α)} {k:Nat} {v:α},ps.lookup k=some v->(k,v)∈ps
 |[],_,_,h=>by simp at h
 |p::ps,k,v,h=>by
  rw[W0] at h;by_cases e:k=p.1;·grind
  ·rw[beq_eq_false_iff_ne.mpr e] at h;exact Yx _ (lookup_mem h)
theorem mem_lookup:∀{ps:List (Nat×α)} {k:Nat} {v:α},(ps.map (·.1)).Nodup->(k,v)∈ps->ps.lookup k=some v
 |p::ps,k,v,nd,h=>by
  obtain⟨n1,n2⟩:=Yz.mp (show(p.1::ps.map (·.1)).Nodup from nd);rw[W0];rcases Ym.mp h with h|h;·grind
  ·have e:k≠p.1:=λz=>n1 (by rw[←z];exact Ye.mpr ⟨_,h,rfl⟩);rw[beq_eq_false_iff_ne.mpr e];exact mem_lookup n2 h
theorem Zg_:∀{ps:List (Nat×α)} {k:Nat},ps.lookup k=none->k∉ps.map (·.1)
 |p::ps,k,h=>by
  grind
 |[],_,_=>λz=>nomatch z
theorem yn{α:Type}{ps:List (Nat×α)}{q:Nat×α}{k:Nat}{v:α}(h:ps.lookup k=some v):(ps++[q]).lookup k=some v:=by
 grind
theorem MI{α:Type}{ps:List (Nat×α)}{k:Nat}{v:α}(h:ps.lookup k=none):(ps++[(k,v)]).lookup k=some v:=by
 grind
theorem vL(ok:∀c∈F,dB n m c)(e:fD F x y t):x<m/\y<m/\full t=true/\t.length=n:=by
 obtain⟨c,mc,ns,h⟩:=e;obtain⟨⟨o0,om⟩,ft,tl⟩:=(ok c mc).gu ns;have o1:=(ok c mc).one;rcases h with⟨rfl,rfl,rfl⟩|⟨rfl,rfl,rfl⟩;·grind
 ·exact⟨om,o1,js ft,by rw[fq];exact tl⟩
inductive dE(F:List Fc)(x:Nat):Nat->Prop
 |refl:dE F x x
 |step {y z:Nat} {t:List Int}:dE F x y->fD F y z t->dE F x z
structure BF(F:List Fc)(n m x:Nat)(a:Int)(g:List (Nat×Int)):Prop where
 nd:(g.map (·.1)).Nodup
 lt:∀p∈g,p.1<m/\0<=p.2/\p.2<(n:Int)
 hd:g.lookup x=some a
 snd:∀g',iZ n F g'->g' x=some a->∀p∈g,g' p.1=some p.2
 conn:∀p∈g,dE F x p.1
section
variable {F:List Fc}{n m x:Nat}{a:Int}{g:List (Nat×Int)}
theorem bf0(hx:x<m)(ha:0<=a/\a<(n:Int)):BF F n m x a [(x,a)]:=by
 refine⟨by simp,λp hp=>?_,by simp,λg' _ h p hp=>?_,λp hp=>?_⟩;·grind
 ·grind
 ·rw[Yn] at hp;rw[hp];exact .refl
theorem BF.len(b:BF F n m x a g):g.length<=m:=by
 have:=va b.nd λk hk=>by
  obtain⟨p,hp,rfl⟩:=Ye.mp hk;exact(b.lt p hp).1
 grind
theorem BF.add(b:BF F n m x a g)(ok:∀c∈F,dB n m c){k y:Nat}{t:List Int}{v:Int}(e:fD F k y t)(hk:g.lookup k=some v)(hy:g.lookup y=none):BF F n m x a (g++[(y,ap t v)]):=by
 obtain⟨_,ym,ft,tl⟩:=vL ok e;have mk:=lookup_mem hk;refine⟨?_,λp hp=>?_,yn b.hd,λg' c h p hp=>?_,λp hp=>?_⟩
 ·rw[Yp];refine Wv.mpr ⟨b.nd,by simp,λu hu w hw z=>?_⟩
  grind
 ·rcases Yu.mp hp with hp|hp;·exact b.lt p hp
  ·rw[Yn] at hp;rw[hp];exact⟨ym,lH ft tl (b.lt _ mk).2⟩
 ·rcases Yu.mp hp with hp|hp;·exact b.snd g' c h p hp
  ·rw[Yn] at hp;rw[hp];exact c.1 k y t v e (b.snd g' c h _ mk)
 ·rcases Yu.mp hp with hp|hp;·exact b.conn p hp
  ·rw[Yn] at hp;rw[hp];exact .step (b.conn _ mk) e
theorem BF.ZfJ(b:BF F n m x a g)(e:fD F k y t)(hk:g.lookup k=some v)(hy:g.lookup y=some v')(ne:v'≠ap t v):¬∃g',iZ n F g'/\g' x=some a:=by
 rintro⟨g',c,h⟩;have h2:=b.snd g' c h _ (lookup_mem hy);have h3:=c.1 k y t v e (b.snd g' c h _ (lookup_mem hk))
 grind
theorem BF.ZeZ(b:BF F n m x a g)(mc:c∈F)(sd:c.k=bh)(hk:g.lookup c.one=some v)(ne:v≠c.aJ):¬∃g',iZ n F g'/\g' x=some a:=by
 rintro⟨g',cl,h⟩;exact ne (cl.2.1 c mc sd v (b.snd g' cl h _ (lookup_mem hk)))
def Cl(L:Nat->List (Nat×List Int))(g:List (Nat×Int))(r:Nat):Prop:=∀p,g[r]?=some p->∀q∈L p.1,g.lookup q.1=some (ap q.2 p.2)
theorem BF.done(b:BF F n m x a g)(ed:∀x y t,(y,t)∈L x↔fD F x y t)(cl:∀r,r<g.length->Cl L g r)(sd:∀c∈F,c.k=bh->∀u,g.lookup c.one=some u->u=c.aJ):iZ n F (λk=>g.lookup k):=by
 refine⟨λk y t u e hk=>?_,sd,λk v h=>(b.lt _ (lookup_mem h)).2⟩;obtain⟨r,hr,er⟩:=Ws.mp (lookup_mem hk);have:=cl r hr (k,u) (by rw[Yc hr,er]) (y,t) ((ed _ _ _).mpr e);exact this
end
theorem yd{α:Type}{ps qs:List (Nat×α)}{k:Nat}{v:α}(h:ps.lookup k=some v):(ps++qs).lookup k=some v:=by
 grind
theorem Cl.app(hr:r<g.length)(c:Cl L g r):Cl L (g++tl) r:=λp hp q hq=>by
 rw[Wb hr] at hp;exact yd (c p hp q hq)
open Classical in
noncomputable def jy (F:List Fc) (n x:Nat):List Int:=(bF n).filter λa=>decide (∃g,iZ n F g/\g x=some a)
def eO(f:Nat->Int)(c:Fc):Prop:=(c.k=bh->f c.one=c.aJ)/\(c.k≠bh->f c.aJ.toNat=ap c.tn (f c.one))
def kT(n m:Nat)(f:Nat->Int):Prop:=∀i,i<m->0<=f i/\f i<(n:Int)
structure eB(n:Nat)(st:JS)(F:List Fc):Prop where
 wf:WF n st
 hV:∀c∈F,dB n st.hd.length c
 iff:∀f,c_ st f↔kT n st.hd.length f/\∀c∈F,eO f c
 live:∃f,c_ st f
 conn:∀i j,i<st.hd.length->j<st.hd.length->(st.ah i=st.ah j↔dE F i j)
theorem XN{f:Nat->Int}(ok:∀c∈F,dB n m c)(inr:kT n m f)(sat:∀c∈F,eO f c):∃g,iZ n F g/\∀x,x<m->g x=some (f x):=by
 refine⟨λi=>if i<m then some (f i) else none,⟨λu v t a e hu=>?_,λc mc sd u hu=>?_,λk v hk=>?_⟩,λx hx=>if_pos hx⟩
 ·obtain⟨um,vm,_,_⟩:=vL ok e;obtain⟨c,mc,ns,h⟩:=e;have s:=(sat c mc).2 ns;obtain⟨_,ft,tl⟩:=(ok c mc).gu ns;have e1:f u=a:=by
   grind
  show(if v<m then some (f v) else none)=_;rw[if_pos vm];rcases h with⟨rfl,rfl,rfl⟩|⟨rfl,rfl,rfl⟩;·rw[s,e1]
  ·rw[←e1,s,tR ft tl (inr _ (ok c mc).one)]
 ·have xu:(if c.one<m then some (f c.one) else none)=some u:=hu;rw[if_pos (ok c mc).one] at xu;rw[←Yo xu];exact(sat c mc).1 sd
 ·have xl:(if k<m then some (f k) else none)=some v:=hk;by_cases z:k<m
  ·rw[if_pos z] at xl;rw[←Yo xl];exact inr k z
  ·grind
theorem YA{f:Nat->Int}(ok:∀c∈F,dB n m c)(hx:x<m)(inr:kT n m f)(sat:∀c∈F,eO f c):∃g,iZ n F g/\g x=some (f x):=by
 obtain⟨g,c,h⟩:=XN ok inr sat
 grind
theorem XO(ok:∀c∈F,dB n m c)(inr:kT n m f0)(sat:∀c∈F,c.one=x\/eO f0 c)(cl:iZ n F g)(hx:g x=some a):∃f,kT n m f/\(∀c∈F,eO f c)/\f x=a/\∀i,f i=(g i).getD (f0 i):=by
 refine⟨λi=>(g i).getD (f0 i),λi hi=>?_,λc mc=>⟨λsd=>?_,λns=>?_⟩,by show(g x).getD _=a;rw[hx];rfl,λ_=>rfl⟩
 ·show 0<=(g i).getD (f0 i)/\(g i).getD (f0 i)<_;cases e:g i with
  |none=>exact inr i hi
  |some v=>exact cl.2.2 i v e
 ·show(g c.one).getD (f0 c.one)=_;cases e:g c.one with
  |none=>
   rcases sat c mc with h|h;·grind
   ·exact h.1 sd
  |some v=>exact cl.2.1 c mc sd v e
 ·show(g c.aJ.toNat).getD (f0 c.aJ.toNat)=ap c.tn ((g c.one).getD (f0 c.one));have ed1:fD F c.one c.aJ.toNat c.tn:=⟨c,mc,ns,.inl ⟨rfl,rfl,rfl⟩⟩;have ed2:fD F c.aJ.toNat c.one (inv c.tn):=⟨c,mc,ns,.inr ⟨rfl,rfl,rfl⟩⟩;cases e:g c.one with
  |some v=>
   rw[cl.1 _ _ _ v ed1 e];rfl
  |none=>
   have e2:g c.aJ.toNat=none:=by
    cases z:g c.aJ.toNat with
    |none=>rfl
    |some v=>rw[cl.1 _ _ _ v ed2 z] at e;cases e
   rw[e2];rcases sat c mc with h|h;·grind
   ·exact h.2 ns
theorem L6(ok:∀c∈F,dB n m c)(inr:kT n m f0)(sat:∀c∈F,c.one=x\/eO f0 c)(cl:iZ n F g)(hx:g x=some a):∃f,kT n m f/\(∀c∈F,eO f c)/\f x=a:=by
 obtain⟨f,h1,h2,h3,_⟩:=XO ok inr sat cl hx
 grind
open Classical in
theorem E5:a∈jy F n x↔(0<=a/\a<(n:Int))/\∃g,iZ n F g/\g x=some a:=by
 unfold jy;rw[Y5,decide_eq_true_iff];refine and_congr_left λ_=>?_;unfold bF;rw[Ye];constructor
 ·rintro⟨i,hi,rfl⟩;have:=Wq.mp hi;omega
 ·intro h;exact⟨a.toNat,Wq.mpr (by omega),Jq h.1⟩
section
variable {n x:Nat}{st:JS}{F:List Fc}
theorem eB.put(me:eB n st F)(ok:dB n st.hd.length c)(wf':WF n aI)(len:aI.hd.length=st.hd.length)(live:∃f,c_ aI f)(iff:∀f,c_ aI f↔c_ st f/\eO f c)(cn:∀i j,i<st.hd.length->j<st.hd.length->(aI.ah i=aI.ah j↔dE (F++[c]) i j)):eB n aI (F++[c]):=by
 refine⟨wf',λc' m'=>?_,λf=>?_,live,by rw[len];exact cn⟩
 ·rw[len];rcases Yu.mp m' with m'|m';·exact me.hV c' m'
  ·grind
 ·rw[iff,me.iff,len,and_assoc]
  grind
theorem kr(hi:i<st.hd.length):(st.more n).ah i=st.ah i:=by
 show(st.hd++[_]).getD i 0=st.hd.getD i 0
 grind
theorem nJ:(st.more n).ah st.hd.length=st.hd.length:=by
 show(st.hd++[_]).getD _ 0=_;simp
theorem Ol(wf:WF n st)(hi:i<st.hd.length):(st.more n).bV i=st.bV i:=by
 show(st.ld++[_]).getD i []=st.ld.getD i [];rw[Yk,Wb (by rw[wf.ll];exact hi),←Yk]
theorem Np(wf:WF n st):(st.more n).bV st.hd.length=bF n:=by
 show(st.ld++[_]).getD _ []=_;rw[←wf.ll];simp
theorem DS{α:Type}{ps:List (Nat×α)}{k:Nat}{v:α}(h:k∉ps.map (·.1)):(ps++[(k,v)]).lookup k=some v:=by
 refine MI ?_;cases e:ps.lookup k with
 |none=>rfl
 |some x=>exact absurd (Eo e) h
theorem iG:(st.more n).hd.length=st.hd.length+1:=by
 show(st.hd++[_]).length=_;simp
theorem Zbb(n:Nat):full (bF n)=true/\(bF n).length=n:=⟨qM (List.Perm.refl (bF n)),eG n⟩
theorem Py(h:0<=z/\z<(n:Int)):ap (bF n) z=z:=by
 show(bF n).getD z.toNat 0=z;rw[Yk,kZ (by omega)]
 grind
theorem FD:z∈bF n↔0<=z/\z<(n:Int):=by
 unfold bF;rw[Ye];constructor;·grind
 ·intro h;exact⟨z.toNat,Wq.mpr (by omega),Jq h.1⟩
theorem WF.wB(wf:WF n st)(hi:i<st.hd.length):st.ah i<st.hd.length:=wf.lf _ (Eo (wf.dM hi).1)
theorem WF.more(wf:WF n st):WF n (st.more n):=by
 have nm:st.hd.length∉st.mem.map (·.1):=λz=>Y7 _ (wf.lm _ z);have nf:st.hd.length∉st.fr.map (·.1):=λz=>Y7 _ (wf.lf _ z);have km:(st.more n).mem.map (·.1)=st.mem.map (·.1)++[st.hd.length]:=by
  show(st.mem++[(st.hd.length,[st.hd.length])]).map (·.1)=_;rw[Yp];rfl
 have kf:(st.more n).fr.map (·.1)=st.fr.map (·.1)++[st.hd.length]:=by
  show(st.fr++[(st.hd.length,bF n)]).map (·.1)=_;rw[Yp];rfl
 have nd:∀{xs:List Nat},xs.Nodup->st.hd.length∉xs->(xs++[st.hd.length]).Nodup:=λ{xs} h h'=>Wv.mpr ⟨h,by simp,λu hu w hw z=>by
  have:w=st.hd.length:=by simpa using hw
  rw[z,this] at hu;exact h' hu⟩
 refine⟨?_,λt ht=>?_,λi hi=>?_,λi hi=>?_,?_,?_,?_,?_,?_⟩
 ·show(st.ld++[_]).length=(st.hd++[_]).length;rw[Yj,Yj,wf.ll];rfl
 ·rcases Yu.mp (show t∈st.ld++[_] from ht) with h|h;·exact wf.fl t h
  ·rw[Yn] at h;rw[h];exact Zbb n
 ·rw[iG] at hi;by_cases z:i=st.hd.length
  ·rw[z,nJ];exact⟨bF n,DS nf,I_.Mu n,λz hz=>FD.mp hz⟩
  ·rw[kr (by omega)];exact⟨_,yn (wf.dM (i:=i) (by omega)).1,(wf.dM (i:=i) (by omega)).2⟩
 ·rw[iG] at hi;by_cases z:i=st.hd.length
  ·rw[z,nJ];refine⟨[st.hd.length],DS nm,by simp,λk=>?_⟩;rw[Yn,iG];constructor
   ·rintro rfl;exact⟨by omega,nJ⟩
   ·rintro⟨h1,h2⟩;by_cases w:k=st.hd.length;·exact w
    ·rw[kr (by omega)] at h2;have:=wf.wB (i:=k) (by omega);omega
  ·obtain⟨ms,e,a,b⟩:=wf.mem i (by omega);rw[kr (by omega)];refine⟨ms,yn e,a,λk=>?_⟩;rw[b,iG];constructor
   ·rintro⟨h1,h2⟩;exact⟨by omega,by rw[kr h1];exact h2⟩
   ·rintro⟨h1,h2⟩;by_cases w:k=st.hd.length
    ·rw[w,nJ] at h2;have:=wf.wB (i:=i) (by omega);omega
    ·rw[kr (by omega)] at h2;exact⟨by omega,h2⟩
 ·rw[km];exact nd wf.nm nm
 ·rw[km,iG];intro k hk;rcases Yu.mp hk with h|h;·have:=wf.lm k h;omega
  ·rw[Yn] at h;omega
 ·rw[kf];exact nd wf.nf nf
 ·rw[kf,iG];intro k hk;rcases Yu.mp hk with h|h;·have:=wf.lf k h;omega
  ·rw[Yn] at h;omega
 ·rw[kf,iG];intro k hk;rcases Yu.mp hk with h|h
  ·obtain⟨i,hi,e⟩:=wf.hf k h;exact⟨i,by omega,by rw[kr hi];exact e⟩
  ·rw[Yn] at h;exact⟨st.hd.length,by omega,by rw[nJ,h]⟩
theorem Nq(wf:WF n st)(f:Nat->Int):c_ (st.more n) f↔c_ st f/\(0<=f st.hd.length/\f st.hd.length<(n:Int)):=by
 have xy:(st.more n).cF st.hd.length=bF n:=by
  show((st.fr++[(st.hd.length,bF n)]).lookup st.hd.length).getD []=_;rw[DS (λz=>Y7 _ (wf.lf _ z))];rfl
 have UR:∀i,i<st.hd.length->(st.more n).cF (st.ah i)=st.cF (st.ah i):=λi hi=>by
  show((st.fr++[(st.hd.length,bF n)]).lookup _).getD []=_;rw[yn (wf.dM hi).1];rfl
 constructor
 ·rintro⟨s,h⟩;refine⟨⟨s,λi hi=>?_⟩,?_⟩
  ·have x:=h i (by rw[iG];omega);rw[kr hi,Ol wf hi,UR i hi] at x;exact x
  ·have x:=h st.hd.length (by rw[iG];omega);rw[nJ,Np wf,xy] at x;have b:=FD.mp x.1;rw[x.2,Py b];exact b
 ·rintro⟨⟨s,h⟩,b⟩;refine⟨λq=>if q=st.hd.length then f st.hd.length else s q,λi hi=>?_⟩;rw[iG] at hi;by_cases z:i=st.hd.length
  ·rw[z,nJ,Np wf,xy];show(if st.hd.length=st.hd.length then _ else _)∈_/\f st.hd.length=ap _ (if st.hd.length=st.hd.length then _ else _);rw[if_pos rfl,Py b];exact⟨FD.mpr b,rfl⟩
  ·have jI:i<st.hd.length:=by omega
   have:=wf.wB jI;rw[kr jI,Ol wf jI,UR i jI]
   grind
theorem Zdo(ok:∀c∈F,dB n m c)(h:dE F x y)(hx:x<m):y<m:=by
 cases h with
 |refl=>exact hx
 |step _ e=>exact(vL ok e).2.1
theorem eB.more(me:eB n st F)(n0:0<n):eB n (st.more n) F:=by
 refine⟨me.wf.more,λc mc=>?_,λf=>?_,?_,λi j hi hj=>?_⟩
 ·have ok:=me.hV c mc;rw[iG];exact⟨Wp ok.one,λns=>⟨⟨(ok.gu ns).1.1,Wp (ok.gu ns).1.2⟩,(ok.gu ns).2⟩⟩
 ·rw[Nq me.wf,me.iff,iG];constructor
  ·rintro⟨⟨h1,h2⟩,h3⟩;refine⟨λi hi=>?_,h2⟩;by_cases z:i=st.hd.length;·rw[z];exact h3
   ·exact h1 i (by omega)
  ·rintro⟨h1,h2⟩;exact⟨⟨λi hi=>h1 i (by omega),h2⟩,h1 _ (by omega)⟩
 ·obtain⟨f0,s,h⟩:=me.live;refine⟨λi=>if i=st.hd.length then 0 else f0 i,(Nq me.wf _).mpr ⟨⟨s,λi hi=>?_⟩,?_⟩⟩;·grind
  ·grind
 ·rw[iG] at hi hj;by_cases zi:i=st.hd.length
  ·by_cases zj:j=st.hd.length;·rw[zi,zj];exact⟨λ_=>.refl,λ_=>rfl⟩
   ·rw[zi,nJ,kr (by omega)];have:=me.wf.wB (i:=j) (by omega);refine⟨λz=>by omega,λz=>?_⟩;have b:∀{k:Nat},dE F st.hd.length k->k=st.hd.length:=λ{k} h=>by
     induction h with
     |refl=>rfl
     |step _ e ih=>rw[ih] at e;exact absurd (vL me.hV e).1 (Y7 _)
    exact absurd (b z) zj
  ·by_cases zj:j=st.hd.length
   ·rw[zj,nJ,kr (by omega)];have:=me.wf.wB (i:=i) (by omega);refine⟨λz=>by omega,λz=>?_⟩;have:=Zdo me.hV z (by omega);omega
   ·rw[kr (by omega),kr (by omega)];exact me.conn i j (by omega) (by omega)
theorem ZfK:eB n ⟨[],[],[],[]⟩ []:=⟨wf0,λ_ h=>(nomatch h),λf=>⟨λ_=>⟨λ_ h=>absurd h (Wk _),λ_ h=>(nomatch h)⟩,λ_=>⟨λ_=>0,λ_ h=>absurd h (Wk _)⟩⟩,⟨λ_=>0,λ_=>0,λ_ h=>absurd h (Wk _)⟩,λ_ _ h=>absurd h (Wk _)⟩
end
theorem dE.mono(h:∀x y t,fD F x y t->fD G x y t)(c:dE F x y):dE G x y:=by
 induction c with
 |refl=>exact .refl
 |step _ e ih=>exact .step ih (h _ _ _ e)
theorem dE.trans(c:dE F x y)(d:dE F y z):dE F x z:=by
 induction d with
 |refl=>exact c
 |step _ e ih=>exact .step ih e
theorem Zbc(h:c.k=bh):dE (F++[c]) x y↔dE F x y:=
 ⟨dE.mono λ_ _ _ e=>(pC.mp e).elim id λz=>absurd h z.1,dE.mono λ_ _ _ e=>pC.mpr (.inl e)⟩
theorem Zcg(h:c.k≠bh):dE (F++[c]) x y↔dE F x y\/(dE F x c.one/\dE F c.aJ.toNat y)\/(dE F x c.aJ.toNat/\dE F c.one y):=by
 have up:∀{x y:Nat},dE F x y->dE (F++[c]) x y:=λd=>d.mono λ_ _ _ e=>pC.mpr (.inl e);have e1:fD (F++[c]) c.one c.aJ.toNat c.tn:=pC.mpr (.inr ⟨h,.inl ⟨rfl,rfl,rfl⟩⟩);have e2:fD (F++[c]) c.aJ.toNat c.one (inv c.tn):=pC.mpr (.inr ⟨h,.inr ⟨rfl,rfl,rfl⟩⟩);constructor
 ·intro d;induction d with
  |refl=>exact .inl .refl
  |step _ e ih=>
   rcases pC.mp e with e|⟨_,⟨rfl,rfl,_⟩|⟨rfl,rfl,_⟩⟩
   ·rcases ih with a|⟨a,b⟩|⟨a,b⟩;·exact .inl (.step a e)
    ·exact .inr (.inl ⟨a,.step b e⟩)
    ·exact .inr (.inr ⟨a,.step b e⟩)
   ·rcases ih with a|⟨a,b⟩|⟨a,b⟩;·exact .inr (.inl ⟨a,.refl⟩)
    ·exact .inr (.inl ⟨a,.refl⟩)
    ·exact .inl a
   ·rcases ih with a|⟨a,b⟩|⟨a,b⟩;·exact .inr (.inr ⟨a,.refl⟩)
    ·exact .inl a
    ·exact .inr (.inr ⟨a,.refl⟩)
 ·rintro(a|⟨a,b⟩|⟨a,b⟩);·exact up a
  ·exact((up a).step e1).trans (up b)
  ·exact((up a).step e2).trans (up b)
section
variable {n i j:Nat}{st d5:JS}{F:List Fc}{k:Str}{tn:List Int}{b:Bool}
theorem Zch(me:eB n st F)(to:Rf n st d5 b i j tn)(hk:k≠bh)(ok:dB n st.hd.length ⟨k,i,(j:Int),tn⟩):(b=true->eB n d5 (F++[⟨k,i,(j:Int),tn⟩]))/\(b=false->eB n d5 F/\∀f,c_ d5 f->¬eO f ⟨k,i,(j:Int),tn⟩):=by
 have sat:∀f,eO f ⟨k,i,(j:Int),tn⟩↔f j=ap tn (f i):=λf=>⟨λh=>by have:=h.2 hk;rwa [show((⟨k,i,(j:Int),tn⟩:Fc).aJ.toNat)=j from Y6 j] at this,λh=>⟨λz=>absurd z hk,λ_=>by rw[show((⟨k,i,(j:Int),tn⟩:Fc).aJ.toNat)=j from Y6 j];exact h⟩⟩;refine⟨λe=>?_,λe=>?_⟩
 ·obtain⟨lv,iff⟩:=to.yes e;have hi:i<st.hd.length:=ok.one;have hj:j<st.hd.length:=by
   have:=(ok.gu hk).1.2
   rwa [show((⟨k,i,(j:Int),tn⟩:Fc).aJ.toNat)=j from Y6 j] at this
  refine me.put ok to.wf to.len lv (λf=>by rw[iff,sat]) λx y hx hy=>?_;rw[to.uy e x y hx hy,Zcg (c:=⟨k,i,(j:Int),tn⟩) hk,show((⟨k,i,(j:Int),tn⟩:Fc).aJ.toNat)=j from Y6 j,me.conn x y hx hy,me.conn x i hx hi,me.conn x j hx hj,←me.conn j y hj hy,←me.conn i y hi hy];exact or_congr_right (or_congr (and_congr_right λ_=>eq_comm) (and_congr_right λ_=>eq_comm))
 ·obtain⟨es,no⟩:=to.no e;rw[es];exact⟨me,λf d z=>no f d ((sat f).mp z)⟩
theorem Pz(me:eB n st F)(hi:i<st.hd.length)(m:a∈(st.cF (st.ah i)).map λz=>(st.bV i).getD z.toNat 0):eB n (st.kI (st.ah i) ((st.cF (st.ah i)).filter λz=>decide ((st.bV i).getD z.toNat 0∈[a]))) (F++[⟨bh,i,a,tn⟩]):=by
 refine me.put (c:=⟨bh,i,a,tn⟩) ⟨hi,λz=>absurd rfl z⟩ (me.wf.kI hi) rfl ?_ (λf=>?_) λx y hx hy=>?_
 ·obtain⟨z,mz,rfl⟩:=Ye.mp m;obtain⟨f0,d0⟩:=me.live;obtain⟨f,d,q⟩:=E3 me.wf d0 (st.ah i) (st.ah i) z z mz mz (λ_=>rfl);exact⟨f,(ve me.wf hi _ f).mpr ⟨d,by rw[(q i hi).1 rfl];exact Yh⟩⟩
 ·rw[ve me.wf hi,Yn];refine and_congr_right λ_=>?_;exact⟨λh=>⟨λ_=>h,λz=>absurd rfl z⟩,λh=>h.1 rfl⟩
 ·rw[Zbc rfl];exact me.conn x y hx hy
theorem Ze0(me:eB n st F)(hi:i<st.hd.length)(m:a∉(st.cF (st.ah i)).map λz=>(st.bV i).getD z.toNat 0)(f:Nat->Int)(d:c_ st f):¬eO f ⟨bh,i,a,tn⟩:=by
 obtain⟨s,h⟩:=d;intro z;have e:f i=a:=z.1 rfl;refine m (Ye.mpr ⟨s (st.ah i),(h i hi).1,?_⟩);rw[←e,(h i hi).2];rfl
end
abbrev bO:=List (Str×Str)
def av(ps:bO)(i:Nat):Str:=(ps.getD i ("","")).1
def a9(ps:bO)(c:Fc):Key:=if c.k=bh then .inl c.aJ else .inr (av ps c.aJ.toNat)
def dC(ps:bO)(z:Nat)(c:Fc):List Key:=[.inl (z:Int),.inr c.k,.inr (av ps c.one),a9 ps c]
def keyOf(k a:Str):Key->List Key
 |.inl b=>[.inr k,.inr a,.inl b]
 |.inr b=>if k="sibling" then[.inr k,.inr (L2.lM a b),.inr (L2.lN a b)] else[.inr k,.inr a,.inr b]
def eZ(ps:bO)(c:Fc):List Key:=keyOf c.k (av ps c.one) (a9 ps c)
def cI(k:Str):Bool:=decide (k="mother")||decide (k="father")
def eS(ps:bO)(fs:List (Nat×Fc)):List (List Key×V):=fs.map λp=>(eZ ps p.2,.int (p.1:Int))
def cz(ps:bO)(fs:List (Nat×Fc)):List (List Key×V):=(fs.filter λp=>cI p.2.k).map λp=>([.inr p.2.k,.inr (av ps p.2.one)],kV (a9 ps p.2))
def iV(ps:bO):List (Key×V):=ps.zipIdx.map λp=>(.inr p.1.1,.int (p.2:Int))
structure zQ where
 way:Int
 row:List Key
 c0:Nat
 c1:Nat
def mF(H:Hp)(a:Addr)(d:zQ):Prop:=∃r,H a=some (.tup [.int d.way,.ref r,.int (d.c0:Int),.int (d.c1:Int)])/\H r=some (.tup (d.row.map kV))
structure BS where
 ps:bO
 fs:List (Nat×Fc)
 co:Nat
 dn:List zQ
 un:List zQ
def BS.F(b:BS):List Fc:=b.fs.map (·.2)
structure BL where
 h:Addr
 L:Addr
 sd:Addr
 pl:Addr
 fc:Addr
 kn:Addr
 pr:Addr
 dn:Addr
 un:Addr
 rk:V
 bZ:List Addr
 hX:List Addr
 jP:List Addr
 d9:List Addr
def BL.own(l:BL):List Addr:=[l.h,l.sd,l.pl,l.fc,l.kn,l.pr,l.dn,l.un]
def BL.fp(l:BL):List Addr:=l.own++l.d9
structure fC(K:PySem.W.Frag)(C:Addr):Prop where
 cls:fL K C
 tY:dD K C "land"
 qO:dD K C "sides"
 vG:dD K C "places"
 pH:dD K C "facts"
 yZ:dD K C "known"
 tH:dD K C "parents"
 pE:dD K C "coming"
 Rh:dD K C "done"
 Om:dD K C "undone"
 ia:dD K C "reckoned"
abbrev HF(L sd pl fc kn pr:Addr)(co:Int)(dn un:Addr)(rk:V):List (Str×V):=[("land",.ref L),("sides",.ref sd),("places",.ref pl),("facts",.ref fc),("known",.ref kn),("parents",.ref pr),("coming",.int co),("done",.ref dn),("undone",.ref un),("reckoned",rk)]
theorem Zgz(a b c d e f g h i j:V):cP "reckoned" j (cP "undone" i (cP "done" h (cP "coming" g (cP "parents" f (cP "known" e (cP "facts" d (cP "places" c (cP "sides" b (cP "land" a [])))))))))=
  ([("land",a),("sides",b),("places",c),("facts",d),("known",e),("parents",f),("coming",g),("done",h),("undone",i),("reckoned",j)]:List (Str×V)):=rfl
abbrev fQ(ps:bO):List (Key×V):=ps.map λp=>(.inr p.1,.str p.2)
inductive rL(H:Hp)(CJ:Addr)(n:Nat)(l:BL)(b:BS):Prop
 |no (e1:l.rk=.aB) (e2:l.d9=[])
 |at_ (jl:JL) (st:JS) (e1:l.rk=.ref jl.J) (e2:l.d9=jl.fp) (ja:cJ H CJ n jl st) (me:eB n st b.F) (len:st.hd.length=b.ps.length) (fR:∀a∈l.own,a∉jl.fp)
structure bG(H:Hp)(C CL CJ:Addr)(l:BL)(xs ys:List Int)(b:BS):Prop where
 obj:∃dx,H l.h=some (.ins C dx (HF l.L l.sd l.pl l.fc l.kn l.pr (b.co:Int) l.dn l.un l.rk))
 land:∀H',Out l.fp H H'->ib H' CL l.L xs ys
 c8:H l.sd=some (.dK (fQ b.ps))
 places:H l.pl=some (.dK (iV b.ps))
 facts:H l.fc=some (.dK (bB (b.fs.map (·.1)) l.bZ))
 fact:Paired (λa (p:Nat×Fc)=>H a=some (.tup ((dC b.ps p.1 p.2).map kV))) l.bZ b.fs
 known:H l.kn=some (.dT (eS b.ps b.fs))
 parents:H l.pr=some (.dT (cz b.ps b.fs))
 done:H l.dn=some (.lst (l.hX.map V.ref))
 kM:Paired (mF H) l.hX b.dn
 ic:H l.un=some (.lst (l.jP.map V.ref))
 mG:Paired (mF H) l.jP b.un
 rq:rL H CJ xs.length l b
 nd:l.own.Nodup
theorem mF.out(o:Out fp H H')(t:∀a xs,H a=some (.tup xs)->a∉fp)(h:mF H a d):mF H' a d:=by
 obtain⟨r,h1,h2⟩:=h;exact⟨r,o _ _ h1 (t _ _ h1),o _ _ h2 (t _ _ h2)⟩
theorem cJ.off(j:cJ H C n l st)(h:H a=some (.tup xs)):a∉l.fp:=by
 intro z;unfold JL.fp at z;simp only[Ym] at z;rcases z with rfl|rfl|rfl|rfl|rfl|z
 ·obtain⟨dx,e⟩:=j.obj
  grind
 ·rw[j.heads] at h;cases h
 ·rw[j.ie] at h;cases h
 ·rw[j.i8] at h;cases h
 ·rw[j.frees] at h;cases h
 ·obtain⟨y,e⟩:=vA j.mem z
  grind
theorem cJ.jz(j:cJ H C n l st)(o:Out fp H H')(d1:∀a∈fp,a∉l.fp)(d2:∀a∈fp,a∉l.bZ)(t:∀a xs,H a=some (.tup xs)->a∉fp):cJ H' C n l st:=by
 have k:∀{a:Addr} {u:HO},H a=some u->a∈l.fp->H' a=some u:=λ{a u} e m=>o _ _ e λz=>d1 _ z m;obtain⟨dx,e⟩:=j.obj;refine⟨⟨dx,k e (by simp[JL.fp])⟩,k j.heads (by simp[JL.fp]),k j.ie (by simp[JL.fp]),L2.Paired.bu j.lead λa x h=>o _ _ h (t _ _ h),k j.i8 (by simp[JL.fp]),?_,k j.frees (by simp[JL.fp]),?_,j.nd,j.out⟩
 ·have aux:∀{as:List Addr} {ps:List (Nat×List Nat)},Paired (λa p=>H a=some (.lst (dI p.2))) as ps->(∀a∈as,a∈l.fp)->Paired (λa p=>H' a=some (.lst (dI p.2))) as ps:=by
   intro as ps p;induction p with
   |nil=>intro _;exact .nil
   |cons f _ ih=>intro m;exact .cons (k f (m _ Yh)) (ih λa ha=>m a (Yx _ ha))
  exact aux j.mem λa ha=>by simp[JL.fp,ha]
 ·have aux:∀{as:List Addr} {ps:List (Nat×List Int)},Paired (λa p=>H a=some (.lst (p.2.map V.int))) as ps->(∀a∈as,a∈l.bZ)->Paired (λa p=>H' a=some (.lst (p.2.map V.int))) as ps:=by
   intro as ps p;induction p with
   |nil=>intro _;exact .nil
   |cons f _ ih=>intro m;exact .cons (o _ _ f λz=>d2 _ z (m _ Yh)) (ih λa ha=>m a (Yx _ ha))
  exact aux j.free λa ha=>ha
section
variable {H H':Hp}{l:BL}{xs ys:List Int}{b:BS}
theorem bG.landAt(h:bG H C CL CJ l xs ys b):ib H CL l.L xs ys:=h.land H (Out.of (aj.refl _))
theorem bG.tup(h:bG H C CL CJ l xs ys b)(e:H a=some (.tup us)):a∉l.fp:=by
 intro z;unfold BL.fp BL.own at z;rcases Yu.mp z with z|z
 ·simp only[Ym,Y0,or_false] at z;rcases z with rfl|rfl|rfl|rfl|rfl|rfl|rfl|rfl
  ·obtain⟨dx,q⟩:=h.obj
   grind
  ·rw[h.c8] at e;cases e
  ·rw[h.places] at e;cases e
  ·rw[h.facts] at e;cases e
  ·rw[h.known] at e;cases e
  ·rw[h.parents] at e;cases e
  ·rw[h.done] at e;cases e
  ·rw[h.ic] at e;cases e
 ·cases h.rq with
  |no _ e2=>grind
  |at_ jl st _ e2 ja=>rw[e2] at z;exact ja.off e z
theorem bG.there(h:bG H C CL CJ l xs ys b)(z:a∈l.fp):H a≠none:=by
 intro e;unfold BL.fp BL.own at z;rcases Yu.mp z with z|z
 ·simp only[Ym,Y0,or_false] at z;rcases z with rfl|rfl|rfl|rfl|rfl|rfl|rfl|rfl
  ·obtain⟨dx,q⟩:=h.obj
   grind
  ·rw[h.c8] at e;cases e
  ·rw[h.places] at e;cases e
  ·rw[h.facts] at e;cases e
  ·rw[h.known] at e;cases e
  ·rw[h.parents] at e;cases e
  ·rw[h.done] at e;cases e
  ·rw[h.ic] at e;cases e
 ·cases h.rq with
  |no _ e2=>grind
  |at_ jl st _ e2 ja=>rw[e2] at z;exact ja.ne e z
theorem rL.same(g:aj H H')(h:rL H CJ n l b):rL H' CJ n l b:=by
 cases h with
 |no e1 e2=>exact .no e1 e2
 |at_ jl st e1 e2 ja me len fR=>exact .at_ jl st e1 e2 (ja.same g) me len fR
theorem bG.same(g:aj H H')(h:bG H C CL CJ l xs ys b):bG H' C CL CJ l xs ys b:=
 ⟨let⟨dx,e⟩:=h.obj;⟨dx,g _ _ e⟩,λH2 o=>h.land H2 ((Out.of g).trans o),g _ _ h.c8,g _ _ h.places,g _ _ h.facts,L2.Paired.bu h.fact λ_ _ e=>g _ _ e,g _ _ h.known,g _ _ h.parents,g _ _ h.done,L2.Paired.bu h.kM λ_ _ ⟨r,e1,e2⟩=>⟨r,g _ _ e1,g _ _ e2⟩,g _ _ h.ic,L2.Paired.bu h.mG λ_ _ ⟨r,e1,e2⟩=>⟨r,g _ _ e1,g _ _ e2⟩,h.rq.same g,h.nd⟩
def dZ(fp r_:List Addr)(H:Hp):Prop:=∀a∈r_,a∈fp\/H a=none
theorem dZ.refl(fp:List Addr)(H:Hp):dZ fp fp H:=λ_ h=>.inl h
theorem FE(o:Out fp H H1)(g:dZ fp r_ H)(o2:Out r_ H1 H2):Out fp H H2:=λa u e n=>o2 _ _ (o _ _ e n) λz=>(g a z).elim n λq=>by rw[e] at q;cases q
theorem dZ.trans(g:dZ fp r_ H)(o:Out fp H H1)(g2:dZ r_ ZgA H1):dZ fp ZgA H:=λa z=>by
 rcases g2 a z with q|q;·exact g a q
 ·by_cases m:a∈fp;·exact .inl m
  ·right
   cases e:H a with
   |none=>rfl
   |some u=>rw[o _ _ e m] at q;cases q
theorem dZ.same(s:aj H H1)(g2:dZ fp r_ H1):dZ fp r_ H:=λa z=>(g2 a z).imp id λq=>s.free q
theorem Zci(me:eB n st F)(m:(k,secs)∈st.fr):secs≠[]:=by
 obtain⟨i,hi,e⟩:=me.wf.hf k (Ye.mpr ⟨_,m,rfl⟩);obtain⟨f,s,d⟩:=me.live;have q:=(d i hi).1;unfold JS.cF at q;rw[e,(mem_lookup me.wf.nf m)] at q
 grind
theorem Zdp(ja:cJ H CJ n jl st)(me:eB n st b.F)(h:∃dx us,H l.h=some (.ins C dx us))(h2:∃k,H l.sd=some (.dK k))(h3:∃k,H l.pl=some (.dK k))(h4:∃k,H l.fc=some (.dK k))(h5:∃k,H l.kn=some (.dT k))(h6:∃k,H l.pr=some (.dT k))(h7:∃as:List Addr,H l.dn=some (.lst (as.map V.ref)))(h8:∃as:List Addr,H l.un=some (.lst (as.map V.ref))):∀a∈l.own,a∉jl.bZ:=by
 intro a ha hf;obtain⟨p,hp,e⟩:∃p∈st.fr,H a=some (.lst (p.2.map V.int)):=by
  have aux:∀{as:List Addr} {ps:List (Nat×List Int)},Paired (λa p=>H a=some (.lst (p.2.map V.int))) as ps->a∈as->∃p∈ps,H a=some (.lst (p.2.map V.int)):=by
   intro as ps pr;induction pr with
   |nil=>intro h;cases h
   |cons f _ ih=>
    intro h;rcases Ym.mp h with rfl|h;·exact⟨_,Yh,f⟩
    ·obtain⟨q,m,e⟩:=ih h;exact⟨q,Yx _ m,e⟩
  exact aux ja.free hf
 have ne:=Zci me (k:=p.1) (secs:=p.2) hp;have lst:∀as:List Addr,H a=some (.lst (as.map V.ref))->False:=λas q=>by
  rw[q] at e;have e':as.map V.ref=p.2.map V.int:=by injection e with e;injection e
  cases dG:p.2 with
  |nil=>exact ne dG
  |cons x r=>
   rw[dG] at e';cases as with
   |nil=>cases e'
   |cons y s=>injection e' with e1 _;cases e1
 unfold BL.own at ha;simp only[Ym,Y0,or_false] at ha;rcases ha with rfl|rfl|rfl|rfl|rfl|rfl|rfl|rfl;·obtain⟨_,_,q⟩:=h;rw[q] at e;cases e
 ·obtain⟨_,q⟩:=h2;rw[q] at e;cases e
 ·obtain⟨_,q⟩:=h3;rw[q] at e;cases e
 ·obtain⟨_,q⟩:=h4;rw[q] at e;cases e
 ·obtain⟨_,q⟩:=h5;rw[q] at e;cases e
 ·obtain⟨_,q⟩:=h6;rw[q] at e;cases e
 ·obtain⟨_,q⟩:=h7;exact lst _ q
 ·obtain⟨_,q⟩:=h8;exact lst _ q
theorem bG.GL(h:bG H C CL CJ l xs ys b)(ja:cJ H CJ xs.length jl st)(me:eB xs.length st b.F):∀a∈l.own,a∉jl.bZ:=
 Zdp ja me (let⟨dx,e⟩:=h.obj;⟨dx,_,e⟩) ⟨_,h.c8⟩ ⟨_,h.places⟩ ⟨_,h.facts⟩ ⟨_,h.known⟩ ⟨_,h.parents⟩ ⟨_,h.done⟩ ⟨_,h.ic⟩
theorem bG.build(h:bG H C CL CJ l xs ys b)(eh:l'.h=l.h)(eL:l'.L=l.L)(es:l'.sd=l.sd)(ep:l'.pl=l.pl)(ef:l'.fc=l.fc)(ek:l'.kn=l.kn)(er:l'.pr=l.pr)(ed:l'.dn=l.dn)(eu:l'.un=l.un)(o:Out l.fp H H')(g:dZ l.fp l'.fp H)
  (obj:∃dx,H' l.h=some (.ins C dx (HF l.L l.sd l.pl l.fc l.kn l.pr (b'.co:Int) l.dn l.un l'.rk)))(c8:H' l.sd=some (.dK (fQ b'.ps)))(places:H' l.pl=some (.dK (iV b'.ps)))(facts:H' l.fc=some (.dK (bB (b'.fs.map (·.1)) l'.bZ)))
  (fact:Paired (λa (p:Nat×Fc)=>H' a=some (.tup ((dC b'.ps p.1 p.2).map kV))) l'.bZ b'.fs)(known:H' l.kn=some (.dT (eS b'.ps b'.fs)))(parents:H' l.pr=some (.dT (cz b'.ps b'.fs)))
  (done:H' l.dn=some (.lst (l'.hX.map V.ref)))(kM:Paired (mF H') l'.hX b'.dn)(ic:H' l.un=some (.lst (l'.jP.map V.ref)))(mG:Paired (mF H') l'.jP b'.un)(rk:rL H' CJ xs.length l' b'):bG H' C CL CJ l' xs ys b':=by
 have oe:l'.own=l.own:=by unfold BL.own;rw[eh,es,ep,ef,ek,er,ed,eu]
 refine⟨?_,λH2 o2=>?_,by rw[es];exact c8,by rw[ep];exact places,by rw[ef];exact facts,fact,by rw[ek];exact known,by rw[er];exact parents,by rw[ed];exact done,kM,by rw[eu];exact ic,mG,rk,by rw[oe];exact h.nd⟩;·rw[eh,eL,es,ep,ef,ek,er,ed,eu];exact obj
 ·rw[eL];exact h.land H2 (FE o g o2)
theorem bG.owned(h:bG H C CL CJ l xs ys b)(eh:l'.h=l.h)(eL:l'.L=l.L)(es:l'.sd=l.sd)(ep:l'.pl=l.pl)(ef:l'.fc=l.fc)(ek:l'.kn=l.kn)(er:l'.pr=l.pr)(ed:l'.dn=l.dn)(eu:l'.un=l.un)
  (rk:(l'.rk=l.rk/\l'.d9=l.d9/\b'.F=b.F/\b'.ps.length=b.ps.length)\/(l'.rk=.aB/\l'.d9=[]))(o:Out l.own H H')
  (obj:∃dx,H' l.h=some (.ins C dx (HF l.L l.sd l.pl l.fc l.kn l.pr (b'.co:Int) l.dn l.un l'.rk)))(c8:H' l.sd=some (.dK (fQ b'.ps)))(places:H' l.pl=some (.dK (iV b'.ps)))(facts:H' l.fc=some (.dK (bB (b'.fs.map (·.1)) l'.bZ)))
  (fact:Paired (λa (p:Nat×Fc)=>H' a=some (.tup ((dC b'.ps p.1 p.2).map kV))) l'.bZ b'.fs)(known:H' l.kn=some (.dT (eS b'.ps b'.fs)))(parents:H' l.pr=some (.dT (cz b'.ps b'.fs)))
  (done:H' l.dn=some (.lst (l'.hX.map V.ref)))(kM:Paired (mF H') l'.hX b'.dn)(ic:H' l.un=some (.lst (l'.jP.map V.ref)))(mG:Paired (mF H') l'.jP b'.un):bG H' C CL CJ l' xs ys b'/\dZ l.fp l'.fp H:=by
 have oe:l'.own=l.own:=by unfold BL.own;rw[eh,es,ep,ef,ek,er,ed,eu]
 have sub:∀a∈l'.fp,a∈l.fp:=λa z=>by
  unfold BL.fp at z⊢;rw[oe] at z;rcases rk with⟨_,e,_⟩|⟨_,e⟩;·rw[e] at z;exact z
  ·rw[e,We] at z;exact Yt _ z
 have of:Out l.fp H H':=λa u e n=>o _ _ e λz=>n (Yt _ z);refine⟨⟨?_,λH2 o2=>?_,by rw[es];exact c8,by rw[ep];exact places,by rw[ef];exact facts,fact,by rw[ek];exact known,by rw[er];exact parents,by rw[ed];exact done,kM,by rw[eu];exact ic,mG,?_,by rw[oe];exact h.nd⟩,λa z=>.inl (sub a z)⟩;·rw[eh,eL,es,ep,ef,ek,er,ed,eu];exact obj
 ·rw[eL];exact h.land H2 (FE of (λa z=>.inl (sub a z)) o2)
 ·rcases rk with⟨r1,r2,r3,r4⟩|⟨r1,r2⟩
  ·cases h.rq with
   |no e1 e2=>exact .no (by rw[r1];exact e1) (by rw[r2];exact e2)
   |at_ jl st e1 e2 ja me len fR=>
    exact .at_ jl st (by rw[r1];exact e1) (by rw[r2];exact e2) (ja.jz o fR (h.GL ja me) λa us e=>λz=>h.tup e (Yt _ z)) (by rw[r3];exact me) (by rw[r4];exact len) (by rw[oe];exact fR)
  ·exact .no r1 r2
end
abbrev pT:List (Str×Str):=[("mother","m"),("father","f"),("wed","w"),("sibling","s")]
abbrev pO(xs ys:List Int):List (Str×List Int):=[("mother",inv xs),("father",inv (bL xs ys)),("wed",ys),("sibling",bF xs.length)]
structure d_(xs ys:List Int)(m:Nat)(c:Fc):Prop where
 ok:dB xs.length m c
 kind:c.k=bh\/(c.k,c.tn)∈pO xs ys
 Iw:c.k=bh->0<=c.aJ/\c.aJ<(xs.length:Int)
theorem Zaj:(bh,tn)∉pO xs ys:=by
 intro h;simp only[Ym,Y0,or_false] at h;rcases h with⟨h,_⟩|⟨h,_⟩|⟨h,_⟩|⟨h,_⟩<;>exact absurd h (by decide+kernel)
theorem Dg(h:(k,tn)∈pO xs ys):∃r,PyProof.Rows.KTD.datumAt k pT=some r/\(r,tn)∈zm xs ys:=by
 simp only[Ym,Y0,or_false] at h;rcases h with⟨rfl,rfl⟩|⟨rfl,rfl⟩|⟨rfl,rfl⟩|⟨rfl,rfl⟩;·exact⟨"m",by decide+kernel,by simp⟩
 ·exact⟨"f",by decide+kernel,by simp⟩
 ·exact⟨"w",by decide+kernel,by simp⟩
 ·exact⟨"s",by decide+kernel,by simp⟩
theorem d_.ub(g:d_ xs ys m c)(h:c.k≠bh):(c.k,c.tn)∈pO xs ys:=g.kind.resolve_left h
theorem Zcj(gd:mJ xs ys)(h:(k,tn)∈pO xs ys):full tn=true/\tn.length=xs.length:=by
 obtain⟨r,_,h2⟩:=Dg h;exact Zai gd h2
theorem tS(nd:(ps.map (·.1)).Nodup)(hi:i<ps.length):aS (iV ps) (.inr (av ps i))=some (.int (i:Int)):=by
 have aux:∀(ps:bO) (k i:Nat),(ps.map (·.1)).Nodup->i<ps.length->aS ((ps.zipIdx k).map λp=>((.inr p.1.1:Key),V.int (p.2:Int))) (.inr (av ps i))=some (.int ((k+i:Nat):Int)):=by
  intro ps;induction ps with
  |nil=>intro k i _ h;cases h
  |cons p ps ih=>
   intro k i nd hi;obtain⟨n1,n2⟩:=Yz.mp (show(p.1::ps.map (·.1)).Nodup from nd);rw[List.zipIdx_cons,Wn];cases i with
   |zero=>exact fw rfl
   |succ i=>
    have jI:i<ps.length:=by simpa using hi
    have e:av (p::ps) (i+1)=av ps i:=rfl;have m:av ps i∈ps.map (·.1):=by
     unfold av;rw[Yk,Yc jI];exact Ye.mpr ⟨_,Jo jI,rfl⟩
    rw[e,eU (λz=>n1 (by rw[Wc z];exact m)),ih (k+1) i n2 jI]
    congr 2
    omega
 have:=aux ps 0 i nd hi
 rwa [Nat.zero_add] at this
theorem ko(h:c.k=bh):a9 ps c=.inl c.aJ:=if_pos h
theorem gO(h:c.k≠bh):a9 ps c=.inr (av ps c.aJ.toNat):=if_neg h
inductive Oo(vs:List V)(H:Hp)(Q:VK):Prop
 |mk (k:Str) (aE:vs=[.str k]) (aT:Q (.bl (mS pT k)) H):Oo vs H Q
def F9:Sp:=λvs H Q _=>Oo vs H Q
inductive MJ(CL:Addr)(vs:List V)(H:Hp)(Q:VK):Prop
 |mk (L:Addr) (k:Str) (xs ys tn:List Int) (aE:vs=[.ref L,.str k]) (aT:ib H CL L xs ys) (bw:(k,tn)∈pO xs ys) (bP:∀t:Addr,bW H t tn->Q (.ref t) H):MJ CL vs H Q
def E6(CL:Addr):Sp:=λvs H Q _=>MJ CL vs H Q
inductive Ri(vs:List V)(H:Hp)(Q:VK):Prop
 |mk (k a:Str) (o:Key) (aE:vs=[.str k,.str a,kV o]) (aT:k="sibling"->∃b,o=.inr b) (bw:Nw H (.tup ((keyOf k a o).map kV)) Q):Ri vs H Q
def zD:Sp:=λvs H Q _=>Ri vs H Q
inductive Oq(CL CJ:Addr)(vs:List V)(H:Hp)(Q:VK):Prop
 |mk (jl:JL) (st:JS) (L pl fa:Addr) (xs ys:List Int) (ps:bO) (F:List Fc) (z:Nat) (c:Fc) (aE:vs=[.ref jl.J,.ref L,.ref pl,.ref fa]) (ja:cJ H CJ xs.length jl st) (me:eB xs.length st F) (la:ib H CL L xs ys) (gd:mJ xs ys) (hp:H pl=some (.dK (iV ps))) (nd:(ps.map (·.1)).Nodup) (len:st.hd.length=ps.length) (m4:ps.length<=100) (hf:H fa=some (.tup ((dC ps z c).map kV))) (fg:d_ xs ys ps.length c) (lv:∃f,c_ st f/\eO f c)
   (q:∀(v:V) (gv:JL) (aI:JS) (H':Hp),gv.J=jl.J->(∀a∈gv.fp,a∈jl.fp)->Out jl.fp H H'->cJ H' CJ xs.length gv aI->eB xs.length aI (F++[c])->aI.hd.length=st.hd.length->Q v H'):Oq CL CJ vs H Q
def F_(CL CJ:Addr):Sp:=λvs H Q _=>Oq CL CJ vs H Q
inductive PB(CL CJ:Addr)(vs:List V)(H:Hp)(Q:VK):Prop
 |mk (jl:JL) (st:JS) (L pl fa:Addr) (xs ys:List Int) (ps:bO) (F:List Fc) (z:Nat) (c:Fc) (aE:vs=[.ref jl.J,.ref L,.ref pl,.ref fa]) (ja:cJ H CJ xs.length jl st) (me:eB xs.length st F) (la:ib H CL L xs ys) (gd:mJ xs ys) (hp:H pl=some (.dK (iV ps))) (nd:(ps.map (·.1)).Nodup) (len:st.hd.length=ps.length) (m4:ps.length<=100) (hf:H fa=some (.tup ((dC ps z c).map kV))) (fg:d_ xs ys ps.length c)
   (q1:(∃f,c_ st f/\eO f c)->∀H',aj H H'->Q (.bl true) H') (q2:(∀f,c_ st f->¬eO f c)->∀H',aj H H'->Q (.bl false) H'):PB CL CJ vs H Q
def Rj(CL CJ:Addr):Sp:=λvs H Q _=>PB CL CJ vs H Q
theorem y6:∀b:Bool,decide (V.str k=V.str bh)=b->(b=true↔k=bh):=λb e=>by
 grind
section
variable {kW:Addr}
theorem Zbd:aU ["kind"] ["kind"] (aM Fw):=⟨rfl,rfl,rfl,by decide+kernel,rfl,by decide+kernel,by decide+kernel⟩
theorem Zbe(F:aN K "is_tie" "is_tie" Fw f fd)(sM:mg "TIE_LETTERS"=some (.ref kW))(tb:uh K kW pT):aK P w K mg base aP 1 f fd ["kind"] F9:=by
 refine F.ok Zbd (λvs H Q E h=>?_) (λaF A outer s H vs Q E hr h=>?_)
 ·obtain⟨k,rfl,_⟩:=h;rfl
 obtain⟨k,rfl,q⟩:=h;refine⟨_,(aw (aH (dw (ZeC (K:=K) rfl) (pv 0) (dv (v:=.ref kW) rfl sM rfl) (by with_unfolding_all rfl)))),?_⟩;exact⟨_,rfl,k,kW,pT,rfl,rfl,tb,q⟩
theorem Zq:aU ["land","kind"] ["land","kind"] (aM Ea):=⟨rfl,rfl,rfl,by decide+kernel,rfl,by decide+kernel,by decide+kernel⟩
theorem Zr(F:aN K "tie_turn" "tie_turn" Ea f fd)(sM:mg "TIE_LETTERS"=some (.ref kW))(tb:uh K kW pT)(lc:ua K CL)(tM:HasFn P w K mg base 1 "is_tie" ["kind"] F9)(DT:cD P w K mg base 1 "step" CL ["self","letter"] (Q6 CL)):aK P w K mg base aP 2 f fd ["land","kind"] (E6 CL):=by
 refine F.ok Zq (λvs H Q E h=>?_) (λaF A outer s H vs Q E hr h=>?_)
 ·obtain⟨L,k,xs,ys,tn,rfl,_⟩:=h;rfl
 obtain⟨L,k,xs,ys,tn,rfl,la,hk,q⟩:=h;refine⟨_,(au (aR (iY (eK (aY tM hr (by omega) rfl (ae (pv 1) ag)))) fI a_) (aw (aH (cO DT hr (by omega) (pv 0) (ae (aX (ZcZ (K:=K) rfl) (dv (v:=.ref kW) rfl sM rfl) (pv 1) (λ_ _=>rfl)) ag))))),?_⟩;obtain⟨r,dr,hs⟩:=Dg hk;have ht:mS pT k=true:=by unfold mS;rw[dr];rfl
 obtain⟨dx,d,mo,jQ,wi,im,jf,iw,st,h1,_⟩:=id la;refine⟨_,rfl,k,rfl,_,rfl,?_⟩;rw[ht];refine cj (aZ ?_);exact⟨_,rfl,L,dx,_,rfl,h1,rfl,_,rfl,kW,k,r,pT,rfl,rfl,tb,dr,L,r,xs,ys,tn,rfl,la,hs,q⟩
theorem Zs:aU ["kind","one","other"] ["kind","one","other"] (aM Eb):=⟨rfl,rfl,rfl,by decide+kernel,rfl,by decide+kernel,by decide+kernel⟩
theorem Zt(F:aN K "fact_key" "fact_key" Eb f fd)(nK:mg "SIBLING"=some (.str "sibling" t1))(bl:Bl mg):aK P w K mg base aP 1 f fd ["kind","one","other"] zD:=by
 refine F.ok Zs (λvs H Q E h=>?_) (λaF A outer s H vs Q E hr h=>?_)
 ·obtain⟨k,a,o,rfl,_⟩:=h;rfl
 obtain⟨k,a,o,rfl,hs,q⟩:=h;refine⟨_,(au (aR (bb cg (pv 0) (dv (v:=.str "sibling") rfl nK ⟨_,rfl⟩) (aQ _)) (aw (aH (cK (ae (pv 0) (ae (bM (Z8 rfl) rfl bl.Zfq Zeb (ae (pv 1) (ae (pv 2) ag))) (ae (bM (Z9 rfl) rfl bl.Zfr ZeO (ae (pv 1) (ae (pv 2) ag))) ag)))))) a_) (aw (aH (cK (ae (pv 0) (ae (pv 1) (ae (pv 2) ag))))))),?_⟩;refine⟨_,rfl,rfl,_,rfl,?_⟩;by_cases e:k="sibling"
 ·obtain⟨b,rfl⟩:=hs e;rw[decide_eq_true (by rw[e])];refine⟨_,rfl,_,rfl,_,rfl,_,_,rfl,_,rfl,_,rfl,_,_,rfl,by show 3<=sizeLine;decide,?_⟩;have ek:keyOf k a (.inr b)=[.inr k,.inr (L2.lM a b),.inr (L2.lN a b)]:=if_pos e;rw[ek] at q;exact q
 ·rw[decide_eq_false (λz=>e (V.str.inj z))];refine⟨_,rfl,_,rfl,_,rfl,by show 3<=sizeLine;decide,?_⟩;have ek:(keyOf k a o).map kV=[.str k,.str a,kV o]:=by
   cases o with
   |inl i=>rfl
   |inr b=>
    have:keyOf k a (.inr b)=[.inr k,.inr a,.inr b]:=if_neg e;rw[this];rfl
  rw[ek] at q;exact q
theorem vc:aU ["joins","land","places","fact","number","kind","one","other"] ["joins","land","places","fact"] (aM DE):=⟨rfl,rfl,rfl,by decide+kernel,rfl,by decide+kernel,by decide+kernel⟩
theorem YB(F:aN K "keep_fact" "keep_fact" DE f fd)(kC:mg "SAID"=some (.str "said" t1))(sY:HasFn P w K mg base 2 "tie_turn" ["land","kind"] (E6 CL))(DU:cD P w K mg base 3 "say" CJ ["self","one","section"] (Se CJ))(DV:cD P w K mg base 5 "tie" CJ ["self","one","other","turn"] (Sg CJ)):aK P w K mg base aP 6 f fd ["joins","land","places","fact"] (F_ CL CJ):=by
 refine F.ok vc (λvs H Q E h=>?_) (λaF A outer s H vs Q E hr h=>?_)
 ·obtain⟨jl,st,L,pl,fa,xs,ys,ps,FF,z,c,rfl,_⟩:=h;rfl
 obtain⟨jl,st,L,pl,fa,xs,ys,ps,FF,z,c,rfl,ja,me,la,gd,hp,nd,len,m4,hf,fg,lv,q⟩:=h;refine⟨_,(au (lC (pv 3) (gT (K:=K) (n:=4) rfl rfl (bJ (bo (i:=4) vc.nd rfl (Or.inl rfl)) (bJ (bo (i:=5) vc.nd rfl (Or.inl rfl)) (bJ (bo (i:=6) vc.nd rfl (Or.inl rfl)) (bJ (bo (i:=7) vc.nd rfl (Or.inl rfl)) gP)))))) (au (aR (bb cg (pv 5) (dv (v:=.str "said") rfl kC ⟨_,rfl⟩) (aQ _)) (aw (aH (cO DU hr (by omega) (pv 0) (ae (dh (bH hr) (pv 2) (pv 6) (λ_ _=>rfl)) (ae (pv 7) ag))))) a_) (aw (aH (cO DV hr (by omega) (pv 0) (ae (dh (bH hr) (pv 2) (pv 6) (λ_ _=>rfl)) (ae (dh (bH hr) (pv 2) (pv 7) (λ_ _=>rfl)) (ae (aY sY hr (by omega) rfl (ae (pv 1) (ae (pv 5) ag))) ag)))))))),?_⟩;obtain⟨dx,ho⟩:=ja.obj;have p1:=tS nd fg.ok.one;have n8:xs.length<=8:=gd.2.2.2.2;have hi:c.one<st.hd.length:=by rw[len];exact fg.ok.one
 refine⟨_,rfl,fa,_,rfl,aA.of hf,rfl,_,_,rfl,bp ⟨_,_,rfl,bp ⟨_,_,rfl,bp ⟨_,_,rfl,bp ⟨rfl,?_⟩⟩⟩⟩⟩;refine⟨_,rfl,rfl,_,rfl,bI (λcc=>?_) (λcc=>aZ ?_)⟩
 ·have e:c.k=bh:=(y6 _ rfl).mp cc;have eo:kV (a9 ps c)=.int c.aJ:=by rw[ko e];rfl
  refine⟨_,rfl,jl.J,dx,_,rfl,ho,rfl,_,rfl,_,rfl,pl,_,rfl,di hp p1,_,rfl,?_⟩;have one:=me.wf.one n8 hi;have xy:=me.wf.zC;obtain⟨f0,d0,s0⟩:=lv;obtain⟨s0',h0⟩:=id d0;have mm:c.aJ∈(st.cF (st.ah c.one)).map (λz=>(st.bV c.one).getD z.toNat 0):=Ye.mpr ⟨s0' (st.ah c.one),(h0 c.one hi).1,by rw[←s0.1 e,(h0 c.one hi).2];rfl⟩;refine⟨jl,st,xs.length,c.one,_,_,_,c.aJ,?_,ja,one,by omega,λ_ l' H' k1 k2 o3 j3=>?_,λno=>absurd mm no⟩
  ·show[V.ref jl.J,V.int (c.one:Int),kV (a9 ps c)]=_;rw[eo]
  ·have ec:c=⟨bh,c.one,c.aJ,c.tn⟩:=by rw[←e]
   refine q _ l' _ H' k1 (λa ha=>by rw[k2] at ha;exact ha) o3 j3 ?_ rfl;rw[ec];exact Pz me hi mm
 ·have e:c.k≠bh:=λz=>cc ((y6 _ rfl).mpr z);obtain⟨⟨o0,om⟩,ft,tl⟩:=fg.ok.gu e;have eo:kV (a9 ps c)=.str (av ps c.aJ.toNat):=by rw[gO e];rfl
  have p2:=tS nd om;have hj:c.aJ.toNat<st.hd.length:=by rw[len];exact om
  refine⟨_,rfl,jl.J,dx,_,rfl,ho,rfl,_,rfl,_,rfl,pl,_,rfl,di hp p1,_,rfl,_,rfl,pl,.int (c.aJ.toNat:Int),rfl,?_,_,rfl,_,rfl,L,c.k,xs,ys,c.tn,rfl,la,fg.ub e,λt ht=>?_⟩
  ·show dW H pl (kV (a9 ps c)) _;rw[eo];exact di hp p2
  refine⟨jl,st,xs.length,c.one,c.aJ.toNat,c.tn,t,rfl,ja,me.wf,me.live,n8,by omega,hi,hj,ht,ft,tl,λb l' aI H' k1 k2 o3 j3 to=>?_⟩;have ec:c=⟨c.k,c.one,(c.aJ.toNat:Int),c.tn⟩:=by rw[Jq o0]
  have ZgB:dB xs.length st.hd.length ⟨c.k,c.one,(c.aJ.toNat:Int),c.tn⟩:=by rw[←ec,len];exact fg.ok
  obtain⟨tm,tf⟩:=Zch me to e ZgB;have eb:b=true:=by
   cases eb:b with
   |true=>rfl
   |false=>
    obtain⟨f0,d0,s0⟩:=lv;obtain⟨es,no⟩:=to.no eb;exact absurd (s0.2 e) (no f0 d0)
  refine q _ l' aI H' k1 k2 o3 j3 ?_ to.len;have:=tm eb;rw[←ec] at this;exact this
theorem vd:aU ["joins","land","places","fact","number","kind","one","other"] ["joins","land","places","fact"] (aM DF):=⟨rfl,rfl,rfl,by decide+kernel,rfl,by decide+kernel,by decide+kernel⟩
theorem YC(F:aN K "fact_fits" "fact_fits" DF f fd)(kC:mg "SAID"=some (.str "said" t1))(sY:HasFn P w K mg base 2 "tie_turn" ["land","kind"] (E6 CL))(l_:cD P w K mg base 2 "open_at" CJ ["self","one"] (yG CJ))(sP:cD P w K mg base 4 "left" CJ ["self","one","other","turn"] (GI CJ)):aK P w K mg base aP 5 f fd ["joins","land","places","fact"] (Rj CL CJ):=by
 refine F.ok vd (λvs H Q E h=>?_) (λaF A outer s H vs Q E hr h=>?_)
 ·obtain⟨jl,st,L,pl,fa,xs,ys,ps,FF,z,c,rfl,_⟩:=h;rfl
 obtain⟨jl,st,L,pl,fa,xs,ys,ps,FF,z,c,rfl,ja,me,la,gd,hp,nd,len,m4,hf,fg,q1,q2⟩:=h;have hu:=hr.tU;refine⟨_,(au (lC (pv 3) (gT (K:=K) (n:=4) rfl rfl (bJ (bo (i:=4) vd.nd rfl (Or.inl rfl)) (bJ (bo (i:=5) vd.nd rfl (Or.inl rfl)) (bJ (bo (i:=6) vd.nd rfl (Or.inl rfl)) (bJ (bo (i:=7) vd.nd rfl (Or.inl rfl)) gP)))))) (au (aR (bb cg (pv 5) (dv (v:=.str "said") rfl kC ⟨_,rfl⟩) (aQ _)) (aw (aH (dw (lT (K:=K) rfl) (pv 7) (cO l_ hr (by omega) (pv 0) (ae (dh (bH hr) (pv 2) (pv 6) (λ_ _=>rfl)) ag)) (by with_unfolding_all rfl)))) a_) (aw (aH (dw (F5 (K:=K) rfl (QS hu)) (cO sP hr (by omega) (pv 0) (ae (dh (bH hr) (pv 2) (pv 6) (λ_ _=>rfl)) (ae (dh (bH hr) (pv 2) (pv 7) (λ_ _=>rfl)) (ae (aY sY hr (by omega) rfl (ae (pv 1) (ae (pv 5) ag))) ag)))) (cZ ag) (aQ _)))))),?_⟩;obtain⟨dx,ho⟩:=ja.obj;have p1:=tS nd fg.ok.one;have n8:xs.length<=8:=gd.2.2.2.2;have hi:c.one<st.hd.length:=by rw[len];exact fg.ok.one
 refine⟨_,rfl,fa,_,rfl,aA.of hf,rfl,_,_,rfl,bp ⟨_,_,rfl,bp ⟨_,_,rfl,bp ⟨_,_,rfl,bp ⟨rfl,?_⟩⟩⟩⟩⟩;refine⟨_,rfl,rfl,_,rfl,bI (λcc=>?_) (λcc=>aZ ?_)⟩
 ·have e:c.k=bh:=(y6 _ rfl).mp cc;have eo:kV (a9 ps c)=.int c.aJ:=by rw[ko e];rfl
  have one:=me.wf.one n8 hi;refine⟨_,rfl,_,rfl,jl.J,dx,_,rfl,ho,rfl,_,rfl,_,rfl,pl,_,rfl,di hp p1,jl,st,xs.length,c.one,_,_,_,rfl,ja,one.hd,one.ld,one.fr,one.fE,one.iT,λp ns H1 np g1 pm so oH=>⟨p,_,rfl,.inl (ak.of oH),?_,Fz ns,?_⟩⟩
  ·show iK (kV (a9 ps c))=true;rw[eo];rfl
  show Q (.bl (if(false:Bool)=true then !eX (kV (a9 ps c)) (ns.map V.int) else eX (kV (a9 ps c)) (ns.map V.int))) H1;rw[if_neg Yi,eo,yY];have ec:c=⟨bh,c.one,c.aJ,c.tn⟩:=by rw[←e]
  by_cases m:c.aJ∈ns
  ·rw[decide_eq_true m];refine q1 ?_ H1 g1;have US:=Pz (tn:=c.tn) me hi (pm.subset m);obtain⟨f,d⟩:=US.live;obtain⟨_,s⟩:=(US.iff f).mp d;refine⟨f,((ve me.wf hi _ f).mp d).1,?_⟩;rw[ec];exact s _ (Yq _ Yh)
  ·rw[decide_eq_false m];refine q2 (λf d=>?_) H1 g1;rw[ec];exact Ze0 me hi (λz=>m (pm.symm.subset z)) f d
 ·have e:c.k≠bh:=λz=>cc ((y6 _ rfl).mpr z);obtain⟨⟨o0,om⟩,ft,tl⟩:=fg.ok.gu e;have eo:kV (a9 ps c)=.str (av ps c.aJ.toNat):=by rw[gO e];rfl
  have p2:=tS nd om;have hj:c.aJ.toNat<st.hd.length:=by rw[len];exact om
  have pf:=Px me.wf n8 hi hj;refine⟨_,rfl,jl.J,dx,_,rfl,ho,rfl,_,rfl,_,rfl,pl,_,rfl,di hp p1,_,rfl,_,rfl,pl,.int (c.aJ.toNat:Int),rfl,?_,_,rfl,_,rfl,L,c.k,xs,ys,c.tn,rfl,la,fg.ub e,λt ht=>?_⟩
  ·show dW H pl (kV (a9 ps c)) _;rw[eo];exact di hp p2
  refine⟨jl,st,xs.length,c.one,c.aJ.toNat,_,_,_,_,_,_,c.tn,t,rfl,ja,me.wf.one n8 hi,me.wf.one n8 hj,ht,λp hp=>by rw[tl];exact Rb me.wf hi (x:=p.1) (y:=p.2) hp,Y3 pf (by omega),λp ns H1 np g1 oH pm _=>?_⟩;have ms:=Oi pm;refine⟨by show 0<=sizeLine;exact Yv _,λe0 H2 n2 g2 se=>?_⟩;refine⟨p,e0,ns.map V.int,rfl,rfl,ak.of (g2 _ _ oH),ak.of se,?_⟩;rw[if_pos rfl];have sat:∀f,eO f c↔f c.aJ.toNat=ap c.tn (f c.one):=λf=>⟨λh=>h.2 e,λh=>⟨λz=>absurd z e,λ_=>h⟩⟩;cases ns with
  |nil=>
   refine q2 (λf d z=>?_) H2 (g1.trans g2);have m:=vF me.wf hi hj d;rw[(sat f).mp z] at m;exact absurd ((ms _).mpr m) (λz=>nomatch z)
  |cons a r=>
   refine q1 ?_ H2 (g1.trans g2);have m:=(ms a).mp Yh;obtain⟨f,d,e1,e2⟩:=Oh me.wf hi hj me.live m;exact⟨f,d,(sat f).mpr (by rw[e1,e2])⟩
end
def BS.keys(b:BS):List (List Key):=b.fs.map λp=>eZ b.ps p.2
def BS.told(b:BS)(k:List Key):Bool:=(aS (eS b.ps b.fs) k).isSome
structure cG(xs ys:List Int)(b:BS):Prop where
 gd:mJ xs ys
 nm:(b.ps.map (·.1)).Nodup
 m:b.ps.length<=64
 fl:b.fs.length<=63
 fg:∀p∈b.fs,d_ xs ys b.ps.length p.2
 zs:(b.fs.map (·.1)).Nodup
 lt:∀p∈b.fs,p.1<b.co
 ky:b.keys.Nodup
 pr:((cz b.ps b.fs).map (·.1)).Nodup
 lv:∃f,kT xs.length b.ps.length f/\∀c∈b.F,eO f c
 dl:b.dn.length<=200
 ul:b.un.length<=200
structure cy(H H':Hp)(l l':BL):Prop where
 h:l'.h=l.h
 out:Out l.fp H H'
 grow:dZ l.fp l'.fp H
theorem cy.of(g:aj H H'):cy H H' l l:=⟨rfl,Out.of g,dZ.refl _ _⟩
theorem cy.trans(a:cy H H1 l l1)(b:cy H1 H2 l1 l2):cy H H2 l l2:=⟨b.h.trans a.h,FE a.out a.grow b.out,a.grow.trans a.out b.grow⟩
theorem cy.same(a:cy H H1 l l1)(g:aj H1 H2):cy H H2 l l1:=⟨a.h,a.out.trans (Out.of g),a.grow⟩
theorem cy.after(g:aj H H1)(a:cy H1 H2 l l1):cy H H2 l l1:=⟨a.h,(Out.of g).trans a.out,a.grow.same g⟩
theorem vH[DecidableEq κ](kvs:List (κ×V))(k:κ):(aS kvs k).isSome=true↔k∈kvs.map (·.1):=by
 induction kvs with
 |nil=>exact⟨(λz=>nomatch z),(λz=>nomatch z)⟩
 |cons p r ih=>
  by_cases e:p.1=k
  ·rw[fw e]
   grind
  ·rw[eU e,ih]
   grind
theorem qF{κ:Type}[DecidableEq κ]{kvs:List (κ×V)}{k:κ}(h:k∉kvs.map (·.1)):aS kvs k=none:=by
 cases e:aS kvs k with
 |none=>rfl
 |some v=>exact absurd ((vH kvs k).mp (by rw[e];rfl)) h
theorem PD{κ:Type}[DecidableEq κ]{kvs:List (κ×V)}{k:κ}{v:V}(nd:(kvs.map (·.1)).Nodup)(h:(k,v)∈kvs):aS kvs k=some v:=by
 induction kvs with
 |nil=>cases h
 |cons p r ih=>
  obtain⟨n1,n2⟩:=Yz.mp (show(p.1::r.map (·.1)).Nodup from nd);rcases Ym.mp h with h|h;·rw[←h];exact fw rfl
  ·rw[eU (λz=>n1 (by rw[z];exact Ye.mpr ⟨_,h,rfl⟩))];exact ih n2 h
theorem Ga(h:i<ps.length):av ps i∈ps.map (·.1):=by
 unfold av
 grind
inductive Nr(C CL CJ:Addr)(vs:List V)(H:Hp)(Q:VK):Prop
 |mk (l:BL) (b:BS) (xs ys:List Int) (aE:vs=[.ref l.h]) (aT:bG H C CL CJ l xs ys b) (bw:Nw H (.lst (b.ps.map λp=>V.str p.1)) Q):Nr C CL CJ vs H Q
def Ot(C CL CJ:Addr):Sp:=λvs H Q _=>Nr C CL CJ vs H Q
inductive Nt(C CL CJ:Addr)(vs:List V)(H:Hp)(Q:VK):Prop
 |mk (l:BL) (b:BS) (xs ys:List Int) (z:Str) (v:V) (aE:vs=[.ref l.h,.str z]) (aT:bG H C CL CJ l xs ys b) (bw:aS (fQ b.ps) (.inr z)=some v) (bP:Q v H):Nt C CL CJ vs H Q
def FG(C CL CJ:Addr):Sp:=λvs H Q _=>Nt C CL CJ vs H Q
inductive Rk(C CL CJ:Addr)(vs:List V)(H:Hp)(Q:VK):Prop
 |mk (l:BL) (b:BS) (xs ys:List Int) (k a:Str) (o:Key) (aE:vs=[.ref l.h,.str k,.str a,kV o]) (aT:bG H C CL CJ l xs ys b) (bw:k="sibling"->∃b,o=.inr b) (bP:∀H',aj H H'->Q (.bl (b.told (keyOf k a o))) H'):Rk C CL CJ vs H Q
def zE(C CL CJ:Addr):Sp:=λvs H Q _=>Rk C CL CJ vs H Q
inductive Mf(C CL CJ:Addr)(vs:List V)(H:Hp)(Q:VK):Prop
 |mk (l:BL) (b:BS) (xs ys:List Int) (k a:Str) (aE:vs=[.ref l.h,.str k,.str a]) (aT:bG H C CL CJ l xs ys b) (bP:∀H',aj H H'->Q ((aS (cz b.ps b.fs) [.inr k,.inr a]).getD .aB) H'):Mf C CL CJ vs H Q
def MK(C CL CJ:Addr):Sp:=λvs H Q _=>Mf C CL CJ vs H Q
abbrev ij:List Str:=["mother","father"]
def nZ(b:BS)(a:Str):List V:=ij.filterMap λk=>aS (cz b.ps b.fs) [.inr k,.inr a]
theorem Zck(g:Nat->Option V):((List.range 2).filter λi=>(g i).isSome).map (λi=>(g i).getD .aB)=[g 0,g 1].filterMap id:=by
 show(([0,1]:List Nat).filter _).map _=_
 grind
theorem Ou(b:BS)(k:List Key):b.told k=true↔k∈b.keys:=by
 unfold BS.told;rw[vH];unfold eS BS.keys
 grind
inductive L7(C CL CJ:Addr)(vs:List V)(H:Hp)(Q:VK):Prop
 |mk (l:BL) (b:BS) (xs ys:List Int) (a:Str) (aE:vs=[.ref l.h,.str a]) (aT:bG H C CL CJ l xs ys b) (bP:∀(p:Addr) (H':Hp),H p=none->aj H H'->H' p=some (.lst (nZ b a))->Q (.ref p) H'):L7 C CL CJ vs H Q
def Mg(C CL CJ:Addr):Sp:=λvs H Q _=>L7 C CL CJ vs H Q
def cW(H:Hp)(ps:bO)(a:Addr)(p:Nat×Fc):Prop:=H a=some (.tup ((dC ps p.1 p.2).map kV))
inductive PF(C CL CJ:Addr)(vs:List V)(H:Hp)(Q:VK):Prop
 |mk (l:BL) (b:BS) (xs ys:List Int) (aE:vs=[.ref l.h]) (aT:bG H C CL CJ l xs ys b) (zs:(b.fs.map (·.1)).Nodup) (fl:b.fs.length<=63) (bP:∀(p:Addr) (as:List Addr) (de:List (Nat×Fc)) (H':Hp),H p=none->aj H H'->de.Perm b.fs->(de.map (·.1)).Pairwise (·<·)->H' p=some (.lst (as.map V.ref))->Paired (cW H' b.ps) as de->Q (.ref p) H'):PF C CL CJ vs H Q
def Rl(C CL CJ:Addr):Sp:=λvs H Q _=>PF C CL CJ vs H Q
def Ep(K:PySem.W.Frag):Sp:=λvs H Q _=>∃(r:Addr) (xs:List V),vs=[.ref r]/\aA K H r xs/\Q (.bl (decide (xs.length=2))) H
theorem Gb:∀{as:List Addr} {fs:List (Nat×Fc)} {p:Nat×Fc},Paired (cW H ps) as fs->(fs.map (·.1)).Nodup->p∈fs->∃a,aS (bB (fs.map (·.1)) as) (.inl (p.1:Int))=some (.ref a)/\cW H ps a p:=by
 intro as fs p pr;induction pr with
 |nil=>grind
 |@cons a q as fs f t ih=>
  intro nd h;obtain⟨n1,n2⟩:=Yz.mp (show(q.1::fs.map (·.1)).Nodup from nd);have e0:bB ((q::fs).map (·.1)) (a::as)=(Sum.inl (q.1:Int),V.ref a)::bB (fs.map (·.1)) as:=rfl;rw[e0];rcases Ym.mp h with rfl|h;·exact⟨a,fw rfl,f⟩
  ·obtain⟨a',e1,e2⟩:=ih n2 h;refine⟨a',?_,e2⟩;rw[eU (p:=((Sum.inl (q.1:Int):Key),V.ref a)) (λz=>n1 (by
    have e:=Ao z;have e':q.1=p.1:=by omega
    rw[e'];exact Ye.mpr ⟨_,h,rfl⟩))]
   exact e1
theorem ML:∀{ks:List Nat} {as:List Addr},ks.length=as.length->(bB ks as).map (·.1)=(ks.map λk:Nat=>(k:Int)).map Sum.inl
 |[],[],_=>rfl
 |k::ks,a::as,h=>by
  have e0:bB (k::ks) (a::as)=(Sum.inl (k:Int),V.ref a)::bB ks as:=rfl;rw[e0,Wn,ML (by simpa using h)];rfl
 |[],_::_,h=>rfl
 |_::_,[],h=>by simp at h
theorem Zak(nd:(fs.map (·.1)).Nodup)(pm:ns.Perm ((fs.map (·.1)).map λk:Nat=>(k:Int)))(so:ns.Pairwise (·<=·)):∃de:List (Nat×Fc),de.Perm fs/\(de.map (·.1)).Pairwise (·<·)/\ns=(de.map (·.1)).map λk:Nat=>(k:Int):=by
 have aux:∀{ns:List Int} {fs:List (Nat×Fc)},ns.Perm ((fs.map (·.1)).map λk:Nat=>(k:Int))->∃de:List (Nat×Fc),de.Perm fs/\ns=(de.map (·.1)).map λk:Nat=>(k:Int):=by
  intro ns;induction ns with
  |nil=>
   intro fs pm;have:=pm.symm.eq_nil;have e:fs=[]:=by simpa using this
   exact⟨[],by rw[e],rfl⟩
  |cons a ns ih=>
   intro fs pm;have ma:a∈(fs.map (·.1)).map λk:Nat=>(k:Int):=pm.subset Yh;rw[Wa] at ma;obtain⟨p,hp,rfl⟩:=Ye.mp ma;obtain⟨l1,l2,rfl⟩:=List.append_of_mem hp;have pm':ns.Perm (((l1++l2).map (·.1)).map λk:Nat=>(k:Int)):=by
    have h1:(((l1++p::l2).map (·.1)).map λk:Nat=>(k:Int)).Perm ((p.1:Int)::((l1++l2).map (·.1)).map λk:Nat=>(k:Int)):=by
     have:=(List.perm_middle (a:=p) (l₁:=l1) (l₂:=l2)).map λq:Nat×Fc=>((q.1:Nat):Int);simpa[Wa,Function.comp_def] using this
    exact(pm.trans h1).cons_inv
   obtain⟨de,q1,q2⟩:=ih pm';exact⟨p::de,(q1.cons p).trans List.perm_middle.symm,by rw[q2];rfl⟩
 obtain⟨de,q1,q2⟩:=aux pm;refine⟨de,q1,?_,q2⟩;have nd':(de.map (·.1)).Nodup:=(q1.map _).nodup_iff.mpr nd;rw[q2,Wu] at so;exact(so.and nd').imp λh=>by
  have h1:=h.1;have h2:=h.2;omega
section
variable {dy:Addr}
theorem WU:aU ["self"] ["self"] (aM BO):=⟨rfl,rfl,rfl,by decide+kernel,rfl,by decide+kernel,by decide+kernel⟩
theorem Zbf(F:aN K "people" "Hearth.people" BO f fd)(hc:fC K C)(bl:Bl mg):aK P w K mg base aP 1 f fd ["self"] (Ot C CL CJ):=by
 refine F.ok WU (λvs H Q E h=>?_) (λaF A outer s H vs Q E hr h=>?_)
 ·obtain⟨l,b,xs,ys,rfl,_⟩:=h;rfl
 obtain⟨l,b,xs,ys,rfl,ba,q⟩:=h;refine⟨_,(aw (aH (eI (Zj rfl) rfl bl.tW tP (ae (aV (K:=K) rfl (pv 0) rfl) ag)))),?_⟩;obtain⟨dx,h1⟩:=ba.obj;refine⟨_,rfl,l.h,C,dx,_,_,rfl,h1,hc.cls,hc.qO,rfl,l.sd,_,rfl,ba.c8,λp H' np g hp=>q p H' np g ?_⟩;rw[hp,Wa];rfl
theorem WM:aU ["self","name"] ["self","name"] (aM Bw):=⟨rfl,rfl,rfl,by decide+kernel,rfl,by decide+kernel,by decide+kernel⟩
theorem Zal(F:aN K "side_of" "Hearth.side_of" Bw f fd)(hc:fC K C)(bl:Bl mg):aK P w K mg base aP 1 f fd ["self","name"] (FG C CL CJ):=by
 refine F.ok WM (λvs H Q E h=>?_) (λaF A outer s H vs Q E hr h=>?_)
 ·obtain⟨l,b,xs,ys,z,v,rfl,_⟩:=h;rfl
 obtain⟨l,b,xs,ys,z,v,rfl,ba,ev,q⟩:=h;refine⟨_,(au (aR (kA (nH (bH hr) (pv 1) (aV (K:=K) rfl (pv 0) rfl)) (by with_unfolding_all rfl)) fI a_) (aw (aH (dh (bH hr) (aV (K:=K) rfl (pv 0) rfl) (pv 1) (λ_ _=>rfl))))),?_⟩;obtain⟨dx,h1⟩:=ba.obj;exact⟨_,rfl,_,rfl,l.h,C,dx,_,_,rfl,h1,hc.cls,hc.qO,rfl,l.sd,some v,rfl,di ba.c8 ev,_,rfl,cj (aZ ⟨_,rfl,l.h,C,dx,_,_,rfl,h1,hc.cls,hc.qO,rfl,_,rfl,l.sd,v,rfl,di ba.c8 ev,q⟩)⟩
theorem YD:aU ["row"] ["row"] (aM DI):=⟨rfl,rfl,rfl,by decide+kernel,rfl,by decide+kernel,by decide+kernel⟩
theorem YE(F:aN K "is_person" "is_person" DI f fd)(bl:Bl mg):aK P w K mg base aP 1 f fd ["row"] (Ep K):=by
 refine F.ok YD (λvs H Q E h=>?_) (λaF A outer s H vs Q E hr h=>?_)
 ·obtain⟨r,xs,rfl,_⟩:=h;rfl
 obtain⟨r,xs,rfl,uC,q⟩:=h;refine⟨_,(aw (aH (dw cg (bM (c9 (K:=K) rfl) rfl bl.cX cV (ae (pv 0) ag)) aG (aQ _)))),?_⟩;refine⟨_,rfl,r,xs,rfl,.inr uC,rfl,?_⟩;have e:decide (V.int (xs.length:Int)=V.int 2)=decide (xs.length=2):=by
  rw[Wf,decide_eq_true_iff,decide_eq_true_iff];exact⟨λz=>by have:=V.int.inj z;omega,λz=>by rw[z];rfl⟩
 rw[←e] at q;exact q
theorem XQ:aU ["self","kind","one","other"] ["self","kind","one","other"] (aM Dd):=⟨rfl,rfl,rfl,by decide+kernel,rfl,by decide+kernel,by decide+kernel⟩
theorem Ze1(F:aN K "has" "Hearth.has" Dd f fd)(hc:fC K C)(nG:HasFn P w K mg base 1 "fact_key" ["kind","one","other"] zD):aK P w K mg base aP 2 f fd ["self","kind","one","other"] (zE C CL CJ):=by
 refine F.ok XQ (λvs H Q E h=>?_) (λaF A outer s H vs Q E hr h=>?_)
 ·obtain⟨l,b,xs,ys,k,a,o,rfl,_⟩:=h;rfl
 obtain⟨l,b,xs,ys,k,a,o,rfl,ba,hs,q⟩:=h;refine⟨_,(aw (aH (ZdU (zg (bH hr) (aY nG hr (by omega) rfl (ae (pv 1) (ae (pv 2) (ae (pv 3) ag)))) (aV (K:=K) rfl (pv 0) rfl)) (by with_unfolding_all rfl)))),?_⟩;refine⟨_,rfl,_,rfl,_,rfl,k,a,o,rfl,hs,λp H1 np g1 hp=>?_⟩;obtain⟨dx,h1⟩:=ba.obj;refine⟨_,rfl,l.h,C,dx,_,_,rfl,g1 _ _ h1,hc.cls,hc.yZ,rfl,l.kn,_,rfl,dW.t (g1 _ _ ba.known) hp,?_⟩;exact q H1 g1
theorem WE:aU ["self","kind","name"] ["self","kind","name"] (aM Bg):=⟨rfl,rfl,rfl,by decide+kernel,rfl,by decide+kernel,by decide+kernel⟩
theorem YF(F:aN K "parent_of" "Hearth.parent_of" Bg f fd)(hc:fC K C):aK P w K mg base aP 1 f fd ["self","kind","name"] (MK C CL CJ):=by
 refine F.ok WE (λvs H Q E h=>?_) (λaF A outer s H vs Q E hr h=>?_)
 ·obtain⟨l,b,xs,ys,k,a,rfl,_⟩:=h;rfl
 obtain⟨l,b,xs,ys,k,a,rfl,ba,q⟩:=h;refine⟨_,(aw (aH (ZbI (bH hr) (aV (K:=K) rfl (pv 0) rfl) (cK (ae (pv 1) (ae (pv 2) ag))) ⟨rfl,rfl,rfl,rfl⟩))),?_⟩;obtain⟨dx,h1⟩:=ba.obj;refine⟨_,rfl,l.h,C,dx,_,_,rfl,h1,hc.cls,hc.tH,rfl,l.pr,rfl,.inr ⟨_,.inl ba.parents⟩,_,rfl,_,rfl,by show 2<=sizeLine;decide,λp H1 np g1 hp=>?_⟩;exact⟨_,dW.t (k:=[.inr k,.inr a]) (g1 _ _ ba.parents) hp,q H1 g1⟩
theorem WC:aU ["self","name"] ["self","name"] (aM Bb):=⟨rfl,rfl,rfl,by decide+kernel,rfl,by decide+kernel,by decide+kernel⟩
theorem XR(F:aN K "parents_of" "Hearth.parents_of" Bb f fd)(hc:fC K C)(iF:mg "PARENTS"=some (.ref dy))(qP:∀H,aA K H dy (ij.map V.str)):aK P w K mg base aP 1 f fd ["self","name"] (Mg C CL CJ):=by
 refine F.ok WC (λvs H Q E h=>?_) (λaF A outer s H vs Q E hr h=>?_)
 ·obtain⟨l,b,xs,ys,a,rfl,_⟩:=h;rfl
 obtain⟨l,b,xs,ys,a,rfl,ba,q⟩:=h;refine⟨_,(aw (aH (iH (x:="kind") (fr:=[("self",0),("name",1)]) (cl:=[("self",s.heap.objs.size+1),("name",s.heap.objs.size+1+1)]) rfl ⟨by with_unfolding_all rfl,⟨rfl,⟨rfl,trivial⟩⟩,rfl,by decide+kernel,rfl,by decide+kernel,rfl,⟨⟨rfl,.inl rfl,.inl rfl,rfl⟩,⟨⟨rfl,.inl rfl,.inl rfl,rfl⟩,trivial⟩⟩,by decide+kernel⟩ (Gu (dv (v:=.ref dy) rfl iF rfl)) (λ_ _ _ _=>vJ (kA (zg (bH hr) (cK (ae (pv 0) (ae (pv 2) ag))) (aV (K:=K) rfl (pv 1) rfl)) (by with_unfolding_all rfl))) (λ_ _ _ _=>(dh (bH hr) (aV (K:=K) rfl (pv 1) rfl) (cK (ae (pv 0) (ae (pv 2) ag))) (λ_ _=>rfl)))))),?_⟩;obtain⟨dx,h1⟩:=ba.obj;let val:Nat->Option V:=λi=>aS (cz b.ps b.fs) [.inr (ij.getD i ""),.inr a];refine⟨dy,rfl,⟨_,qP _⟩,λD hD=>ZaW (K:=K) (a:=dy) (xs:=ij.map V.str) (qP _) (by show 2<=1000;decide) hD (λi=>(val i).isSome) (λi=>(val i).getD .aB) (λi v hi H1 g1 _ Kt Kf kt kf=>?_) λH1 g1 h2=>q D H1 hD g1 ?_⟩
 ·obtain⟨k,rfl,ek⟩:∃k:Str,v=.str k/\ij.getD i ""=k:=by
   match i,hi with
   |0,hi=>exact⟨"mother",(Yo hi).symm,rfl⟩
   |1,hi=>exact⟨"father",(Yo hi).symm,rfl⟩
   |i+2,hi=>simp at hi
  have ev:val i=aS (cz b.ps b.fs) [.inr k,.inr a]:=by show aS (cz b.ps b.fs) [.inr (ij.getD i ""),.inr a]=_;rw[ek]
  refine⟨_,rfl,_,rfl,by show 2<=sizeLine;decide,λp H2 np g2 hp=>?_⟩;refine⟨_,rfl,l.h,C,dx,_,_,rfl,g2 _ _ (g1 _ _ h1),hc.cls,hc.tH,rfl,l.pr,_,rfl,dW.t (k:=[.inr k,.inr a]) (g2 _ _ (g1 _ _ ba.parents)) hp,_,rfl,?_⟩;rw[ev] at kt kf;cases e:aS (cz b.ps b.fs) [.inr k,.inr a] with
  |none=>
   rw[e] at kf;exact cj (kf H2 rfl g2)
  |some u=>
   rw[e] at kt;refine c6 ?_;refine⟨_,rfl,l.h,C,dx,_,_,rfl,g2 _ _ (g1 _ _ h1),hc.cls,hc.tH,rfl,_,rfl,_,rfl,by show 2<=sizeLine;decide,λp3 H3 np3 g3 UT=>?_⟩;refine⟨l.pr,u,rfl,?_,kt u H3 rfl (g2.trans g3) rfl⟩;have z:=dW.t (k:=[.inr k,.inr a]) (g3 _ _ (g2 _ _ (g1 _ _ ba.parents))) UT;rw[e] at z;exact z
 ·rw[h2];have e:((List.range (ij.map V.str).length).filter λi=>(val i).isSome).map (λi=>(val i).getD .aB)=nZ b a:=by
   exact Zck val
  rw[e]
theorem Xu:aU ["self"] ["self"] (aM CM):=⟨rfl,rfl,rfl,by decide+kernel,rfl,by decide+kernel,by decide+kernel⟩
theorem Zdq(F:aN K "kept" "Hearth.kept" CM f fd)(hc:fC K C)(bl:Bl mg):aK P w K mg base aP 1 f fd ["self"] (Rl C CL CJ):=by
 refine F.ok Xu (λvs H Q E h=>?_) (λaF A outer s H vs Q E hr h=>?_)
 ·obtain⟨l,b,xs,ys,rfl,_⟩:=h;rfl
 obtain⟨l,b,xs,ys,rfl,ba,zs,fl,q⟩:=h;refine⟨_,(aw (aH (iH (x:="number") (fr:=[("self",0)]) (cl:=[("self",s.heap.objs.size+1)]) rfl ⟨by with_unfolding_all rfl,⟨rfl,trivial⟩,rfl,by decide+kernel,rfl,by decide+kernel,rfl,⟨⟨rfl,.inl rfl,.inl rfl,rfl⟩,trivial⟩,by decide+kernel⟩ (eV (K:=K) rfl (bM (XH rfl) rfl bl.yD yr (ae (aV (K:=K) rfl (pv 0) rfl) ag))) (λ_ _ _ _=>ku) (λ_ _ _ _=>(dh (bH hr) (aV (K:=K) rfl (pv 1) rfl) (pv 0) (λ_ _=>rfl)))))),?_⟩;obtain⟨dx,h1⟩:=ba.obj;have al:(b.fs.map (·.1)).length=l.bZ.length:=by rw[Ya];exact(cR ba.fact).symm
 refine⟨_,rfl,l.h,C,dx,_,_,rfl,h1,hc.cls,hc.pH,rfl,l.fc,_,(b.fs.map (·.1)).map (λk:Nat=>(k:Int)),rfl,ba.facts,ML al,by rw[Ya,Ya];omega,λns pm so p H1 np g1 hp=>?_⟩;obtain⟨de,q1,q2,q3⟩:=Zak zs pm so;have iu:de.length<=63:=by rw[q1.length_eq];exact fl
 subst q3;have nl:(((de.map (·.1)).map λk:Nat=>(k:Int)).map V.int).length=de.length:=by rw[Ya,Ya,Ya]
 refine⟨p,rfl,⟨_,ak.of hp⟩,λD hD=>?_⟩;refine vy (K:=K) (ak.of hp) (by omega) hD (λ_=>true) (λi y H2=>∃a pr,de[i]?=some pr/\y=.ref a/\cW H2 b.ps a pr/\cW H b.ps a pr) (λi y H2 H3 br ⟨a,pr,e1,e2,e3,e4⟩=>⟨a,pr,e1,e2,br _ _ e3 (λz=>by
   have:H1 a=some _:=g1 _ _ e4;rw[z,hD] at this;cases this),e4⟩) (λi v hi H2 g2 _ Kt Kf kt _=>jB (c6 ?_)) λgq H2 g2 h2 pr=>?_
 ·rw[Yf,Yf,Yf] at hi;cases ep:de[i]? with
  |none=>rw[ep] at hi;cases hi
  |some pp=>
   rw[ep] at hi;obtain rfl:V.int (pp.1:Int)=v:=Yo hi;obtain⟨a,e1,e2⟩:=Gb (H:=H) (ps:=b.ps) ba.fact zs (q1.subset (Yg ep));have qf:=g1.trans g2;refine⟨_,rfl,l.h,C,dx,_,_,rfl,qf _ _ h1,hc.cls,hc.pH,rfl,_,rfl,l.fc,.ref a,rfl,nY (qf _ _ ba.facts) e1,kt _ H2 rfl (aj.refl _) ⟨a,pp,ep,rfl,qf _ _ e2,e2⟩⟩
 ·rw[yg,nl] at pr;obtain⟨as,ea,pa⟩:∃as:List Addr,gq=as.map V.ref/\Paired (cW H2 b.ps) as de:=by
   have aux:∀{ys:List V} {is:List Nat} {gs:List (Nat×Fc)},Paired (λy i=>∃a pr,de[i]?=some pr/\y=.ref a/\cW H2 b.ps a pr/\cW H b.ps a pr) ys is->is.map (λi=>de[i]?)=gs.map some->∃as:List Addr,ys=as.map V.ref/\Paired (cW H2 b.ps) as gs:=by
    intro ys is gs pr;induction pr generalizing gs with
    |nil=>
     intro e;cases gs with
     |nil=>exact⟨[],rfl,.nil⟩
     |cons _ _=>cases e
    |cons f _ ih=>
     intro e;cases gs with
     |nil=>cases e
     |cons g gs=>
      obtain⟨a,pp,e1,e2,e3,_⟩:=f;injection e with e4 e5;obtain⟨as,r1,r2⟩:=ih e5;exact⟨a::as,by rw[e2,r1];rfl,.cons (by rw[←Yo (e1.symm.trans e4)];exact e3) r2⟩
   refine aux pr (Wj λi=>?_);rw[Yf,Yf];by_cases hi:i<de.length;·rw[J5 hi,Yc hi];exact congrArg some (Yc hi)
   ·rw[Y4 (by rw[Jx];omega),Y4 (by omega)];rfl
  subst ea;exact q D as de H2 (g1.free hD) (g1.trans g2) q1 q2 h2 pa
end
theorem y8(h:i<ps.length):av (ps++[x]) i=av ps i:=by
 unfold av
 grind
theorem FH(ok:dB n ps.length c):a9 (ps++[x]) c=a9 ps c:=by
 unfold a9;by_cases e:c.k=bh;·grind
 ·rw[if_neg e,if_neg e,y8 (ok.gu e).1.2]
theorem Zdr(ok:dB n ps.length c):dC (ps++[x]) z c=dC ps z c:=by
 unfold dC;rw[FH ok,y8 ok.one]
theorem PH(ok:dB n ps.length c):eZ (ps++[x]) c=eZ ps c:=by
 unfold eZ;rw[FH ok,y8 ok.one]
theorem Zds(ok:∀p∈fs,dB n ps.length p.2):eS (ps++[x]) fs=eS ps fs:=by
 exact W4 λp hp=>by rw[PH (ok p hp)]
theorem PJ(ok:∀p∈fs,dB n ps.length p.2):cz (ps++[x]) fs=cz ps fs:=by
 exact W4 λp hp=>by
  have o:=ok p (Y5.mp hp).1;rw[FH o,y8 o.one]
theorem Zdt(ps:bO)(n s:Str):fQ (ps++[(n,s)])=fQ ps++[(.inr n,.str s)]:=Yp
theorem Zdu(ps:bO)(x:Str×Str):iV (ps++[x])=iV ps++[(.inr x.1,.int (ps.length:Int))]:=by
 unfold iV
 grind
theorem Zcl(ps:bO)(fs:List (Nat×Fc))(z:Nat)(c:Fc):eS ps (fs++[(z,c)])=eS ps fs++[(eZ ps c,.int (z:Int))]:=Yp
theorem Ov(h:cI c.k=true):cz ps (fs++[(z,c)])=cz ps fs++[([.inr c.k,.inr (av ps c.one)],kV (a9 ps c))]:=by
 unfold cz
 grind
theorem Ow(h:cI c.k=false):cz ps (fs++[(z,c)])=cz ps fs:=by
 unfold cz
 grind
theorem y9(k:Str):eX (.str k) (ij.map V.str)=cI k:=by
 show((("mother":Str)==k)||((("father":Str)==k)||false))=(decide (k="mother")||decide (k="father"))
 grind
theorem Mh{α β γ:Type}[DecidableEq β][DecidableEq γ]{f:α->β}{g:α->γ}:∀{xs:List α} {x:α},(xs.map f).Nodup->(xs.map g).Nodup->x∈xs->xs.filter (λy=>decide (f y≠f x))=xs.filter (λy=>decide (g y≠g x)):=by
 intro xs x n1 n2 hx;have inj:∀{δ:Type} {h:α->δ},(xs.map h).Nodup->∀y∈xs,h y=h x->y=x:=by
  induction xs with
  |nil=>cases hx
  |cons a r ih=>grind
 refine List.filter_congr λy hy=>?_
 grind
theorem Zcm{ps:bO}{fs:List (Nat×Fc)}{z:Nat}{c:Fc}(zs:(fs.map (·.1)).Nodup)(ky:(fs.map λp=>eZ ps p.2).Nodup)(m:(z,c)∈fs):f_ (eS ps fs) (eZ ps c)=eS ps (cU z fs):=by
 unfold eS f_ cU;rw[Jt];exact congrArg _ (Mh (x:=(z,c)) ky zs m)
theorem Zcn{ps:bO}{fs:List (Nat×Fc)}{z:Nat}{c:Fc}(zs:(fs.map (·.1)).Nodup)(pr:((cz ps fs).map (·.1)).Nodup)(m:(z,c)∈fs)(h:cI c.k=true):f_ (cz ps fs) [.inr c.k,.inr (av ps c.one)]=cz ps (cU z fs):=by
 unfold cz at pr⊢;rw[Wa] at pr;unfold f_ cU;rw[Jt,Jg];have e:=Mh (f:=λp:Nat×Fc=>([.inr p.2.k,.inr (av ps p.2.one)]:List Key)) (x:=(z,c)) pr (zs.sublist (List.filter_sublist.map _)) (Y5.mpr ⟨m,h⟩);rw[Jg,Jg] at e;rw[Jg]
 grind
theorem Zbg(zs:(fs.map (·.1)).Nodup)(m:(z,c)∈fs)(h:cI c.k=false):cz ps fs=cz ps (cU z fs):=by
 unfold cz cU;rw[Jg];refine congrArg _ (List.filter_congr λp hp=>?_);by_cases e:p.1=z
 ·have:p=(z,c):=by
   have aux:∀{fs:List (Nat×Fc)},(fs.map (·.1)).Nodup->p∈fs->(z,c)∈fs->p=(z,c):=by
    induction fs with
    |nil=>grind
    |cons a r ih=>grind
   exact aux zs hp m
  grind
 ·grind
inductive Move(xs ys:List Int)(H:Hp)(r:Addr)(b:BS):Int->BS->Prop
 |pin (n s:Str) (hr:H r=some (.tup [.str n,.str s])) (new:n∉b.ps.map (·.1)) (lim:b.ps.length<64):Move xs ys H r b 1 {b with ps:=b.ps++[(n,s)]}
 |fin (z:Nat) (c:Fc) (hr:cW H b.ps r (z,c)) (fg:d_ xs ys b.ps.length c) (nz:z∉b.fs.map (·.1)) (nk:eZ b.ps c∉b.keys) (np:cI c.k=true->[.inr c.k,.inr (av b.ps c.one)]∉(cz b.ps b.fs).map (·.1)) (lv:∃f,kT xs.length b.ps.length f/\∀c'∈b.F++[c],eO f c') (lim:b.fs.length<63):Move xs ys H r b 1 {b with fs:=b.fs++[(z,c)]}
 |uk (z:Nat) (c:Fc) (hr:cW H b.ps r (z,c)) (m:(z,c)∈b.fs):Move xs ys H r b (-1) {b with fs:=cU z b.fs}
theorem Move.out{w:Int}(m:Move xs ys H r b w b')(k:∀us,H r=some (.tup us)->H' r=some (.tup us)):Move xs ys H' r b w b':=by
 cases m with
 |pin n s hr new lim=>exact .pin n s (k _ hr) new lim
 |fin z c hr fg nz nk np lv lim=>exact .fin z c (k _ hr) fg nz nk np lv lim
 |uk z c hr m=>exact .uk z c (k _ hr) m
theorem Move.rest{w:Int}(m:Move xs ys H r b w b'):b'.co=b.co/\b'.dn=b.dn/\b'.un=b.un:=by cases m<;>exact⟨rfl,rfl,rfl⟩
theorem Move.ZfL{w:Int}(m:Move xs ys H r b w b')(dn un:List zQ):Move xs ys H r {b with dn:=dn,un:=un} w {b' with dn:=dn,un:=un}:=by
 cases m with
 |pin n s hr new lim=>exact .pin n s hr new lim
 |fin z c hr fg nz nk np lv lim=>exact .fin z c hr fg nz nk np lv lim
 |uk z c hr m=>exact .uk z c hr m
inductive PK(C CL CJ:Addr)(vs:List V)(H:Hp)(Q:VK):Prop
 |mk (l:BL) (b:BS) (xs ys:List Int) (fa:Addr) (z:Nat) (c:Fc) (aE:vs=[.ref l.h,.ref fa]) (ba:bG H C CL CJ l xs ys b) (hf:cW H b.ps fa (z,c)) (nz:z∉b.fs.map (·.1)) (nk:eZ b.ps c∉b.keys) (np:cI c.k=true->[.inr c.k,.inr (av b.ps c.one)]∉(cz b.ps b.fs).map (·.1)) (fl:b.fs.length<=63)
   (q:∀H',Out [l.fc,l.kn,l.pr] H H'->H' l.fc=some (.dK (bB ((b.fs++[(z,c)]).map (·.1)) (l.bZ++[fa])))->H' l.kn=some (.dT (eS b.ps (b.fs++[(z,c)])))->H' l.pr=some (.dT (cz b.ps (b.fs++[(z,c)])))->Q .aB H'):PK C CL CJ vs H Q
def Rm(C CL CJ:Addr):Sp:=λvs H Q _=>PK C CL CJ vs H Q
inductive Ox(C CL CJ:Addr)(vs:List V)(H:Hp)(Q:VK):Prop
 |mk (l:BL) (b b':BS) (xs ys:List Int) (r:Addr) (aE:vs=[.ref l.h,.ref r]) (ba:bG H C CL CJ l xs ys b) (ok:cG xs ys b) (mv:Move xs ys H r b 1 b') (q:∀(l':BL) (H':Hp),cy H H' l l'->bG H' C CL CJ l' xs ys b'->Q .aB H'):Ox C CL CJ vs H Q
def PL(C CL CJ:Addr):Sp:=λvs H Q _=>Ox C CL CJ vs H Q
inductive MM(C CL CJ:Addr)(vs:List V)(H:Hp)(Q:VK):Prop
 |mk (l:BL) (b b':BS) (xs ys:List Int) (r:Addr) (aE:vs=[.ref l.h,.ref r]) (ba:bG H C CL CJ l xs ys b) (ok:cG xs ys b) (mv:Move xs ys H r b (-1) b') (q:∀(l':BL) (H':Hp),cy H H' l l'->bG H' C CL CJ l' xs ys b'->Q .aB H'):MM C CL CJ vs H Q
def Nu(C CL CJ:Addr):Sp:=λvs H Q _=>MM C CL CJ vs H Q
inductive Oy(C CL CJ:Addr)(vs:List V)(H:Hp)(Q:VK):Prop
 |mk (l:BL) (b b':BS) (xs ys:List Int) (r:Addr) (w:Int) (c2:Nat) (aE:vs=[.ref l.h,.int w,.ref r,.int (c2:Int)]) (ba:bG H C CL CJ l xs ys b) (ok:cG xs ys b) (mv:Move xs ys H r b w b') (q:∀(l':BL) (H':Hp),cy H H' l l'->bG H' C CL CJ l' xs ys {b' with co:=c2}->Q .aB H'):Oy C CL CJ vs H Q
def PM(C CL CJ:Addr):Sp:=λvs H Q _=>Oy C CL CJ vs H Q
inductive Nv(C CL CJ:Addr)(vs:List V)(H:Hp)(Q:VK):Prop
 |mk (l:BL) (b b':BS) (xs ys:List Int) (r:Addr) (w:Int) (c2:Nat) (row:List Key) (aE:vs=[.ref l.h,.int w,.ref r,.int (c2:Int)]) (ba:bG H C CL CJ l xs ys b) (ok:cG xs ys b) (dl:b.dn.length<200) (hr:H r=some (.tup (row.map kV))) (mv:Move xs ys H r b w b') (q:∀(l':BL) (H':Hp),cy H H' l l'->bG H' C CL CJ l' xs ys {b' with co:=c2,dn:=b.dn++[⟨w,row,b.co,c2⟩],un:=[]}->Q .aB H'):Nv C CL CJ vs H Q
def yI(C CL CJ:Addr):Sp:=λvs H Q _=>Nv C CL CJ vs H Q
section
variable {dy:Addr}
theorem PN{ps:bO}{c:Fc}(e:c.k="sibling"):∃b,a9 ps c=.inr b:=⟨_,gO (by rw[e];decide+kernel)⟩
theorem u6:aU ["self","fact","number","kind","one","other"] ["self","fact"] (aM Bh):=⟨rfl,rfl,rfl,by decide+kernel,rfl,by decide+kernel,by decide+kernel⟩
theorem Zdv(F:aN K "note_fact" "Hearth.note_fact" Bh f fd)(hc:fC K C)(iF:mg "PARENTS"=some (.ref dy))(qP:∀H,aA K H dy (ij.map V.str))(nG:HasFn P w K mg base 1 "fact_key" ["kind","one","other"] zD):aK P w K mg base aP 2 f fd ["self","fact"] (Rm C CL CJ):=by
 refine F.ok u6 (λvs H Q E h=>?_) (λaF A outer s H vs Q E hr h=>?_)
 ·obtain⟨l,b,xs,ys,fa,z,c,rfl,_⟩:=h;rfl
 obtain⟨l,b,xs,ys,fa,z,c,rfl,ba,hf,nz,nk,np,fl,q⟩:=h;refine⟨_,(au (lC (pv 1) (gT (K:=K) (n:=4) rfl rfl (bJ (bo (i:=2) u6.nd rfl (Or.inl rfl)) (bJ (bo (i:=3) u6.nd rfl (Or.inl rfl)) (bJ (bo (i:=4) u6.nd rfl (Or.inl rfl)) (bJ (bo (i:=5) u6.nd rfl (Or.inl rfl)) gP)))))) (au (nL (bH hr) (aV (K:=K) rfl (pv 0) rfl) (pv 2) (pv 1)) (au (M9 (bH hr) (aV (K:=K) rfl (pv 0) rfl) (aY nG hr (by omega) rfl (ae (pv 3) (ae (pv 4) (ae (pv 5) ag)))) (pv 2)) (aw (aR (bb (lT (K:=K) rfl) (pv 3) (dv (v:=.ref dy) rfl iF rfl) (by with_unfolding_all rfl)) (aw (M9 (bH hr) (aV (K:=K) rfl (pv 0) rfl) (cK (ae (pv 3) (ae (pv 4) ag))) (pv 5))) a_))))),?_⟩;obtain⟨dx,h1⟩:=ba.obj;have sz:(10000:Nat)<=sizeLine:=by rw[sizeLine_eq];omega
 have al:(b.fs.map (·.1)).length=l.bZ.length:=by rw[Ya];exact(cR ba.fact).symm
 have AB:l.h≠l.fc:=dP h1 ba.facts (λz=>by cases z);have nh2:l.h≠l.kn:=dP h1 ba.known (λz=>by cases z);have UU:l.kn≠l.fc:=dP ba.known ba.facts (λz=>by cases z);have ji:l.pr≠l.fc:=dP ba.parents ba.facts (λz=>by cases z);have xA:l.pr≠l.kn:=λe=>by
  have:=ba.nd;unfold BL.own at this;simp[e] at this
 refine⟨_,rfl,fa,_,rfl,aA.of hf,rfl,_,_,rfl,bp ⟨_,_,rfl,bp ⟨_,_,rfl,bp ⟨_,_,rfl,bp ⟨rfl,?_⟩⟩⟩⟩⟩;refine⟨_,rfl,_,rfl,l.h,C,dx,_,_,rfl,h1,hc.cls,hc.pH,rfl,_,rfl,l.fc,_,.inl (z:Int),rfl,ba.facts,rfl,by unfold bB;rw[Ya,Jd,Ya];omega,λH1 b1 e1=>?_⟩;have vz:aS (bB (b.fs.map (·.1)) l.bZ) (.inl (z:Int))=none:=yv nz;rw[kq _ vz,yj z fa al] at e1;refine⟨_,rfl,_,rfl,l.h,C,dx,_,_,rfl,b1 _ _ h1 AB,hc.cls,hc.yZ,rfl,_,rfl,_,rfl,_,rfl,c.k,av b.ps c.one,a9 b.ps c,rfl,λe=>PN e,λp H2 oO g2 dG=>?_⟩;refine⟨l.kn,p,_,eZ b.ps c,rfl,g2 _ _ (b1 _ _ ba.known UU),rfl,dG,by unfold eS;rw[Ya];omega,λH3 b3 e3=>?_⟩;have vk:aS (eS b.ps b.fs) (eZ b.ps c)=none:=qF (by
  have:(eS b.ps b.fs).map (·.1)=b.keys:=by unfold eS BS.keys;rw[Wa];rfl
  rw[this];exact nk)
 rw[kq _ vk] at e3
 replace e3:H3 l.kn=some (.dT (eS b.ps (b.fs++[(z,c)]))):=by rw[Zcl];exact e3
 have k3:∀{a:Addr} {o:HO},H a=some o->a≠l.fc->a≠l.kn->H3 a=some o:=λ{a o} e n1 n2=>b3 _ _ (g2 _ _ (b1 _ _ e n1)) n2;have iy:H3 l.fc=some (.dK (bB ((b.fs++[(z,c)]).map (·.1)) (l.bZ++[fa]))):=by
  have:=b3 _ _ (g2 _ _ e1) (λz=>UU z.symm);rw[this,Yp];rfl
 have xB:=k3 ba.parents ji xA;refine⟨_,rfl,dy,_,rfl,.inr (qP _),rfl,rfl,_,rfl,?_⟩;dsimp only;rw[if_neg Yi,show eX (kV (Sum.inr c.k)) (ij.map V.str)=cI c.k from y9 c.k];refine bI (λcc=>?_) (λcc=>aZ ?_)
 ·refine⟨_,rfl,_,rfl,l.h,C,dx,_,_,rfl,k3 h1 AB nh2,hc.cls,hc.tH,rfl,_,rfl,_,rfl,by show 2<=sizeLine;decide,λp4 H4 np4 g4 Kx=>?_⟩;refine⟨l.pr,p4,_,[.inr c.k,.inr (av b.ps c.one)],rfl,g4 _ _ xB,rfl,Kx,?_,λH5 b5 e5=>?_⟩
  ·unfold cz;rw[Ya];have:=Wg (λp:Nat×Fc=>cI p.2.k) b.fs;omega
  have vp:aS (cz b.ps b.fs) [.inr c.k,.inr (av b.ps c.one)]=none:=qF (np cc);rw[kq _ vp] at e5
  replace e5:H5 l.pr=some (.dT (cz b.ps (b.fs++[(z,c)]))):=by rw[Ov cc];exact e5
  refine q H5 (λa o e n=>?_) (b5 _ _ (g4 _ _ iy) (λz=>ji z.symm)) (b5 _ _ (g4 _ _ e3) (λz=>xA z.symm)) e5;simp only[Ym,Y0,or_false,not_or] at n;exact b5 _ _ (g4 _ _ (k3 e n.1 n.2.1)) n.2.2
 ·have ef:cI c.k=false:=by
   cases e:cI c.k with
   |true=>exact absurd e cc
   |false=>rfl
  refine q H3 (λa o e n=>?_) iy e3 (by rw[Ow ef];exact xB)
  grind
theorem Rn{l:BL}{H H1:Hp}{jl gv:JL}(e2:l.d9=jl.fp)(o:Out l.own H H1)(gr:dZ jl.fp gv.fp H1):dZ l.fp ({l with d9:=gv.fp}:BL).fp H:=λa z=>by
 rcases Yu.mp (show a∈l.own++gv.fp from z) with q|q;·exact .inl (Yt _ q)
 ·rcases gr a q with m|m;·exact .inl (Yq _ (by rw[e2];exact m))
  ·by_cases ma:a∈l.own;·exact .inl (Yt _ ma)
   ·right
    cases e:H a with
    |none=>rfl
    |some u=>rw[o _ _ e ma] at m;cases m
theorem Sh{l:BL}{H H1 H2:Hp}{jl:JL}(e2:l.d9=jl.fp)(o:Out l.own H H1)(o2:Out jl.fp H1 H2):Out l.fp H H2:=λa u e n=>o2 _ _ (o _ _ e λz=>n (Yt _ z)) λz=>n (Yq _ (by rw[e2];exact z))
theorem qQ{l:BL}{H H1:Hp}(o:Out l.own H H1):Out l.fp H H1:=λa u e n=>o _ _ e λz=>n (Yt _ z)
theorem Bz:aU ["self","row","name","side"] ["self","row"] (aM BP):=⟨rfl,rfl,rfl,by decide+kernel,rfl,by decide+kernel,by decide+kernel⟩
theorem Zbh(F:aN K "put_in" "Hearth.put_in" BP f fd)(hc:fC K C)(sS:HasFn P w K mg base 1 "is_person" ["row"] (Ep K))(sT:cD P w K mg base 2 "add" CJ ["self"] (G6 CJ))(Bi:cD P w K mg base 2 "note_fact" C ["self","fact"] (Rm C CL CJ))(sU:HasFn P w K mg base 6 "keep_fact" ["joins","land","places","fact"] (F_ CL CJ))(bl:Bl mg):aK P w K mg base aP 8 f fd ["self","row"] (PL C CL CJ):=by
 refine F.ok Bz (λvs H Q E h=>?_) (λaF A outer s H vs Q E hr h=>?_)
 ·obtain⟨l,b,b',xs,ys,r,rfl,_⟩:=h;rfl
 obtain⟨l,b,b',xs,ys,r,rfl,ba,ok,mv,q⟩:=h;refine⟨_,(aw (aR (eK (aY sS hr (by omega) rfl (ae (pv 1) ag))) (au (lC (pv 1) (gT (K:=K) (n:=2) rfl rfl (bJ (bo (i:=2) Bz.nd rfl (Or.inl rfl)) (bJ (bo (i:=3) Bz.nd rfl (Or.inl rfl)) gP)))) (au (nL (bH hr) (aV (K:=K) rfl (pv 0) rfl) (pv 2) (bM (Z0) rfl bl.cX cV (ae (aV (K:=K) rfl (pv 0) rfl) ag))) (au (nL (bH hr) (aV (K:=K) rfl (pv 0) rfl) (pv 2) (pv 3)) (aw (aR (bb yL (aV (K:=K) rfl (pv 0) rfl) lu (aQ _)) (aw (cA (tX sT hr (by omega) (aV (K:=K) rfl (pv 0) rfl)))) a_))))) (au (cA (cO Bi hr (by omega) (pv 0) (ae (pv 1) ag))) (aw (aR (bb yL (aV (K:=K) rfl (pv 0) rfl) lu (aQ _)) (aw (cA (aY sU hr (by omega) rfl (ae (aV (K:=K) rfl (pv 0) rfl) (ae (aV (K:=K) rfl (pv 0) rfl) (ae (aV (K:=K) rfl (pv 0) rfl) (ae (pv 1) ag))))))) a_))))),?_⟩;obtain⟨dx,h1⟩:=ba.obj;have sz:(10000:Nat)<=sizeLine:=by rw[sizeLine_eq];omega
 have nd:=ba.nd;unfold BL.own at nd;have UW:=nd;simp only[Yz,Ym,Y0,or_false,not_or] at UW;obtain⟨⟨lX,df,iz,lY,oP,m8,oQ⟩,⟨xC,sf,sh,sr,uL,uM⟩,⟨qh,su,sv,uN,uO⟩,_⟩:=UW;have rM:∀p∈b.fs,dB xs.length b.ps.length p.2:=λp hp=>(ok.fg p hp).ok;cases mv with
 |pin n s hR new lim=>
  refine⟨_,rfl,r,_,rfl,aA.of hR,_,rfl,c6 ?_⟩;refine⟨_,rfl,r,_,rfl,aA.of hR,rfl,_,_,rfl,bp ⟨_,_,rfl,bp ⟨rfl,?_⟩⟩⟩;have kl:(fQ b.ps).length=b.ps.length:=Ya _;have pl':(iV b.ps).length=b.ps.length:=by unfold iV;rw[Ya,List.length_zipIdx]
  refine⟨_,rfl,l.h,C,dx,_,_,rfl,h1,hc.cls,hc.qO,rfl,l.sd,_,rfl,ba.c8,_,rfl,l.h,C,dx,_,_,rfl,h1,hc.cls,hc.vG,rfl,_,rfl,l.pl,_,.inr n,rfl,ba.places,rfl,by omega,λH1 b1 e1=>?_⟩;have ZfM:(iV b.ps).map (·.1)=b.ps.map λp=>(.inr p.1:Key):=by
   unfold iV;rw[Wa];have:(λp:(Str×Str)×Nat=>((.inr p.1.1:Key),V.int (p.2:Int)).1)=(λp:Str×Str=>(.inr p.1:Key))∘Prod.fst:=rfl;show b.ps.zipIdx.map (λp:(Str×Str)×Nat=>((.inr p.1.1:Key),V.int (p.2:Int)).1)=_;rw[this,←Wa,List.zipIdx_map_fst]
  have Tf:∀{ks:List Key},ks=(b.ps.map λp=>(.inr p.1:Key))->(.inr n:Key)∉ks:=λ{ks} e z=>by
   rw[e] at z;obtain⟨p,hp,ep⟩:=Ye.mp z;exact new (Ye.mpr ⟨p,hp,Wc ep⟩)
  have vp:aS (iV b.ps) (.inr n)=none:=qF (Tf ZfM);have vs':aS (fQ b.ps) (.inr n)=none:=qF (Tf (by show(b.ps.map _).map _=_;rw[Wa];rfl));rw[kq _ vp,kl] at e1;refine⟨_,rfl,_,rfl,l.h,C,dx,_,_,rfl,b1 _ _ h1 df,hc.cls,hc.qO,rfl,_,rfl,l.sd,_,.inr n,rfl,b1 _ _ ba.c8 xC,rfl,by omega,λH2 b2 e2=>?_⟩;rw[kq _ vs'] at e2;have k2:∀{a:Addr} {o:HO},H a=some o->a≠l.pl->a≠l.sd->H2 a=some o:=λ{a o} e n1 n2=>b2 _ _ (b1 _ _ e n1) n2;have o2:Out l.own H H2:=λa u e na=>k2 e (λz=>na (by rw[z];simp[BL.own])) (λz=>na (by rw[z];simp[BL.own]));have s2:H2 l.sd=some (.dK (fQ (b.ps++[(n,s)]))):=by rw[Zdt];exact e2
  have p2:H2 l.pl=some (.dK (iV (b.ps++[(n,s)]))):=by rw[Zdu];exact b2 _ _ e1 (λz=>xC z.symm)
  have h2:=k2 h1 df lX;have tp:∀{a:Addr} {us:List V} {H3:Hp},Out l.fp H H3->H a=some (.tup us)->H3 a=some (.tup us):=λo e=>o _ _ e (ba.tup e);have mk:∀(l':BL) (H3:Hp),l'={l with d9:=l'.d9}->Out l.fp H H3->dZ l.fp l'.fp H->(∀a u,H2 a=some u->a∈l.own->H3 a=some u)->rL H3 CJ xs.length l' {b with ps:=b.ps++[(n,s)]}->Q .aB H3:=λl' H3 el o g k rk=>by
   refine q l' H3 ⟨by rw[el],o,g⟩ ?_;refine ba.build (l':=l') (b':={b with ps:=b.ps++[(n,s)]}) (by rw[el]) (by rw[el]) (by rw[el]) (by rw[el]) (by rw[el]) (by rw[el]) (by rw[el]) (by rw[el]) (by rw[el]) o g ⟨dx,?_⟩ (k _ _ s2 (by simp[BL.own])) (k _ _ p2 (by simp[BL.own])) ?_ ?_ ?_ ?_ ?_ ?_ ?_ ?_ rk
   ·have:l'.rk=l.rk:=by rw[el]
    rw[this];exact k _ _ h2 (by simp[BL.own])
   ·have:l'.bZ=l.bZ:=by rw[el]
    rw[this];exact k _ _ (k2 ba.facts (λz=>qh z.symm) (λz=>sf z.symm)) (by simp[BL.own])
   ·have:l'.bZ=l.bZ:=by rw[el]
    rw[this];have aux:∀{as:List Addr} {fs:List (Nat×Fc)},Paired (λa (p:Nat×Fc)=>H a=some (.tup ((dC b.ps p.1 p.2).map kV))) as fs->(∀p∈fs,dB xs.length b.ps.length p.2)->Paired (λa (p:Nat×Fc)=>H3 a=some (.tup ((dC (b.ps++[(n,s)]) p.1 p.2).map kV))) as fs:=by
     intro as fs pr;induction pr with
     |nil=>intro _;exact .nil
     |cons f _ ih=>intro m;exact .cons (by rw[Zdr (m _ Yh)];exact tp o f) (ih λp hp=>m p (Yx _ hp))
    exact aux ba.fact rM
   ·show H3 l.kn=some (.dT (eS (b.ps++[(n,s)]) b.fs));rw[Zds rM];exact k _ _ (k2 ba.known (λz=>su z.symm) (λz=>sh z.symm)) (by simp[BL.own])
   ·show H3 l.pr=some (.dT (cz (b.ps++[(n,s)]) b.fs));rw[PJ rM];exact k _ _ (k2 ba.parents (λz=>sv z.symm) (λz=>sr z.symm)) (by simp[BL.own])
   ·have:l'.hX=l.hX:=by rw[el]
    rw[this];exact k _ _ (k2 ba.done (λz=>uN z.symm) (λz=>uL z.symm)) (by simp[BL.own])
   ·have:l'.hX=l.hX:=by rw[el]
    rw[this];exact L2.Paired.bu ba.kM λ_ _ e=>e.out o λa us e=>ba.tup e
   ·have:l'.jP=l.jP:=by rw[el]
    rw[this];exact k _ _ (k2 ba.ic (λz=>uO z.symm) (λz=>uM z.symm)) (by simp[BL.own])
   ·have:l'.jP=l.jP:=by rw[el]
    rw[this];exact L2.Paired.bu ba.mG λ_ _ e=>e.out o λa us e=>ba.tup e
  cases hj:ba.rq with
  |no j1 j2=>
   rw[j1] at h2;refine⟨_,rfl,l.h,C,dx,_,_,rfl,h2,hc.cls,hc.ia,rfl,rfl,_,rfl,cj (aZ ?_)⟩;exact mk l H2 rfl (qQ o2) (dZ.refl _ _) (λ_ _ e _=>e) (.no j1 j2)
  |at_ jl st j1 j2 ja me len fR=>
   have kQ:=h2;rw[j1] at kQ;have AD:=ja.jz o2 fR (ba.GL ja me) λa us e z=>ba.tup e (Yt _ z);obtain⟨dj,ej⟩:=AD.obj;have wf:=me.wf;have ml:=wf.Q_;have xy:=wf.zC;have n8:xs.length<=8:=ok.gd.2.2.2.2;refine⟨_,rfl,l.h,C,dx,_,_,rfl,kQ,hc.cls,hc.ia,rfl,rfl,_,rfl,c6 ?_⟩;refine⟨_,rfl,l.h,C,dx,_,_,rfl,kQ,hc.cls,hc.ia,rfl,jl.J,dj,_,rfl,ej,rfl,jl,st,xs.length,rfl,AD,by omega,by omega,by omega,by omega,wf.ll,λz=>Y7 _ (wf.lm _ z),λz=>Y7 _ (wf.lf _ z),λgv H3 k1 o3 gr Ky=>?_⟩;refine mk {l with d9:=gv.fp} H3 rfl (Sh j2 o2 o3) (Rn j2 o2 gr) (λa u e m=>o3 _ _ e (fR a m)) ?_;refine .at_ gv _ (by rw[k1];exact j1) rfl Ky (me.more (by have:=ok.gd.2.2.2.1;omega)) ?_ λa m z=>?_;·rw[iG,len,Yj];rfl
   ·rcases gr a z with y|y;·exact fR a m y
    ·have:=ba.there (a:=a) (Yt _ m);have:H2 a≠none:=by
      have m':a∈l.own:=m;unfold BL.own at m';simp only[Ym,Y0,or_false] at m';rcases m' with rfl|rfl|rfl|rfl|rfl|rfl|rfl|rfl;·rw[h2];exact λz=>nomatch z
      ·rw[s2];exact λz=>nomatch z
      ·rw[p2];exact λz=>nomatch z
      ·rw[k2 ba.facts (λz=>qh z.symm) (λz=>sf z.symm)];exact λz=>nomatch z
      ·rw[k2 ba.known (λz=>su z.symm) (λz=>sh z.symm)];exact λz=>nomatch z
      ·rw[k2 ba.parents (λz=>sv z.symm) (λz=>sr z.symm)];exact λz=>nomatch z
      ·rw[k2 ba.done (λz=>uN z.symm) (λz=>uL z.symm)];exact λz=>nomatch z
      ·rw[k2 ba.ic (λz=>uO z.symm) (λz=>uM z.symm)];exact λz=>nomatch z
     exact this y
 |fin z c hR fg nz nk np lv lim=>
  refine⟨_,rfl,r,_,rfl,aA.of hR,_,rfl,cj ?_⟩;refine⟨_,rfl,l.h,dx,_,rfl,h1,rfl,_,rfl,l,b,xs,ys,r,z,c,rfl,ba,hR,nz,nk,np,by omega,λH1 o1 f1 k1 p1=>?_⟩;have k2:∀{a:Addr} {o:HO},H a=some o->a≠l.fc->a≠l.kn->a≠l.pr->H1 a=some o:=λ{a o} e n1 n2 n3=>o1 _ _ e (by simp[n1,n2,n3]);have o2:Out l.own H H1:=λa u e na=>k2 e (λz=>na (by rw[z];simp[BL.own])) (λz=>na (by rw[z];simp[BL.own])) (λz=>na (by rw[z];simp[BL.own]));have h2:=k2 h1 iz lY oP;have UX:=nd;simp only[Yz,Ym,Y0,or_false,not_or] at UX;obtain⟨_,_,_,⟨xD,xE,uP,uo⟩,⟨AE,xF,xG⟩,⟨xH,xI⟩,_⟩:=UX;have s2:=k2 ba.c8 sf sh sr;have p2:=k2 ba.places qh su sv;have d2:=k2 ba.done (λz=>uP z.symm) (λz=>xF z.symm) (λz=>xH z.symm);have u2:=k2 ba.ic (λz=>uo z.symm) (λz=>xG z.symm) (λz=>xI z.symm);have tp:∀{a:Addr} {us:List V} {H3:Hp},Out l.fp H H3->H a=some (.tup us)->H3 a=some (.tup us):=λo e=>o _ _ e (ba.tup e);have mk:∀(jf:List Addr) (H3:Hp),Out l.fp H H3->dZ l.fp ({l with bZ:=l.bZ++[r],d9:=jf}:BL).fp H->(∀a u,H1 a=some u->a∈l.own->H3 a=some u)->rL H3 CJ xs.length {l with bZ:=l.bZ++[r],d9:=jf} {b with fs:=b.fs++[(z,c)]}->Q .aB H3:=λjf H3 o g k rk=>by
   refine q {l with bZ:=l.bZ++[r],d9:=jf} H3 ⟨rfl,o,g⟩ ?_;refine ba.build (l':={l with bZ:=l.bZ++[r],d9:=jf}) (b':={b with fs:=b.fs++[(z,c)]}) rfl rfl rfl rfl rfl rfl rfl rfl rfl o g ⟨dx,k _ _ h2 (by simp[BL.own])⟩ (k _ _ s2 (by simp[BL.own])) (k _ _ p2 (by simp[BL.own])) (k _ _ f1 (by simp[BL.own])) ?_ (k _ _ k1 (by simp[BL.own])) (k _ _ p1 (by simp[BL.own])) (k _ _ d2 (by simp[BL.own])) (L2.Paired.bu ba.kM λ_ _ e=>e.out o λa us e=>ba.tup e) (k _ _ u2 (by simp[BL.own])) (L2.Paired.bu ba.mG λ_ _ e=>e.out o λa us e=>ba.tup e) rk;exact iX (F:=λa (p:Nat×Fc)=>H3 a=some (.tup ((dC b.ps p.1 p.2).map kV))) (tp o hR) (L2.Paired.bu ba.fact λ_ _ e=>tp o e)
  cases hj:ba.rq with
  |no j1 j2=>
   rw[j1] at h2;refine⟨_,rfl,l.h,C,dx,_,_,rfl,h2,hc.cls,hc.ia,rfl,rfl,_,rfl,cj (aZ ?_)⟩;exact mk l.d9 H1 (qQ o2) (dZ.refl _ _) (λ_ _ e _=>e) (.no j1 j2)
  |at_ jl st j1 j2 ja me len fR=>
   have kQ:=h2;rw[j1] at kQ;have AD:=ja.jz o2 fR (ba.GL ja me) λa us e z=>ba.tup e (Yt _ z);have la2:ib H1 CL l.L xs ys:=ba.land H1 (qQ o2);refine⟨_,rfl,l.h,C,dx,_,_,rfl,kQ,hc.cls,hc.ia,rfl,rfl,_,rfl,c6 ?_⟩;refine⟨_,rfl,l.h,C,dx,_,_,rfl,kQ,hc.cls,hc.ia,rfl,_,rfl,l.h,C,dx,_,_,rfl,kQ,hc.cls,hc.tY,rfl,_,rfl,l.h,C,dx,_,_,rfl,kQ,hc.cls,hc.vG,rfl,_,rfl,jl,st,l.L,l.pl,r,xs,ys,b.ps,b.F,z,c,rfl,AD,me,la2,ok.gd,p2,ok.nm,len,by have:=ok.m;omega,tp (qQ o2) hR,fg,?_,λv gv aI H3 e1 sub o3 Ky me3 ZgC=>?_⟩
   ·obtain⟨f0,i0,s0⟩:=lv;exact⟨f0,(me.iff f0).mpr ⟨by rw[len];exact i0,λc' m'=>s0 c' (Yt _ m')⟩,s0 c (Yq _ Yh)⟩
   have gr:dZ jl.fp gv.fp H1:=λa z=>.inl (sub a z);refine mk gv.fp H3 (Sh j2 o2 o3) (Rn j2 o2 gr) (λa u e m=>o3 _ _ e (fR a m)) ?_;refine .at_ gv aI (by rw[e1];exact j1) rfl Ky ?_ (by rw[ZgC];exact len) λa m z=>fR a m (sub a z);show eB xs.length aI ((b.fs++[(z,c)]).map (·.2));rw[Yp];exact me3
end
section
variable {dy:Addr}
theorem Oz{l l':BL}{H:Hp}(e1:l'.own=l.own)(e2:l'.d9=[]):dZ l.fp l'.fp H:=λa z=>.inl (by
 unfold BL.fp at z;rw[e1,e2,We] at z;exact Yt _ z)
theorem u7:aU ["self","row","number","kind","one","other"] ["self","row"] (aM Bp):=⟨rfl,rfl,rfl,by decide+kernel,rfl,by decide+kernel,by decide+kernel⟩
theorem Zu(F:aN K "take_out" "Hearth.take_out" Bp f fd)(hc:fC K C)(iF:mg "PARENTS"=some (.ref dy))(qP:∀H,aA K H dy (ij.map V.str))(sS:HasFn P w K mg base 1 "is_person" ["row"] (Ep K))(nG:HasFn P w K mg base 1 "fact_key" ["kind","one","other"] zD):aK P w K mg base aP 2 f fd ["self","row"] (Nu C CL CJ):=by
 refine F.ok u7 (λvs H Q E h=>?_) (λaF A outer s H vs Q E hr h=>?_)
 ·obtain⟨l,b,b',xs,ys,r,rfl,_⟩:=h;rfl
 obtain⟨l,b,b',xs,ys,r,rfl,ba,ok,mv,q⟩:=h;refine⟨_,(au (aR (eK (aY sS hr (by omega) rfl (ae (pv 1) ag))) fI (au (lC (pv 1) (gT (K:=K) (n:=4) rfl rfl (bJ (bo (i:=2) u7.nd rfl (Or.inl rfl)) (bJ (bo (i:=3) u7.nd rfl (Or.inl rfl)) (bJ (bo (i:=4) u7.nd rfl (Or.inl rfl)) (bJ (bo (i:=5) u7.nd rfl (Or.inl rfl)) gP)))))) (au (Zb0 (aV (K:=K) rfl (pv 0) rfl) (pv 2)) (au (N3 (bH hr) (aV (K:=K) rfl (pv 0) rfl) (aY nG hr (by omega) rfl (ae (pv 3) (ae (pv 4) (ae (pv 5) ag))))) (aw (aR (bb (lT (K:=K) rfl) (pv 3) (dv (v:=.ref dy) rfl iF rfl) (by with_unfolding_all rfl)) (aw (N3 (bH hr) (aV (K:=K) rfl (pv 0) rfl) (cK (ae (pv 3) (ae (pv 4) ag))))) a_)))))) (aw (fV (K:=K) rfl (pv 0) lu))),?_⟩;obtain⟨dx,h1⟩:=ba.obj;have sz:(10000:Nat)<=sizeLine:=by rw[sizeLine_eq];omega
 have nd:=ba.nd;unfold BL.own at nd;simp only[Yz,Ym,Y0,or_false,not_or] at nd;obtain⟨⟨lX,df,iz,lY,oP,m8,oQ⟩,⟨xC,sf,sh,sr,uL,uM⟩,⟨qh,su,sv,uN,uO⟩,⟨xD,xE,uP,uo⟩,⟨AE,xF,xG⟩,⟨xH,xI⟩,_⟩:=nd;cases mv with
 |uk z c hR m=>
  have al:(b.fs.map (·.1)).length=l.bZ.length:=by rw[Ya];exact(cR ba.fact).symm
  obtain⟨fa,AF,_⟩:=Gb (H:=H) (ps:=b.ps) ba.fact ok.zs m;have ZfN:(eS b.ps b.fs).map (·.1)=b.keys:=by unfold eS BS.keys;rw[Wa];rfl
  refine⟨_,rfl,r,_,rfl,aA.of hR,_,rfl,cj ?_⟩;refine⟨_,rfl,r,_,rfl,aA.of hR,rfl,_,_,rfl,bp ⟨_,_,rfl,bp ⟨_,_,rfl,bp ⟨_,_,rfl,bp ⟨rfl,?_⟩⟩⟩⟩⟩;refine⟨_,rfl,l.h,C,dx,_,_,rfl,h1,hc.cls,hc.pH,rfl,_,rfl,l.fc,_,.inl (z:Int),rfl,ba.facts,rfl,by rw[AF];rfl,λH1 b1 e1=>?_⟩;rw[yk z al,←nM] at e1;refine⟨_,rfl,l.h,C,dx,_,_,rfl,b1 _ _ h1 iz,hc.cls,hc.yZ,rfl,_,rfl,_,rfl,_,rfl,c.k,av b.ps c.one,a9 b.ps c,rfl,λe=>PN e,λp H2 oO g2 dG=>?_⟩;refine⟨l.kn,p,_,eZ b.ps c,rfl,g2 _ _ (b1 _ _ ba.known (λz=>xD z.symm)),rfl,dG,(vH _ _).mpr (by rw[ZfN];exact Ye.mpr ⟨_,m,rfl⟩),λH3 b3 e3=>?_⟩;rw[Zcm ok.zs ok.ky m] at e3;have k3:∀{a:Addr} {o:HO},H a=some o->a≠l.fc->a≠l.kn->H3 a=some o:=λ{a o} e n1 n2=>b3 _ _ (g2 _ _ (b1 _ _ e n1)) n2;have ef3:=b3 _ _ (g2 _ _ e1) xD;have xB:=k3 ba.parents (λz=>xE z.symm) (λz=>AE z.symm);have last:∀H5,(∀{a:Addr} {o:HO},H3 a=some o->a≠l.pr->H5 a=some o)->H5 l.pr=some (.dT (cz b.ps (cU z b.fs)))->∀H6,az l.h H5 H6->H6 l.h=some (.ins C dx (HF l.L l.sd l.pl l.fc l.kn l.pr (b.co:Int) l.dn l.un .aB))->Q .aB H6:=λH5 k5 e5 H6 b6 e6=>by
   have k6:∀{a:Addr} {o:HO},H a=some o->a≠l.fc->a≠l.kn->a≠l.pr->a≠l.h->H6 a=some o:=λ{a o} e n1 n2 n3 n4=>b6 _ _ (k5 (k3 e n1 n2) n3) n4;have o6:Out l.own H H6:=λa u e na=>k6 e (λz=>na (by rw[z];simp[BL.own])) (λz=>na (by rw[z];simp[BL.own])) (λz=>na (by rw[z];simp[BL.own])) (λz=>na (by rw[z];simp[BL.own]));have of:=qQ o6;have tp:∀{a:Addr} {us:List V},H a=some (.tup us)->H6 a=some (.tup us):=λe=>of _ _ e (ba.tup e);refine q {l with rk:=.aB,d9:=[],bZ:=dN (b.fs.map (·.1)) l.bZ z} H6 ⟨rfl,of,Oz rfl rfl⟩ ?_;exact ba.build (l':={l with rk:=.aB,d9:=[],bZ:=dN (b.fs.map (·.1)) l.bZ z}) (b':={b with fs:=cU z b.fs}) rfl rfl rfl rfl rfl rfl rfl rfl rfl of (Oz rfl rfl) ⟨dx,e6⟩ (k6 ba.c8 sf sh sr (λz=>lX z.symm)) (k6 ba.places qh su sv (λz=>df z.symm)) (b6 _ _ (k5 ef3 xE) (λz=>iz z.symm)) (En ba.fact λa p e _ _=>tp e) (b6 _ _ (k5 e3 AE) (λz=>lY z.symm)) (b6 _ _ e5 (λz=>oP z.symm)) (k6 ba.done (λz=>uP z.symm) (λz=>xF z.symm) (λz=>xH z.symm) (λz=>m8 z.symm)) (L2.Paired.bu ba.kM λ_ _ e=>e.out of λa us e=>ba.tup e) (k6 ba.ic (λz=>uo z.symm) (λz=>xG z.symm) (λz=>xI z.symm) (λz=>oQ z.symm)) (L2.Paired.bu ba.mG λ_ _ e=>e.out of λa us e=>ba.tup e) (.no rfl rfl)
  refine⟨_,rfl,dy,_,rfl,.inr (qP _),rfl,rfl,_,rfl,?_⟩;dsimp only;rw[if_neg Yi,show eX (kV (Sum.inr c.k)) (ij.map V.str)=cI c.k from y9 c.k];refine bI (λcc=>?_) (λcc=>aZ ?_)
  ·refine⟨_,rfl,l.h,C,dx,_,_,rfl,k3 h1 iz lY,hc.cls,hc.tH,rfl,_,rfl,_,rfl,by show 2<=sizeLine;decide,λp4 H4 np4 g4 Kx=>?_⟩;refine⟨l.pr,p4,_,[.inr c.k,.inr (av b.ps c.one)],rfl,g4 _ _ xB,rfl,Kx,(vH _ _).mpr ?_,λH5 b5 e5=>?_⟩
   ·unfold cz;rw[Wa];exact Ye.mpr ⟨(z,c),Y5.mpr ⟨m,cc⟩,rfl⟩
   rw[Zcn ok.zs ok.pr m cc] at e5;have k5:∀{a:Addr} {o:HO},H3 a=some o->a≠l.pr->H5 a=some o:=λ{a o} e n=>b5 _ _ (g4 _ _ e) n;refine⟨_,rfl,l.h,C,dx,_,rfl,k5 (k3 h1 iz lY) oP,hc.cls,hc.ia,by show 10<1000;decide,λH6 b6 e6=>?_⟩;exact last H5 k5 e5 H6 b6 e6
  ·have ef:cI c.k=false:=by
    cases e:cI c.k with
    |true=>exact absurd e cc
    |false=>rfl
   refine⟨_,rfl,l.h,C,dx,_,rfl,k3 h1 iz lY,hc.cls,hc.ia,by show 10<1000;decide,λH6 b6 e6=>?_⟩;exact last H3 (λe _=>e) (by rw[←Zbg ok.zs m ef];exact xB) H6 b6 e6
theorem Xc:aU ["self","way","row","coming"] ["self","way","row","coming"] (aM Ce):=⟨rfl,rfl,rfl,by decide+kernel,rfl,by decide+kernel,by decide+kernel⟩
theorem Zco(F:aN K "shift" "Hearth.shift" Ce f fd)(hc:fC K C)(nN:mg "PUT_IN"=some (.int 1 t1))(BU:cD P w K mg base 8 "put_in" C ["self","row"] (PL C CL CJ))(Bq:cD P w K mg base 2 "take_out" C ["self","row"] (Nu C CL CJ)):aK P w K mg base aP 9 f fd ["self","way","row","coming"] (PM C CL CJ):=by
 refine F.ok Xc (λvs H Q E h=>?_) (λaF A outer s H vs Q E hr h=>?_)
 ·obtain⟨l,b,b',xs,ys,r,w',c2,rfl,_⟩:=h;rfl
 obtain⟨l,b,b',xs,ys,r,w',c2,rfl,ba,ok,mv,q⟩:=h;refine⟨_,(au (aR (bb cg (pv 1) (dv (v:=.int (1)) rfl nN ⟨_,rfl⟩) (aQ _)) (aw (cA (cO BU hr (by omega) (pv 0) (ae (pv 2) ag)))) (aw (cA (cO Bq hr (by omega) (pv 0) (ae (pv 2) ag))))) (aw (fV (K:=K) rfl (pv 0) (pv 3)))),?_⟩;obtain⟨dx,h1⟩:=ba.obj;have last:∀(l':BL) (H1:Hp),cy H H1 l l'->bG H1 C CL CJ l' xs ys b'->∀(iU:Addr) (H2:Hp),H1 l'.h=some (.ins C iU (HF l'.L l'.sd l'.pl l'.fc l'.kn l'.pr (b'.co:Int) l'.dn l'.un l'.rk))->az l'.h H1 H2->H2 l'.h=some (.ins C iU (HF l'.L l'.sd l'.pl l'.fc l'.kn l'.pr (c2:Int) l'.dn l'.un l'.rk))->Q .aB H2:=λl' H1 wt cQ iU H2 e1 b2 e2=>by
  have nd:=cQ.nd;unfold BL.own at nd;simp only[Yz,Ym,Y0,or_false,not_or] at nd;obtain⟨⟨lX,df,iz,lY,oP,m8,oQ⟩,_⟩:=nd;have o2:Out l'.own H1 H2:=λa u e na=>b2 _ _ e (λz=>na (by rw[z];simp[BL.own]));have of:=qQ o2;have qi:=(cQ.owned (l':=l') (b':={b' with co:=c2}) rfl rfl rfl rfl rfl rfl rfl rfl rfl (.inl ⟨rfl,rfl,rfl,rfl⟩) o2 ⟨iU,e2⟩ (b2 _ _ cQ.c8 (λz=>lX z.symm)) (b2 _ _ cQ.places (λz=>df z.symm)) (b2 _ _ cQ.facts (λz=>iz z.symm)) (L2.Paired.bu cQ.fact λ_ _ e=>(λe=>of _ _ e (cQ.tup e)) e) (b2 _ _ cQ.known (λz=>lY z.symm)) (b2 _ _ cQ.parents (λz=>oP z.symm)) (b2 _ _ cQ.done (λz=>m8 z.symm)) (L2.Paired.bu cQ.kM λ_ _ e=>e.out of λa us e=>cQ.tup e) (b2 _ _ cQ.ic (λz=>oQ z.symm)) (L2.Paired.bu cQ.mG λ_ _ e=>e.out of λa us e=>cQ.tup e)).1;exact q l' H2 (wt.trans ⟨rfl,of,dZ.refl _ _⟩) qi
 have go:∀(l':BL) (H1:Hp),cy H H1 l l'->bG H1 C CL CJ l' xs ys b'->∃iU,H1 l.h=some (.ins C iU (HF l'.L l'.sd l'.pl l'.fc l'.kn l'.pr (b'.co:Int) l'.dn l'.un l'.rk))/\∀H2,az l.h H1 H2->H2 l.h=some (.ins C iU (HF l'.L l'.sd l'.pl l'.fc l'.kn l'.pr (c2:Int) l'.dn l'.un l'.rk))->Q .aB H2:=λl' H1 wt cQ=>by
  obtain⟨iU,e1⟩:=cQ.obj;have eh:=wt.h
  grind
 have w12:w'=1\/w'=-1:=by cases mv<;>first|exact .inl rfl|exact .inr rfl
 rcases w12 with rfl|rfl
 ·refine⟨_,rfl,rfl,_,rfl,c6 ?_⟩;refine⟨_,rfl,l.h,dx,_,rfl,h1,rfl,_,rfl,l,b,b',xs,ys,r,rfl,ba,ok,mv,λl' H1 wt cQ=>?_⟩;obtain⟨iU,e1,k⟩:=go l' H1 wt cQ;exact⟨_,rfl,_,rfl,l.h,C,iU,_,rfl,e1,hc.cls,hc.pE,by show 10<1000;decide,λH2 b2 e2=>k H2 b2 e2⟩
 ·refine⟨_,rfl,rfl,_,rfl,cj ?_⟩;refine⟨_,rfl,l.h,dx,_,rfl,h1,rfl,_,rfl,l,b,b',xs,ys,r,rfl,ba,ok,mv,λl' H1 wt cQ=>?_⟩;obtain⟨iU,e1,k⟩:=go l' H1 wt cQ;exact⟨_,rfl,_,rfl,l.h,C,iU,_,rfl,e1,hc.cls,hc.pE,by show 10<1000;decide,λH2 b2 e2=>k H2 b2 e2⟩
theorem WN:aU ["self","way","row","coming"] ["self","way","row","coming"] (aM Bx):=⟨rfl,rfl,rfl,by decide+kernel,rfl,by decide+kernel,by decide+kernel⟩
theorem Zam(F:aN K "do_deed" "Hearth.do_deed" Bx f fd)(hc:fC K C)(Cg:cD P w K mg base 9 "shift" C ["self","way","row","coming"] (PM C CL CJ)):aK P w K mg base aP 10 f fd ["self","way","row","coming"] (yI C CL CJ):=by
 refine F.ok WN (λvs H Q E h=>?_) (λaF A outer s H vs Q E hr h=>?_)
 ·obtain⟨l,b,b',xs,ys,r,w',c2,row,rfl,_⟩:=h;rfl
 obtain⟨l,b,b',xs,ys,r,w',c2,row,rfl,ba,ok,dl,hR,mv,q⟩:=h;refine⟨_,(au (cA (mD (K:=K) rfl (jw plainAttrs_list PySem.F.slot_list_append PySem.F.type_list_append nF (aV (K:=K) rfl (pv 0) rfl) (ae (cK (ae (pv 1) (ae (pv 2) (ae (aV (K:=K) rfl (pv 0) rfl) (ae (pv 3) ag))))) ag)))) (au (cA (Pg (K:=K) rfl (QE plainAttrs_list PySem.F.slot_list_clear PySem.F.type_list_clear ZaY (aV (K:=K) rfl (pv 0) rfl)))) (aw (cA (cO Cg hr (by omega) (pv 0) (ae (pv 1) (ae (pv 2) (ae (pv 3) ag)))))))),?_⟩;obtain⟨dx,h1⟩:=ba.obj;have sz:(10000:Nat)<=sizeLine:=by rw[sizeLine_eq];omega
 have nd:=ba.nd;unfold BL.own at nd;simp only[Yz,Ym,Y0,or_false,not_or] at nd;obtain⟨⟨lX,df,iz,lY,oP,m8,oQ⟩,⟨xC,sf,sh,sr,uL,uM⟩,⟨qh,su,sv,uN,uO⟩,⟨xD,xE,uP,uo⟩,⟨AE,xF,xG⟩,⟨xH,xI⟩,UY,_⟩:=nd;have dal:=cR ba.kM;refine⟨_,rfl,l.h,C,dx,_,_,rfl,h1,hc.cls,hc.Rh,rfl,.inl ⟨rfl,_,ak.of ba.done⟩,?_⟩;refine⟨_,rfl,_,rfl,_,rfl,l.h,C,dx,_,_,rfl,h1,hc.cls,hc.pE,rfl,_,rfl,by show 4<=sizeLine;omega,λp H1 np g1 e1=>?_⟩;refine⟨l.dn,_,_,rfl,rfl,g1 _ _ ba.done,by rw[Ya];omega,λH2 b2 e2=>?_⟩;have a1:=b2 _ _ (g1 _ _ h1) m8;have a7:=b2 _ _ (g1 _ _ ba.ic) (λz=>UY z.symm);refine⟨_,rfl,l.h,C,dx,_,_,rfl,a1,hc.cls,hc.Om,rfl,.inl ⟨rfl,_,ak.of a7⟩,l.un,_,rfl,rfl,a7,λH3 b3 e3=>?_⟩;have k3:∀{a:Addr} {o:HO},H a=some o->a≠l.dn->a≠l.un->H3 a=some o:=λ{a o} e n1 n2=>b3 _ _ (b2 _ _ (g1 _ _ e) n1) n2;have o3:Out l.own H H3:=λa u e na=>k3 e (λz=>na (by rw[z];simp[BL.own])) (λz=>na (by rw[z];simp[BL.own]));have of:=qQ o3;have tp:∀{a:Addr} {us:List V},H a=some (.tup us)->H3 a=some (.tup us):=λe=>of _ _ e (ba.tup e);have pu:p≠l.un:=λz=>by rw[z,ba.ic] at np;cases np
 have ed:H3 l.dn=some (.lst ((l.hX++[p]).map V.ref)):=by rw[Yp];exact b3 _ _ e2 UY
 have hZ:=(ba.owned (l':={l with hX:=l.hX++[p],jP:=[]}) (b':={b with dn:=b.dn++[⟨w',row,b.co,c2⟩],un:=[]}) rfl rfl rfl rfl rfl rfl rfl rfl rfl (.inl ⟨rfl,rfl,rfl,rfl⟩) o3 ⟨dx,k3 h1 m8 oQ⟩ (k3 ba.c8 uL uM) (k3 ba.places uN uO) (k3 ba.facts uP uo) (L2.Paired.bu ba.fact λ_ _ e=>tp e) (k3 ba.known xF xG) (k3 ba.parents xH xI) ed (iX (F:=mF H3) ⟨r,b3 _ _ (b2 _ _ e1 (λz=>by rw[z,ba.done] at np;cases np)) pu,tp hR⟩ (L2.Paired.bu ba.kM λ_ _ e=>e.out of λa us e=>ba.tup e)) e3 .nil);have h3:=k3 h1 m8 oQ;refine⟨_,rfl,l.h,dx,_,rfl,h3,rfl,_,rfl,_,rfl,_,rfl,{l with hX:=l.hX++[p],jP:=[]},_,_,xs,ys,r,w',c2,rfl,hZ.1,⟨ok.gd,ok.nm,ok.m,ok.fl,ok.fg,ok.zs,ok.lt,ok.ky,ok.pr,ok.lv,by show(b.dn++[_]).length<=200;rw[Yj];show b.dn.length+1<=200;omega,Yv _⟩,((mv.ZfL _ _).out λus e=>tp e),λl' H4 wt ba4=>?_⟩;exact q l' H4 (cy.trans (l1:={l with hX:=l.hX++[p],jP:=[]}) ⟨rfl,of,hZ.2⟩ wt) ba4
end
theorem cJ.ZgD(j:cJ H C n l st)(h:a∈l.bZ):∃us,H a=some (.lst us):=by
 obtain⟨p,e⟩:=vA j.free h
 grind
theorem cJ.lZ(j:cJ H C n l st)(e:H a=some o)(nl:∀us,o≠.lst us)(nt:∀us,o≠.tup us)(na:a∉l.fp)(br:az a H H'):cJ H' C n l st:=by
 refine j.jz (fp:=[a]) (λb u eb nb=>br _ _ eb λz=>nb (by rw[z];exact Yh)) (λb hb=>?_) (λb hb z=>?_) λb us eb z=>?_;·grind
 ·rw[Yn.mp hb] at z;obtain⟨us,q⟩:=j.ZgD z
  grind
 ·grind
inductive og(H:Hp)(C CJ dx d:Addr)(l:BL)(b:BS)(n:Nat)(J:Addr)(F:List Fc)(m:Nat)(H6:Hp):Prop
 |mk (jl:JL) (st:JS) (eJ:jl.J=J) (keep:∀a u,H a=some u->a≠l.h->a≠d->H6 a=some u) (obj:H6 l.h=some (.ins C dx (HF l.L l.sd l.pl l.fc l.kn l.pr (b.co:Int) l.dn l.un (.ref J)))) (ja:cJ H6 CJ n jl st) (me:eB n st F) (len:st.hd.length=m) (new:∀a∈jl.fp,H a=none):og H C CJ dx d l b n J F m H6
theorem og.lZ(j:og H C CJ dx d l b n J F m H6)(hd:H d'≠none)(e:H6 d'=some o)(nl:∀us,o≠.lst us)(nt:∀us,o≠.tup us)(nh:d'≠l.h)(br:az d' H6 H7)(kd:∀u,H d=some u->d≠d'->d≠l.h->H7 d=some u):og H C CJ dx d' l b n J F m H7:=by
 obtain⟨jl,st,eJ,keep,obj,ja,me,len,new⟩:=j;refine⟨jl,st,eJ,λa u ea n1 n2=>?_,br _ _ obj (λz=>nh z.symm),ja.lZ e nl nt (λz=>hd (new _ z)) br,me,len,new⟩;by_cases z:a=d;·grind
 ·exact br _ _ (keep a u ea n1 z) n2
theorem Nx:∀{ks:List Nat} {as:List Addr} {i:Nat} {k:Key} {y:V},(bB ks as)[i]?=some (k,y)->∃a,as[i]?=some a/\y=.ref a
 |[],as,i,k,y,h=>by
  unfold bB at h;simp at h
 |_::_,[],i,k,y,h=>by
  unfold bB at h;simp at h
 |q::ks,a::as,0,k,y,h=>by
  injection(Yo h) with _ e2
  grind
 |q::ks,a::as,i+1,k,y,h=>by
  have e0:bB (q::ks) (a::as)=(Sum.inl (q:Int),V.ref a)::bB ks as:=rfl;rw[e0] at h;have h':(bB ks as)[i]?=some (k,y):=by simpa using h
  obtain⟨b,e1,e2⟩:=Nx h'
  grind
inductive OA(C CL CJ:Addr)(vs:List V)(H:Hp)(Q:VK):Prop
 |mk (l:BL) (b:BS) (xs ys:List Int) (aE:vs=[.ref l.h]) (ba:bG H C CL CJ l xs ys b) (ok:cG xs ys b) (q:∀(l':BL) (jl:JL) (st:JS) (H':Hp),cy H H' l l'->bG H' C CL CJ l' xs ys b->l'.rk=.ref jl.J->l'.d9=jl.fp->cJ H' CJ xs.length jl st->eB xs.length st b.F->st.hd.length=b.ps.length->(∀a∈l'.own,a∉jl.fp)->Q (.ref jl.J) H'):OA C CL CJ vs H Q
def PQ(C CL CJ:Addr):Sp:=λvs H Q _=>OA C CL CJ vs H Q
section
theorem BV:aU ["self","name","fact"] ["self"] (aM Cd):=⟨rfl,rfl,rfl,by decide+kernel,rfl,by decide+kernel,by decide+kernel⟩
theorem Zcp(F:aN K "joins" "Hearth.joins" Cd f fd)(hc:fC K C)(lc:ua K CL)(Gd:wb P w K mg base 1 "Joins" CJ ["self","size"] (Pn CJ))(sT:cD P w K mg base 2 "add" CJ ["self"] (G6 CJ))(sU:HasFn P w K mg base 6 "keep_fact" ["joins","land","places","fact"] (F_ CL CJ)):aK P w K mg base aP 8 f fd ["self"] (PQ C CL CJ):=by
 refine F.ok BV (λvs H Q E h=>?_) (λaF A outer s H vs Q E hr h=>?_)
 ·obtain⟨l,b,xs,ys,rfl,_⟩:=h;rfl
 obtain⟨l,b,xs,ys,rfl,ba,ok,q⟩:=h;refine⟨_,(au (aR (bb Gv (aV (K:=K) rfl (pv 0) rfl) lu (aQ _)) (au (fV (K:=K) rfl (pv 0) (GZ Gd hr (by omega) rfl (ae (aV (K:=K) rfl (aV (K:=K) rfl (pv 0) rfl) rfl) ag))) (au (Z3 (H0:=H) rfl PassesOwn.never rfl (Zc3 (H0:=H) rfl (aV (K:=K) rfl (pv 0) rfl)) (bo (i:=1) BV.nd rfl (Or.inl rfl)) (aw (cA (tX sT hr (by omega) (aV (K:=K) rfl (pv 0) rfl))))) (aw (Z4 (H0:=H) rfl PassesOwn.never rfl (Zc6 (H0:=H) rfl (aV (K:=K) rfl (pv 0) rfl)) (bo (i:=2) BV.nd rfl (Or.inl rfl)) (aw (cA (aY sU hr (by omega) rfl (ae (aV (K:=K) rfl (pv 0) rfl) (ae (aV (K:=K) rfl (pv 0) rfl) (ae (aV (K:=K) rfl (pv 0) rfl) (ae (pv 2) ag))))))))))) a_) (aw (aH (aV (K:=K) rfl (pv 0) rfl)))),?_⟩;obtain⟨dx,h1⟩:=ba.obj;have n8:xs.length<=8:=ok.gd.2.2.2.2;have n0:0<xs.length:=by have:=ok.gd.2.2.2.1;omega
 have nd:=ba.nd;unfold BL.own at nd;simp only[Yz,Ym,Y0,or_false,not_or] at nd;obtain⟨⟨lX,df,iz,lY,oP,m8,oQ⟩,⟨xC,sf,sh,sr,uL,uM⟩,⟨qh,su,sv,uN,uO⟩,⟨xD,xE,uP,uo⟩,_⟩:=nd;cases hj:ba.rq with
 |at_ jl st j1 j2 ja me len fR=>
  have kP:=h1;rw[j1] at kP;refine⟨_,rfl,l.h,C,dx,_,_,rfl,kP,hc.cls,hc.ia,rfl,rfl,_,rfl,cj (aZ ?_)⟩;exact⟨_,rfl,l.h,C,dx,_,_,rfl,kP,hc.cls,hc.ia,rfl,q l jl st H (cy.of (aj.refl _)) ba j1 j2 ja me len fR⟩
 |no j1 j2=>
  have kP:=h1;rw[j1] at kP;refine nW (λσ H6=>∃(J:Addr) (o1 o2:Option V),σ=[some (.ref l.h),o1,o2]/\og H C CJ dx l.h l b xs.length J b.F b.ps.length H6) (λnx hn=>?_) ?_
  ·refine⟨_,rfl,l.h,C,dx,_,_,rfl,kP,hc.cls,hc.ia,rfl,rfl,_,rfl,c6 ?_⟩;obtain⟨dL,dS,mo,jQ,wi,im,jf,iw,JM,hL,_⟩:=ba.landAt;refine⟨_,rfl,l.h,C,dx,_,_,rfl,kP,hc.cls,hc.tY,rfl,l.L,CL,dL,_,_,rfl,hL,lc.cls,lc.qW,rfl,λx AG oR xp nd2=>?_⟩;have xq:upd H AG (.own x) x=none:=by rw[bg (λz=>nd2 z.symm)];exact oR
   have UZ:aj H (upd (upd H AG (.own x)) x (.ins CJ AG [])):=(cq xp _).trans (cq xq _);refine⟨x,AG,xs.length,rfl,aW,λKz H2 eJ1 em1 fr1 b2 ja1=>⟨rfl,?_⟩⟩;have f1:∀a∈Kz.fp,H a=none:=λa ha=>by
    by_cases z:a=x;·rw[z];exact oR
    ·exact UZ.free (fr1 a ha z)
   have g2:aj H H2:=λa o e=>b2 _ _ (UZ _ _ e) (ck e oR);refine⟨_,rfl,l.h,C,dx,_,rfl,g2 _ _ kP,hc.cls,hc.ia,by show 10<1000;decide,λH3 b3 e3=>?_⟩;have U0:H3 l.h=some (.ins C dx (HF l.L l.sd l.pl l.fc l.kn l.pr (b.co:Int) l.dn l.un (.ref x))):=e3;have AB:l.h∉Kz.fp:=λz=>by have:=f1 _ z;rw[h1] at this;cases this
   have jm3:og H C CJ dx l.h l b xs.length x [] 0 H3:=⟨Kz,_,eJ1,λa u e n1 _=>b3 _ _ (g2 _ _ e) n1,U0,ja1.lZ (g2 _ _ kP) (λus z=>nomatch z) (λus z=>nomatch z) AB b3,ZfK,rfl,f1⟩;have s3:H3 l.sd=some (.dK (fQ b.ps)):=b3 _ _ (g2 _ _ ba.c8) (λz=>lX z.symm);dsimp only;refine iI (λσ H6=>∃o1 o2:Option V,σ=[some (.ref l.h),o1,o2]/\og H C CJ dx l.h l b xs.length x [] b.ps.length H6) (λKA qj=>?_) ?_
   ·refine ZbY (d:=l.sd) (kvs:=fQ b.ps) (H1:=H3) (λR r=>⟨_,rfl,l.h,C,dx,_,_,rfl,U0,hc.cls,hc.qO,rfl,r⟩) s3 (λi σ H6=>∃o1 o2:Option V,σ=[some (.ref l.h),o1,o2]/\og H C CJ dx l.sd l b xs.length x [] i H6) (λod=>⟨none,none,rfl,jm3.lZ (by rw[ba.c8];exact λz=>nomatch z) s3 (λus z=>nomatch z) (λus z=>nomatch z) (λz=>lX z.symm) (az.put (az.of (aj.refl _))) (λu _ _ z=>absurd rfl z)⟩) ?_ ?_
    ·rintro od i k y aO H6 N rt bk hk ⟨o1,o2,rfl,jm⟩ fz hN;obtain⟨jl,st,eJ,keep,obj,ja,me,len,new⟩:=jm;have il:i<b.ps.length:=by
      have:=(Yl.mp hk).1
      rwa [Ya] at this
     have im:=ok.m;obtain⟨dj,ej⟩:=ja.obj;have wf:=me.wf;have ml:=wf.Q_;have xy:=wf.zC;refine bp ?_;refine⟨_,rfl,l.h,C,dx,_,_,rfl,obj,hc.cls,hc.ia,rfl,jl.J,dj,_,by rw[eJ],ej,rfl,jl,st,xs.length,by rw[eJ];rfl,ja,by omega,by omega,by omega,by omega,wf.ll,λz=>Y7 _ (wf.lm _ z),λz=>Y7 _ (wf.lf _ z),λgv H7 k1 o7 gr ja7=>?_⟩;have ji:∀{a:Addr} {u:HO},H a=some u->a∉jl.fp:=λ{a u} e z=>by rw[new _ z] at e;cases e
     refine hN _ _ ⟨_,_,rfl,gv,_,k1.trans eJ,λa u e n1 n2=>o7 _ _ (keep a u e n1 n2) (ji e),o7 _ _ obj (ji h1),ja7,me.more n0,by rw[iG,len],λa z=>?_⟩ (o7 _ _ fz (ji ba.c8));rcases gr a z with y|y;·exact new a y
     ·cases e:H a with
      |none=>rfl
      |some u=>
       by_cases z1:a=l.h;·rw[z1,obj] at y;cases y
       ·by_cases z2:a=l.sd;·rw[z2,fz] at y;cases y
        ·rw[keep a u e z1 z2] at y;cases y
    ·rintro od aO H6 ⟨o1,o2,rfl,jm⟩ fz;rw[Ya] at jm;refine qj _ _ ⟨o1,o2,rfl,?_⟩;obtain⟨jl,st,eJ,keep,obj,ja,me,len,new⟩:=jm;have ji:l.sd∉jl.fp:=λz=>by have:=new _ z;rw[ba.c8] at this;cases this
     refine⟨jl,st,eJ,λa u e n1 _=>?_,by rw[bg lX];exact obj,ja.lZ fz (λus z=>nomatch z) (λus z=>nomatch z) ji (az.put (az.of (aj.refl _))),me,len,new⟩;by_cases z:a=l.sd
     ·subst z;rw[aW];rw[ba.c8] at e;exact e
     ·rw[bg z];exact keep a u e n1 z
   ·rintro σ H6 ⟨o1,o2,rfl,jm⟩;obtain⟨jl0,ZhH,eJ0,ZfO,ZgE,ja0,me0,len0,ZhI⟩:=id jm;have f6:H6 l.fc=some (.dK (bB (b.fs.map (·.1)) l.bZ)):=ZfO _ _ ba.facts (λz=>iz z.symm) (λz=>iz z.symm);have al:=cR ba.fact;refine ZbZ (d:=l.fc) (kvs:=bB (b.fs.map (·.1)) l.bZ) (H1:=H6) (λR r=>⟨_,rfl,l.h,C,dx,_,_,rfl,ZgE,hc.cls,hc.pH,rfl,r⟩) f6 (λi σ H6=>∃o1 o2:Option V,σ=[some (.ref l.h),o1,o2]/\og H C CJ dx l.fc l b xs.length x (b.F.take i) b.ps.length H6) (λod=>⟨o1,o2,rfl,jm.lZ (by rw[ba.facts];exact λz=>nomatch z) f6 (λus z=>nomatch z) (λus z=>nomatch z) (λz=>iz z.symm) (az.put (az.of (aj.refl _))) (λu _ _ z=>absurd rfl z)⟩) ?_ ?_
    ·rintro od i k y aO H7 N rt bk hk ⟨o1,o2,rfl,jm⟩ fz hN;obtain⟨fa,efa,rfl⟩:=Nx hk;obtain⟨⟨z,c⟩,U1,cY⟩:=fk ba.fact efa;have mzc:=Yg U1;obtain⟨jl,st,eJ,keep,obj,ja,me,len,new⟩:=jm;have ji:∀{a:Addr} {u:HO},H a=some u->a∉jl.fp:=λ{a u} e z=>by rw[new _ z] at e;cases e
     have of:Out l.fp H H7:=λa u e n=>keep a u e (λz=>n (by rw[z];simp[BL.fp,BL.own])) (λz=>n (by rw[z];simp[BL.fp,BL.own]));have fg:=ok.fg _ mzc;have im:=ok.m;have ec:b.F[i]?=some c:=by unfold BS.F;rw[Yf,U1];rfl
     have tk:b.F.take (i+1)=b.F.take i++[c]:=by rw[Y2,ec];rfl
     refine bp ?_;refine⟨_,rfl,l.h,C,dx,_,_,rfl,obj,hc.cls,hc.ia,rfl,_,rfl,l.h,C,dx,_,_,rfl,obj,hc.cls,hc.tY,rfl,_,rfl,l.h,C,dx,_,_,rfl,obj,hc.cls,hc.vG,rfl,_,rfl,jl,st,l.L,l.pl,fa,xs,ys,b.ps,b.F.take i,z,c,by rw[eJ];rfl,ja,me,ba.land H7 of,ok.gd,keep _ _ ba.places (λz=>df z.symm) qh,ok.nm,len,by omega,of _ _ cY (ba.tup cY),fg,?_,λv gv aI H8 e1 sub o8 ja8 me8 ZgF=>?_⟩
     ·obtain⟨f0,i0,s0⟩:=ok.lv;exact⟨f0,(me.iff f0).mpr ⟨by rw[len];exact i0,λc' m'=>s0 c' (List.mem_of_mem_take m')⟩,s0 c (Yg ec)⟩
     ·refine hN _ _ ⟨_,_,rfl,gv,aI,e1.trans eJ,λa u e n1 n2=>o8 _ _ (keep a u e n1 n2) (ji e),o8 _ _ obj (ji h1),ja8,by rw[tk];exact me8,ZgF.trans len,λa z=>new a (sub a z)⟩ (o8 _ _ fz (ji ba.facts))
    ·rintro od aO H7 ⟨o1,o2,rfl,jm⟩ fz;have dl:(bB (b.fs.map (·.1)) l.bZ).length=b.F.length:=by
      unfold bB BS.F;rw[Ya,Jd,Ya,Ya];omega
     rw[dl,Wd] at jm;refine hn _ _ ⟨x,o1,o2,rfl,?_⟩;obtain⟨jl,st,eJ,keep,obj,ja,me,len,new⟩:=jm;have ji:l.fc∉jl.fp:=λz=>by have:=new _ z;rw[ba.facts] at this;cases this
     refine⟨jl,st,eJ,λa u e n1 _=>?_,by rw[bg iz];exact obj,ja.lZ fz (λus z=>nomatch z) (λus z=>nomatch z) ji (az.put (az.of (aj.refl _))),me,len,new⟩;by_cases z:a=l.fc
     ·subst z;rw[aW];rw[ba.facts] at e;exact e
     ·rw[bg z];exact keep a u e n1 z
  ·rintro σ H6 ⟨J,o1,o2,rfl,jm⟩;obtain⟨jl,st,eJ,keep,obj,ja,me,len,new⟩:=jm;refine⟨_,rfl,l.h,C,dx,_,_,rfl,obj,hc.cls,hc.ia,rfl,?_⟩;have k6:∀{a:Addr} {u:HO},H a=some u->a≠l.h->H6 a=some u:=λ{a u} e n=>keep a u e n n;have of:Out l.fp H H6:=λa u e n=>k6 e (λz=>n (by rw[z];simp[BL.fp,BL.own]));have tp:∀{a:Addr} {us:List V},H a=some (.tup us)->H6 a=some (.tup us):=λe=>of _ _ e (ba.tup e);have gr:dZ l.fp ({l with rk:=.ref jl.J,d9:=jl.fp}:BL).fp H:=λa z=>by
    rcases Yu.mp (show a∈l.own++jl.fp from z) with y|y;·exact .inl (Yt _ y)
    ·exact .inr (new a y)
   have fR:∀a∈l.own,a∉jl.fp:=λa m z=>ba.there (Yt _ m) (new a z);subst eJ;refine q {l with rk:=.ref jl.J,d9:=jl.fp} jl st H6 ⟨rfl,of,gr⟩ ?_ rfl rfl ja me len fR;exact ba.build (l':={l with rk:=.ref jl.J,d9:=jl.fp}) (b':=b) rfl rfl rfl rfl rfl rfl rfl rfl rfl of gr ⟨dx,obj⟩ (k6 ba.c8 (λz=>lX z.symm)) (k6 ba.places (λz=>df z.symm)) (k6 ba.facts (λz=>iz z.symm)) (L2.Paired.bu ba.fact λ_ _ e=>tp e) (k6 ba.known (λz=>lY z.symm)) (k6 ba.parents (λz=>oP z.symm)) (k6 ba.done (λz=>m8 z.symm)) (L2.Paired.bu ba.kM λ_ _ e=>e.out of λa us e=>ba.tup e) (k6 ba.ic (λz=>oQ z.symm)) (L2.Paired.bu ba.mG λ_ _ e=>e.out of λa us e=>ba.tup e) (.at_ jl st rfl rfl ja me len fR)
end
def fG(z:Str)(c:Nat):Bool:=!(Builtin.Str.occurrences z ⟨#[c]⟩ 0 z.length 1).isEmpty
abbrev nO:Str:="abcdefghijklmnopqrstuvwxyz"
abbrev lD:Str:="abcdefghijklmnopqrstuvwxyz0123456789"
def rA(z:Str):Bool:=match z.cps.toList with
 |[]=>false
 |c::r=>decide (z.length<=12)&&(fG nO c&&(c::r).all (fG lD))
theorem ZgG(v:Str):v.cps.toList.length=v.length:=by simp[Str.length]
theorem Zdw{z:Str}(h:z.cps.toList=[]):z="":=by
 cases z with|mk a=>cases a with|mk l=>cases h;rfl
theorem Zcq(h:z.cps.toList=[]):rA z=false:=by unfold rA;rw[h]
theorem Ny(h:z.cps.toList=c::r):rA z=(decide (z.length<=12)&&(fG nO c&&(c::r).all (fG lD))):=by unfold rA;rw[h]
def OB:Sp:=λvs H Q _=>∃z:Str,vs=[.str z]/\z.length<=1000/\∀H',aj H H'->Q (.bl (rA z)) H'
section
theorem Zan:aU ["text"] ["text"] (aM EY):=⟨rfl,rfl,rfl,by decide+kernel,rfl,by decide+kernel,by decide+kernel⟩
theorem Zao(F:aN K "is_name" "is_name" EY f fd){t1 t2 t3:Tok}(Ci:mg "LONGEST_NAME"=some (.int 12 t1))(Bj:mg "LETTERS_OF_NAMES"=some (.str "abcdefghijklmnopqrstuvwxyz" t2))(BA:mg "SIGNS_OF_NAMES"=some (.str "abcdefghijklmnopqrstuvwxyz0123456789" t3))(bl:Bl mg):
  aK P w K mg base aP 1 f fd ["text"] OB:=by
 refine F.ok Zan (λvs H Q E h=>?_) (λaF A outer s H vs Q E hr h=>?_)
 ·obtain⟨z,rfl,_⟩:=h;rfl
 obtain⟨z,rfl,lz,q⟩:=h;refine⟨_,(au (aR (PW.pt (pw_or (bb cg (pv 0) bc (aQ _)) (pw_or (bb GY (bM (X4) rfl bl.cX cV (ae (pv 0) ag)) (dv (v:=.int (12)) rfl Ci ⟨_,rfl⟩) (aQ _)) (pw_or1 (bb X1 (aX vQ (pv 0) aG (λ_ _=>rfl)) (dv (v:=.str "abcdefghijklmnopqrstuvwxyz") rfl Bj ⟨_,rfl⟩) (by with_unfolding_all rfl)))))) (aw (aH jv)) a_) (aw (aH (bM (S0 (K:=K) rfl rfl) rfl bl.R0 QJ (ae (iH (x:="sign") (fr:=[]) (cl:=[]) rfl ⟨by with_unfolding_all rfl,trivial,rfl,by decide+kernel,rfl,by decide+kernel,rfl,trivial,by decide+kernel⟩ (Zez (pv 0)) (λ_ _ _ _=>ku) (λ_ _ _ _=>(dw ZaH (pv 0) (dv (v:=.str "abcdefghijklmnopqrstuvwxyz0123456789") rfl BA ⟨_,rfl⟩) (by with_unfolding_all rfl)))) ag))))),?_⟩;have sz:(10000:Nat)<=sizeLine:=by rw[sizeLine_eq];omega
 cases ez:z.cps.toList with
 |nil=>
  have e:=Zdw ez;rw[Zcq ez] at q;refine⟨_,rfl,rfl,_,rfl,bI (λ_=>?_) (λc=>absurd (decide_eq_true (by rw[e])) c)⟩;exact q H (aj.refl H)
 |cons c r=>
  have zl:=ZgG z;rw[ez,Wl] at zl;rw[Ny ez] at q;refine⟨_,rfl,rfl,_,rfl,bI (λcc=>?_) (λ_=>?_)⟩
  ·have e:z="":=V.str.inj (of_decide_eq_true cc);have e0:(Str.ofString "").cps.toList=[]:=by decide+kernel
   rw[e,e0] at ez;cases ez
  refine⟨_,rfl,z,rfl,by omega,_,_,rfl,rfl,_,rfl,bI (λcc=>?_) (λcc=>?_)⟩
  ·have U2:(12:Int)<(z.length:Int):=of_decide_eq_true cc;rw[decide_eq_false (by omega:¬z.length<=12)] at q;exact q H (aj.refl H)
  have AH:z.length<=12:=by
   grind
  rw[decide_eq_true AH,Ju] at q;refine⟨_,rfl,_,_,_,rfl,rfl,by omega,gQ (j:=0) (by rw[ez];rfl),_,_,rfl,rfl,_,rfl,bI (λcc=>?_) (λcc=>aZ ?_)⟩
  ·have U2:fG nO c=false:=by
    have z:(!fG nO c)=true:=cc;cases e:fG nO c;·rfl
    ·rw[e] at z;cases z
   rw[U2,Bool.false_and] at q;exact q H (aj.refl H)
  have cl:fG nO c=true:=by
   cases e:fG nO c;·exact absurd (show(!fG nO c)=true by rw[e];rfl) cc
   ·rfl
  rw[cl,Ju,←ez] at q;refine⟨_,rfl,z,rfl,λD hD=>ZaZ (by omega) hD (λc=>V.bl (fG lD c)) (λi c hi H1 g1 Kt k=>?_) λH1 g1 h1=>?_⟩;·exact⟨_,rfl,_,_,rfl,rfl,k H1 (aj.refl _)⟩
  ·refine⟨D,z.cps.toList.map (fG lD),rfl,ak.of (by rw[h1,Wa];rfl),?_⟩;rw[JR];exact q H1 g1
end
theorem dB.more(h:dB n m c)(l:m<=m'):dB n m' c:=⟨by have:=h.one;omega,λns=>by obtain⟨⟨a,b⟩,d⟩:=h.gu ns;exact⟨⟨a,by omega⟩,d⟩⟩
theorem d_.more(h:d_ xs ys m c)(l:m<=m'):d_ xs ys m' c:=⟨h.ok.more l,h.kind,h.Iw⟩
theorem Ze2{f g:Nat->Int}(ok:dB n m c)(e:∀i,i<m->g i=f i)(s:eO f c):eO g c:=⟨λh=>by rw[e _ ok.one];exact s.1 h,λh=>by rw[e _ ok.one,e _ (ok.gu h).1.2];exact s.2 h⟩
section
variable {xs ys:List Int}{b:BS}
theorem cG.ZgH(ok:cG xs ys b)(new:n∉b.ps.map (·.1))(lim:b.ps.length<64)(hc:b.co<=co)(dl:dn.length<=200)(ul:un.length<=200):cG xs ys {b with ps:=b.ps++[(n,s)],co:=co,dn:=dn,un:=un}:=by
 have rM:=λp hp=>(ok.fg p hp).ok;have len:(b.ps++[(n,s)]).length=b.ps.length+1:=by rw[Yj];rfl
 refine⟨ok.gd,?_,by show(b.ps++[(n,s)]).length<=64;omega,ok.fl,λp hp=>?_,ok.zs,λp hp=>Y1 (ok.lt p hp) hc,?_,?_,?_,dl,ul⟩
 ·show((b.ps++[(n,s)]).map (·.1)).Nodup;rw[Yp];refine Wv.mpr ⟨ok.nm,by simp,λu hu v hv z=>?_⟩
  grind
 ·show d_ xs ys (b.ps++[(n,s)]).length p.2;rw[len];exact(ok.fg p hp).more (z9 _)
 ·show(b.fs.map λp=>eZ (b.ps++[(n,s)]) p.2).Nodup;rw[(W4 λp hp=>by rw[PH (rM p hp)])];exact ok.ky
 ·show((cz (b.ps++[(n,s)]) b.fs).map (·.1)).Nodup;rw[PJ rM];exact ok.pr
 ·obtain⟨f,i0,s0⟩:=ok.lv;refine⟨λi=>if i<b.ps.length then f i else 0,λi hi=>?_,λc m=>?_⟩
  ·show 0<=(if i<b.ps.length then f i else 0)/\(if i<b.ps.length then f i else 0)<(xs.length:Int);by_cases h:i<b.ps.length;·rw[if_pos h];exact i0 i h
   ·rw[if_neg h];have:=ok.gd.2.2.2.1
    grind
  ·obtain⟨p,hp,rfl⟩:=Ye.mp m;exact Ze2 (rM p hp) (λi hi=>if_pos hi) (s0 _ m)
theorem cG.Tg(ok:cG xs ys b)(fg:d_ xs ys b.ps.length c)(nz:z∉b.fs.map (·.1))(nk:eZ b.ps c∉b.keys)(np:cI c.k=true->[.inr c.k,.inr (av b.ps c.one)]∉(cz b.ps b.fs).map (·.1))(lv:∃f,kT xs.length b.ps.length f/\∀c'∈b.F++[c],eO f c')(lim:b.fs.length<63)(hc:b.co<=co)(hz:z<co)(dl:dn.length<=200)(ul:un.length<=200):cG xs ys {b with fs:=b.fs++[(z,c)],co:=co,dn:=dn,un:=un}:=by
 have snoc:∀{α:Type} {l:List α} {x:α},l.Nodup->x∉l->(l++[x]).Nodup:=λ{α l x} h1 h2=>Wv.mpr ⟨h1,by simp,λu hu v hv e=>by
  have:v=x:=by simpa using hv
  exact h2 (by rw[←this,←e];exact hu)⟩
 refine⟨ok.gd,ok.nm,ok.m,by show(b.fs++[(z,c)]).length<=63;rw[Yj];exact lim,λp hp=>?_,?_,λp hp=>?_,?_,?_,?_,dl,ul⟩
 ·rcases Yu.mp hp with hp|hp;·exact ok.fg p hp
  ·rw[Yn.mp hp];exact fg
 ·show((b.fs++[(z,c)]).map (·.1)).Nodup;rw[Yp];exact snoc ok.zs nz
 ·rcases Yu.mp hp with hp|hp;·exact Y1 (ok.lt p hp) hc
  ·rw[Yn.mp hp];exact hz
 ·show((b.fs++[(z,c)]).map λp=>eZ b.ps p.2).Nodup;rw[Yp];exact snoc ok.ky nk
 ·show((cz b.ps (b.fs++[(z,c)])).map (·.1)).Nodup;cases e:cI c.k with
  |true=>rw[Ov e,Yp];exact snoc ok.pr (np e)
  |false=>rw[Ow e];exact ok.pr
 ·obtain⟨f,i0,s0⟩:=lv;refine⟨f,i0,λc' m=>s0 c' ?_⟩;have m':c'∈(b.fs++[(z,c)]).map (·.2):=m;rw[Yp] at m';exact m'
theorem cG.drop(ok:cG xs ys b)(z:Nat)(hc:b.co<=co)(dl:dn.length<=200)(ul:un.length<=200):cG xs ys {b with fs:=cU z b.fs,co:=co,dn:=dn,un:=un}:=by
 have sub:(cU z b.fs).Sublist b.fs:=List.filter_sublist;refine⟨ok.gd,ok.nm,ok.m,Y3 sub.length_le ok.fl,λp hp=>ok.fg p (sub.subset hp),ok.zs.sublist (sub.map _),λp hp=>Y1 (ok.lt p (sub.subset hp)) hc,ok.ky.sublist (sub.map _),?_,?_,dl,ul⟩
 ·show((cz b.ps (cU z b.fs)).map (·.1)).Nodup;refine ok.pr.sublist ?_;unfold cz
  grind
 ·obtain⟨f,i0,s0⟩:=ok.lv;exact⟨f,i0,λc m=>s0 c ((sub.map _).subset m)⟩
end
def BS.G8(b:BS)(n s:Str):BS:={b with ps:=b.ps++[(n,s)],co:=b.co,dn:=b.dn++[⟨1,[.inr n,.inr s],b.co,b.co⟩],un:=[]}
def BS.uc(b:BS)(c:Fc):BS:={b with fs:=b.fs++[(b.co,c)],co:=b.co+1,dn:=b.dn++[⟨1,dC b.ps b.co c,b.co,b.co+1⟩],un:=[]}
def BS.without(b:BS)(z:Nat)(c:Fc):BS:={b with fs:=cU z b.fs,co:=b.co,dn:=b.dn++[⟨-1,dC b.ps z c,b.co,b.co⟩],un:=[]}
def GN(s:Str):Bool:=eX (.str s) [.str "man",.str "woman"]
structure Iy(b:BS)(n s:Str):Prop where
 ZgI:rA n=true
 side:GN s=true
 new:n∉b.ps.map (·.1)
 lim:b.ps.length<64
 nl:n.length<=1000
structure zR(xs ys:List Int)(b:BS)(c:Fc):Prop where
 fg:d_ xs ys b.ps.length c
 nk:eZ b.ps c∉b.keys
 np:cI c.k=true->[.inr c.k,.inr (av b.ps c.one)]∉(cz b.ps b.fs).map (·.1)
 lv:∃f,kT xs.length b.ps.length f/\∀c'∈b.F++[c],eO f c'
 lim:b.fs.length<63
inductive Nz(C CL CJ:Addr)(vs:List V)(H:Hp)(Q:VK):Prop
 |mk (l:BL) (b:BS) (xs ys:List Int) (n s:Str) (aE:vs=[.ref l.h,.str n,.str s]) (ba:bG H C CL CJ l xs ys b) (np:Iy b n s) (q:∀H',aj H H'->Q .aB H'):Nz C CL CJ vs H Q
def OC(C CL CJ:Addr):Sp:=λvs H Q _=>Nz C CL CJ vs H Q
inductive NA(C CL CJ:Addr)(vs:List V)(H:Hp)(Q:VK):Prop
 |mk (l:BL) (b:BS) (xs ys:List Int) (n s:Str) (aE:vs=[.ref l.h,.str n,.str s]) (ba:bG H C CL CJ l xs ys b) (ok:cG xs ys b) (np:Iy b n s) (dl:b.dn.length<200) (q:∀(l':BL) (H':Hp),cy H H' l l'->bG H' C CL CJ l' xs ys (b.G8 n s)->Q .aB H'):NA C CL CJ vs H Q
def OD(C CL CJ:Addr):Sp:=λvs H Q _=>NA C CL CJ vs H Q
inductive PR(C CL CJ:Addr)(vs:List V)(H:Hp)(Q:VK):Prop
 |mk (l:BL) (b:BS) (xs ys:List Int) (fa:Addr) (c:Fc) (aE:vs=[.ref l.h,.ref fa]) (ba:bG H C CL CJ l xs ys b) (ok:cG xs ys b) (hf:cW H b.ps fa (b.co,c)) (nf:zR xs ys b c) (dl:b.dn.length<200) (q:∀(l':BL) (H':Hp),cy H H' l l'->bG H' C CL CJ l' xs ys (b.uc c)->Q (.int (b.co:Int)) H'):PR C CL CJ vs H Q
def GO(C CL CJ:Addr):Sp:=λvs H Q _=>PR C CL CJ vs H Q
inductive PU(C CL CJ:Addr)(vs:List V)(H:Hp)(Q:VK):Prop
 |mk (l:BL) (b:BS) (xs ys:List Int) (z:Nat) (c:Fc) (aE:vs=[.ref l.h,.int (z:Int)]) (ba:bG H C CL CJ l xs ys b) (ok:cG xs ys b) (m:(z,c)∈b.fs) (dl:b.dn.length<200) (q:∀(l':BL) (H':Hp),cy H H' l l'->bG H' C CL CJ l' xs ys (b.without z c)->Q .aB H'):PU C CL CJ vs H Q
def Ro(C CL CJ:Addr):Sp:=λvs H Q _=>PU C CL CJ vs H Q
inductive OE(C CL CJ:Addr)(vs:List V)(H:Hp)(Q:VK):Prop
 |mk (x dx L:Addr) (xs ys:List Int) (aE:vs=[.ref x,.ref L]) (hx:H x=some (.ins C dx [])) (la:ib H CL L xs ys) (q:∀(l:BL) (H':Hp),l.h=x->(∀a∈l.fp,a≠x->H a=none)->az x H H'->bG H' C CL CJ l xs ys ⟨[],[],0,[],[]⟩->Q .aB H'):OE C CL CJ vs H Q
def PV(C CL CJ:Addr):Sp:=λvs H Q _=>OE C CL CJ vs H Q
theorem ib.free(la:ib H CL L xs ys)(hf:∀a∈fp,H a=none\/∃C dx,H a=some (.ins C dx []))(o:Out fp H H'):ib H' CL L xs ys:=by
 obtain⟨dx,d,m,f,w,im,jf,iw,st,h1,h2,h3,h4,h5,h6,h7,h8,h9⟩:=la;have k:∀{a:Addr} {u:HO},H a=some u->(∀C dx,u≠.ins C dx [])->H' a=some u:=λ{a u} e n=>o _ _ e λz=>by
  grind
 exact⟨dx,d,m,f,w,im,jf,iw,st,k h1 (λ_ _ z=>by cases z),k h2 (λ_ _ z=>by cases z),k h3 (λ_ _ z=>by cases z),k h4 (λ_ _ z=>by cases z),k h5 (λ_ _ z=>by cases z),k h6 (λ_ _ z=>by cases z),k h7 (λ_ _ z=>by cases z),k h8 (λ_ _ z=>by cases z),k h9 (λ_ _ z=>by cases z)⟩
section
theorem Xd:aU ["hearth","name","side"] ["hearth","name","side"] (aM B9):=⟨rfl,rfl,rfl,by decide+kernel,rfl,by decide+kernel,by decide+kernel⟩
theorem Xe(F:aN K "check_person" "check_person" B9 f fd)(E7:HasFn P w K mg base 1 "is_name" ["text"] OB)(rB:mg "MAN"=some (.str "man" t1))(qR:mg "WOMAN"=some (.str "woman" t2))(BW:cD P w K mg base 1 "people" C ["self"] (Ot C CL CJ)):aK P w K mg base aP 2 f fd ["hearth","name","side"] (OC C CL CJ):=by
 refine F.ok Xd (λvs H Q E h=>?_) (λaF A outer s H vs Q E hr h=>?_)
 ·obtain⟨l,b,xs,ys,n,s,rfl,_⟩:=h;rfl
 obtain⟨l,b,xs,ys,n,s,rfl,ba,np,q⟩:=h;refine⟨_,(au (aR (PW.pt (pw_or (iY (eK (aY E7 hr (by omega) rfl (ae (pv 1) ag)))) (pw_or1 (bb (GA (K:=K) rfl) (pv 2) (cK (ae (dv (v:=.str "man") rfl rB ⟨_,rfl⟩) (ae (dv (v:=.str "woman") rfl qR ⟨_,rfl⟩) ag))) (by with_unfolding_all rfl))))) fI a_) (aw (aR (bb (lT (K:=K) rfl) (pv 1) (tX BW hr (by omega) (pv 0)) (by with_unfolding_all rfl)) fI a_))),?_⟩;have sz:(10000:Nat)<=sizeLine:=by rw[sizeLine_eq];omega
 refine⟨_,rfl,n,rfl,np.nl,λH1 g1=>⟨_,rfl,?_⟩⟩;rw[np.ZgI];refine cj ?_;refine⟨_,rfl,by show 2<=sizeLine;omega,λp H2 oO g2 hp=>⟨p,_,rfl,.inr (aA.of hp),rfl,rfl,_,rfl,?_⟩⟩;have so:eX (.str s) [.str "man",.str "woman"]=true:=np.side;dsimp only;rw[if_pos rfl,so];refine cj (aZ ?_);have g:=g1.trans g2;have qi:=ba.same g;obtain⟨dx,h1⟩:=qi.obj;refine⟨_,rfl,_,rfl,l.h,dx,_,rfl,h1,rfl,l,b,xs,ys,rfl,qi,λp2 H3 np3 g3 dG=>?_⟩;have fl:(b.ps.map λp=>V.str p.1).all iK=true:=by
  rw[JR,Wm];intro p _;rfl
 refine⟨p2,_,rfl,.inl (ak.of dG),rfl,fl,_,rfl,?_⟩;try dsimp only
 have no:eX (.str n) (b.ps.map λp=>V.str p.1)=false:=by
  unfold eX;rw[List.any_map,J9];intro p hp z;have z':(p.1==n)=true:=z;exact np.new (by rw[←eq_of_beq z'];exact Ye.mpr ⟨p,hp,rfl⟩)
 rw[if_neg Yi,no];exact cj (aZ (q H3 (g.trans g3)))
theorem WV:aU ["self","name","side"] ["self","name","side"] (aM BN):=⟨rfl,rfl,rfl,by decide+kernel,rfl,by decide+kernel,by decide+kernel⟩
theorem Zbi(F:aN K "person" "Hearth.person" BN f fd)(hc:fC K C)(nN:mg "PUT_IN"=some (.int 1 t1))(Cj:HasFn P w K mg base 2 "check_person" ["hearth","name","side"] (OC C CL CJ))(ny:cD P w K mg base 10 "do_deed" C ["self","way","row","coming"] (yI C CL CJ)):aK P w K mg base aP 11 f fd ["self","name","side"] (OD C CL CJ):=by
 refine F.ok WV (λvs H Q E h=>?_) (λaF A outer s H vs Q E hr h=>?_)
 ·obtain⟨l,b,xs,ys,n,s,rfl,_⟩:=h;rfl
 obtain⟨l,b,xs,ys,n,s,rfl,ba,ok,np,dl,q⟩:=h;refine⟨_,(au (cA (aY Cj hr (by omega) rfl (ae (pv 0) (ae (pv 1) (ae (pv 2) ag))))) (aw (cA (cO ny hr (by omega) (pv 0) (ae (dv (v:=.int (1)) rfl nN ⟨_,rfl⟩) (ae (cK (ae (pv 1) (ae (pv 2) ag))) (ae (aV (K:=K) rfl (pv 0) rfl) ag))))))),?_⟩;refine⟨_,rfl,_,rfl,_,rfl,l,b,xs,ys,n,s,rfl,ba,np,λH1 g1=>?_⟩;have cQ:=ba.same g1;obtain⟨dx,h1⟩:=cQ.obj;refine⟨_,rfl,l.h,dx,_,rfl,h1,rfl,_,rfl,_,rfl,by show 2<=sizeLine;decide,λr H2 nr g2 hR=>?_⟩;refine⟨_,rfl,l.h,C,dx,_,_,rfl,g2 _ _ h1,hc.cls,hc.pE,rfl,l,b,_,xs,ys,r,1,b.co,[.inr n,.inr s],rfl,cQ.same g2,ok,dl,hR,.pin n s hR np.new np.lim,λl' H3 wt hZ=>?_⟩;exact q l' H3 (cy.after (g1.trans g2) wt) hZ
theorem u9:aU ["self","fact","number","kind","one","other"] ["self","fact"] (aM CI):=⟨rfl,rfl,rfl,by decide+kernel,rfl,by decide+kernel,by decide+kernel⟩
theorem Zdx(F:aN K "keep" "Hearth.keep" CI f fd)(hc:fC K C)(nN:mg "PUT_IN"=some (.int 1 t1))(DW:HasFn P w K mg base 5 "fact_fits" ["joins","land","places","fact"] (Rj CL CJ))(Ck:cD P w K mg base 8 "joins" C ["self"] (PQ C CL CJ))(ny:cD P w K mg base 10 "do_deed" C ["self","way","row","coming"] (yI C CL CJ)):aK P w K mg base aP 11 f fd ["self","fact"] (GO C CL CJ):=by
 refine F.ok u9 (λvs H Q E h=>?_) (λaF A outer s H vs Q E hr h=>?_)
 ·obtain⟨l,b,xs,ys,fa,c,rfl,_⟩:=h;rfl
 obtain⟨l,b,xs,ys,fa,c,rfl,ba,ok,hf,nf,dl,q⟩:=h;refine⟨_,(au (lC (pv 1) (gT (K:=K) (n:=4) rfl rfl (bJ (bo (i:=2) u9.nd rfl (Or.inl rfl)) (bJ (bo (i:=3) u9.nd rfl (Or.inl rfl)) (bJ (bo (i:=4) u9.nd rfl (Or.inl rfl)) (bJ (bo (i:=5) u9.nd rfl (Or.inl rfl)) gP)))))) (au (aR (iY (eK (aY DW hr (by omega) rfl (ae (tX Ck hr (by omega) (pv 0)) (ae (aV (K:=K) rfl (pv 0) rfl) (ae (aV (K:=K) rfl (pv 0) rfl) (ae (pv 1) ag))))))) fI a_) (au (cA (cO ny hr (by omega) (pv 0) (ae (dv (v:=.int (1)) rfl nN ⟨_,rfl⟩) (ae (pv 1) (ae (a8 fX (pv 2) aG) ag))))) (aw (aH (pv 2)))))),?_⟩;obtain⟨dx,h1⟩:=ba.obj;refine⟨_,rfl,fa,_,rfl,aA.of hf,rfl,_,_,rfl,bp ⟨_,_,rfl,bp ⟨_,_,rfl,bp ⟨_,_,rfl,bp ⟨rfl,?_⟩⟩⟩⟩⟩;refine⟨_,rfl,l.h,dx,_,rfl,h1,rfl,l,b,xs,ys,rfl,ba,ok,λl1 jl st H1 wt cQ r1 r2 ja me len fR=>?_⟩;obtain⟨uK,e1⟩:=cQ.obj;have rX:H1 l.h=some (.ins C uK (HF l1.L l1.sd l1.pl l1.fc l1.kn l1.pr (b.co:Int) l1.dn l1.un l1.rk)):=by rw[←wt.h];exact e1
 have U3:cW H1 b.ps fa (b.co,c):=wt.out _ _ hf (ba.tup hf);have im:=ok.m;refine⟨_,rfl,l.h,C,uK,_,_,rfl,rX,hc.cls,hc.tY,rfl,_,rfl,l.h,C,uK,_,_,rfl,rX,hc.cls,hc.vG,rfl,_,rfl,jl,st,l1.L,l1.pl,fa,xs,ys,b.ps,b.F,b.co,c,rfl,ja,me,cQ.landAt,ok.gd,cQ.places,ok.nm,len,by omega,U3,nf.fg,λ_ H2 g2=>?_,λno=>?_⟩
 ·refine⟨_,rfl,cj (aZ ?_)⟩;have qi:=cQ.same g2;have U4:=g2 _ _ U3;have nz:b.co∉b.fs.map (·.1):=λz=>by
   obtain⟨p,hp,e⟩:=Ye.mp z;have:=ok.lt p hp;omega
  refine⟨_,rfl,l.h,uK,_,rfl,g2 _ _ rX,rfl,_,rfl,_,rfl,_,_,rfl,rfl,l1,b,_,xs,ys,fa,1,b.co+1,dC b.ps b.co c,?_,qi,ok,dl,U4,.fin b.co c U4 nf.fg nz nf.nk nf.np nf.lv nf.lim,λl' H3 sy hZ=>?_⟩;·rw[wt.h];rfl
  ·exact⟨_,rfl,q l' H3 ((wt.same g2).trans sy) hZ⟩
 ·obtain⟨f0,i0,s0⟩:=nf.lv;exact absurd (s0 c (Yq _ Yh)) (no f0 ((me.iff f0).mpr ⟨by rw[len];exact i0,λc' m'=>s0 c' (Yt _ m')⟩))
theorem Xv:aU ["self","number"] ["self","number"] (aM CK):=⟨rfl,rfl,rfl,by decide+kernel,rfl,by decide+kernel,by decide+kernel⟩
theorem Zdy(F:aN K "take" "Hearth.take" CK f fd)(hc:fC K C)(DX:mg "TAKEN_OUT"=some (.int (-1) t1))(ny:cD P w K mg base 10 "do_deed" C ["self","way","row","coming"] (yI C CL CJ)):aK P w K mg base aP 11 f fd ["self","number"] (Ro C CL CJ):=by
 refine F.ok Xv (λvs H Q E h=>?_) (λaF A outer s H vs Q E hr h=>?_)
 ·obtain⟨l,b,xs,ys,z,c,rfl,_⟩:=h;rfl
 obtain⟨l,b,xs,ys,z,c,rfl,ba,ok,m,dl,q⟩:=h;refine⟨_,(au (aR (kA (nH (bH hr) (pv 1) (aV (K:=K) rfl (pv 0) rfl)) (by with_unfolding_all rfl)) fI a_) (aw (cA (cO ny hr (by omega) (pv 0) (ae (dv (v:=.int (-1)) rfl DX ⟨_,rfl⟩) (ae (dh (bH hr) (aV (K:=K) rfl (pv 0) rfl) (pv 1) (λ_ _=>rfl)) (ae (aV (K:=K) rfl (pv 0) rfl) ag))))))),?_⟩;obtain⟨dx,h1⟩:=ba.obj;obtain⟨fa,AF,cY⟩:=Gb (H:=H) (ps:=b.ps) ba.fact ok.zs m;refine⟨_,rfl,_,rfl,l.h,C,dx,_,_,rfl,h1,hc.cls,hc.pH,rfl,l.fc,some (.ref fa),rfl,nY ba.facts AF,_,rfl,cj (aZ ?_)⟩;refine⟨_,rfl,l.h,dx,_,rfl,h1,rfl,_,rfl,l.h,C,dx,_,_,rfl,h1,hc.cls,hc.pH,rfl,_,rfl,l.fc,.ref fa,rfl,nY ba.facts AF,_,rfl,l.h,C,dx,_,_,rfl,h1,hc.cls,hc.pE,rfl,l,b,_,xs,ys,fa,-1,b.co,dC b.ps z c,rfl,ba,ok,dl,cY,.uk z c cY m,λl' H3 wt hZ=>?_⟩;exact q l' H3 wt hZ
theorem Xw:aU ["self","land"] ["self","land"] (aM CH):=⟨rfl,rfl,rfl,by decide+kernel,rfl,by decide+kernel,by decide+kernel⟩
theorem Zcr(F:aN K "__init__" "Hearth.__init__" CH f fd)(hc:fC K C):aK P w K mg base aP 1 f fd ["self","land"] (PV C CL CJ):=by
 refine F.ok Xw (λvs H Q E h=>?_) (λaF A outer s H vs Q E hr h=>?_)
 ·obtain⟨x,dx,L,xs,ys,rfl,_⟩:=h;rfl
 obtain⟨x,dx,L,xs,ys,rfl,hx,la,q⟩:=h;refine⟨_,(au (fV (K:=K) rfl (pv 0) (pv 1)) (au (fV (K:=K) rfl (pv 0) qK) (au (fV (K:=K) rfl (pv 0) qK) (au (fV (K:=K) rfl (pv 0) qK) (au (fV (K:=K) rfl (pv 0) M6) (au (fV (K:=K) rfl (pv 0) M6) (au (fV (K:=K) rfl (pv 0) aG) (au (fV (K:=K) rfl (pv 0) (cZ ag)) (au (fV (K:=K) rfl (pv 0) (cZ ag)) (aw (fV (K:=K) rfl (pv 0) lu))))))))))),?_⟩;refine⟨_,rfl,_,rfl,x,C,dx,[],rfl,hx,hc.cls,hc.tY,by show 0<1000;omega,λH1 b1 h1=>?_⟩;refine λsd H2 n2 g2 e2=>⟨_,rfl,x,C,dx,_,rfl,g2 _ _ h1,hc.cls,hc.qO,by show 1<1000;omega,λH3 b3 h3=>?_⟩;refine λpl H4 n4 g4 e4=>⟨_,rfl,x,C,dx,_,rfl,g4 _ _ h3,hc.cls,hc.vG,by show 2<1000;omega,λH5 b5 h5=>?_⟩;refine λfc H6 n6 g6 e6=>⟨_,rfl,x,C,dx,_,rfl,g6 _ _ h5,hc.cls,hc.pH,by show 3<1000;omega,λH7 b7 h7=>?_⟩;refine λkn H8 n8 g8 e8=>⟨_,rfl,x,C,dx,_,rfl,g8 _ _ h7,hc.cls,hc.yZ,by show 4<1000;omega,λH9 b9 h9=>?_⟩;refine λpr oF oG sA oI=>⟨_,rfl,x,C,dx,_,rfl,sA _ _ h9,hc.cls,hc.tH,by show 5<1000;omega,λwZ sC h11=>?_⟩;refine⟨_,rfl,x,C,dx,_,rfl,h11,hc.cls,hc.pE,by show 6<1000;omega,λuQ sD uA=>?_⟩;refine⟨by show 0<=sizeLine;exact Yv _,λdn Af qk eY U5=>⟨_,rfl,x,C,dx,_,rfl,eY _ _ uA,hc.cls,hc.Rh,by show 7<1000;omega,λqb ql U6=>?_⟩⟩;refine⟨by show 0<=sizeLine;exact Yv _,λun JG lV U7 e15=>⟨_,rfl,x,C,dx,_,rfl,U7 _ _ U6,hc.cls,hc.Om,by show 8<1000;omega,λUi b16 h16=>?_⟩⟩;refine⟨_,rfl,x,C,dx,_,rfl,h16,hc.cls,hc.ia,by show 9<1000;omega,λoS b17 U8=>?_⟩;rw[Zgz] at U8;have U9:az x JG oS:=b16.trans b17;have U_:az x Af oS:=ql.trans ((az.of U7).trans U9);have Va:az x oF oS:=sC.trans (sD.trans ((az.of eY).trans U_));have j8:az x H8 oS:=b9.trans ((az.of sA).trans Va);have j6:az x H6 oS:=b7.trans ((az.of g8).trans j8);have j4:az x H4 oS:=b5.trans ((az.of g6).trans j6);have j2:az x H2 oS:=b3.trans ((az.of g4).trans j4);have j0:az x H oS:=b1.trans ((az.of g2).trans j2);have i3:az x H H3:=b1.trans ((az.of g2).trans b3);have i5:az x H H5:=i3.trans ((az.of g4).trans b5);have i7:az x H H7:=i5.trans ((az.of g6).trans b7);have i9:az x H H9:=i7.trans ((az.of g8).trans b9);have i12:az x H uQ:=i9.trans ((az.of sA).trans (sC.trans sD));have i14:az x H qb:=i12.trans ((az.of eY).trans ql);have fr:∀{a:Addr} {H':Hp},az x H H'->a≠x->H' a=none->H a=none:=λ{a H'} k d n=>by
  cases e:H a with
  |none=>rfl
  |some o=>rw[k a o e d] at n;cases n
 have d2:sd≠x:=λz=>by rw[z,h1] at n2;cases n2
 have d4:pl≠x:=λz=>by rw[z,h3] at n4;cases n4
 have d6:fc≠x:=λz=>by rw[z,h5] at n6;cases n6
 have d8:kn≠x:=λz=>by rw[z,h7] at n8;cases n8
 have AI:pr≠x:=λz=>by rw[z,h9] at oG;cases oG
 have KC:dn≠x:=λz=>by rw[z,uA] at qk;cases qk
 have Vb:un≠x:=λz=>by rw[z,U6] at lV;cases lV
 have ne:∀{a c:Addr} {Ha Hc:Hp} {o:HO},Ha a=some o->az x Ha Hc->a≠x->Hc c=none->a≠c:=λ{a c Ha Hc o} e k d n z=>by rw[←z,k a o e d] at n;cases n
 have k24:az x H2 H3:=b3;have Vc:az x H2 H5:=b3.trans ((az.of g4).trans b5);have Vd:az x H2 H7:=Vc.trans ((az.of g6).trans b7);have Th:az x H2 H9:=Vd.trans ((az.of g8).trans b9);have Ti:az x H2 uQ:=Th.trans ((az.of sA).trans (sC.trans sD));have ZgJ:az x H2 qb:=Ti.trans ((az.of eY).trans ql);have Ve:az x H4 H7:=b5.trans ((az.of g6).trans b7);have Tj:az x H4 H9:=Ve.trans ((az.of g8).trans b9);have Tn:az x H4 uQ:=Tj.trans ((az.of sA).trans (sC.trans sD));have ZgK:az x H4 qb:=Tn.trans ((az.of eY).trans ql);have To:az x H6 H9:=b7.trans ((az.of g8).trans b9);have Tp:az x H6 uQ:=To.trans ((az.of sA).trans (sC.trans sD));have ZgL:az x H6 qb:=Tp.trans ((az.of eY).trans ql);have Tq:az x H8 uQ:=b9.trans ((az.of sA).trans (sC.trans sD));have ZgM:az x H8 qb:=Tq.trans ((az.of eY).trans ql);have Si:az x oF uQ:=sC.trans sD;have ZfP:az x oF qb:=Si.trans ((az.of eY).trans ql);let l:BL:=⟨x,L,sd,pl,fc,kn,pr,dn,un,.aB,[],[],[],[]⟩;have AJ:∀a∈l.fp,a≠x->H a=none:=λa ha na=>by
  have qg:a∈[x,sd,pl,fc,kn,pr,dn,un]:=by
   have:l.fp=[x,sd,pl,fc,kn,pr,dn,un]:=rfl;rw[this] at ha;exact ha
  simp only[Ym,Y0,or_false] at qg;rcases qg with rfl|rfl|rfl|rfl|rfl|rfl|rfl|rfl;·exact absurd rfl na
  ·exact fr b1 na n2
  ·exact fr i3 na n4
  ·exact fr i5 na n6
  ·exact fr i7 na n8
  ·exact fr i9 na oG
  ·exact fr i12 na qk
  ·exact fr i14 na lV
 refine q l oS rfl AJ j0 ⟨⟨dx,U8⟩,λH' o=>?_,j2 _ _ e2 d2,j4 _ _ e4 d4,j6 _ _ e6 d6,.nil,j8 _ _ e8 d8,Va _ _ oI AI,U_ _ _ U5 KC,.nil,U9 _ _ e15 Vb,.nil,.no rfl rfl,?_⟩
 ·refine la.free (fp:=l.fp) (λa ha=>?_) λa u e na=>o _ _ (j0 _ _ e λz=>na (by rw[z];exact Yh)) na;by_cases z:a=x;·rw[z];exact .inr ⟨C,dx,hx⟩
  ·exact .inl (AJ a ha z)
 ·show[x,sd,pl,fc,kn,pr,dn,un].Nodup;simp only[Yz,Ym,Y0,or_false,not_or,not_false_eq_true,W9,and_true];exact⟨⟨d2.symm,d4.symm,d6.symm,d8.symm,AI.symm,KC.symm,Vb.symm⟩,⟨ne e2 k24 d2 n4,ne e2 Vc d2 n6,ne e2 Vd d2 n8,ne e2 Th d2 oG,ne e2 Ti d2 qk,ne e2 ZgJ d2 lV⟩,⟨ne e4 b5 d4 n6,ne e4 Ve d4 n8,ne e4 Tj d4 oG,ne e4 Tn d4 qk,ne e4 ZgK d4 lV⟩,⟨ne e6 b7 d6 n8,ne e6 To d6 oG,ne e6 Tp d6 qk,ne e6 ZgL d6 lV⟩,⟨ne e8 b9 d8 oG,ne e8 Tq d8 qk,ne e8 ZgM d8 lV⟩,⟨ne oI Si AI qk,ne oI ZfP AI lV⟩,ne U5 ql KC lV⟩
end
def strOf:V->Str
 |.str s=>s
 |_=>""
def fK(b:BS)(a:Str):List Str:=(nZ b a).map strOf
inductive fH(b:BS)(a:Str):Str->Prop
 |refl:fH b a a
 |step {x y:Str}:fH b a x->y∈fK b x->fH b a y
theorem PX(ok:cG xs ys b)(h:aS (cz b.ps b.fs) [.inr k,.inr a]=some v):∃p∈b.fs,cI p.2.k=true/\p.2.k=k/\av b.ps p.2.one=a/\v=.str (av b.ps p.2.aJ.toNat)/\p.2.aJ.toNat<b.ps.length:=by
 have m:([.inr k,.inr a],v)∈cz b.ps b.fs:=by
  unfold aS at h;cases ef:(cz b.ps b.fs).find? λkv=>decide (kv.1=[.inr k,.inr a]) with
  |none=>grind
  |some q=>grind
 obtain⟨p,hp,e⟩:=Ye.mp m;obtain⟨oH,dG⟩:=Y5.mp hp;injection e with e1 e2;injection e1 with e3 e4;injection e4 with e5 _;have ns:p.2.k≠bh:=λz=>by
  rw[z] at dG;exact absurd dG (by decide+kernel)
 refine⟨p,oH,dG,Wc e3,Wc e5,?_,((ok.fg p oH).ok.gu ns).1.2⟩;rw[←e2,gO ns];rfl
theorem MN(ok:cG xs ys b)(a:Str):nZ b a=(fK b a).map V.str/\(∀s∈fK b a,s∈b.ps.map (·.1))/\(fK b a).length<=2:=by
 have all:∀v∈nZ b a,∃s,v=.str s/\s∈b.ps.map (·.1):=λv hv=>by
  obtain⟨k,_,e⟩:=Jf.mp hv;obtain⟨p,_,_,_,_,e2,l⟩:=PX ok e;exact⟨_,e2,Ga l⟩
 refine⟨?_,λs hs=>?_,?_⟩
 ·unfold fK;rw[Wa];refine(List.map_id _).symm.trans (W4 λv hv=>?_);obtain⟨s,rfl,_⟩:=all v hv;rfl
 ·obtain⟨v,hv,rfl⟩:=Ye.mp hs;obtain⟨s,rfl,m⟩:=all v hv;exact m
 ·unfold fK nZ
  grind
def h_(ks:List Str)(as:List Addr):List (Key×V):=(ks.zip as).map λp=>(.inr p.1,.ref p.2)
theorem OF:∀{ks:List Str} {as:List Addr},ks.length=as.length->(h_ ks as).map (·.1)=ks.map Sum.inr
 |[],[],_=>rfl
 |k::ks,a::as,h=>by
  have e0:h_ (k::ks) (a::as)=(Sum.inr k,V.ref a)::h_ ks as:=rfl;rw[e0,Wn,OF (by simpa using h)];rfl
 |[],_::_,h=>rfl
 |_::_,[],h=>by simp at h
theorem OG:∀{ks:List Str} {as:List Addr} (k:Str) (a:Addr),ks.length=as.length->h_ ks as++[(.inr k,.ref a)]=h_ (ks++[k]) (as++[a])
 |[],[],_,_,_=>rfl
 |q::ks,c::as,k,a,h=>by
  have e0:h_ (q::ks) (c::as)=(Sum.inr q,V.ref c)::h_ ks as:=rfl;rw[e0,Ug,OG k a (by simpa using h)];rfl
 |[],_::_,_,_,h=>by simp at h
 |_::_,[],_,_,h=>by simp at h
theorem Ge:∀{ks:List Str} {as:List Addr} {k:Str},ks.length=as.length->k∈ks->∃a∈as,aS (h_ ks as) (.inr k)=some (.ref a)
 |[],_,_,_,h=>by cases h
 |q::ks,c::as,k,hl,h=>by
  have e0:h_ (q::ks) (c::as)=(Sum.inr q,V.ref c)::h_ ks as:=rfl;rw[e0];by_cases e:q=k;·exact⟨c,Yh,fw (by rw[e])⟩
  ·rcases Ym.mp h with h|h;·grind
   ·obtain⟨a,m,v⟩:=Ge (by simpa using hl) h;exact⟨a,Yx _ m,by rw[eU (λz=>e (Wc z))];exact v⟩
 |_::_,[],_,h,_=>by simp at h
theorem FI(hl:ks.length=as.length)(h:k∉ks):aS (h_ ks as) (.inr k)=none:=qF (by
 rw[OF hl];intro z;obtain⟨q,hq,e⟩:=Ye.mp z;exact h (by rw[←Wc e];exact hq))
structure pU(H H6:Hp)(ln:Addr)(ks:List Str)(as:List Addr):Prop where
 same:aj H H6
 at_:H6 ln=some (.dK (h_ ks as))
 len:ks.length=as.length
 lst:∀a∈as,∃us:List V,H6 a=some (.lst us)/\us.length<=ks.length/\a≠ln
 nd:ks.Nodup
theorem E8{xs ys:List Int}{b:BS}(ok:cG xs ys b){ks:List Str}(nd:ks.Nodup)(sub:∀k∈ks,k∈b.ps.map (·.1)):ks.length<=b.ps.length:=by
 have:=nd.length_le_of_subset sub
 grind
theorem yJ(ok:cG xs ys b)(ma:a∈b.ps.map (·.1))(h:fH b a z):z∈b.ps.map (·.1):=by
 cases h with
 |refl=>exact ma
 |step _ m=>exact(MN ok _).2.1 _ m
inductive OH(C CL CJ:Addr)(vs:List V)(H:Hp)(Q:VK):Prop
 |mk (l:BL) (b:BS) (xs ys:List Int) (a:Str) (aE:vs=[.ref l.h,.str a]) (ba:bG H C CL CJ l xs ys b) (ok:cG xs ys b) (ma:a∈b.ps.map (·.1)) (q:∀(p:Addr) (ks:List Str) (as:List Addr) (H':Hp),pU H H' p ks as->(∀z,z∈ks↔fH b a z)->Q (.ref p) H'):OH C CL CJ vs H Q
def PY(C CL CJ:Addr):Sp:=λvs H Q _=>OH C CL CJ vs H Q
def wC(ln:Addr)(N:Nat):St->Hp->Nat:=λσ H=>(match H ln with|some (.dK kvs)=>2*(N-kvs.length)|_=>0)+(match List.getD (α:=Option V) σ 3 none with|some (V.ref nw)=>(match H nw with|some (.lst (_::_))=>1|_=>0)|_=>0)
inductive Vf(H:Hp)(b:BS)(a:Str)(h ln:Addr)(σ:St)(H6:Hp):Prop
 |mk (ks ns:List Str) (as:List Addr) (nw:Addr) (o4 o5 o6:Option V) (la:pU H H6 ln ks as) (hn:H6 nw=some (.lst (ns.map V.str))) (nn:nw≠ln) (sub:∀k∈ns,k∈ks) (cl:∀k∈ks,k∉ns->∀p∈fK b k,p∈ks) (sd:∀k∈ks,fH b a k) (ma:a∈ks) (r6:ns.length<=64) (e:σ=[some (.ref h),some (.str a),some (.ref ln),some (.ref nw),o4,o5,o6]):Vf H b a h ln σ H6
inductive KD(H:Hp)(b:BS)(a:Str)(h ln nw fu:Addr)(qm ns:List Str)(j:Nat)(σ:St)(H6:Hp):Prop
 |mk (ks fs:List Str) (as:List Addr) (o5 o6:Option V) (la:pU H H6 ln ks as) (hn:H6 nw=some (.lst (ns.map V.str))) (hf:H6 fu=some (.lst (fs.map V.str))) (nn:nw≠ln/\fu≠ln/\fu≠nw) (af:fu∉as) (ek:ks=qm++fs) (cl:∀k∈ns.take j,∀p∈fK b k,p∈ks) (sd:∀k∈ks,fH b a k) (e:σ=[some (.ref h),some (.str a),some (.ref ln),some (.ref nw),some (.ref fu),o5,o6]):KD H b a h ln nw fu qm ns j σ H6
inductive Vg(H:Hp)(b:BS)(a:Str)(h ln nw fu:Addr)(qm ns:List Str)(j:Nat)(one:Str)(pl:Addr)(i:Nat)(σ:St)(H6:Hp):Prop
 |mk (ks fs:List Str) (as:List Addr) (o6:Option V) (la:pU H H6 ln ks as) (hn:H6 nw=some (.lst (ns.map V.str))) (hf:H6 fu=some (.lst (fs.map V.str))) (hp:H6 pl=some (.lst ((fK b one).map V.str))) (nn:nw≠ln/\fu≠ln/\fu≠nw/\pl≠ln/\pl≠fu) (af:fu∉as) (ek:ks=qm++fs) (cl:∀k∈ns.take j,∀p∈fK b k,p∈ks) (cp:∀p∈(fK b one).take i,p∈ks) (sd:∀k∈ks,fH b a k) (e:σ=[some (.ref h),some (.str a),some (.ref ln),some (.ref nw),some (.ref fu),some (.str one),o6]):Vg H b a h ln nw fu qm ns j one pl i σ H6
section
theorem qH:aU ["hearth","name","lines","newest","further","one","parent"] ["hearth","name"] (aM D_):=⟨rfl,rfl,rfl,by decide+kernel,rfl,by decide+kernel,by decide+kernel⟩
theorem Zv(F:aN K "lines_up" "lines_up" D_ f fd)(Bc:cD P w K mg base 1 "parents_of" C ["self","name"] (Mg C CL CJ)):aK P w K mg base aP 2 f fd ["hearth","name"] (PY C CL CJ):=by
 refine F.ok qH (λvs H Q E h=>?_) (λaF A outer s H vs Q E hr h=>?_)
 ·obtain⟨l,b,xs,ys,a,rfl,_⟩:=h;rfl
 obtain⟨l,b,xs,ys,a,rfl,ba,ok,ma,q⟩:=h;refine⟨_,(au (bq (i:=2) qH.nd rfl (Or.inl rfl) (yS (jr (pv 1) (cZ (ae (pv 1) ag)) yR) rfl rfl (λz=>nomatch z) (Ji rfl))) (au (bq (i:=3) qH.nd rfl (Or.inl rfl) (cZ (ae (pv 1) ag))) (au (Fo PassesOwn.never (Nc (K:=K) rfl (NK (pv 3) (λ_=>rfl))) (au (bq (i:=4) qH.nd rfl (Or.inl rfl) (cZ ag)) (au (fW PassesOwn.never rfl (eV (K:=K) rfl (pv 3)) (bo (i:=5) qH.nd rfl (Or.inl rfl)) (aw (fW PassesOwn.never rfl (eV (K:=K) rfl (cO Bc hr (by omega) (pv 0) (ae (pv 5) ag))) (bo (i:=6) qH.nd rfl (Or.inl rfl)) (aw (aR (kA (nH (bH hr) (pv 6) (pv 2)) (by with_unfolding_all rfl)) (au (nL (bH hr) (pv 2) (pv 6) (a8 pF (dh (bH hr) (pv 2) (pv 5) (λ_ _=>rfl)) (cZ (ae (pv 6) ag)))) (aw (cA (mD (K:=K) rfl (jw plainAttrs_list PySem.F.slot_list_append PySem.F.type_list_append nF (pv 4) (ae (pv 6) ag)))))) a_))))) (aw (bq (i:=3) qH.nd rfl (Or.inl rfl) (pv 4)))))) (aw (aH (pv 2)))))),?_⟩;have sz:(10000:Nat)<=sizeLine:=by rw[sizeLine_eq];omega
 have im:=ok.m;refine bX ?_;refine λln Vh=>⟨_,rfl,_,rfl,by show 1<=sizeLine;omega,λll H0 Vi g0 hll=>?_⟩;refine⟨g0 _ _ aW,[(.inr a,.ref ll)],rfl,(by show 1<=15;omega),?_⟩;obtain⟨H1,qo⟩:∃H1,H1=upd H0 ln (.dK (nX [] [(.inr a,.ref ll)])):=⟨_,rfl⟩;rw[←qo];have Vj:ll≠ln:=λz=>by rw[z,aW] at Vi;cases Vi
 have g1:aj H H1:=λc o e=>by
  have nc:=ck e Vh;rw[qo,bg nc];exact g0 _ _ (by rw[bg nc];exact e)
 have Vk:pU H H1 ln [a] [ll]:=⟨g1,by rw[qo,aW];rfl,rfl,λc hc=>by
  rw[Yn.mp hc];exact⟨[.str a],by rw[qo,bg Vj];exact hll,Yd _,Vj⟩,by simp⟩
 refine bX ?_;refine⟨_,rfl,by show 1<=sizeLine;omega,λnw H2 Vl g2 hnw=>?_⟩;have Vm:nw≠ln:=λz=>by rw[z,Vk.at_] at Vl;cases Vl
 have G9:∀{Ha Hb:Hp} {ks:List Str} {as:List Addr},pU H Ha ln ks as->aj Ha Hb->pU H Hb ln ks as:=λla g=>⟨la.same.trans g,g _ _ la.at_,la.len,λc hc=>by obtain⟨us,e,z,n⟩:=la.lst c hc;exact⟨us,g _ _ e,z,n⟩,la.nd⟩;refine iI (λσ H6=>∃ks as,pU H H6 ln ks as/\(∀z,z∈ks↔fH b a z)/\∃o3 o4 o5 o6:Option V,σ=[some (.ref l.h),some (.str a),some (.ref ln),o3,o4,o5,o6]) (λoN fP=>?_) ?_
 ·refine Fp (Vf H b a l.h ln) (wC ln 100) ⟨[a],[a],[ll],nw,none,none,none,G9 Vk g2,hnw,Vm,λ_ h=>h,λk hk no=>absurd hk no,λk hk=>by rw[Yn.mp hk];exact .refl,Yh,by show 1<=64;omega,rfl⟩ ?_ ?_
  ·rintro σ H6 ⟨ks,ns,as,nw,o4,o5,o6,la,hn,nn,sub,cl,sd,Vn,r6,rfl⟩;have kf:ks.length<=64:=Y3 (E8 ok la.nd λk hk=>yJ ok ma (sd k hk)) im;refine⟨_,rfl,_,.inl ⟨_,ak.of hn,rfl⟩,?_⟩;refine bI (λc=>?_) (λc=>?_)
   ·have ZgN:ns≠[]:=λz=>by rw[z] at c;cases c
    have mu0:wC ln 100 [some (.ref l.h),some (.str a),some (.ref ln),some (.ref nw),o4,o5,o6] H6=2*(100-ks.length)+1:=by
     unfold wC;have kl:(h_ ks as).length=ks.length:=by unfold h_;rw[Ya,Jd];have:=la.len;omega
     have g3:List.getD (α:=Option V) [some (.ref l.h),some (.str a),some (.ref ln),some (.ref nw),o4,o5,o6] 3 none=some (.ref nw):=rfl;rw[la.at_,g3];dsimp only;rw[hn,kl];cases ns with
     |nil=>exact absurd rfl ZgN
     |cons x r=>rfl
    refine bX ?_;refine⟨by show 0<=sizeLine;exact Yv _,λfu H7 uR g7 hfu=>?_⟩;have xt:=G9 la g7;have fln:fu≠ln:=λz=>by rw[z,la.at_] at uR;cases uR
    have fnw:fu≠nw:=λz=>by rw[z,hn] at uR;cases uR
    refine iI (KD H b a l.h ln nw fu ks ns ns.length) (λKA qj=>?_) ?_
    ·refine⟨_,rfl,nw,rfl,⟨_,ak.of (g7 _ _ hn)⟩,jq (K:=K) (a:=nw) (xs:=ns.map V.str) (KD H b a l.h ln nw fu ks ns) ⟨ks,[],as,o5,o6,xt,g7 _ _ hn,hfu,⟨nn,fln,fnw⟩,(λz=>by obtain⟨us,e,_⟩:=la.lst _ z;rw[uR] at e;cases e),by rw[We],λk hk=>(by rw[List.take_zero] at hk;cases hk),sd,rfl⟩ (λj σ H8 _ ⟨_,_,_,_,_,_,h,_,_,_,_,_,_,_⟩=>ak.of h) ?_ ?_⟩
     ·rintro j v σ H8 hj ⟨eF,fs,AK,p5,p6,qp,Vo,jj,xJ,Vp,ek,iC,AL,rfl⟩;rw[Yf] at hj;obtain⟨one,e1,rfl⟩:∃one,ns[j]?=some one/\V.str one=v:=by
       cases z:ns[j]? with
       |none=>rw[z] at hj;cases hj
       |some o=>rw[z] at hj;exact⟨o,rfl,Yo hj⟩
      have KG:ns.take (j+1)=ns.take j++[one]:=by rw[Y2,e1];rfl
      have Zhj:one∈eF:=by rw[ek];exact Yt _ (sub _ (Yg e1))
      have Vq:=ba.same qp.same;obtain⟨KH,h8⟩:=Vq.obj;obtain⟨pe,pin,Kg⟩:=MN ok one;refine bp ?_;refine⟨_,rfl,l.h,KH,_,rfl,h8,rfl,_,rfl,l,b,xs,ys,one,rfl,Vq,λpl H9 xK g9 df=>?_⟩;rw[pe] at df;have pln:pl≠ln:=λz=>by rw[z,qp.at_] at xK;cases xK
      have plf:pl≠fu:=λz=>by rw[z,jj] at xK;cases xK
      refine⟨pl,rfl,⟨_,ak.of df⟩,jq (K:=K) (a:=pl) (xs:=(fK b one).map V.str) (Vg H b a l.h ln nw fu ks ns j one pl) ⟨eF,fs,AK,p6,G9 qp g9,g9 _ _ Vo,g9 _ _ jj,df,⟨xJ.1,xJ.2.1,xJ.2.2,pln,plf⟩,Vp,ek,iC,λp hp=>(by rw[List.take_zero] at hp;cases hp),AL,rfl⟩ (λi σ HA _ ⟨_,_,_,_,_,_,_,h,_,_,_,_,_,_,_⟩=>ak.of h) ?_ ?_⟩
      ·rintro i v σ HA hi ⟨jk,xM,AM,q6,fS,AN,m9,KI,jR,xN,uS,AO,xO,uT,rfl⟩;rw[Yf] at hi;obtain⟨par,e2,rfl⟩:∃par,(fK b one)[i]?=some par/\V.str par=v:=by
        cases z:(fK b one)[i]? with
        |none=>rw[z] at hi;cases hi
        |some o=>rw[z] at hi;exact⟨o,rfl,Yo hi⟩
       have mp:=Yg e2;have Vr:(fK b one).take (i+1)=(fK b one).take i++[par]:=by rw[Y2,e2];rfl
       have Tr:one∈jk:=by rw[uS];exact Yt _ (sub _ (Yg e1))
       have kf9:jk.length<=64:=Y3 (E8 ok fS.nd λk hk=>yJ ok ma (uT k hk)) im;refine bp ?_;by_cases rU:par∈jk
       ·obtain⟨ap,_,vp⟩:=Ge fS.len rU;refine⟨_,rfl,_,rfl,ln,some (.ref ap),rfl,di fS.at_ vp,_,rfl,cj (aZ ?_)⟩;refine⟨jk,xM,AM,_,fS,AN,m9,KI,jR,xN,uS,AO,λp hp=>?_,uT,rfl⟩;rw[Vr] at hp;rcases Yu.mp hp with hp|hp;·exact xO p hp
        ·rw[Yn.mp hp];exact rU
       ·obtain⟨ao,mao,vo⟩:=Ge fS.len Tr;obtain⟨us,KJ,ul,aon⟩:=fS.lst ao mao;refine⟨_,rfl,_,rfl,ln,none,rfl,di fS.at_ (FI fS.len rU),_,rfl,c6 ?_⟩;refine⟨_,rfl,_,rfl,ln,.ref ao,rfl,di fS.at_ vo,_,rfl,by show 1<=sizeLine;omega,λe1l HB neb gB heB=>?_⟩;refine⟨ao,e1l,us,_,rfl,rfl,gB _ _ KJ,heB,by show us.length+1<=sizeLine;omega,λnl HC KL gC hnl=>?_⟩;have Vs:=gB.trans gC;refine⟨_,rfl,_,rfl,ln,_,.inr par,rfl,Vs _ _ fS.at_,rfl,?_,λHD bD eD=>?_⟩;·unfold h_;rw[Ya,Jd];omega
        rw[kq _ (FI fS.len rU),OG par nl fS.len] at eD;have Ts:nl≠ln:=λz=>by rw[z,gB _ _ fS.at_] at KL;cases KL
        have kD:∀{c:Addr} {o:HO},HA c=some o->c≠ln->HD c=some o:=λ{c o} e n=>bD _ _ (Vs _ _ e) n;have Vu:HA nl=none:=gB.free KL;refine⟨_,rfl,.inl ⟨rfl,_,ak.of (kD m9 jR.2.1)⟩,_,rfl,fu,_,_,rfl,rfl,kD m9 jR.2.1,?_,λHE bE eE=>?_⟩
        ·rw[Ya];have:xM.length<=jk.length:=by rw[uS,Yj];omega
         omega
        have kE:∀{c:Addr} {o:HO},HA c=some o->c≠ln->c≠fu->HE c=some o:=λ{c o} e n1 n2=>bE _ _ (kD e n1) n2;have Tt:nl≠fu:=λz=>by rw[z,m9] at Vu;cases Vu
        refine⟨jk++[par],xM++[par],AM++[nl],_,⟨λc o e=>?_,bE _ _ eD (λz=>jR.2.1 z.symm),by rw[Yj,Yj,fS.len];rfl,λc hc=>?_,?_⟩,kE AN jR.1 (λz=>jR.2.2.1 z.symm),?_,kE KI jR.2.2.2.1 jR.2.2.2.2,jR,(λz=>by rcases Yu.mp z with z|z;exact xN z;exact Tt (Yn.mp z).symm),by rw[uS,Jk],λk hk p hp=>Yt _ (AO k hk p hp),λp hp=>?_,λk hk=>?_,rfl⟩
        ·have nc:=ck e Vh;have ncf:c≠fu:=ck e ((la.same.free uR));exact kE (fS.same _ _ e) nc ncf
        ·rcases Yu.mp hc with hc|hc
         ·obtain⟨us',e',z',n'⟩:=fS.lst c hc;have cf:c≠fu:=λz=>xN (by rw[←z];exact hc);exact⟨us',kE e' n' cf,by rw[Yj];omega,n'⟩
         ·rw[Yn.mp hc];exact⟨us++[.str par],bE _ _ (bD _ _ hnl Ts) Tt,by rw[Yj,Yj];show us.length+1<=jk.length+1;omega,Ts⟩
        ·refine Wv.mpr ⟨fS.nd,by simp,λu hu v hv z=>?_⟩;have:v=par:=by simpa using hv
         exact rU (by rw[←this,←z];exact hu)
        ·rw[eE,Yp];rfl
        ·rw[Vr] at hp;rcases Yu.mp hp with hp|hp;·exact Yt _ (xO p hp)
         ·rw[Yn.mp hp];exact Yq _ Yh
        ·rcases Yu.mp hk with hk|hk;·exact uT k hk
         ·rw[Yn.mp hk];exact .step (uT one Tr) mp
      ·rintro σ HA ⟨jk,xM,AM,q6,fS,AN,m9,KI,jR,xN,uS,AO,xO,uT,rfl⟩;rw[Ya,Wd] at xO;refine⟨jk,xM,AM,_,_,fS,AN,m9,⟨jR.1,jR.2.1,jR.2.2.1⟩,xN,uS,λk hk=>?_,uT,rfl⟩;rw[KG] at hk;rcases Yu.mp hk with hk|hk;·exact AO k hk
       ·rw[Yn.mp hk];exact xO
     ·rintro σ H8 h8;rw[Ya] at h8;exact qj _ _ h8
    ·rintro σ H8 ⟨eF,fs,AK,p5,p6,qp,Vo,jj,xJ,Vp,ek,iC,AL,rfl⟩;rw[Wd] at iC;refine⟨_,rfl,?_⟩;have kf8:eF.length<=64:=Y3 (E8 ok qp.nd λk hk=>yJ ok ma (AL k hk)) im;have Vv:eF.length=ks.length+fs.length:=by rw[ek,Yj]
     refine⟨⟨eF,fs,AK,fu,_,_,_,qp,jj,xJ.2.1,λk hk=>by rw[ek];exact Yq _ hk,λk hk no p hp=>?_,AL,by rw[ek];exact Yt _ Vn,by omega,rfl⟩,?_⟩
     ·rw[ek] at hk;rcases Yu.mp hk with hk|hk
      ·by_cases z:k∈ns;·exact iC k z p hp
       ·rw[ek];exact Yt _ (cl k hk z p hp)
      ·exact absurd hk no
     ·rw[mu0];show wC ln 100 [some (.ref l.h),some (.str a),some (.ref ln),some (.ref fu),some (.ref fu),p5,p6] H8<_;unfold wC;have kl:(h_ eF AK).length=eF.length:=by unfold h_;rw[Ya,Jd];have:=qp.len;omega
      have g3:List.getD (α:=Option V) [some (.ref l.h),some (.str a),some (.ref ln),some (.ref fu),some (.ref fu),p5,p6] 3 none=some (.ref fu):=rfl;rw[qp.at_,g3];dsimp only;rw[jj,kl];cases fs with
      |nil=>
       show 2*(100-eF.length)+0<_;have:eF.length=ks.length+0:=Vv;omega
      |cons x r=>
       show 2*(100-eF.length)+1<_;have:eF.length=ks.length+(r.length+1):=Vv;omega
   ·have nse:ns=[]:=by
     cases ns with
     |nil=>rfl
     |cons x r=>exact absurd rfl c
    subst nse;refine fP _ _ ⟨ks,as,la,λz=>⟨λh=>sd z h,λh=>?_⟩,_,_,_,_,rfl⟩;induction h with
    |refl=>exact Vn
    |step _ m ih=>exact cl _ ih (λz=>nomatch z) _ m
  ·rintro σ H6 Q1 Q2 mo ⟨v1,w1,v2,w2,h⟩;exact⟨v1,w1,v2,w2,mo _ _ h⟩
 ·rintro σ H6 ⟨ks,as,la,iff,o3,o4,o5,o6,rfl⟩;exact⟨_,rfl,q ln ks as H6 la iff⟩
end
def e_(ps:bO)(i:Nat):Str:=(ps.getD i ("","")).2
theorem nP(nd:(ps.map (·.1)).Nodup)(hi:i<ps.length):aS (fQ ps) (.inr (av ps i))=some (.str (e_ ps i)):=by
 have kn:((fQ ps).map (·.1)).Nodup:=by
  grind
 refine PD kn (Ye.mpr ⟨ps[i],Jo hi,?_⟩);unfold av e_
 grind
def kF(k h t:Str):Bool:=if k="mother" then decide (t="woman") else if k="father" then decide (t="man") else decide (k="sibling")||(decide (h="man")&&decide (t="woman"))
inductive OI(vs:List V)(H:Hp)(Q:VK):Prop
 |mk (k h t:Str) (aE:vs=[.str k,.str h,.str t]) (q:Q (.bl (kF k h t)) H):OI vs H Q
def PZ:Sp:=λvs H Q _=>OI vs H Q
structure Rp(b:BS)(k a:Str)(o:Str):Prop where
 par:cI k=true->[.inr k,.inr a]∉(cz b.ps b.fs).map (·.1)
 aJ:cI k=false->keyOf k a (.inr o)∉b.keys/\¬(k="sibling"/\a=o)
inductive P0(C CL CJ:Addr)(vs:List V)(H:Hp)(Q:VK):Prop
 |mk (l:BL) (b:BS) (xs ys:List Int) (k a o:Str) (aE:vs=[.ref l.h,.str k,.str a,.str o]) (ba:bG H C CL CJ l xs ys b) (un:Rp b k a o) (q:∀H',aj H H'->Q (.bl false) H'):P0 C CL CJ vs H Q
def Rq(C CL CJ:Addr):Sp:=λvs H Q _=>P0 C CL CJ vs H Q
inductive NB(C CL CJ:Addr)(vs:List V)(H:Hp)(Q:VK):Prop
 |mk (l:BL) (b:BS) (xs ys:List Int) (ch pa:Str) (aE:vs=[.ref l.h,.str ch,.str pa]) (ba:bG H C CL CJ l xs ys b) (ok:cG xs ys b) (mp:pa∈b.ps.map (·.1)) (no:¬fH b pa ch) (q:∀H',aj H H'->Q .aB H'):NB C CL CJ vs H Q
def OJ(C CL CJ:Addr):Sp:=λvs H Q _=>NB C CL CJ vs H Q
structure G_(xs ys:List Int)(b:BS)(c:Fc):Prop where
 nf:zR xs ys b c
 ns:c.k≠bh
 c8:kF c.k (e_ b.ps c.one) (e_ b.ps c.aJ.toNat)=true
 un:Rp b c.k (av b.ps c.one) (av b.ps c.aJ.toNat)
 el:cI c.k=true->¬fH b (av b.ps c.aJ.toNat) (av b.ps c.one)
inductive NC(C CL CJ:Addr)(vs:List V)(H:Hp)(Q:VK):Prop
 |mk (l:BL) (b:BS) (xs ys:List Int) (c:Fc) (aE:vs=[.ref l.h,.str c.k,.str (av b.ps c.one),.str (av b.ps c.aJ.toNat)]) (ba:bG H C CL CJ l xs ys b) (ok:cG xs ys b) (to:G_ xs ys b c) (q:∀H',aj H H'->Q .aB H'):NC C CL CJ vs H Q
def OK(C CL CJ:Addr):Sp:=λvs H Q _=>NC C CL CJ vs H Q
inductive P1(C CL CJ:Addr)(vs:List V)(H:Hp)(Q:VK):Prop
 |mk (l:BL) (b:BS) (xs ys:List Int) (c:Fc) (aE:vs=[.ref l.h,.str c.k,.str (av b.ps c.one),.str (av b.ps c.aJ.toNat)]) (ba:bG H C CL CJ l xs ys b) (ok:cG xs ys b) (to:G_ xs ys b c) (dl:b.dn.length<200) (q:∀(l':BL) (H':Hp),cy H H' l l'->bG H' C CL CJ l' xs ys (b.uc c)->Q (.int (b.co:Int)) H'):P1 C CL CJ vs H Q
def Rr(C CL CJ:Addr):Sp:=λvs H Q _=>P1 C CL CJ vs H Q
structure Hi(xs ys:List Int)(b:BS)(c:Fc):Prop where
 nf:zR xs ys b c
 sk:c.k=bh
inductive ND(C CL CJ:Addr)(vs:List V)(H:Hp)(Q:VK):Prop
 |mk (l:BL) (b:BS) (xs ys:List Int) (c:Fc) (aE:vs=[.ref l.h,.str (av b.ps c.one),.int c.aJ]) (ba:bG H C CL CJ l xs ys b) (ok:cG xs ys b) (so:Hi xs ys b c) (q:∀H',aj H H'->Q .aB H'):ND C CL CJ vs H Q
def OL(C CL CJ:Addr):Sp:=λvs H Q _=>ND C CL CJ vs H Q
inductive MO(C CL CJ:Addr)(vs:List V)(H:Hp)(Q:VK):Prop
 |mk (l:BL) (b:BS) (xs ys:List Int) (i:Int) (aE:vs=[.ref l.h,.int i]) (ba:bG H C CL CJ l xs ys b) (hi:0<=i/\i<(xs.length:Int)) (q:∀H',aj H H'->Q .aB H'):MO C CL CJ vs H Q
def NF(C CL CJ:Addr):Sp:=λvs H Q _=>MO C CL CJ vs H Q
inductive P2(C CL CJ:Addr)(vs:List V)(H:Hp)(Q:VK):Prop
 |mk (l:BL) (b:BS) (xs ys:List Int) (c:Fc) (aE:vs=[.ref l.h,.str (av b.ps c.one),.int c.aJ]) (ba:bG H C CL CJ l xs ys b) (ok:cG xs ys b) (so:Hi xs ys b c) (dl:b.dn.length<200) (q:∀(l':BL) (H':Hp),cy H H' l l'->bG H' C CL CJ l' xs ys (b.uc c)->Q (.int (b.co:Int)) H'):P2 C CL CJ vs H Q
def GP(C CL CJ:Addr):Sp:=λvs H Q _=>P2 C CL CJ vs H Q
theorem dO(x y:Str):decide (V.str x=V.str y)=decide (x=y):=by
 grind
section
variable {dy:Addr}
theorem YG:aU ["kind","here","there"] ["kind","here","there"] (aM DH):=⟨rfl,rfl,rfl,by decide+kernel,rfl,by decide+kernel,by decide+kernel⟩
theorem YH(F:aN K "sides_fit" "sides_fit" DH f fd)(rB:mg "MAN"=some (.str "man" t1))(qR:mg "WOMAN"=some (.str "woman" t2))(nK:mg "SIBLING"=some (.str "sibling" t3)):aK P w K mg base aP 1 f fd ["kind","here","there"] PZ:=by
 refine F.ok YG (λvs H Q E h=>?_) (λaF A outer s H vs Q E hr h=>?_)
 ·obtain⟨k,h,t,rfl,_⟩:=h;rfl
 obtain⟨k,h,t,rfl,q⟩:=h;refine⟨_,(au (aR (bb cg (pv 0) bc (aQ _)) (aw (aH (dw cg (pv 2) (dv (v:=.str "woman") rfl qR ⟨_,rfl⟩) (aQ _)))) a_) (au (aR (bb cg (pv 0) bc (aQ _)) (aw (aH (dw cg (pv 2) (dv (v:=.str "man") rfl rB ⟨_,rfl⟩) (aQ _)))) a_) (aw (aH (zu (dw cg (pv 0) (dv (v:=.str "sibling") rfl nK ⟨_,rfl⟩) (aQ _)) (kB (nT (dw cg (pv 1) (dv (v:=.str "man") rfl rB ⟨_,rfl⟩) (aQ _)) (kB (dw cg (pv 2) (dv (v:=.str "woman") rfl qR ⟨_,rfl⟩) (aQ _)))))))))),?_⟩;unfold kF at q;refine⟨_,rfl,rfl,_,rfl,?_⟩;rw[dO];refine bI (λcc=>?_) (λcc=>aZ ?_)
 ·rw[if_pos (of_decide_eq_true cc)] at q;refine⟨_,rfl,rfl,?_⟩;rw[dO];exact q
 ·rw[if_neg (λz=>cc (decide_eq_true z))] at q;refine⟨_,rfl,rfl,_,rfl,?_⟩;rw[dO];refine bI (λc2=>?_) (λc2=>aZ ?_)
  ·rw[if_pos (of_decide_eq_true c2)] at q;refine⟨_,rfl,rfl,?_⟩;rw[dO];exact q
  ·rw[if_neg (λz=>c2 (decide_eq_true z))] at q;refine⟨_,rfl,rfl,_,rfl,?_⟩;rw[dO];refine bI (λc3=>?_) (λc3=>?_);·grind
   ·have e3:decide (k="sibling")=false:=by
     cases e:decide (k="sibling") with
     |true=>grind
     |false=>rfl
    rw[e3,J1] at q;refine⟨_,rfl,rfl,_,rfl,?_⟩;rw[dO];refine bI (λc4=>?_) (λc4=>?_)
    ·rw[c4,Ju] at q;refine⟨_,rfl,rfl,?_⟩;rw[dO];exact q
    ·grind
theorem Xf:aU ["hearth","kind","one","other"] ["hearth","kind","one","other"] (aM B_):=⟨rfl,rfl,rfl,by decide+kernel,rfl,by decide+kernel,by decide+kernel⟩
theorem Zdz(F:aN K "told_already" "told_already" B_ f fd)(nK:mg "SIBLING"=some (.str "sibling" t1))(iF:mg "PARENTS"=some (.ref dy))(qP:∀H,aA K H dy (ij.map V.str))(Bk:cD P w K mg base 1 "parent_of" C ["self","kind","name"] (MK C CL CJ))(nB:cD P w K mg base 2 "has" C ["self","kind","one","other"] (zE C CL CJ)):aK P w K mg base aP 3 f fd ["hearth","kind","one","other"] (Rq C CL CJ):=by
 refine F.ok Xf (λvs H Q E h=>?_) (λaF A outer s H vs Q E hr h=>?_)
 ·obtain⟨l,b,xs,ys,k,a,o,rfl,_⟩:=h;rfl
 obtain⟨l,b,xs,ys,k,a,o,rfl,ba,un,q⟩:=h;refine⟨_,(au (aR (bb (lT (K:=K) rfl) (pv 1) (dv (v:=.ref dy) rfl iF rfl) (by with_unfolding_all rfl)) (aw (aH (dw yL (cO Bk hr (by omega) (pv 0) (ae (pv 1) (ae (pv 2) ag))) lu (aQ _)))) a_) (aw (aH (zu (cO nB hr (by omega) (pv 0) (ae (pv 1) (ae (pv 2) (ae (pv 3) ag)))) (kB (nT (dw cg (pv 1) (dv (v:=.str "sibling") rfl nK ⟨_,rfl⟩) (aQ _)) (kB (dw cg (pv 2) (pv 3) (aQ _))))))))),?_⟩;obtain⟨dx,h1⟩:=ba.obj;refine⟨_,rfl,dy,_,rfl,.inr (qP _),rfl,rfl,_,rfl,?_⟩;try dsimp only
 rw[if_neg Yi,show eX (.str k) (ij.map V.str)=cI k from y9 k];refine bI (λcc=>?_) (λcc=>aZ ?_)
 ·refine⟨_,rfl,l.h,dx,_,rfl,h1,rfl,_,rfl,_,rfl,l,b,xs,ys,k,a,rfl,ba,λH1 g1=>?_⟩;rw[qF (un.par cc)];exact⟨rfl,q H1 g1⟩
 ·have np:cI k=false:=by
   cases e:cI k with
   |true=>exact absurd e cc
   |false=>rfl
  obtain⟨u1,u2⟩:=un.aJ np;refine⟨_,rfl,l.h,dx,_,rfl,h1,rfl,_,rfl,_,rfl,_,rfl,l,b,xs,ys,k,a,.inr o,rfl,ba,λ_=>⟨o,rfl⟩,λH1 g1=>⟨_,rfl,?_⟩⟩;have e:b.told (keyOf k a (.inr o))=false:=by
   cases e:b.told (keyOf k a (.inr o)) with
   |true=>exact absurd ((Ou _ _).mp e) u1
   |false=>rfl
  rw[e];refine cj ?_;refine⟨_,rfl,rfl,_,rfl,?_⟩;rw[dO];refine bI (λc3=>?_) (λc3=>?_)
  ·refine⟨_,rfl,_,rfl,rfl,?_⟩;rw[dO,decide_eq_false (λz=>u2 ⟨of_decide_eq_true c3,z⟩)];exact q H1 g1
  ·exact q H1 g1
theorem LY:aU ["hearth","child","parent","lines"] ["hearth","child","parent"] (aM Ca):=⟨rfl,rfl,rfl,by decide+kernel,rfl,by decide+kernel,by decide+kernel⟩
theorem Xg(F:aN K "check_elders" "check_elders" Ca f fd)(Es:HasFn P w K mg base 2 "lines_up" ["hearth","name"] (PY C CL CJ)):aK P w K mg base aP 4 f fd ["hearth","child","parent"] (OJ C CL CJ):=by
 refine F.ok LY (λvs H Q E h=>?_) (λaF A outer s H vs Q E hr h=>?_)
 ·obtain⟨l,b,xs,ys,ch,pa,rfl,_⟩:=h;rfl
 obtain⟨l,b,xs,ys,ch,pa,rfl,ba,ok,mp,no,q⟩:=h;refine⟨_,(au (bq (i:=3) LY.nd rfl (Or.inl rfl) (aY Es hr (by omega) rfl (ae (pv 0) (ae (pv 2) ag)))) (aw (aR (kA (zg (bH hr) (pv 1) (pv 3)) (by with_unfolding_all rfl)) fI a_))),?_⟩;refine⟨_,rfl,_,rfl,l,b,xs,ys,pa,rfl,ba,ok,mp,λp ks as H1 la iff=>bp ?_⟩;have nk:ch∉ks:=λz=>no ((iff ch).mp z);exact⟨_,rfl,_,rfl,p,none,rfl,di la.at_ (FI la.len nk),_,rfl,cj (aZ (q H1 la.same))⟩
theorem YI:aU ["hearth","kind","one","other"] ["hearth","kind","one","other"] (aM DG):=⟨rfl,rfl,rfl,by decide+kernel,rfl,by decide+kernel,by decide+kernel⟩
theorem YJ(F:aN K "check_tie" "check_tie" DG f fd)(iF:mg "PARENTS"=some (.ref dy))(qP:∀H,aA K H dy (ij.map V.str))(tM:HasFn P w K mg base 1 "is_tie" ["kind"] F9)(DY:HasFn P w K mg base 1 "sides_fit" ["kind","here","there"] PZ)(qB:cD P w K mg base 1 "side_of" C ["self","name"] (FG C CL CJ))(Cm:HasFn P w K mg base 3 "told_already" ["hearth","kind","one","other"] (Rq C CL CJ))(Cn:HasFn P w K mg base 4 "check_elders" ["hearth","child","parent"] (OJ C CL CJ)):aK P w K mg base aP 6 f fd ["hearth","kind","one","other"] (OK C CL CJ):=by
 refine F.ok YI (λvs H Q E h=>?_) (λaF A outer s H vs Q E hr h=>?_)
 ·obtain⟨l,b,xs,ys,c,rfl,_⟩:=h;rfl
 obtain⟨l,b,xs,ys,c,rfl,ba,ok,to,q⟩:=h;refine⟨_,(au (aR (iY (eK (aY tM hr (by omega) rfl (ae (pv 1) ag)))) fI a_) (au (aR (iY (eK (aY DY hr (by omega) rfl (ae (pv 1) (ae (cO qB hr (by omega) (pv 0) (ae (pv 2) ag)) (ae (cO qB hr (by omega) (pv 0) (ae (pv 3) ag)) ag)))))) fI a_) (au (aR (eK (aY Cm hr (by omega) rfl (ae (pv 0) (ae (pv 1) (ae (pv 2) (ae (pv 3) ag)))))) fI a_) (aw (aR (bb (lT (K:=K) rfl) (pv 1) (dv (v:=.ref dy) rfl iF rfl) (by with_unfolding_all rfl)) (aw (cA (aY Cn hr (by omega) rfl (ae (pv 0) (ae (pv 2) (ae (pv 3) ag)))))) a_))))),?_⟩;obtain⟨dx,h1⟩:=ba.obj;obtain⟨r,dr,hs⟩:=Dg (to.nf.fg.ub to.ns);have ht:mS pT c.k=true:=by unfold mS;rw[dr];rfl
 have om:=(to.nf.fg.ok.gu to.ns).1.2;refine⟨_,rfl,c.k,rfl,_,rfl,?_⟩;rw[ht];refine⟨_,rfl,_,rfl,l.h,dx,_,rfl,h1,rfl,_,rfl,l,b,xs,ys,_,_,rfl,ba,nP ok.nm to.nf.fg.ok.one,⟨_,rfl,l.h,dx,_,rfl,h1,rfl,_,rfl,l,b,xs,ys,_,_,rfl,ba,nP ok.nm om,⟨c.k,_,_,rfl,_,rfl,?_⟩⟩⟩;rw[to.c8];refine⟨_,rfl,_,rfl,_,rfl,_,rfl,l,b,xs,ys,c.k,_,_,rfl,ba,to.un,λH1 g1=>⟨_,rfl,cj (aZ ⟨_,rfl,dy,_,rfl,.inr (qP _),rfl,rfl,_,rfl,?_⟩)⟩⟩;rw[if_neg Yi,show eX (.str c.k) (ij.map V.str)=cI c.k from y9 c.k];refine bI (λcc=>⟨_,rfl,_,rfl,_,rfl,l,b,xs,ys,_,_,rfl,ba.same g1,ok,Ga om,to.el cc,λH2 g2=>q H2 (g1.trans g2)⟩) (λcc=>aZ (q H1 g1))
theorem WW:aU ["hearth","section"] ["hearth","section"] (aM BK):=⟨rfl,rfl,rfl,by decide+kernel,rfl,by decide+kernel,by decide+kernel⟩
theorem WX(F:aN K "check_section" "check_section" BK f fd)(hc:fC K C)(lc:ua K CL)(bl:Bl mg):aK P w K mg base aP 1 f fd ["hearth","section"] (NF C CL CJ):=by
 refine F.ok WW (λvs H Q E h=>?_) (λaF A outer s H vs Q E hr h=>?_)
 ·obtain⟨l,b,xs,ys,i,rfl,_⟩:=h;rfl
 obtain⟨l,b,xs,ys,i,rfl,ba,hi,q⟩:=h;refine⟨_,(aw (aR (bb X5 (pv 1) (eI C4 rfl bl.jt tJ (ae (aV (K:=K) rfl (aV (K:=K) rfl (pv 0) rfl) rfl) ag)) (by with_unfolding_all rfl)) fI a_)),?_⟩;obtain⟨dx,h1⟩:=ba.obj;obtain⟨dL,dS,mo,jQ,wi,im,jf,iw,JM,hL,_⟩:=ba.landAt;refine⟨_,rfl,_,rfl,l.h,C,dx,_,_,rfl,h1,hc.cls,hc.tY,rfl,l.L,CL,dL,_,_,rfl,hL,lc.cls,lc.qW,rfl,_,rfl,λp H1 np g1 hp=>?_⟩;refine⟨_,_,_,p,rfl,rfl,hp,_,rfl,?_⟩;rw[if_pos rfl,decide_eq_true hi];exact cj (aZ (q H1 g1))
theorem Xh:aU ["hearth","name","section"] ["hearth","name","section"] (aM Cb):=⟨rfl,rfl,rfl,by decide+kernel,rfl,by decide+kernel,by decide+kernel⟩
theorem Xi(F:aN K "check_saying" "check_saying" Cb f fd)(kC:mg "SAID"=some (.str "said" t1))(qB:cD P w K mg base 1 "side_of" C ["self","name"] (FG C CL CJ))(BX:HasFn P w K mg base 1 "check_section" ["hearth","section"] (NF C CL CJ))(nB:cD P w K mg base 2 "has" C ["self","kind","one","other"] (zE C CL CJ)):aK P w K mg base aP 3 f fd ["hearth","name","section"] (OL C CL CJ):=by
 refine F.ok Xh (λvs H Q E h=>?_) (λaF A outer s H vs Q E hr h=>?_)
 ·obtain⟨l,b,xs,ys,c,rfl,_⟩:=h;rfl
 obtain⟨l,b,xs,ys,c,rfl,ba,ok,so,q⟩:=h;refine⟨_,(au (cA (cO qB hr (by omega) (pv 0) (ae (pv 1) ag))) (au (cA (aY BX hr (by omega) rfl (ae (pv 0) (ae (pv 2) ag)))) (aw (aR (eK (cO nB hr (by omega) (pv 0) (ae (dv (v:=.str "said") rfl kC ⟨_,rfl⟩) (ae (pv 1) (ae (pv 2) ag))))) fI a_)))),?_⟩;obtain⟨dx,h1⟩:=ba.obj;refine⟨_,rfl,l.h,dx,_,rfl,h1,rfl,_,rfl,l,b,xs,ys,_,_,rfl,ba,nP ok.nm so.nf.fg.ok.one,⟨_,rfl,_,rfl,l,b,xs,ys,c.aJ,rfl,ba,so.nf.fg.Iw so.sk,λH1 g1=>⟨_,rfl,l.h,dx,_,rfl,g1 _ _ h1,rfl,_,rfl,_,rfl,l,b,xs,ys,"said",av b.ps c.one,.inl c.aJ,rfl,ba.same g1,(λz=>absurd z (by decide+kernel)),λH2 g2=>⟨_,rfl,?_⟩⟩⟩⟩;have ek:keyOf "said" (av b.ps c.one) (.inl c.aJ)=eZ b.ps c:=by
  unfold eZ;rw[ko so.sk,so.sk]
 have e:b.told (keyOf "said" (av b.ps c.one) (.inl c.aJ))=false:=by
  cases e:b.told (keyOf "said" (av b.ps c.one) (.inl c.aJ)) with
  |true=>exact absurd ((Ou _ _).mp e) (by rw[ek];exact so.nf.nk)
  |false=>rfl
 rw[e];exact cj (aZ (q H2 (g1.trans g2)))
theorem XS:aU ["self","kind","one","other"] ["self","kind","one","other"] (aM C_):=⟨rfl,rfl,rfl,by decide+kernel,rfl,by decide+kernel,by decide+kernel⟩
theorem ZdA(F:aN K "tie" "Hearth.tie" C_ f fd)(hc:fC K C)(DZ:HasFn P w K mg base 6 "check_tie" ["hearth","kind","one","other"] (OK C CL CJ))(sN:cD P w K mg base 11 "keep" C ["self","fact"] (GO C CL CJ)):aK P w K mg base aP 12 f fd ["self","kind","one","other"] (Rr C CL CJ):=by
 refine F.ok XS (λvs H Q E h=>?_) (λaF A outer s H vs Q E hr h=>?_)
 ·obtain⟨l,b,xs,ys,c,rfl,_⟩:=h;rfl
 obtain⟨l,b,xs,ys,c,rfl,ba,ok,to,dl,q⟩:=h;refine⟨_,(au (cA (aY DZ hr (by omega) rfl (ae (pv 0) (ae (pv 1) (ae (pv 2) (ae (pv 3) ag)))))) (aw (aH (cO sN hr (by omega) (pv 0) (ae (cK (ae (aV (K:=K) rfl (pv 0) rfl) (ae (pv 1) (ae (pv 2) (ae (pv 3) ag))))) ag))))),?_⟩;refine⟨_,rfl,_,rfl,_,rfl,_,rfl,l,b,xs,ys,c,rfl,ba,ok,to,λH1 g1=>?_⟩;have cQ:=ba.same g1;obtain⟨dx,h1⟩:=cQ.obj;refine⟨_,rfl,l.h,dx,_,rfl,h1,rfl,_,rfl,l.h,C,dx,_,_,rfl,h1,hc.cls,hc.pE,rfl,_,rfl,_,rfl,_,rfl,by show 4<=sizeLine;decide,λr H2 nr g2 hR=>?_⟩;have hf:cW H2 b.ps r (b.co,c):=by
  show H2 r=some (.tup ((dC b.ps b.co c).map kV));unfold dC;rw[gO to.ns];exact hR
 refine⟨l,b,xs,ys,r,c,rfl,cQ.same g2,ok,hf,to.nf,dl,λl' H3 wt hZ=>q l' H3 (cy.after (g1.trans g2) wt) hZ⟩
theorem XT:aU ["self","name","section"] ["self","name","section"] (aM Dc):=⟨rfl,rfl,rfl,by decide+kernel,rfl,by decide+kernel,by decide+kernel⟩
theorem ZdB(F:aN K "say" "Hearth.say" Dc f fd)(hc:fC K C)(kC:mg "SAID"=some (.str "said" t1))(Co:HasFn P w K mg base 3 "check_saying" ["hearth","name","section"] (OL C CL CJ))(sN:cD P w K mg base 11 "keep" C ["self","fact"] (GO C CL CJ)):aK P w K mg base aP 12 f fd ["self","name","section"] (GP C CL CJ):=by
 refine F.ok XT (λvs H Q E h=>?_) (λaF A outer s H vs Q E hr h=>?_)
 ·obtain⟨l,b,xs,ys,c,rfl,_⟩:=h;rfl
 obtain⟨l,b,xs,ys,c,rfl,ba,ok,so,dl,q⟩:=h;refine⟨_,(au (cA (aY Co hr (by omega) rfl (ae (pv 0) (ae (pv 1) (ae (pv 2) ag))))) (aw (aH (cO sN hr (by omega) (pv 0) (ae (cK (ae (aV (K:=K) rfl (pv 0) rfl) (ae (dv (v:=.str "said") rfl kC ⟨_,rfl⟩) (ae (pv 1) (ae (pv 2) ag))))) ag))))),?_⟩;refine⟨_,rfl,_,rfl,_,rfl,l,b,xs,ys,c,rfl,ba,ok,so,λH1 g1=>?_⟩;have cQ:=ba.same g1;obtain⟨dx,h1⟩:=cQ.obj;refine⟨_,rfl,l.h,dx,_,rfl,h1,rfl,_,rfl,l.h,C,dx,_,_,rfl,h1,hc.cls,hc.pE,rfl,_,rfl,_,rfl,by show 4<=sizeLine;decide,λr H2 nr g2 hR=>?_⟩;have hf:cW H2 b.ps r (b.co,c):=by
  show H2 r=some (.tup ((dC b.ps b.co c).map kV));unfold dC;rw[ko so.sk,so.sk];exact hR
 refine⟨l,b,xs,ys,r,c,rfl,cQ.same g2,ok,hf,so.nf,dl,λl' H3 wt hZ=>q l' H3 (cy.after (g1.trans g2) wt) hZ⟩
end
def m_(n:Nat)(d:Int):List Int:=(List.range n).map λi:Nat=>((i:Int)+d) % (n:Int)
theorem rot_length(n:Nat)(d:Int):(m_ n d).length=n:=by simp[m_]
theorem Zcs(hn:0<n)(d:Int):(m_ n d).Perm (bF n):=by
 have uu:(0:Int)<(n:Int):=by omega
 have r0:=Jc d (I0 uu);have r1:=Wz d uu;obtain⟨r,er⟩:∃r:Nat,d % (n:Int)=(r:Int):=⟨(d % (n:Int)).toNat,by omega⟩;have rn:r<n:=by omega
 have e:m_ n d=(bF n).drop r++(bF n).take r:=by
  refine Wj λi=>?_;have ul:=eG n;by_cases hi:i<n
  ·have lhs:(m_ n d)[i]?=some (((i:Int)+d) % (n:Int)):=by
    unfold m_;rw[Yf,J5 hi];rfl
   have em:((i:Int)+d) % (n:Int)=((r:Int)+(i:Int)) % (n:Int):=by
    rw[Int.add_comm,←Int.emod_add_emod,er]
   rw[lhs,em];by_cases h:r+i<n;·rw[Wb (by rw[Jp,ul];omega),List.getElem?_drop,kZ (by omega),Int.emod_eq_of_lt (by omega) (by omega),Int.natCast_add]
   ·rw[Jl (by rw[Jp,ul];omega),Jp,ul,List.getElem?_take_of_lt (by omega),kZ (by omega)];have e3:(r:Int)+(i:Int)=((i-(n-r):Nat):Int)+(n:Int)*1:=by omega
    rw[e3,Int.add_mul_emod_self_left,Int.emod_eq_of_lt (by omega) (by omega)]
  ·rw[Y4 (by rw[rot_length];omega),Y4 (by rw[Yj,Jp,Y8,ul];omega)]
 rw[e];exact List.perm_append_comm.trans (by rw[List.take_append_drop])
inductive P4(vs:List V)(H:Hp)(Q:VK):Prop
 |mk (c:Int) (n:Nat) (aE:vs=[.int c,.int (n:Int)]) (aT:0<n) (bw:n<=60) (bP:∀(t:Addr) (ts:List Int) (H':Hp),H t=none->aj H H'->bW H' t ts->ts.Perm (bF n)->Q (.ref t) H'):P4 vs H Q
def Sj:Sp:=λvs H Q _=>P4 vs H Q
inductive P5(K:PySem.W.Frag)(vs:List V)(H:Hp)(Q:VK):Prop
 |mk (a b:Addr) (xs ys:List Int) (aE:vs=[.ref a,.ref b]) (aT:aA K H a (xs.map V.int)) (bw:aA K H b (ys.map V.int)) (bP:(∀x∈xs,0<=x/\x<ys.length)) (cN:xs.length<=60) (dR:∀(l:Addr) (H':Hp),H l=none->aj H H'->bW H' l (bL ys xs)->Q (.ref l) H'):P5 K vs H Q
def Sk(K:PySem.W.Frag):Sp:=λvs H Q _=>P5 K vs H Q
theorem ZdC(h:Paired Bd ds [a,b]):∃v w,ds=[v,w]/\Bd v a/\Bd w b:=by
 cases h with|cons h1 h=>cases h with|cons h2 h=>
  cases h;exact⟨_,_,rfl,h1,h2⟩
section
theorem MP:aU ["_law_cell_here","_law_size","_law_drawn"] ["_law_cell_here","_law_size"] (aM EZ):=⟨rfl,rfl,rfl,by decide+kernel,rfl,by decide+kernel,by decide+kernel⟩
theorem Zap(F:aN K "_law_row" "_law_row" EZ f fd)(nC:HasFn P w K mg base 1 "_law_draws" ["_law_cell_here","_law_parts"] (yQ K))(Et:HasFn P w K mg base 1 "_law_turn" ["_law_code","_law_size"] QM)(bl:Bl mg):
  aK P w K mg base aP 2 f fd ["_law_cell_here","_law_size"] Sj:=by
 refine F.ok MP (λvs H Q E h=>?_) (λaF A outer s H vs Q E hr h=>?_)
 ·obtain⟨c,n,rfl,_⟩:=h;rfl
 obtain⟨c,n,rfl,n0,n60,q⟩:=h;refine⟨_,(au (bq (i:=2) MP.nd rfl (Or.inr rfl) (aY nC hr (by omega) rfl (ae (pv 0) (ae (vP (ae aG (ae aG ag))) ag)))) (au (aR (bb cg (aX (bQ (K:=K) rfl) (pv 2) aG (λ_ _=>rfl)) aG (aQ _)) (aw (aH (eI (sL) rfl bl.mn mf (ae (iH (x:="_law_at") (fr:=[("_law_size",1),("_law_drawn",2)]) (cl:=[("_law_size",s.heap.objs.size+1),("_law_drawn",s.heap.objs.size+1+1)]) rfl ⟨by with_unfolding_all rfl,⟨rfl,⟨rfl,trivial⟩⟩,rfl,by decide+kernel,rfl,by decide+kernel,rfl,⟨⟨rfl,.inl rfl,.inl rfl,rfl⟩,⟨⟨rfl,.inl rfl,.inl rfl,rfl⟩,trivial⟩⟩,by decide+kernel⟩ (pj rfl bl.jt (ae (pv 1) ag)) (λ_ _ _ _=>ku) (λ_ _ _ _=>(a8 dJ (a8 fX (pv 0) (aX (bQ (K:=K) rfl) (pv 2) aG (λ_ _=>rfl))) (pv 1)))) ag)))) a_) (aw (aH (aY Et hr (by omega) rfl (ae (aX (bQ (K:=K) rfl) (pv 2) aG (λ_ _=>rfl)) (ae (pv 1) ag))))))),?_⟩;refine⟨_,rfl,by show 2<=sizeLine;decide,λp np=>?_⟩;refine⟨c,p,[3,40320],rfl,ak.of aW,by decide,by decide,λdl ds H1 nd g1 h1 bd=>?_⟩;obtain⟨d0,d1,rfl,⟨a0,a0'⟩,⟨a1,a1'⟩⟩:=ZdC bd;have g:=(cq np _).trans g1;have pos:(0:Int)<(n:Int):=by omega
 refine⟨_,rfl,dl,_,0,.int d0,rfl,rfl,ak.of h1,rfl,rfl,_,rfl,bI (λ_=>?_) (λ_=>aZ ?_)⟩
 ·refine⟨_,rfl,(n:Int),rfl,by omega,by omega,λD hD=>vw (lo:=0) (n:=(n:Int).toNat) (λi zs H2=>aj H1 H2/\H2 D=some (.lst zs)/\zs=((m_ n d1).take i).map V.int) ⟨cq hD _,aW,rfl⟩ ?_ ?_⟩
  ·rintro i zs H2 hi ⟨g2,h2,e2⟩;rw[Y6] at hi;rw[J7];refine jB (c6 ⟨_,rfl,_,rfl,dl,_,1,.int d1,rfl,rfl,ak.of (g2 _ _ h1),rfl,_,_,rfl,rfl,_,rfl,_,_,rfl,rfl,pos,h2,?_,λd o qd=>?_,aW,?_⟩)
   ·rw[e2,Ya,Y8,rot_length];exact jo (by omega)
   ·rw[bg (ck qd hD)];exact g2 d o qd
   ·have ge:(m_ n d1)[i]?=some (((i:Int)+d1) % (n:Int)):=by
     unfold m_;rw[Yf,J5 hi];rfl
    rw[e2,Y2,EO,ge];rfl
  ·rintro zs H2 ⟨g2,h2,e2⟩;rw[Y6,Wt (by rw[rot_length];omega)] at e2;refine⟨D,_,rfl,.inl ⟨ak.of h2,λt ht=>q t (m_ n d1) _ (g.free (g2.free ht)) ((g.trans g2).trans (cq ht _)) ?_ (Zcs n0 d1)⟩⟩;show upd H2 t (.tup zs) t=_;rw[aW,e2]
 ·exact⟨_,rfl,dl,_,1,.int d1,rfl,rfl,ak.of h1,rfl,_,rfl,d1,n,rfl,n60,λt ts H2 nt g2 ht pm=>q t ts H2 (g.free nt) (g.trans g2) ht pm⟩
theorem YK:aU ["_law_first","_law_then"] ["_law_first","_law_then"] (aM DJ):=⟨rfl,rfl,rfl,by decide+kernel,rfl,by decide+kernel,by decide+kernel⟩
theorem YL(F:aN K "_law_after" "_law_after" DJ f fd)(bl:Bl mg):aK P w K mg base aP 1 f fd ["_law_first","_law_then"] (Sk K):=by
 refine F.ok YK (λvs H Q E h=>?_) (λaF A outer s H vs Q E hr h=>?_)
 ·obtain⟨a,b,xs,ys,rfl,_⟩:=h;rfl
 obtain⟨a,b,xs,ys,rfl,hA,hB,qc,hl,q⟩:=h;refine⟨_,(aw (aH (eI (sL) rfl bl.mn mf (ae (iH (x:="_law_one") (fr:=[("_law_then",1)]) (cl:=[("_law_then",s.heap.objs.size+1)]) rfl ⟨by with_unfolding_all rfl,⟨rfl,trivial⟩,rfl,by decide+kernel,rfl,by decide+kernel,rfl,⟨⟨rfl,.inl rfl,.inl rfl,rfl⟩,trivial⟩,by decide+kernel⟩ (Gu (pv 0)) (λ_ _ _ _=>ku) (λ_ _ _ _=>(aX (fU (K:=K) rfl) (pv 1) (pv 0) (λ_ _=>rfl)))) ag)))),?_⟩;refine⟨_,rfl,a,rfl,⟨_,hA⟩,λD hD=>yC (xs:=xs.map V.int) (λi zs H3=>aj H H3/\H3 D=some (.lst zs)/\zs=((bL ys xs).take i).map V.int) ⟨cq hD _,aW,rfl⟩ (λi zs H3 _ ⟨g3,_,_⟩=>g3.iR hA) ?_ ?_⟩
 ·rintro i v zs H3 hi ⟨g3,h3,e3⟩;obtain⟨z,rfl,hz⟩:=mj hi;have dH:i<xs.length:=(Yl.mp hz).1;have bz:=qc z (Yg hz);refine jB (c6 ⟨_,rfl,_,rfl,b,_,_,_,rfl,rfl,g3.iR hB,mC bz.1 bz.2,h3,?_,λd o qd=>?_,aW,?_⟩)
  ·rw[e3,Ya,Y8,qI];exact jo (by omega)
  ·rw[bg (ck qd hD)];exact g3 d o qd
  ·rw[e3,Y2,EO];unfold bL;rw[Yf,hz];rfl
 ·rintro zs H3 ⟨g3,h3,e3⟩;refine⟨D,_,rfl,.inl ⟨ak.of h3,λt ht=>q t _ (g3.free ht) (g3.trans (cq ht _)) ?_⟩⟩;show upd H3 t (.tup zs) t=_;rw[aW,e3,Ya,Wt (by rw[qI];omega)]
end
inductive P6(vs:List V)(H:Hp)(Q:VK):Prop
 |mk (a:Addr) (xs:List Int) (aE:vs=[.ref a]) (aT:bW H a xs) (bw:xs.length<64) (bP:full xs=true) (cN:∀(t:Addr) (H':Hp),H t=none->aj H H'->bW H' t (inv xs)->Q (.ref t) H'):P6 vs H Q
def Hj:Sp:=λvs H Q _=>P6 vs H Q
section
theorem Xx:aU ["_law_turn_here"] ["_law_turn_here"] (aM CD):=⟨rfl,rfl,rfl,by decide+kernel,rfl,by decide+kernel,by decide+kernel⟩
theorem Zaq(F:aN K "_law_inverse" "_law_inverse" CD f fd)(bl:Bl mg):aK P w K mg base aP 1 f fd ["_law_turn_here"] Hj:=by
 refine F.ok Xx (λvs H Q E h=>?_) (λaF A outer s H vs Q E hr h=>?_)
 ·obtain⟨a,xs,rfl,_⟩:=h;rfl
 obtain⟨a,xs,rfl,hA,lx,fx,q⟩:=h;refine⟨_,(aw (aH (eI (sL) rfl bl.mn mf (ae (iH (x:="_law_at") (fr:=[("_law_turn_here",0)]) (cl:=[("_law_turn_here",s.heap.objs.size+1)]) rfl ⟨by with_unfolding_all rfl,⟨rfl,trivial⟩,rfl,by decide+kernel,rfl,by decide+kernel,rfl,⟨⟨rfl,.inl rfl,.inl rfl,rfl⟩,trivial⟩,by decide+kernel⟩ (pj rfl bl.jt (ae (bM (c9 (K:=K) rfl) rfl bl.cX cV (ae (pv 0) ag)) ag)) (λ_ _ _ _=>ku) (λ_ _ _ _=>(L_ (pv 1) (ae (pv 0) ag)))) ag)))),?_⟩;have el:(xs.map V.int).length=xs.length:=Ya _;refine⟨_,rfl,a,_,rfl,.inr (aA.of hA),_,rfl,by rw[el];omega,by rw[el];omega,λD hD=>vw (lo:=0) (n:=(((xs.map V.int).length:Nat):Int).toNat)
   (λi zs H2=>aj H H2/\H2 D=some (.lst zs)/\zs=((inv xs).take i).map V.int) ⟨cq hD _,aW,rfl⟩ ?_ ?_⟩
 ·rintro i zs H2 hi ⟨g2,h2,e2⟩;rw[Y6,el] at hi;rw[J7];have hx:=yF (N7 fx hi);have xn:=g2 _ _ hA;refine jB (c6 ⟨_,rfl,a,xs,rfl,xn,_,rfl,(i:Int),jC (i:Int) xs,rfl,xn,hx.1,hx.2,h2,?_,λd o qd=>?_,aW,?_⟩)
  ·rw[e2,Ya,Y8,fq];exact jo (by omega)
  ·rw[bg (ck qd hD)];exact g2 d o qd
  ·rw[e2,N8 hi,Yp];rfl
 ·rintro zs H2 ⟨g2,h2,e2⟩;refine⟨D,_,rfl,.inl ⟨ak.of h2,λt ht=>q t _ (g2.free ht) (g2.trans (cq ht _)) ?_⟩⟩;show upd H2 t (.tup zs) t=_;rw[aW,e2,Y6,el,Wt (by rw[fq];omega)]
end
structure iQ(H0 H:Hp)(ps:bO)(d:Addr)(b:Nat)(kvs:List (Key×V))(L:Nat->List (Nat×List Int)):Prop where
 dict:H d=some (.dK kvs)
 len:kvs.length<=b
 new:H0 d=none
 at_:∀x:Nat,x<ps.length->(aS kvs (.inr (av ps x))=none/\L x=[])\/∃(a:Addr) (es:List Addr),aS kvs (.inr (av ps x))=some (.ref a)/\H0 a=none/\H a=some (.lst (es.map V.ref))/\(L x).length<=b/\Paired (λe (p:Nat×List Int)=>∃u,H e=some (.tup [.str (av ps p.1),.ref u])/\bW H u p.2) es (L x)
 inj:∀(x y:Nat) (a:Addr),x<ps.length->y<ps.length->aS kvs (.inr (av ps x))=some (.ref a)->aS kvs (.inr (av ps y))=some (.ref a)->x=y
theorem vM(nd:(ps.map (·.1)).Nodup)(hi:i<ps.length)(hj:j<ps.length)(e:av ps i=av ps j):i=j:=by
 have h1:=tS nd hi;rw[e,tS nd hj] at h1
 grind
theorem iQ.same(g:aj H H')(h:iQ H0 H ps d b kvs L):iQ H0 H' ps d b kvs L:=by
 refine⟨g _ _ h.dict,h.len,h.new,λx hx=>?_,h.inj⟩;rcases h.at_ x hx with z|⟨a,es,h1,h2,h3,h4,h5⟩;·exact .inl z
 ·exact .inr ⟨a,es,h1,h2,g _ _ h3,h4,L2.Paired.bu h5 λ_ _ ⟨u,e1,e2⟩=>⟨u,g _ _ e1,g _ _ e2⟩⟩
theorem iQ.app(h:iQ H0 H ps d b kvs L)(hx:x<ps.length)(hv:aS kvs (.inr (av ps x))=some (.ref a))(ha:H a=some (.lst ys))(he:H e=some (.tup [.str (av ps y),.ref u]))(hu:bW H u t)(br:az a H H')(qg:H' a=some (.lst (ys++[.ref e]))):iQ H0 H' ps d (b+1) kvs (rK L x (y,t)):=by
 have nt:∀{c:Addr} {xs:List V},H c=some (.tup xs)->c≠a:=λ{c xs} hc=>dP hc ha (λz=>by cases z);refine⟨br _ _ h.dict (dP h.dict ha (λz=>by cases z)),by have:=h.len;omega,h.new,λz hz=>?_,h.inj⟩;have en:∀{es:List Addr} {qs:List (Nat×List Int)},Paired (λe (p:Nat×List Int)=>∃u,H e=some (.tup [.str (av ps p.1),.ref u])/\bW H u p.2) es qs->Paired (λe (p:Nat×List Int)=>∃u,H' e=some (.tup [.str (av ps p.1),.ref u])/\bW H' u p.2) es qs:=λ{es qs} hp=>L2.Paired.bu hp λ_ _ ⟨u,e1,e2⟩=>⟨u,br _ _ e1 (nt e1),br _ _ e2 (nt e2)⟩;by_cases ez:z=x
 ·subst ez;rcases h.at_ z hz with⟨z1,_⟩|⟨a1,es,h1,h2,h3,h4,h5⟩;·grind
  ·obtain rfl:a1=a:=V.ref.inj (Yo (h1.symm.trans hv));rw[h3] at ha;obtain rfl:es.map V.ref=ys:=by injection ha with ha;injection ha
   refine .inr ⟨a1,es++[e],h1,h2,by rw[qg,Yp];rfl,?_,?_⟩;·unfold rK;rw[if_pos rfl,Yj];show(L z).length+1<=b+1;omega
   ·unfold rK;rw[if_pos rfl];exact iX (F:=λe (p:Nat×List Int)=>∃u,H' e=some (.tup [.str (av ps p.1),.ref u])/\bW H' u p.2) ⟨u,br _ _ he (nt he),br _ _ (show H u=some (.tup (t.map V.int)) from hu) (nt (show H u=some (.tup (t.map V.int)) from hu))⟩ (en h5)
 ·unfold rK;rw[if_neg ez];rcases h.at_ z hz with z1|⟨a1,es,h1,h2,h3,h4,h5⟩;·exact .inl z1
  ·refine .inr ⟨a1,es,h1,h2,br _ _ h3 (λq=>ez (h.inj z x a hz hx (by rw[←q];exact h1) hv)),by omega,en h5⟩
theorem iQ.neu(hb:iQ H0 Hb ps d b kvs L)(nd:(ps.map (·.1)).Nodup)(hx:x<ps.length)(g:aj Hb H)(np:Hb p=none)(AQ:H0 p=none)(hv:aS kvs (.inr (av ps x))=none)(hp:H p=some (.lst []))(br:az d H H')(zX:H' d=some (.dK (kvs++[(.inr (av ps x),.ref p)]))):iQ H0 H' ps d (b+1) (kvs++[(.inr (av ps x),.ref p)]) L:=by
 have h:=hb.same g;have nt:∀{c:Addr} {xs:List V},H c=some (.tup xs)->c≠d:=λ{c xs} hc=>dP hc h.dict (λz=>by cases z);have nl:∀{c:Addr} {xs:List V},H c=some (.lst xs)->c≠d:=λ{c xs} hc=>dP hc h.dict (λz=>by cases z);refine⟨zX,by rw[Yj];have:=h.len;show kvs.length+1<=b+1;omega,h.new,λz hz=>?_,λz1 z2 a l1 l2 e1 e2=>?_⟩
 ·rw[s_ hv];by_cases ez:z=x
  ·rw[if_pos (by rw[ez])];rcases h.at_ z hz with⟨_,z2⟩|⟨a1,es,h1,_⟩;·exact .inr ⟨p,[],rfl,AQ,br _ _ hp (nl hp),by rw[z2];exact Yv _,by rw[z2];exact .nil⟩
   ·rw[ez,hv] at h1;cases h1
  ·rw[if_neg (λq=>ez (vM nd hz hx (Wc q)))];rcases h.at_ z hz with z1|⟨a1,es,h1,h2,h3,h4,h5⟩;·exact .inl z1
   ·exact .inr ⟨a1,es,h1,h2,br _ _ h3 (nl h3),by omega,L2.Paired.bu h5 λ_ _ ⟨u,e1,e2⟩=>⟨u,br _ _ e1 (nt e1),br _ _ e2 (nt e2)⟩⟩
 ·have old:∀{z:Nat},z<ps.length->aS kvs (.inr (av ps z))=some (.ref p)->False:=λ{z} hz e=>by
   rcases hb.at_ z hz with⟨z1,_⟩|⟨a1,es,h1,h2,h3,_⟩;·rw[z1] at e;cases e
   ·rw[e] at h1;obtain rfl:p=a1:=V.ref.inj (Yo h1);rw[np] at h3;cases h3
  rw[s_ hv] at e1 e2;by_cases q1:z1=x
  ·by_cases q2:z2=x;·rw[q1,q2]
   ·rw[if_pos (by rw[q1])] at e1;rw[if_neg (λq=>q2 (vM nd l2 hx (Wc q))),←e1] at e2;exact absurd e2 (old l2)
  ·rw[if_neg (λq=>q1 (vM nd l1 hx (Wc q)))] at e1;by_cases q2:z2=x
   ·rw[if_pos (by rw[q2])] at e2;rw[←e2] at e1;exact absurd e1 (old l1)
   ·rw[if_neg (λq=>q2 (vM nd l2 hx (Wc q)))] at e2;exact h.inj _ _ a l1 l2 e1 e2
theorem NG(h2:∀H Q,Q (.ref d) H->eW 2 σ H Q)(nd:(ps.map (·.1)).Nodup)(AR:x<ps.length)(hi:∀H Q,Q (.str (av ps x)) H->eW i σ H Q)(hk:∀H Q,Q (.str (av ps y)) H->eW k σ H Q)(h:iQ H0 H ps d b kvs L)(g:aj H0 H)(lb:b<1000)
  (hx:∀(H1:Hp) (Q1:VK),aj H0 H1->(∀(u:Addr) (H2:Hp),aj H1 H2->bW H2 u t->Q1 (.ref u) H2)->tx σ H1 Q1)(q:∀(v:V) (ZgO:List (Key×V)) (H':Hp),aj H0 H'->iQ H0 H' ps d (b+2) ZgO (rK L x (y,t))->Q v H'):wR K "list" NW (Fs (eW 2) (eW i) (R6 i4)) (fY (t_ (fY (eW k) (fY tx i4))) i4) σ H Q:=by
 have sz:(10000:Nat)<=sizeLine:=by rw[sizeLine_eq];omega
 have ln:=h.len;unfold wR Fs;refine h2 _ _ ⟨d,rfl,.inl ⟨_,.inl h.dict⟩,hi _ _ ⟨by show 0<=sizeLine;exact Yv _,λp H1 np g1 hp=>⟨kvs,.inr (av ps x),g1 _ _ h.dict,rfl,by omega,λv hv=>?_,λhv H2 b2 e2=>?_⟩⟩⟩
 ·rcases h.at_ x AR with⟨z1,_⟩|⟨a,es,h3,h4,h5,h6,h7⟩;·grind
  obtain rfl:v=.ref a:=Yo (hv.symm.trans h3);have pl:=cR h7;refine⟨.inl ⟨rfl,_,ak.of (g1 _ _ h5)⟩,?_⟩;unfold fY t_;refine hk _ _ (hx _ _ (g.trans g1) λu H2 g2 hu=>⟨by show 2<=sizeLine;omega,λe H3 ne g3 he=>?_⟩);have eY:=(g1.trans g2).trans g3;refine⟨a,_,_,rfl,rfl,eY _ _ h5,by rw[Ya];omega,λH4 b4 e4=>?_⟩;have nn:=(h.same eY).app AR h3 (eY _ _ h5) he (g3 _ _ hu) b4 e4;exact q _ _ H4 (λc o e=>b4 _ _ (eY _ _ (g _ _ e)) (ck e h4)) ⟨nn.dict,by have:=nn.len;omega,nn.new,λz hz=>by
   rcases nn.at_ z hz with w|⟨a,es,w1,w2,w3,w4,w5⟩;·exact .inl w
   ·exact .inr ⟨a,es,w1,w2,w3,by omega,w5⟩,nn.inj⟩
 ·have AQ:=g.free np;have dG:=b2 _ _ hp (dP hp (g1 _ _ h.dict) (λz=>by cases z));have gg:aj H0 H2:=λc o e=>b2 _ _ (g1 _ _ (g _ _ e)) (ck e h.new);refine⟨.inl ⟨rfl,_,ak.of dG⟩,?_⟩;unfold fY t_;refine hk _ _ (hx _ _ gg λu H3 g3 hu=>⟨by show 2<=sizeLine;omega,λe H4 ne g4 he=>?_⟩);have AS:=g3.trans g4;refine⟨p,_,_,rfl,rfl,AS _ _ dG,by show 0<sizeLine;omega,λH5 b5 e5=>?_⟩;have vx:aS (kvs++[(Sum.inr (av ps x),V.ref p)]) (.inr (av ps x))=some (.ref p):=by rw[s_ hv,if_pos rfl]
  exact q _ _ H5 (λc o e=>b5 _ _ (AS _ _ (gg _ _ e)) (ck e AQ)) (((h.neu nd AR g1 np AQ hv hp b2 e2).same AS).app AR vx (AS _ _ dG) he (g4 _ _ hu) b5 e5)
def KN(H:Hp)(ps:bO)(a:Addr)(c:Fc):Prop:=∃z:Int,H a=some (.tup [.int z,.str c.k,.str (av ps c.one),kV (a9 ps c)])
def FL(H:Hp)(ps:bO)(fa:Addr)(F:List Fc):Prop:=∃as:List Addr,H fa=some (.lst (as.map V.ref))/\Paired (KN H ps) as F
abbrev tZ(m f w s:Addr):List (Key×V):=[(.inr "mother",.ref m),(.inr "father",.ref f),(.inr "wed",.ref w),(.inr "sibling",.ref s)]
def gw(H:Hp)(td:Addr)(xs ys:List Int):Prop:=∃m f w s:Addr,H td=some (.dK (tZ m f w s))/\bW H m (inv xs)/\bW H f (inv (bL xs ys))/\bW H w ys/\bW H s (bF xs.length)
theorem FL.same(g:aj H H')(h:FL H ps fa F):FL H' ps fa F:=by
 obtain⟨as,h1,h2⟩:=h;exact⟨as,g _ _ h1,L2.Paired.bu h2 λ_ _ ⟨z,e⟩=>⟨z,g _ _ e⟩⟩
theorem gw.same(g:aj H H')(h:gw H td xs ys):gw H' td xs ys:=by
 obtain⟨m,f,w,s,h1,h2,h3,h4,h5⟩:=h;exact⟨m,f,w,s,g _ _ h1,g _ _ h2,g _ _ h3,g _ _ h4,g _ _ h5⟩
theorem gw.get(h:gw H td xs ys)(m:(k,tn)∈pO xs ys):∃kvs u,H td=some (.dK kvs)/\aS kvs (.inr k)=some (.ref u)/\bW H u tn:=by
 obtain⟨a,b,c,d,h1,h2,h3,h4,h5⟩:=h;simp only[Ym,Y0,or_false] at m;rcases m with⟨rfl,rfl⟩|⟨rfl,rfl⟩|⟨rfl,rfl⟩|⟨rfl,rfl⟩;·exact⟨_,a,h1,rfl,h2⟩
 ·exact⟨_,b,h1,rfl,h3⟩
 ·exact⟨_,c,h1,rfl,h4⟩
 ·exact⟨_,d,h1,rfl,h5⟩
inductive P7(vs:List V)(H:Hp)(Q:VK):Prop
 |mk (fa td:Addr) (ps:bO) (xs ys:List Int) (F:List Fc) (aE:vs=[.ref fa,.ref td]) (aT:FL H ps fa F) (ht:gw H td xs ys) (nd:(ps.map (·.1)).Nodup) (bw:∀c∈F,d_ xs ys ps.length c) (bP:xs.length<=8) (cN:F.length<=64) (dR:∀(d:Addr) (kvs:List (Key×V)) (L:Nat->List (Nat×List Int)) (H':Hp),aj H H'->iQ H H' ps d 300 kvs L->(∀x y t,(y,t)∈L x↔fD F x y t)->Q (.ref d) H'):P7 vs H Q
def Rt:Sp:=λvs H Q _=>P7 vs H Q
section
theorem sV:aU ["_law_facts","_law_turns_here","_law_found","_law_number","_law_kind","_law_one","_law_other"] ["_law_facts","_law_turns_here"] (aM Ec):=⟨rfl,rfl,rfl,by decide+kernel,rfl,by decide+kernel,by decide+kernel⟩
theorem ZdD(F:aN K "_law_nets" "_law_nets" Ec f fd)(qD:HasFn P w K mg base 1 "_law_inverse" ["_law_turn_here"] Hj)(bl:Bl mg):aK P w K mg base aP 2 f fd ["_law_facts","_law_turns_here"] Rt:=by
 refine F.ok sV (λvs H Q E h=>?_) (λaF A outer s H vs Q E hr h=>?_)
 ·obtain⟨fa,td,ps,xs,ys,F,rfl,_⟩:=h;rfl
 obtain⟨fa,td,ps,xs,ys,F,rfl,jQ,ht,jS,fgA,n8,AU,q⟩:=h;refine⟨_,(au (bq (i:=2) sV.nd rfl (Or.inl rfl) qK) (au (fW PassesOwn.never rfl (eV (K:=K) rfl (pv 0)) (gT (K:=K) (n:=4) rfl rfl (bJ (bo (i:=3) sV.nd rfl (Or.inl rfl)) (bJ (bo (i:=4) sV.nd rfl (Or.inl rfl)) (bJ (bo (i:=5) sV.nd rfl (Or.inl rfl)) (bJ (bo (i:=6) sV.nd rfl (Or.inl rfl)) gP))))) (aw (aR (bb lE (pv 4) bc (aQ _)) (au (cA (mD (K:=K) rfl (jw plainAttrs_list PySem.F.slot_list_append PySem.F.type_list_append nF (MA (pv 2) (pv 5) (cZ ag) ⟨rfl,rfl,rfl,rfl⟩) (ae (cK (ae (pv 6) (ae (dh (bH hr) (pv 1) (pv 4) (λ_ _=>rfl)) ag))) ag)))) (aw (cA (mD (K:=K) rfl (jw plainAttrs_list PySem.F.slot_list_append PySem.F.type_list_append nF (MA (pv 2) (pv 6) (cZ ag) ⟨rfl,rfl,rfl,rfl⟩) (ae (cK (ae (pv 5) (ae (aY qD hr (by omega) rfl (ae (dh (bH hr) (pv 1) (pv 4) (λ_ _=>rfl)) ag)) ag))) ag)))))) a_))) (aw (aH (pv 2))))),?_⟩;refine bX ?_;refine λd H1 nd g1 hd=>?_;obtain⟨as,cY,du⟩:=id jQ;have al:=cR du;have sz:(10000:Nat)<=sizeLine:=by rw[sizeLine_eq];omega
 refine iI (λσ H6=>∃(kvs:List (Key×V)) (L:Nat->List (Nat×List Int)) (o1 o2 o3 o4:Option V),aj H H6/\iQ H H6 ps d 300 kvs L/\(∀x y t,(y,t)∈L x↔fD F x y t)/\σ=[some (.ref fa),some (.ref td),some (.ref d),o1,o2,o3,o4]) (λoN fP=>?_) ?_
 ·refine⟨_,rfl,fa,rfl,⟨_,ak.of (g1 _ _ cY)⟩,jq (K:=K) (a:=fa) (xs:=as.map V.ref) (λj σ H6=>∃(kvs:List (Key×V)) (L:Nat->List (Nat×List Int)) (o1 o2 o3 o4:Option V),aj H H6/\iQ H H6 ps d (4*j) kvs L/\(∀x y t,(y,t)∈L x↔fD (F.take j) x y t)/\σ=[some (.ref fa),some (.ref td),some (.ref d),o1,o2,o3,o4])
   ⟨[],λ_=>[],none,none,none,none,g1,⟨hd,Yd _,nd,λx _=>.inl ⟨rfl,rfl⟩,λ_ _ _ _ _ e=>(nomatch e)⟩,λx y t=>⟨λz=>(nomatch z),λz=>absurd z Zcf⟩,rfl⟩
   (λj σ H6 _ ⟨_,_,_,_,_,_,g,_⟩=>ak.of (g _ _ cY)) ?_ ?_⟩
  ·rintro j v σ H6 hj ⟨kvs,L,o1,o2,o3,o4,g,ne,ed,rfl⟩;rw[Yf] at hj;obtain⟨c0,ec,rfl⟩:∃c0,as[j]?=some c0/\V.ref c0=v:=by
    cases e:as[j]? with
    |none=>rw[e] at hj;cases hj
    |some c=>rw[e] at hj;exact⟨c,rfl,Yo hj⟩
   obtain⟨c,iy,z,hc⟩:=fk du ec;have mc:=Yg iy;have fg:=fgA c mc;have ok:=fg.ok;have jl:j<F.length:=(Yl.mp iy).1;have qr:F.take (j+1)=F.take j++[c]:=by rw[Y2,iy];rfl
   refine⟨c0,_,rfl,aA.of (g _ _ hc),rfl,_,_,rfl,bp ⟨_,_,rfl,bp ⟨_,_,rfl,bp ⟨_,_,rfl,bp ⟨rfl,?_⟩⟩⟩⟩⟩;have ev:∀b:Bool,decide (V.str c.k=V.str bh)=b->(b=true↔c.k=bh):=λb e=>by
    rw[←e,decide_eq_true_iff];exact⟨V.str.inj,λz=>by rw[z]⟩
   refine⟨_,rfl,rfl,_,rfl,?_⟩;refine bI (λcc=>?_) (λcc=>aZ ?_)
   ·have ns:c.k≠bh:=λz=>by
     rw[(ev _ rfl).mpr z] at cc;cases cc
    obtain⟨tk,u,fO,vu,hu⟩:=ht.get (fg.ub ns);obtain⟨⟨o0,om⟩,ft,tl⟩:=ok.gu ns;have eo:kV (a9 ps c)=.str (av ps c.aJ.toNat):=by rw[gO ns];rfl
    refine NG (ps:=ps) (x:=c.one) (y:=c.aJ.toNat) (t:=c.tn) (λ_ _ h=>⟨_,rfl,h⟩) jS ok.one (λ_ _ h=>⟨_,rfl,h⟩) (λ_ _ h=>⟨_,rfl,by rw[eo];exact h⟩) ne g (by omega) (λH2 Q2 g2 k2=>⟨_,rfl,_,rfl,td,.ref u,rfl,di (g2 _ _ fO) vu,k2 u H2 (aj.refl _) (g2 _ _ hu)⟩) λv2 ZhJ H2 g2 n2=>?_;refine NG (ps:=ps) (x:=c.aJ.toNat) (y:=c.one) (t:=inv c.tn) (λ_ _ h=>⟨_,rfl,h⟩) jS om (λ_ _ h=>⟨_,rfl,by rw[eo];exact h⟩) (λ_ _ h=>⟨_,rfl,h⟩) n2 g2 (by omega) (λH3 Q3 g3 k3=>⟨_,rfl,_,rfl,td,.ref u,rfl,di (g3 _ _ fO) vu,u,c.tn,rfl,g3 _ _ hu,by omega,ft,λw H4 _ g4 hw=>k3 w H4 g4 hw⟩) λv3 ZgP H3 g3 n3=>?_;refine⟨ZgP,_,_,_,_,_,g3,n3,λx y t=>?_,rfl⟩;rw[qr,pC,Oj,Oj,ed]
    grind
   ·have sd:c.k=bh:=by
     by_cases z:c.k=bh;·exact z
     ·cases e:decide (V.str c.k=V.str bh) with
      |true=>exact absurd ((ev _ e).mp rfl) z
      |false=>rw[e] at cc;exact absurd rfl cc
    refine⟨kvs,L,_,_,_,_,g,⟨ne.dict,by have:=ne.len;omega,ne.new,λz hz=>?_,ne.inj⟩,λx y t=>?_,rfl⟩
    ·rcases ne.at_ z hz with w|⟨a,es,w1,w2,w3,w4,w5⟩;·exact .inl w
     ·exact .inr ⟨a,es,w1,w2,w3,by omega,w5⟩
    ·rw[qr,pC,ed];exact⟨.inl,λh=>h.elim id λz=>absurd sd z.1⟩
  ·rintro σ H6 ⟨kvs,L,o1,o2,o3,o4,g,ne,ed,rfl⟩;rw[Ya,al] at ne;rw[Ya,al,Wd] at ed;refine fP _ _ ⟨kvs,L,o1,o2,o3,o4,g,⟨ne.dict,by have:=ne.len;omega,ne.new,λz hz=>?_,ne.inj⟩,ed,rfl⟩;rcases ne.at_ z hz with w|⟨a,es,w1,w2,w3,w4,w5⟩;·exact .inl w
   ·exact .inr ⟨a,es,w1,w2,w3,by omega,w5⟩
 rintro σ H6 ⟨kvs,L,o1,o2,o3,o4,g,ne,ed,rfl⟩;exact⟨_,rfl,q d kvs L H6 g ne ed⟩
end
theorem Ru{t:List Int}{z:Int}(h0:0<=z)(h:z<t.length):dA (t.map V.int) z=some (.int (ap t z)):=mC h0 h
def gN(ps:bO)(g:List (Nat×Int)):List (Key×V):=g.map λp=>(.inr (av ps p.1),.int p.2)
def oU(ps:bO)(g:List (Nat×Int)):List V:=g.map λp=>.str (av ps p.1)
theorem Ze3(ps:bO)(g:List (Nat×Int)):(gN ps g).length=g.length:=Ya _
theorem P8(ps:bO)(g:List (Nat×Int)):(oU ps g).length=g.length:=Ya _
theorem pM(nd:(ps.map (·.1)).Nodup)(hk:k<ps.length):∀{g:List (Nat×Int)},(∀p∈g,p.1<ps.length)->aS (gN ps g) (.inr (av ps k))=(g.lookup k).map V.int
 |[],_=>rfl
 |p::g,lt=>by
  have e0:gN ps (p::g)=(Sum.inr (av ps p.1),V.int p.2)::gN ps g:=rfl;rw[e0,W0];by_cases e:k=p.1
  ·rw[beq_iff_eq.mpr e,fw (p:=((Sum.inr (av ps p.1):Key),V.int p.2)) (by rw[e])];rfl
  ·rw[beq_eq_false_iff_ne.mpr e,eU (p:=((Sum.inr (av ps p.1):Key),V.int p.2)) (λz=>e (vM nd hk (lt p Yh) (Wc (show(Sum.inr (av ps p.1):Key)=Sum.inr (av ps k) from z)).symm))];exact pM nd hk λq hq=>lt q (Yx _ hq)
theorem ZdE{ps:bO}{g:List (Nat×Int)}{r k:Nat}{v:Int}(h:g[r]?=some (k,v)):dA (oU ps g) (r:Int)=some (.str (av ps k)):=gQ (by unfold oU;rw[Yf,h];rfl)
def uU(ps:bO)(d fa fn bC:Addr)(x:Nat)(a:Int)(r:Nat)(o7 o8 o9 qt qu qv qw:Option V):St:=[some (.ref d),some (.ref fa),some (.str (av ps x)),some (.int a),some (.ref fn),some (.ref bC),some (.int (r:Int)),o7,o8,o9,qt,qu,qv,qw]
def muC(m:Nat):St->Hp->Nat:=λσ _=>match List.getD (α:=Option V) σ 6 none with|some (V.int z)=>m+1-z.toNat|_=>0
inductive Sl(H:Hp)(F:List Fc)(L:Nat->List (Nat×List Int))(n:Nat)(ps:bO)(d fa fn bC:Addr)(x:Nat)(a:Int)(σ:St)(H6:Hp):Prop
 |mk (g:List (Nat×Int)) (r:Nat) (o7 o8 o9:Option V) (aE:aj H H6) (aT:H6 fn=some (.dK (gN ps g))) (bw:H6 bC=some (.lst (oU ps g))) (bP:BF F n ps.length x a g) (cN:r<=g.length) (dR:(∀r',r'<r->Cl L g r')) (hE:σ=uU ps d fa fn bC x a r o7 o8 o9 none none none none):Sl H F L n ps d fa fn bC x a σ H6
def ZgQ(H:Hp)(F:List Fc)(L:Nat->List (Nat×List Int))(n:Nat)(ps:bO)(d fa fn bC:Addr)(x:Nat)(a:Int)(σ:St)(H6:Hp):Prop:=Sl H F L n ps d fa fn bC x a σ H6
inductive Sm(H:Hp)(F:List Fc)(L:Nat->List (Nat×List Int))(n:Nat)(ps:bO)(d fa fn bC:Addr)(x:Nat)(a:Int)(σ:St)(H6:Hp):Prop
 |mk (g:List (Nat×Int)) (r:Nat) (o7 o8 o9:Option V) (aE:aj H H6) (aT:H6 fn=some (.dK (gN ps g))) (bw:BF F n ps.length x a g) (bP:(∀r',r'<g.length->Cl L g r')) (cN:σ=uU ps d fa fn bC x a r o7 o8 o9 none none none none):Sm H F L n ps d fa fn bC x a σ H6
def ZgR(H:Hp)(F:List Fc)(L:Nat->List (Nat×List Int))(n:Nat)(ps:bO)(d fa fn bC:Addr)(x:Nat)(a:Int)(σ:St)(H6:Hp):Prop:=Sm H F L n ps d fa fn bC x a σ H6
inductive Tu(H:Hp)(F:List Fc)(L:Nat->List (Nat×List Int))(n:Nat)(ps:bO)(d fa fn bC:Addr)(x:Nat)(a:Int)(r k:Nat)(v:Int)(g:List (Nat×Int))(al:Addr)(es:List Addr)(j:Nat)(σ:St)(H8:Hp):Prop
 |mk (g' tl:List (Nat×Int)) (o8 o9:Option V) (aE:aj H H8) (aT:H8 al=some (.lst (es.map V.ref))) (bw:H8 fn=some (.dK (gN ps g'))) (bP:H8 bC=some (.lst (oU ps g'))) (cN:BF F n ps.length x a g') (dR:g'=g++tl) (hE:(∀q∈(L k).take j,g'.lookup q.1=some (ap q.2 v))) (iS:σ=uU ps d fa fn bC x a r (some (.str (av ps k))) o8 o9 none none none none):Tu H F L n ps d fa fn bC x a r k v g al es j σ H8
def CIn(H:Hp)(F:List Fc)(L:Nat->List (Nat×List Int))(n:Nat)(ps:bO)(d fa fn bC:Addr)(x:Nat)(a:Int)(r k:Nat)(v:Int)(g:List (Nat×Int))(al:Addr)(es:List Addr)(j:Nat)(σ:St)(H8:Hp):Prop:=Tu H F L n ps d fa fn bC x a r k v g al es j σ H8
inductive Sn(H:Hp)(F:List Fc)(L:Nat->List (Nat×List Int))(n:Nat)(ps:bO)(d fa fn bC:Addr)(x:Nat)(a:Int)(r k:Nat)(v:Int)(g:List (Nat×Int))(σ:St)(H8:Hp):Prop
 |mk (g' tl:List (Nat×Int)) (o8 o9:Option V) (aE:aj H H8) (aT:H8 fn=some (.dK (gN ps g'))) (bw:H8 bC=some (.lst (oU ps g'))) (bP:BF F n ps.length x a g') (cN:g'=g++tl) (dR:(∀q∈L k,g'.lookup q.1=some (ap q.2 v))) (hE:σ=uU ps d fa fn bC x a r (some (.str (av ps k))) o8 o9 none none none none):Sn H F L n ps d fa fn bC x a r k v g σ H8
def ZgS(H:Hp)(F:List Fc)(L:Nat->List (Nat×List Int))(n:Nat)(ps:bO)(d fa fn bC:Addr)(x:Nat)(a:Int)(r k:Nat)(v:Int)(g:List (Nat×Int))(σ:St)(H8:Hp):Prop:=Sn H F L n ps d fa fn bC x a r k v g σ H8
inductive So(H:Hp)(F:List Fc)(n:Nat)(ps:bO)(d fa fn bC:Addr)(x:Nat)(a:Int)(r k y:Nat)(u:Addr)(g':List (Nat×Int))(al:Addr)(es:List Addr)(σ:St)(H9:Hp):Prop
 |mk (qx KO:List (Nat×Int)) (v':Int) (aE:aj H H9) (aT:H9 al=some (.lst (es.map V.ref))) (bw:H9 fn=some (.dK (gN ps qx))) (bP:H9 bC=some (.lst (oU ps qx))) (cN:BF F n ps.length x a qx) (dR:qx=g'++KO) (hE:qx.lookup y=some v') (iS:σ=uU ps d fa fn bC x a r (some (.str (av ps k))) (some (.str (av ps y))) (some (.ref u)) none none none none):So H F n ps d fa fn bC x a r k y u g' al es σ H9
def ZgT(H:Hp)(F:List Fc)(n:Nat)(ps:bO)(d fa fn bC:Addr)(x:Nat)(a:Int)(r k y:Nat)(u:Addr)(g':List (Nat×Int))(al:Addr)(es:List Addr)(σ:St)(H9:Hp):Prop:=So H F n ps d fa fn bC x a r k y u g' al es σ H9
def Sq(ps:bO)(F:List Fc)(H6:Hp)(d fa fn bC:Addr)(x:Nat)(a:Int)(r:Nat)(g:List (Nat×Int))(o7 o8 o9:Option V)(σ:St)(H8:Hp):Prop:=H8=H6/\(∀c∈F,c.k=bh->∀u,g.lookup c.one=some u->u=c.aJ)/\∃qt qu qv qw:Option V,σ=uU ps d fa fn bC x a r o7 o8 o9 qt qu qv qw
inductive MQ(vs:List V)(H:Hp)(Q:VK):Prop
 |mk (H0:Hp) (d fa:Addr) (kvs:List (Key×V)) (L:Nat->List (Nat×List Int)) (n:Nat) (ps:bO) (F:List Fc) (x:Nat) (a:Int) (aE:vs=[.ref d,.ref fa,.str (av ps x),.int a]) (nd:(ps.map (·.1)).Nodup) (aT:iQ H0 H ps d 300 kvs L) (bw:(∀x y t,(y,t)∈L x↔fD F x y t)) (bP:FL H ps fa F) (cN:(∀c∈F,dB n ps.length c)) (dR:n<=8) (hE:ps.length<=100) (iS:F.length<=64) (qa:x<ps.length) (w_:(0<=a/\a<(n:Int))) (Ir:((¬∃g,iZ n F g/\g x=some a)->∀H',aj H H'->Q .aB H')) (S9:∀(p:Addr) (g:List (Nat×Int)) (H':Hp),aj H H'->H' p=some (.dK (gN ps g))->BF F n ps.length x a g->iZ n F (λk=>g.lookup k)->Q (.ref p) H'):MQ vs H Q
def NH:Sp:=λvs H Q _=>MQ vs H Q
section
theorem kg:aU ["_law_nets_here","_law_facts","_law_name_here","_law_section","_law_found","_law_row_here","_law_at","_law_here","_law_that","_law_turn_here","_law_number","_law_kind","_law_one","_law_said"] ["_law_nets_here","_law_facts","_law_name_here","_law_section"] (aM CF):=⟨rfl,rfl,rfl,by decide+kernel,rfl,by decide+kernel,by decide+kernel⟩
theorem Zar(F:aN K "_law_carried" "_law_carried" CF f fd)(bl:Bl mg):aK P w K mg base aP 1 f fd ["_law_nets_here","_law_facts","_law_name_here","_law_section"] NH:=by
 refine F.ok kg (λvs H Q E h=>?_) (λaF A outer s H vs Q E hr h=>?_)
 ·obtain⟨H0,d,fa,kvs,L,n,ps,F,x,a,rfl,_⟩:=h;rfl
 obtain⟨H0,d,fa,kvs,L,n,ps,F,x,a,rfl,jS,zS,ed,jQ,hV,n8,Tv,AU,hx,ZgU,q1,q2⟩:=h;refine⟨_,(au (bq (i:=4) kg.nd rfl (Or.inl rfl) (yS (jr (pv 2) (pv 3) yR) rfl rfl (λz=>nomatch z) (Ji rfl))) (au (bq (i:=5) kg.nd rfl (Or.inl rfl) (cZ (ae (pv 2) ag))) (au (bq (i:=6) kg.nd rfl (Or.inl rfl) aG) (au (Fo PassesOwn.never (bb mH (pv 6) (bM (c9 (K:=K) rfl) rfl bl.cX cV (ae (pv 5) ag)) (aQ _)) (au (bq (i:=7) kg.nd rfl (Or.inl rfl) (aX (bQ (K:=K) rfl) (pv 5) (pv 6) (λ_ _=>rfl))) (au (fW PassesOwn.never rfl (eV (K:=K) rfl (ZbJ (bH hr) (pv 0) (pv 7) (cZ ag) ⟨rfl,rfl,rfl,rfl⟩)) (gT (K:=K) (n:=2) rfl rfl (bJ (bo (i:=8) kg.nd rfl (Or.inl rfl)) (bJ (bo (i:=9) kg.nd rfl (Or.inl rfl)) gP))) (au (aR (kA (nH (bH hr) (pv 8) (pv 4)) (by with_unfolding_all rfl)) (au (nL (bH hr) (pv 4) (pv 8) (aX (fU (K:=K) rfl) (pv 9) (dh (bH hr) (pv 4) (pv 7) (λ_ _=>rfl)) (λ_ _=>rfl))) (aw (cA (mD (K:=K) rfl (jw plainAttrs_list PySem.F.slot_list_append PySem.F.type_list_append nF (pv 5) (ae (pv 8) ag)))))) a_) (aw (aR (bb lE (dh (bH hr) (pv 4) (pv 8) (λ_ _=>rfl)) (aX (fU (K:=K) rfl) (pv 9) (dh (bH hr) (pv 4) (pv 7) (λ_ _=>rfl)) (λ_ _=>rfl)) (aQ _)) (aw (aH lu)) a_)))) (aw (Qr (i:=6) kg.nd rfl (Or.inl rfl) aG Qs))))) (au (fW PassesOwn.never rfl (eV (K:=K) rfl (pv 1)) (gT (K:=K) (n:=4) rfl rfl (bJ (bo (i:=10) kg.nd rfl (Or.inl rfl)) (bJ (bo (i:=11) kg.nd rfl (Or.inl rfl)) (bJ (bo (i:=12) kg.nd rfl (Or.inl rfl)) (bJ (bo (i:=13) kg.nd rfl (Or.inl rfl)) gP))))) (aw (aR (PW.pt (pw_and (bb cg (pv 11) bc (aQ _)) (pw_and (kA (zg (bH hr) (pv 12) (pv 4)) (by with_unfolding_all rfl)) (pw_and1 (bb lE (dh (bH hr) (pv 4) (pv 12) (λ_ _=>rfl)) (pv 13) (aQ _)))))) (aw (aH lu)) a_))) (aw (aH (pv 4)))))))),?_⟩;refine bX ?_;refine λfn AV=>⟨_,rfl,_,rfl,aW,[(.inr (av ps x),.int a)],rfl,(by show 1<=15;omega),?_⟩;obtain⟨H1,qo⟩:∃H1,H1=upd (upd H fn (.dK [])) fn (.dK (nX [] [(.inr (av ps x),.int a)])):=⟨_,rfl⟩;have g1:aj H H1:=λb o e=>by rw[qo,bg (ck e AV),bg (ck e AV)];exact e
 have h1:H1 fn=some (.dK (gN ps [(x,a)])):=by rw[qo,aW];rfl
 rw[←qo];refine bX ?_;refine⟨_,rfl,by show 1<=sizeLine;rw[sizeLine_eq];omega,λbC H2 xP g2 KP=>?_⟩;refine setC ?_;have Tw:=g1.free xP;have fr_ne:fn≠bC:=λz=>by rw[←z,h1] at xP;cases xP
 have sz:(10000:Nat)<=sizeLine:=by rw[sizeLine_eq];omega
 have hdH:=zS.dict;obtain⟨as,cY,du⟩:=id jQ;have al:=cR du;refine iI (ZgR H F L n ps d fa fn bC x a) (λoN fP=>?_) ?_
 ·refine Fp (ZgQ H F L n ps d fa fn bC x a) (muC ps.length)
   ⟨[(x,a)],0,none,none,none,g1.trans g2,g2 _ _ h1,KP,bf0 hx ZgU,Yv _,λ_ z=>absurd z (Wk _),rfl⟩ ?_ ?_
  ·rintro σ H6 ⟨g,r,o7,o8,o9,g6,sE,ng,bf,rl,cl,rfl⟩;have kl:=P8 ps g;have gl:=bf.len;refine⟨_,rfl,_,rfl,bC,_,rfl,.inl (ak.of ng),_,_,rfl,rfl,_,rfl,?_⟩;rw[kl];refine bI (λc=>?_) (λc=>?_)
   ·have uV:r<g.length:=by have:=of_decide_eq_true c;omega
    obtain⟨k,v,KQ⟩:∃(k:Nat) (v:Int),g[r]?=some (k,v):=⟨g[r].1,g[r].2,Yc uV⟩;have Vw:(k,v)∈g:=Yg KQ;have lkv:g.lookup k=some v:=mem_lookup bf.nd Vw;obtain⟨km,v0,vn⟩:=bf.lt _ Vw;have Vx:=g6 _ _ hdH;refine bX ?_;refine⟨_,rfl,_,rfl,bC,_,_,_,rfl,rfl,ak.of ng,ZdE KQ,?_⟩;refine iI (ZgS H F L n ps d fa fn bC x a r k v g) (λKA qj=>?_) ?_
    ·refine⟨_,rfl,d,rfl,.inl ⟨_,.inl Vx⟩,_,rfl,by show 0<=sizeLine;exact Yv _,λe0 H7 uW g7 se=>?_⟩;have fn7:=g7 _ _ sE;have rw7:=g7 _ _ ng;have nf0:e0≠fn:=λz=>by rw[z,sE] at uW;cases uW
     have nr0:e0≠bC:=λz=>by rw[z,ng] at uW;cases uW
     obtain⟨al,es,eal,Vy,ZgV,ZgW,Vz⟩:∃(al:Addr) (es:List Addr),(aS kvs (.inr (av ps k))).getD (.ref e0)=.ref al/\H7 al=some (.lst (es.map V.ref))/\al≠fn/\al≠bC/\Paired (λe (p:Nat×List Int)=>∃u,H e=some (.tup [.str (av ps p.1),.ref u])/\bW H u p.2) es (L k):=by
      rcases zS.at_ k km with⟨z1,z2⟩|⟨a1,es,w1,w2,w3,w4,w5⟩;·exact⟨e0,[],by rw[z1];rfl,se,nf0,nr0,by rw[z2];exact .nil⟩
      ·exact⟨a1,es,by rw[w1];rfl,g7 _ _ (g6 _ _ w3),ck w3 AV,ck w3 Tw,w5⟩
     have esl:=cR Vz;refine⟨_,di (g7 _ _ Vx) rfl,al,eal,⟨_,ak.of Vy⟩,jq (K:=K) (a:=al) (xs:=es.map V.ref) (CIn H F L n ps d fa fn bC x a r k v g al es)
      ⟨g,[],o8,o9,g6.trans g7,Vy,fn7,rw7,bf,by rw[We],λq hq=>(nomatch hq),rfl⟩ (λj σ H8 _ ⟨_,_,_,_,_,h,_,_,_,_,_,_⟩=>ak.of h) ?_ ?_⟩
     ·rintro j w σ H8 hj ⟨g',tl,p8,p9,g8,Iz,jj,jT,ni,eg,iC,rfl⟩;rw[Yf] at hj;obtain⟨e,ee,rfl⟩:∃e,es[j]?=some e/\V.ref e=w:=by
       cases z:es[j]? with
       |none=>rw[z] at hj;cases hj
       |some c=>rw[z] at hj;exact⟨c,rfl,Yo hj⟩
      obtain⟨⟨y,t⟩,VA,u,he,hu⟩:=fk Vz ee;have IA:fD F k y t:=(ed _ _ _).mp (Yg VA);obtain⟨_,ym,ft,tl8⟩:=vL hV IA;have KR:g'.lookup k=some v:=by rw[eg];exact yd lkv
      have vb:v<(t.length:Int):=by rw[tl8];exact vn
      have gl8:=ni.len;have he8:H8 e=some (.tup [.str (av ps y),.ref u]):=g8 _ _ he;have KG:(L k).take (j+1)=(L k).take j++[(y,t)]:=by rw[Y2,VA];rfl
      refine⟨e,_,rfl,aA.of he8,rfl,_,_,rfl,bp ⟨_,_,rfl,bp ⟨rfl,?_⟩⟩⟩;refine nW (ZgT H F n ps d fa fn bC x a r k y u g' al es) (λoR eP=>?_) ?_
      ·refine⟨_,rfl,_,rfl,fn,_,rfl,di jj (pM jS ym λp hp=>(ni.lt p hp).1),_,rfl,?_⟩;cases ly:g'.lookup y with
       |none=>
        refine c6 ?_;refine⟨_,rfl,_,rfl,_,rfl,fn,.int v,rfl,di jj (by rw[pM jS km λp hp=>(ni.lt p hp).1,KR];rfl),u,_,_,_,rfl,rfl,aA.of (g8 _ _ hu),Ru v0 vb,_,rfl,_,rfl,fn,_,.inr (av ps y),rfl,jj,rfl,by rw[Ze3];omega,λH9 b9 e9=>?_⟩;have vn0:aS (gN ps g') (.inr (av ps y))=none:=by rw[pM jS ym λp hp=>(ni.lt p hp).1,ly];rfl
        rw[kq _ vn0] at e9;have sF:=b9 _ _ jT (λz=>fr_ne z.symm);refine⟨_,rfl,.inl ⟨rfl,_,ak.of sF⟩,_,rfl,bC,_,_,rfl,rfl,sF,by rw[P8];omega,λoF xQ oI=>?_⟩;refine eP _ _ ⟨g'++[(y,ap t v)],[(y,ap t v)],ap t v,λc o z=>xQ _ _ (b9 _ _ (g8 _ _ z) (ck z AV)) (ck z Tw),xQ _ _ (b9 _ _ Iz ZgV) ZgW,?_,?_,ni.add hV IA KR ly,rfl,MI ly,rfl⟩;·rw[xQ _ _ e9 fr_ne,gN,gN,Yp];rfl
        ·rw[oI,oU,oU,Yp];rfl
       |some v'=>
        refine cj (aZ ?_);exact eP _ _ ⟨g',[],v',g8,Iz,jj,jT,ni,by rw[We],ly,rfl⟩
      ·rintro σ H9 ⟨qx,KO,v',g9,ZgX,m9,sF,AW,KS,lv,rfl⟩;have VB:qx.lookup k=some v:=by rw[KS];exact yd KR
       refine⟨_,rfl,_,rfl,fn,.int v',rfl,di m9 (by rw[pM jS ym λp hp=>(AW.lt p hp).1,lv];rfl),_,rfl,_,rfl,_,rfl,fn,.int v,rfl,di m9 (by rw[pM jS km λp hp=>(AW.lt p hp).1,VB];rfl),u,_,_,_,rfl,rfl,aA.of (g9 _ _ hu),Ru v0 vb,rfl,_,rfl,?_⟩;refine bI (λc=>?_) (λc=>aZ ?_)
       ·refine q1 (AW.ZfJ IA VB lv λz=>?_) H9 g9;rw[z] at c;simp at c
       ·have ev:v'=ap t v:=by
         by_cases z:v'=ap t v;·exact z
         ·exact absurd (by simp[z]) c
        refine⟨qx,tl++KO,_,_,g9,ZgX,m9,sF,AW,by rw[KS,eg,Jk],λq hq=>?_,rfl⟩;rw[KG] at hq;rcases Yu.mp hq with hq|hq;·rw[KS];exact yd (iC q hq)
        ·rw[Yn] at hq;rw[hq,lv,ev]
     ·rintro σ H8 ⟨g',tl,p8,p9,g8,Iz,jj,jT,ni,eg,iC,rfl⟩;rw[Ya,esl,Wd] at iC;exact qj _ _ ⟨g',tl,p8,p9,g8,jj,jT,ni,eg,iC,rfl⟩
    ·rintro σ H8 ⟨g',tl,p8,p9,g8,jj,jT,ni,eg,iC,rfl⟩;have rr:r<(g++tl).length:=by rw[Yj];omega
     have ge:(g++tl)[r]?=some (k,v):=by rw[Wb uV];exact KQ
     have kP:((r:Int)+1)=((r+1:Nat):Int):=by omega
     refine⟨_,rfl,_,_,rfl,rfl,?_⟩;refine⟨⟨g',r+1,some (.str (av ps k)),p8,p9,g8,jj,jT,ni,by rw[eg];exact rr,λr' h'=>?_,rfl⟩,?_⟩
     ·rw[eg];by_cases z:r'=r
      ·subst z;intro p hp qq hq;rw[ge] at hp;cases hp;rw[←eg];exact iC qq hq
      ·exact(cl r' (by omega)).app (by omega)
     ·show ps.length+1-((r:Int)+1).toNat<ps.length+1-((r:Int)).toNat;omega
   ·have re:¬((r:Int)<(g.length:Int)):=λz=>c (decide_eq_true z);exact fP _ _ ⟨g,r,o7,o8,o9,g6,sE,bf,λr' h'=>cl r' (by omega),rfl⟩
  ·rintro σ H6 Q1 Q2 mo ⟨v1,w1,v2,w2,v3,v4,w3,w4,v5,v6,w5,w6,v7,w7,h⟩;exact⟨v1,w1,v2,w2,v3,v4,w3,w4,v5,v6,w5,w6,v7,w7,mo _ _ h⟩
 rintro σ H6 ⟨g,r,o7,o8,o9,g6,sE,bf,cl,rfl⟩;refine iI (Sq ps F H6 d fa fn bC x a r g o7 o8 o9) (λoN fP=>?_) ?_
 ·refine⟨_,rfl,fa,rfl,⟨_,ak.of (g6 _ _ cY)⟩,jq (K:=K) (a:=fa) (xs:=as.map V.ref) (λj=>Sq ps (F.take j) H6 d fa fn bC x a r g o7 o8 o9)
   ⟨rfl,λc hc=>(nomatch hc),none,none,none,none,rfl⟩ (λj σ H8 _ ⟨e,_⟩=>by rw[e];exact ak.of (g6 _ _ cY)) ?_ ?_⟩
  ·rintro j v σ H8 hj ⟨rfl,sd,qt,qu,qv,qw,rfl⟩;rw[Yf] at hj;obtain⟨c0,ec,rfl⟩:∃c0,as[j]?=some c0/\V.ref c0=v:=by
    cases e:as[j]? with
    |none=>rw[e] at hj;cases hj
    |some c=>rw[e] at hj;exact⟨c,rfl,Yo hj⟩
   obtain⟨c,iy,z,hc⟩:=fk du ec;have mc:=Yg iy;have qr:F.take (j+1)=F.take j++[c]:=by rw[Y2,iy];rfl
   refine⟨c0,_,rfl,aA.of (g6 _ _ hc),rfl,_,_,rfl,bp ⟨_,_,rfl,bp ⟨_,_,rfl,bp ⟨_,_,rfl,bp ⟨rfl,?_⟩⟩⟩⟩⟩;have ev:∀b:Bool,decide (V.str c.k=V.str bh)=b->(b=true↔c.k=bh):=λb e=>by
    rw[←e,decide_eq_true_iff];exact⟨V.str.inj,λz=>by rw[z]⟩
   have uX:(c.k=bh->∀u,g.lookup c.one=some u->u=c.aJ)->∃qt qu qv qw:Option V,(H8=H8/\∀c∈F.take (j+1),c.k=bh->∀u,g.lookup c.one=some u->u=c.aJ)/\True:=λh=>⟨none,none,none,none,⟨rfl,λc' m'=>by
    rw[qr] at m';rcases Yu.mp m' with m'|m';·exact sd c' m'
    ·rw[Yn] at m';rw[m'];exact h⟩,trivial⟩
   refine⟨_,rfl,rfl,_,rfl,bI (λcc=>?_) (λcc=>?_)⟩
   ·have sk:=(ev _ rfl).mp cc;have eo:kV (a9 ps c)=.int c.aJ:=by rw[ko sk];rfl
    refine⟨_,rfl,_,rfl,fn,_,rfl,di sE (pM jS (hV c mc).one λp hp=>(bf.lt p hp).1),_,rfl,?_⟩;cases lk:g.lookup c.one with
    |none=>
     refine cj (cj (aZ ?_));obtain⟨_,_,_,_,⟨_,h⟩,_⟩:=uX λ_ u e=>by rw[lk] at e;cases e
     exact⟨rfl,h,_,_,_,_,rfl⟩
    |some u=>
     refine c6 ?_;refine⟨_,rfl,_,rfl,fn,.int u,rfl,di sE (by rw[pM jS (hV c mc).one λp hp=>(bf.lt p hp).1,lk];rfl),_,rfl,by rw[eo];rfl,_,rfl,bI (λc2=>?_) (λc2=>aZ ?_)⟩
     ·refine q1 (bf.ZeZ mc sk lk λz=>?_) H8 g6;rw[z,eo] at c2;simp at c2
     ·have eu:u=c.aJ:=by
       by_cases z:u=c.aJ;·exact z
       ·exact absurd (by rw[eo];simp[z]) c2
      obtain⟨_,_,_,_,⟨_,h⟩,_⟩:=uX λ_ u' e=>by rw[lk] at e;rw[←Yo e];exact eu
      exact⟨rfl,h,_,_,_,_,rfl⟩
   ·refine cj (aZ ?_);obtain⟨_,_,_,_,⟨_,h⟩,_⟩:=uX λz=>absurd ((ev _ rfl).mpr z) cc;exact⟨rfl,h,_,_,_,_,rfl⟩
  ·rintro σ H8 ⟨rfl,sd,qt,qu,qv,qw,rfl⟩;rw[Ya,al,Wd] at sd;exact fP _ _ ⟨rfl,sd,qt,qu,qv,qw,rfl⟩
 rintro σ H8 ⟨rfl,sd,qt,qu,qv,qw,rfl⟩;exact⟨_,rfl,q2 fn g H8 g6 sE bf (bf.done ed cl sd)⟩
end
inductive P9(vs:List V)(H:Hp)(Q:VK):Prop
 |mk (fa td:Addr) (ps:bO) (xs ys:List Int) (F:List Fc) (x:Nat) (aE:vs=[.ref fa,.ref td,.str (av ps x)]) (aT:FL H ps fa F) (ht:gw H td xs ys) (nd:(ps.map (·.1)).Nodup) (bw:∀c∈F,d_ xs ys ps.length c) (bP:xs.length<=8) (cN:ps.length<=100) (dR:F.length<=64) (hE:x<ps.length) (iS:∀(p:Addr) (H':Hp),H p=none->aj H H'->H' p=some (.lst ((jy F xs.length x).map V.int))->Q (.ref p) H'):P9 vs H Q
def GQ:Sp:=λvs H Q _=>P9 vs H Q
inductive OM(vs:List V)(H:Hp)(Q:VK):Prop
 |mk (a b:Addr) (xs ys:List Int) (aE:vs=[.ref a,.ref b]) (aT:bW H a xs) (bw:bW H b ys) (bP:mJ xs ys) (cN:∀(p:Addr) (H':Hp),H p=none->aj H H'->gw H' p xs ys->Q (.ref p) H'):OM vs H Q
def P_:Sp:=λvs H Q _=>OM vs H Q
section
theorem Mi:aU ["_law_facts","_law_turns_here","_law_name_here","_law_nets_here"] ["_law_facts","_law_turns_here","_law_name_here"] (aM Ed):=⟨rfl,rfl,rfl,by decide+kernel,rfl,by decide+kernel,by decide+kernel⟩
open Classical in
theorem ZdF(F:aN K "_law_room" "_law_room" Ed f fd)(Eu:HasFn P w K mg base 2 "_law_nets" ["_law_facts","_law_turns_here"] Rt)(CP:HasFn P w K mg base 1 "_law_carried" ["_law_nets_here","_law_facts","_law_name_here","_law_section"] NH)(bl:Bl mg):aK P w K mg base aP 3 f fd ["_law_facts","_law_turns_here","_law_name_here"] GQ:=by
 refine F.ok Mi (λvs H Q E h=>?_) (λaF A outer s H vs Q E hr h=>?_)
 ·obtain⟨fa,td,ps,xs,ys,F,x,rfl,_⟩:=h;rfl
 obtain⟨fa,td,ps,xs,ys,F,x,rfl,jQ,ht,jS,fg,n8,Tv,AU,hx,q⟩:=h;refine⟨_,(au (bq (i:=3) Mi.nd rfl (Or.inr rfl) (aY Eu hr (by omega) rfl (ae (pv 0) (ae (pv 1) ag)))) (aw (aH (iH (x:="_law_at") (fr:=[("_law_nets_here",3),("_law_name_here",2),("_law_facts",0)]) (cl:=[("_law_nets_here",s.heap.objs.size+1+1+1),("_law_name_here",s.heap.objs.size+1+1),("_law_facts",s.heap.objs.size+1)]) rfl ⟨by with_unfolding_all rfl,⟨rfl,⟨rfl,⟨rfl,trivial⟩⟩⟩,rfl,by decide+kernel,rfl,by decide+kernel,rfl,⟨⟨rfl,.inl rfl,.inl rfl,rfl⟩,⟨⟨rfl,.inl rfl,.inl rfl,rfl⟩,⟨⟨rfl,.inl rfl,.inl rfl,rfl⟩,trivial⟩⟩⟩,by decide+kernel⟩ (pj rfl bl.jt (ae (bM (c9 (K:=K) rfl) rfl bl.cX cV (ae (dh (bH hr) (pv 1) bc (λ_ _=>rfl)) ag)) ag)) (λ_ _ _ _=>vJ (bb yL (aY CP hr (by omega) rfl (ae (pv 1) (ae (pv 3) (ae (pv 2) (ae (pv 0) ag))))) lu (aQ _))) (λ_ _ _ _=>(pv 0)))))),?_⟩;refine bX ?_;refine⟨_,rfl,_,rfl,fa,td,ps,xs,ys,F,rfl,jQ,ht,jS,fg,n8,AU,λd kvs L H1 g1 zS ed=>?_⟩;obtain⟨_,_,_,u0,fO,_,_,_,uY⟩:=id ht;obtain⟨n,en⟩:∃n,n=xs.length:=⟨_,rfl⟩;have hV:∀c∈F,dB n ps.length c:=λc hc=>by rw[en];exact(fg c hc).ok
 rw[←en] at uY n8 q;have ul:((bF n).map V.int).length=n:=by rw[Ya,eG]
 refine⟨_,rfl,td,.ref u0,rfl,di (g1 _ _ fO) rfl,u0,_,rfl,.inr (aA.of (g1 _ _ uY)),?_⟩;rw[ul];refine⟨(n:Int),rfl,by omega,by omega,λD hD=>?_⟩;refine Zi (lo:=0) (by omega) hD (λi=>decide (∃g,iZ n F g/\g x=some (i:Int))) (λi=>V.int (i:Int)) (λi hi H2 g2 _ Kt Kf kt kf=>?_) λH2 g2 h2=>?_
 ·rw[J7];have qc:(i:Nat)<n:=by omega
  refine⟨_,rfl,_,rfl,_,rfl,_,rfl,H,d,fa,kvs,L,n,ps,F,x,(i:Int),rfl,jS,zS.same g2,ed,(jQ.same g1).same g2,hV,n8,Tv,AU,hx,⟨by omega,by omega⟩,λno H3 g3=>?_,λp gg H3 g3 UT bf cl=>?_⟩
  ·refine⟨rfl,_,rfl,?_⟩;rw[decide_eq_true (show V.aB=V.aB from rfl)];exact cj (kf H3 (decide_eq_false no) g3)
  ·refine⟨rfl,_,rfl,?_⟩;rw[decide_eq_false (show ¬V.ref p=V.aB from λz=>nomatch z)];exact c6 ⟨_,rfl,kt _ H3 (decide_eq_true ⟨_,cl,bf.hd⟩) g3 rfl⟩
 ·refine q D H2 (g1.free hD) (g1.trans g2) ?_;rw[h2,Y6];have e:jy F n x=((List.range n).filter λi:Nat=>decide (∃g,iZ n F g/\g x=some (i:Int))).map λi:Nat=>(i:Int):=by
   unfold jy bF;rw[Jt];rfl
  rw[e,Wa];rfl
theorem Dh:aU ["_law_mother","_law_wife","_law_father","_law_alone"] ["_law_mother","_law_wife"] (aM DK):=⟨rfl,rfl,rfl,by decide+kernel,rfl,by decide+kernel,by decide+kernel⟩
theorem Zct(F:aN K "_law_turns" "_law_turns" DK f fd)(qD:HasFn P w K mg base 1 "_law_inverse" ["_law_turn_here"] Hj)(D0:HasFn P w K mg base 1 "_law_after" ["_law_first","_law_then"] (Sk K))(bl:Bl mg):aK P w K mg base aP 2 f fd ["_law_mother","_law_wife"] P_:=by
 refine F.ok Dh (λvs H Q E h=>?_) (λaF A outer s H vs Q E hr h=>?_)
 ·obtain⟨a,b,xs,ys,rfl,_⟩:=h;rfl
 obtain⟨a,b,xs,ys,rfl,ha,hb,gl,q⟩:=h;obtain⟨fx,fy,le,l2,l8⟩:=id gl;refine⟨_,(au (bq (i:=2) Dh.nd rfl (Or.inl rfl) (aY D0 hr (by omega) rfl (ae (pv 1) (ae (pv 0) ag)))) (au (bq (i:=3) Dh.nd rfl (Or.inl rfl) (eI (Xb rfl) rfl bl.mn mf (ae (eI C4 rfl bl.jt tJ (ae (bM (c9 (K:=K) rfl) rfl bl.cX cV (ae (pv 0) ag)) ag)) ag))) (aw (aH (yS (jr bc (aY qD hr (by omega) rfl (ae (pv 0) ag)) (jr bc (aY qD hr (by omega) rfl (ae (pv 2) ag)) (jr bc (pv 1) (jr bc (pv 3) yR)))) rfl rfl (λz=>nomatch z) (Ji rfl)))))),?_⟩;refine bX ?_;have lv:∀x∈ys,0<=x/\x<(xs.length:Int):=λx hx=>by rw[le];exact pG fy hx
 refine⟨_,rfl,_,rfl,b,a,ys,xs,rfl,aA.of hb,aA.of ha,lv,by omega,λl H1 nl g1 hl=>?_⟩;refine bX ?_;have el:(xs.map V.int).length=xs.length:=Ya _;refine⟨_,rfl,a,_,rfl,.inr (aA.of (g1 _ _ ha)),_,rfl,λrg H2 nrg g2 hrg=>⟨rg,xs.length,rfl,by rw[hrg,el],by omega,λst H3 An g3 gZ=>?_⟩⟩;have eY:=g2.trans g3;intro d nd;have g4:=cq nd (.dK []);have KU:upd H3 d (.dK []) d=some (.dK []):=aW;generalize upd H3 d (.dK [])=H4 at g4 KU⊢;have VC:=eY.trans g4;have qy:=g1.trans VC;refine⟨_,rfl,a,xs,rfl,qy _ _ ha,by omega,fx,λim H5 nim g5 Kb=>?_⟩;refine⟨_,rfl,l,bL xs ys,rfl,g5 _ _ (VC _ _ hl),by rw[qI];omega,Fy fx fy (by omega),λjf H6 njf g6 Kc=>?_⟩;have xR:=g5.trans g6;refine⟨_,rfl,_,rfl,xR _ _ KU,[(.inr "mother",.ref im),(.inr "father",.ref jf),(.inr "wed",.ref b),(.inr "sibling",.ref st)],rfl,by show 4<=15;decide,?_⟩;have b7:az d H6 (upd H6 d (.dK (tZ im jf b st))):=az.put (az.of (aj.refl _));have VD:upd H6 d (.dK (tZ im jf b st)) d=some (.dK (tZ im jf b st)):=aW;have em:nX [] [((.inr "mother":Key),V.ref im),(.inr "father",.ref jf),(.inr "wed",.ref b),(.inr "sibling",.ref st)]=tZ im jf b st:=rfl;rw[em];generalize upd H6 d (.dK (tZ im jf b st))=H7 at b7 VD⊢;have tne:∀{c:Addr} {zs:List Int},bW H6 c zs->c≠d:=λh1 z=>by rw[bW,z,xR _ _ KU] at h1;cases h1
 have k7:∀{c:Addr} {zs:List Int},bW H6 c zs->bW H7 c zs:=λh=>b7 _ _ h (tne h);refine q d H7 (g1.free (eY.free nd)) (λc o e=>b7 _ _ (xR _ _ (qy _ _ e)) (ck e (g1.free (eY.free nd)))) ⟨im,jf,b,st,VD,k7 (g6 _ _ Kb),k7 Kc,k7 (xR _ _ (qy _ _ hb)),k7 (xR _ _ (g4 _ _ gZ))⟩
end
theorem FL.get(h:FL H ps fa F):∃as:List Addr,H fa=some (.lst (as.map V.ref))/\as.length=F.length/\∀(H':Hp) (j:Nat) (v:V),aj H H'->(as.map V.ref)[j]?=some v->∃(c0:Addr) (c:Fc) (z:Int),v=.ref c0/\F[j]?=some c/\F.take (j+1)=F.take j++[c]/\H' c0=some (.tup [.int z,.str c.k,.str (av ps c.one),kV (a9 ps c)]):=by
 obtain⟨as,cY,du⟩:=h;refine⟨as,cY,cR du,λH' j v g hj=>?_⟩;rw[Yf] at hj;obtain⟨c0,ec,rfl⟩:∃c0,as[j]?=some c0/\V.ref c0=v:=by
  cases e:as[j]? with
  |none=>grind
  |some c=>grind
 obtain⟨c,iy,z,hc⟩:=fk du ec;exact⟨c0,c,z,rfl,iy,by rw[Y2,iy];rfl,g _ _ hc⟩
def lO(ps:bO)(k a:Str)(o:V)(c:Fc):Bool:=decide (c.k=k)&&((decide (av ps c.one=a)&&(decide (kV (a9 ps c)=o)||cI k))||(decide (k="sibling")&&(decide (kV (a9 ps c)=.str a)&&decide (V.str (av ps c.one)=o))))
def oh(ps:bO)(F:List Fc)(k a:Str)(o:V):Bool:=F.any (lO ps k a o)||(decide (k="sibling")&&decide (V.str a=o))
def Bt(t:TT)(σ:St)(H:Hp)(b:Bool):Prop:=∀k:Bool->Hp->Prop,(∀H',aj H H'->k b H')->t σ H k
def Vt(t:TE)(σ:St)(H:Hp)(v:V):Prop:=∀k:VK,(∀H',aj H H'->k v H')->t σ H k
section
variable {t u:TT}{e1 e2:TE}{σ:St}{H:Hp}{a b:Bool}{x y:V}
theorem Bt.and(h1:Bt t σ H a)(h2:∀H',a=true->aj H H'->Bt u σ H' b):Bt (SF t u) σ H (a&&b):=λk hk=>h1 _ λH1 g1=>by
 cases a with
 |true=>exact c6 (h2 H1 rfl g1 _ λH2 g2=>hk H2 (g1.trans g2))
 |false=>grind
theorem Bt.or(h1:Bt t σ H a)(h2:∀H',a=false->aj H H'->Bt u σ H' b):Bt (TN t u) σ H (a||b):=λk hk=>h1 _ λH1 g1=>by
 cases a with
 |true=>grind
 |false=>exact cj (h2 H1 rfl g1 _ λH2 g2=>hk H2 (g1.trans g2))
theorem Vt.var(h:σ[i]?=some (some x)):Vt (eW i) σ H x:=λ_ hk=>⟨x,h,hk H (aj.refl _)⟩
theorem Vt.c:Vt (tC x) σ H x:=λ_ hk=>hk H (aj.refl _)
theorem Vt.test(h:Vt e1 σ H (.bl b)):Bt (RU e1) σ H b:=λk hk=>h _ λH1 g1=>⟨b,rfl,hk H1 g1⟩
theorem Vt.eq(h1:Vt e1 σ H x)(h2:∀H',aj H H'->Vt e2 σ H' y)(sc:wm x y=true):Vt (jE TX e1 e2) σ H (.bl (decide (x=y))):=λk hk=>h1 _ λH1 g1=>h2 H1 g1 _ λH2 g2=>⟨sc,hk H2 (g1.trans g2)⟩
theorem Vt.ne(h1:Vt e1 σ H x)(h2:∀H',aj H H'->Vt e2 σ H' y)(sc:wm x y=true):Vt (jE TY e1 e2) σ H (.bl (!decide (x=y))):=λk hk=>h1 _ λH1 g1=>h2 H1 g1 _ λH2 g2=>⟨sc,hk H2 (g1.trans g2)⟩
theorem Vt.IB(h1:Vt e1 σ H (.bl a))(h2:∀H',a=true->aj H H'->Vt e2 σ H' (.bl b)):Vt (RO e1 e2) σ H (.bl (a&&b)):=λk hk=>h1 _ λH1 g1=>⟨a,rfl,by
 cases a with
 |true=>exact c6 (h2 H1 rfl g1 _ λH2 g2=>hk H2 (g1.trans g2))
 |false=>exact cj (hk H1 g1)⟩
theorem Vt.VE(h1:Vt e1 σ H (.bl a))(h2:∀H',a=false->aj H H'->Vt e2 σ H' (.bl b)):Vt (SG e1 e2) σ H (.bl (a||b)):=λk hk=>h1 _ λH1 g1=>⟨a,rfl,by
 cases a with
 |true=>grind
 |false=>exact cj (h2 H1 rfl g1 _ λH2 g2=>hk H2 (g1.trans g2))⟩
theorem Vt.Hk(h1:Vt e1 σ H (.str k)):Vt (jE (wQ K false) e1 (t_ (fY (tC (V.str "mother")) (fY (tC (V.str "father")) i4)))) σ H (.bl (cI k)):=λq hk=>h1 _ λH1 g1=>by
 refine⟨by show 2<=sizeLine;rw[sizeLine_eq];omega,λp H2 np g2 hp=>⟨p,_,rfl,.inr (aA.of hp),rfl,rfl,?_⟩⟩;have e:eX (V.str k) [V.str "mother",V.str "father"]=cI k:=by
  rw[Wf];unfold eX cI;rw[W7,W7,List.any_nil,Bool.or_false,Jv,Jv,decide_eq_true_iff,decide_eq_true_iff];show((("mother":Str)==k)=true\/(("father":Str)==k)=true)↔_
  grind
 rw[e];exact hk H2 (g1.trans g2)
end
def Flat(o:V):Prop:=(∃z,o=.int z)\/∃z,o=.str z
theorem y_(k:Key):Flat (kV k):=by
 cases k with
 |inl z=>exact .inl ⟨z,rfl⟩
 |inr z=>exact .inr ⟨z,rfl⟩
theorem yw(h1:Flat u)(h2:Flat v):wm u v=true:=by
 rcases h1 with⟨_,rfl⟩|⟨_,rfl⟩<;>rcases h2 with⟨_,rfl⟩|⟨_,rfl⟩<;>rfl
inductive ON(vs:List V)(H:Hp)(Q:VK):Prop
 |mk (fa:Addr) (ps:bO) (F:List Fc) (k a:Str) (o:V) (aE:vs=[.ref fa,.str k,.str a,o]) (aT:FL H ps fa F) (fo:Flat o) (q:∀H',aj H H'->Q (.bl (oh ps F k a o)) H'):ON vs H Q
def Qa:Sp:=λvs H Q _=>ON vs H Q
inductive OO(vs:List V)(H:Hp)(Q:VK):Prop
 |mk (sd:Addr) (ps:bO) (k:Str) (i j:Nat) (aE:vs=[.ref sd,.str k,.str (av ps i),.str (av ps j)]) (hs:H sd=some (.dK (fQ ps))) (nd:(ps.map (·.1)).Nodup) (hi:i<ps.length) (hj:j<ps.length) (hk:k="mother"\/k="father"\/k="wed"\/k="sibling") (q:∀H',aj H H'->Q (.bl (kF k (e_ ps i) (e_ ps j))) H'):OO vs H Q
def Qb:Sp:=λvs H Q _=>OO vs H Q
theorem OP(ok:cG xs ys b):y∈fK b a↔∃c∈b.F,cI c.k=true/\av b.ps c.one=a/\kV (a9 b.ps c)=.str y:=by
 constructor
 ·intro h;obtain⟨v,hv,rfl⟩:=Ye.mp (show y∈(nZ b a).map strOf from h);unfold nZ at hv;obtain⟨k,_,e⟩:=Jf.mp hv;obtain⟨p,hp,h1,h2,h3,rfl,h5⟩:=PX ok e;have ns:p.2.k≠bh:=λz=>by
   rw[z] at h1;exact absurd h1 (by decide+kernel)
  exact⟨p.2,Ye.mpr ⟨p,hp,rfl⟩,h1,h3,by rw[gO ns];rfl⟩
 ·rintro⟨c,hc,h1,rfl,h3⟩;obtain⟨p,hp,rfl⟩:=Ye.mp (show c∈b.fs.map (·.2) from hc);have mm:(([.inr p.2.k,.inr (av b.ps p.2.one)]:List Key),kV (a9 b.ps p.2))∈cz b.ps b.fs:=Ye.mpr ⟨p,Y5.mpr ⟨hp,h1⟩,rfl⟩;have e:=PD ok.pr mm;refine Ye.mpr ⟨.str y,?_,rfl⟩;unfold nZ;refine Jf.mpr ⟨p.2.k,?_,by rw[e,h3]⟩;unfold cI at h1;rw[Jv,decide_eq_true_iff,decide_eq_true_iff] at h1;rcases h1 with z|z<;>rw[z];·exact Yh
  ·exact Yx _ Yh
structure uZ(b:BS)(a:Str)(ks:List Str):Prop where
 nd:ks.Nodup
 sd:∀k∈ks,fH b a k
 ma:a∈ks
theorem uZ.len(u:uZ b a ks)(ok:cG xs ys b)(ma:a∈b.ps.map (·.1)):ks.length<=b.ps.length:=by
 have:=u.nd.length_le_of_subset (l₂:=b.ps.map (·.1)) λk hk=>yJ ok ma (u.sd k hk)
 grind
theorem uZ.all(u:uZ b a ks)(cl:∀r,r<ks.length->∀k,ks[r]?=some k->∀p∈fK b k,p∈ks)(z:Str):z∈ks↔fH b a z:=by
 refine⟨u.sd z,λh=>?_⟩;induction h with
 |refl=>exact u.ma
 |step _ hy ih=>
  obtain⟨r,hr,er⟩:=Ws.mp ih;exact cl r hr _ (by rw[Yc hr,er]) _ hy
inductive Sr(vs:List V)(H:Hp)(Q:VK):Prop
 |mk (fa:Addr) (xs ys:List Int) (b:BS) (a:Str) (aE:vs=[.ref fa,.str a]) (aT:FL H b.ps fa b.F) (ok:cG xs ys b) (ma:a∈b.ps.map (·.1)) (q:∀(p:Addr) (ks:List Str) (H':Hp),aj H H'->H' p=some (.lst (ks.map V.str))->(∀z,z∈ks↔fH b a z)->Q (.ref p) H'):Sr vs H Q
def Tx:Sp:=λvs H Q _=>Sr vs H Q
def muU(m:Nat):St->Hp->Nat:=λσ _=>match List.getD (α:=Option V) σ 3 none with|some (V.int z)=>m+1-z.toNat|_=>0
inductive VF(H:Hp)(b:BS)(a:Str)(fa bC:Addr)(σ:St)(H6:Hp):Prop
 |mk (ks:List Str) (r:Nat) (o4 o5 o6 o7:Option V) (g:aj H H6) (hr:H6 bC=some (.lst (ks.map V.str))) (up:uZ b a ks) (rl:r<=ks.length) (cl:∀r',r'<r->∀k,ks[r']?=some k->∀p∈fK b k,p∈ks) (e:σ=[some (.ref fa),some (.str a),some (.ref bC),some (.int (r:Int)),o4,o5,o6,o7]):VF H b a fa bC σ H6
inductive KW(H:Hp)(b:BS)(a:Str)(fa bC:Addr)(r:Nat)(qm:List Str)(k:Str)(j:Nat)(σ:St)(H6:Hp):Prop
 |mk (ks tl:List Str) (o4 o5 o6 o7:Option V) (g:aj H H6) (hr:H6 bC=some (.lst (ks.map V.str))) (up:uZ b a ks) (ek:ks=qm++tl) (cl:∀c∈b.F.take j,cI c.k=true->av b.ps c.one=k->∀y,kV (a9 b.ps c)=.str y->y∈ks) (e:σ=[some (.ref fa),some (.str a),some (.ref bC),some (.int (r:Int)),o4,o5,o6,o7]):KW H b a fa bC r qm k j σ H6
theorem Zas(h:Flat o):iK o=true:=by
 rcases h with⟨_,rfl⟩|⟨_,rfl⟩<;>rfl
theorem NI(ks:List Str):(ks.map V.str).all iK=true:=by
 rw[Wm];intro v hv;obtain⟨k,_,rfl⟩:=Ye.mp hv;rfl
theorem IC(y:Str)(ks:List Str):eX (.str y) (ks.map V.str)=true↔y∈ks:=by
 unfold eX;rw[Jn];constructor
 ·rintro⟨v,hv,e⟩;obtain⟨k,hk,rfl⟩:=Ye.mp hv;have:(k==y)=true:=e
  grind
 ·intro h;exact⟨.str y,Ye.mpr ⟨y,h,rfl⟩,by show(y==y)=true;rw[beq_iff_eq]⟩
section
theorem vg:aU ["_law_facts","_law_kind","_law_one","_law_other","_law_number","_law_had","_law_here","_law_there"] ["_law_facts","_law_kind","_law_one","_law_other"] (aM Ef):=⟨rfl,rfl,rfl,by decide+kernel,rfl,by decide+kernel,by decide+kernel⟩
theorem Zw(F:aN K "_law_told" "_law_told" Ef f fd):aK P w K mg base aP 1 f fd ["_law_facts","_law_kind","_law_one","_law_other"] Qa:=by
 refine F.ok vg (λvs H Q E h=>?_) (λaF A outer s H vs Q E hr h=>?_)
 ·obtain⟨fa,ps,F,k,a,o,rfl,_⟩:=h;rfl
 obtain⟨fa,ps,F,k,a,o,rfl,jQ,fo,q⟩:=h;refine⟨_,(au (fW PassesOwn.never rfl (eV (K:=K) rfl (pv 0)) (gT (K:=K) (n:=4) rfl rfl (bJ (bo (i:=4) vg.nd rfl (Or.inl rfl)) (bJ (bo (i:=5) vg.nd rfl (Or.inl rfl)) (bJ (bo (i:=6) vg.nd rfl (Or.inl rfl)) (bJ (bo (i:=7) vg.nd rfl (Or.inl rfl)) gP))))) (au (aR (PW.pt (pw_and (bb cg (pv 5) (pv 1) (aQ _)) (pw_and (bb cg (pv 6) (pv 2) (aQ _)) (pw_and1 (PW.pt (pw_or (bb cg (pv 7) (pv 3) (aQ _)) (pw_or1 (bb (lT (K:=K) rfl) (pv 1) (cK (ae bc (ae bc ag))) (by with_unfolding_all rfl))))))))) (aw (aH jv)) a_) (aw (aR (PW.pt (pw_and (bb cg (pv 5) (pv 1) (aQ _)) (pw_and (bb cg (pv 1) bc (aQ _)) (pw_and (bb cg (pv 7) (pv 2) (aQ _)) (pw_and1 (bb cg (pv 6) (pv 3) (aQ _))))))) (aw (aH jv)) a_)))) (aw (aH (nT (dw cg (pv 1) bc (aQ _)) (kB (dw cg (pv 2) (pv 3) (aQ _))))))),?_⟩;obtain⟨as,cY,al,gt⟩:=jQ.get;refine iI (λσ H6=>aj H H6/\F.any (lO ps k a o)=false/\∃o4 o5 o6 o7:Option V,σ=[some (.ref fa),some (.str k),some (.str a),some o,o4,o5,o6,o7]) (λoN fP=>?_) ?_
 ·refine⟨_,rfl,fa,rfl,⟨_,ak.of cY⟩,jq (K:=K) (a:=fa) (xs:=as.map V.ref) (λj σ H6=>aj H H6/\(F.take j).any (lO ps k a o)=false/\∃o4 o5 o6 o7:Option V,σ=[some (.ref fa),some (.str k),some (.str a),some o,o4,o5,o6,o7])
   ⟨aj.refl _,rfl,none,none,none,none,rfl⟩ (λj σ H6 _ ⟨g,_⟩=>ak.of (g _ _ cY)) ?_ ?_⟩
  ·rintro j v σ H6 hj ⟨g,no,o4,o5,o6,o7,rfl⟩;obtain⟨c0,c,z,rfl,iy,qr,hc⟩:=gt H6 j v g hj;have hit:lO ps k a o c=true->oh ps F k a o=true:=λh=>by
    unfold oh;rw[Jn.mpr ⟨c,Yg iy,h⟩];rfl
   refine⟨c0,_,rfl,aA.of hc,rfl,_,_,rfl,bp ⟨_,_,rfl,bp ⟨_,_,rfl,bp ⟨_,_,rfl,bp ⟨rfl,?_⟩⟩⟩⟩⟩;refine nW (λσ H7=>aj H H7/\(decide (c.k=k)&&(decide (av ps c.one=a)&&(decide (kV (a9 ps c)=o)||cI k)))=false/\σ=[some (.ref fa),some (.str k),some (.str a),some o,some (.int z),some (.str c.k),some (.str (av ps c.one)),some (kV (a9 ps c))]) (λoR eP=>?_) ?_
   ·refine(Bt.and (Vt.test (Vt.eq (x:=.str c.k) (y:=.str k) (Vt.var rfl) (λ_ _=>Vt.var rfl) rfl)) λ_ _ _=>Bt.and (Vt.test (Vt.eq (x:=.str (av ps c.one)) (y:=.str a) (Vt.var rfl) (λ_ _=>Vt.var rfl) rfl)) λ_ _ _=>Bt.or (Vt.test (Vt.eq (x:=kV (a9 ps c)) (y:=o) (Vt.var rfl) (λ_ _=>Vt.var rfl) (yw (y_ _) fo))) λ_ _ _=>Vt.test (Vt.Hk (k:=k) (Vt.var rfl))) _ λH7 g7=>?_;rw[dO,dO];refine bI (λcc=>?_) (λcc=>?_)
    ·have:=hit (by unfold lO;rw[Wh] at cc⊢;exact⟨cc.1,by rw[cc.2];rfl⟩);rw[this] at q;exact q H7 (g.trans g7)
    ·exact aZ (eP _ _ ⟨g.trans g7,Jy.mpr cc,rfl⟩)
   ·rintro σ H7 ⟨g7,no1,rfl⟩;refine(Bt.and (Vt.test (Vt.eq (x:=.str c.k) (y:=.str k) (Vt.var rfl) (λ_ _=>Vt.var rfl) rfl)) λ_ _ _=>Bt.and (Vt.test (Vt.eq (x:=.str k) (y:=.str "sibling") (Vt.var rfl) (λ_ _=>Vt.c) rfl)) λ_ _ _=>Bt.and (Vt.test (Vt.eq (x:=kV (a9 ps c)) (y:=.str a) (Vt.var rfl) (λ_ _=>Vt.var rfl) (yw (y_ _) (.inr ⟨_,rfl⟩)))) λ_ _ _=>Vt.test (Vt.eq (x:=.str (av ps c.one)) (y:=o) (Vt.var rfl) (λ_ _=>Vt.var rfl) (yw (.inr ⟨_,rfl⟩) fo))) _ λH8 g8=>?_;rw[dO,dO];refine bI (λcc=>?_) (λcc=>aZ ?_)
    ·have:=hit (by unfold lO;rw[Wh] at cc⊢;exact⟨cc.1,by rw[cc.2,Bool.or_true]⟩);rw[this] at q;exact q H8 (g7.trans g8)
    ·refine⟨g7.trans g8,?_,_,_,_,_,rfl⟩;rw[qr,List.any_append,no,J1,W7,List.any_nil,Bool.or_false];unfold lO;rw[Bool.and_or_distrib_left,no1,J1];exact Jy.mpr cc
  ·rintro σ H6 ⟨g,no,o4,o5,o6,o7,rfl⟩;rw[Ya,al,Wd] at no;exact fP _ _ ⟨g,no,o4,o5,o6,o7,rfl⟩
 rintro σ H6 ⟨g,no,o4,o5,o6,o7,rfl⟩;refine(Vt.IB (Vt.eq (x:=.str k) (y:=.str "sibling") (Vt.var rfl) (λ_ _=>Vt.c) rfl) λ_ _ _=>Vt.eq (x:=.str a) (y:=o) (Vt.var rfl) (λ_ _=>Vt.var rfl) (yw (.inr ⟨_,rfl⟩) fo)) _ λH7 g7=>?_;have e:=q H7 (g.trans g7);unfold oh at e;rw[no,J1] at e;rw[dO];exact e
theorem YM:aU ["_law_sides","_law_kind","_law_one","_law_other"] ["_law_sides","_law_kind","_law_one","_law_other"] (aM DL):=⟨rfl,rfl,rfl,by decide+kernel,rfl,by decide+kernel,by decide+kernel⟩
theorem YN(F:aN K "_law_sided" "_law_sided" DL f fd):aK P w K mg base aP 1 f fd ["_law_sides","_law_kind","_law_one","_law_other"] Qb:=by
 refine F.ok YM (λvs H Q E h=>?_) (λaF A outer s H vs Q E hr h=>?_)
 ·obtain⟨sd,ps,k,i,j,rfl,_⟩:=h;rfl
 obtain⟨sd,ps,k,i,j,rfl,hs,nd,hi,hj,hk,q⟩:=h;refine⟨_,(au (aR (bb cg (pv 1) bc (aQ _)) (aw (aH (dw cg (dh (bH hr) (pv 0) (pv 3) (λ_ _=>rfl)) bc (aQ _)))) a_) (au (aR (bb cg (pv 1) bc (aQ _)) (aw (aH (dw cg (dh (bH hr) (pv 0) (pv 3) (λ_ _=>rfl)) bc (aQ _)))) a_) (aw (aH (zu (dw lE (pv 1) bc (aQ _)) (kB (nT (dw cg (dh (bH hr) (pv 0) (pv 2) (λ_ _=>rfl)) bc (aQ _)) (kB (dw cg (dh (bH hr) (pv 0) (pv 3) (λ_ _=>rfl)) bc (aQ _)))))))))),?_⟩;have gj:=di hs (nP nd hj);refine⟨_,rfl,rfl,_,rfl,?_⟩;rw[dO];refine bI (λcc=>?_) (λcc=>aZ ?_)
 ·have e:k="mother":=of_decide_eq_true cc;refine⟨_,rfl,_,rfl,sd,_,rfl,gj,rfl,?_⟩;rw[dO];unfold kF at q;rw[if_pos e] at q;exact q H (aj.refl _)
 have n1:k≠"mother":=λz=>cc (decide_eq_true z);refine⟨_,rfl,rfl,_,rfl,?_⟩;rw[dO];refine bI (λcc=>?_) (λcc=>aZ ?_)
 ·have e:k="father":=of_decide_eq_true cc;refine⟨_,rfl,_,rfl,sd,_,rfl,gj,rfl,?_⟩;rw[dO];unfold kF at q;rw[if_neg n1,if_pos e] at q;exact q H (aj.refl _)
 have n2:k≠"father":=λz=>cc (decide_eq_true z);have e3:(!decide (k="wed"))=decide (k="sibling"):=by
  rcases hk with z|z|z|z;·exact absurd z n1
  ·exact absurd z n2
  ·rw[z];decide+kernel
  ·rw[z];decide+kernel
 refine(Vt.VE (a:=decide (k="sibling")) (b:=decide (e_ ps i="man")&&decide (e_ ps j="woman")) ?_ λH1 _ g1=>Vt.IB (a:=decide (e_ ps i="man")) ?_ λH2 _ g2=>?_) _ λH' g'=>?_
 ·rw[←e3,←dO];exact Vt.ne (Vt.var rfl) (λ_ _=>Vt.c) rfl
 ·rw[←dO];exact Vt.eq (λk hk=>⟨_,rfl,_,rfl,sd,_,rfl,di (g1 _ _ hs) (nP nd hi),hk _ (aj.refl _)⟩) (λ_ _=>Vt.c) rfl
 ·rw[←dO];exact Vt.eq (λk hk=>⟨_,rfl,_,rfl,sd,_,rfl,di (g2 _ _ (g1 _ _ hs)) (nP nd hj),hk _ (aj.refl _)⟩) (λ_ _=>Vt.c) rfl
 ·unfold kF at q;rw[if_neg n1,if_neg n2] at q;exact q H' g'
theorem pA:aU ["_law_facts","_law_name_here","_law_row_here","_law_at","_law_number","_law_kind","_law_one","_law_other"] ["_law_facts","_law_name_here"] (aM Fx):=⟨rfl,rfl,rfl,by decide+kernel,rfl,by decide+kernel,by decide+kernel⟩
theorem Zbj(F:aN K "_law_up" "_law_up" Fx f fd)(bl:Bl mg):aK P w K mg base aP 1 f fd ["_law_facts","_law_name_here"] Tx:=by
 refine F.ok pA (λvs H Q E h=>?_) (λaF A outer s H vs Q E hr h=>?_)
 ·obtain⟨fa,xs,ys,b,a,rfl,_⟩:=h;rfl
 obtain⟨fa,xs,ys,b,a,rfl,jQ,ok,ma,q⟩:=h;refine⟨_,(au (bq (i:=2) pA.nd rfl (Or.inl rfl) (cZ (ae (pv 1) ag))) (au (bq (i:=3) pA.nd rfl (Or.inl rfl) aG) (au (Fo PassesOwn.never (bb mH (pv 3) (bM (c9 (K:=K) rfl) rfl bl.cX cV (ae (pv 2) ag)) (aQ _)) (au (fW PassesOwn.never rfl (eV (K:=K) rfl (pv 0)) (gT (K:=K) (n:=4) rfl rfl (bJ (bo (i:=4) pA.nd rfl (Or.inl rfl)) (bJ (bo (i:=5) pA.nd rfl (Or.inl rfl)) (bJ (bo (i:=6) pA.nd rfl (Or.inl rfl)) (bJ (bo (i:=7) pA.nd rfl (Or.inl rfl)) gP))))) (aw (aR (PW.pt (pw_and (bb (lT (K:=K) rfl) (pv 5) (cK (ae bc (ae bc ag))) (by with_unfolding_all rfl)) (pw_and (bb cg (pv 6) (aX (bQ (K:=K) rfl) (pv 2) (pv 3) (λ_ _=>rfl)) (aQ _)) (pw_and1 (bb (GA (K:=K) rfl) (pv 7) (pv 2) (by with_unfolding_all rfl)))))) (aw (cA (mD (K:=K) rfl (jw plainAttrs_list PySem.F.slot_list_append PySem.F.type_list_append nF (pv 2) (ae (pv 7) ag))))) a_))) (aw (Qr (i:=3) pA.nd rfl (Or.inl rfl) aG Qs)))) (aw (aH (pv 2)))))),?_⟩;have sz:(10000:Nat)<=sizeLine:=by rw[sizeLine_eq];omega
 obtain⟨as,cY,al,gt⟩:=jQ.get;have VG:=ok.m;refine bX ?_;refine⟨_,rfl,by show 1<=sizeLine;omega,λbC H1 xP g1 KP=>?_⟩;refine setC ?_;refine iI (λσ H6=>∃ks:List Str,aj H H6/\H6 bC=some (.lst (ks.map V.str))/\(∀z,z∈ks↔fH b a z)/\∃o3 o4 o5 o6 o7:Option V,σ=[some (.ref fa),some (.str a),some (.ref bC),o3,o4,o5,o6,o7]) (λoN fP=>?_) ?_
 ·refine Fp (VF H b a fa bC) (muU b.ps.length) ⟨[a],0,none,none,none,none,g1,KP,⟨Yz.mpr ⟨(λz=>nomatch z),W9⟩,λk hk=>by rw[Yn.mp hk];exact .refl,Yh⟩,Yv _,λr hr=>absurd hr (Wk _),rfl⟩ ?_ ?_
  ·rintro σ H6 ⟨ks,r,o4,o5,o6,o7,g6,ng,up,rl,cl,rfl⟩;have kl:(ks.map V.str).length=ks.length:=Ya _;have gl:=up.len ok ma;refine⟨_,rfl,_,rfl,bC,_,rfl,.inl (ak.of ng),_,_,rfl,rfl,_,rfl,?_⟩;rw[kl];refine bI (λc=>?_) (λc=>?_)
   ·have uV:r<ks.length:=by have:=of_decide_eq_true c;omega
    obtain⟨k,ek⟩:∃k,ks[r]?=some k:=⟨_,Yc uV⟩;have mk:k∈ks:=Yg ek;refine iI (KW H b a fa bC r ks k b.F.length) (λKA qj=>?_) ?_
    ·refine⟨_,rfl,fa,rfl,⟨_,ak.of (g6 _ _ cY)⟩,jq (K:=K) (a:=fa) (xs:=as.map V.ref) (KW H b a fa bC r ks k) ⟨ks,[],o4,o5,o6,o7,g6,ng,up,by rw[We],λc hc=>(nomatch hc),rfl⟩ (λj σ H8 _ ⟨_,_,_,_,_,_,g,_,_,_,_,_⟩=>ak.of (g _ _ cY)) ?_ ?_⟩
     ·rintro j v σ H8 hj ⟨eF,tl,p4,p5,p6,p7,g8,jT,qz,e8,iC,rfl⟩;obtain⟨c0,c,z,rfl,iy,qr,hc⟩:=gt H8 j v g8 hj;have mc:c∈b.F:=Yg iy;have AX:eF[r]?=some k:=by rw[e8,Wb uV];exact ek
      have gl8:=qz.len ok ma;refine⟨c0,_,rfl,aA.of hc,rfl,_,_,rfl,bp ⟨_,_,rfl,bp ⟨_,_,rfl,bp ⟨_,_,rfl,bp ⟨rfl,?_⟩⟩⟩⟩⟩;refine(Bt.and (Vt.test (Vt.Hk (k:=c.k) (Vt.var rfl))) λHA _ gA=>Bt.and (Vt.test (Vt.eq (x:=.str (av b.ps c.one)) (y:=.str k) (Vt.var rfl) (λHB gB kk hk=>⟨_,rfl,_,rfl,bC,_,_,_,rfl,rfl,ak.of (gB _ _ (gA _ _ jT)),gQ (by rw[Yf,AX];rfl),hk _ (aj.refl _)⟩) rfl)) λHB _ gB=>Vt.test (b:=!eX (kV (a9 b.ps c)) (eF.map V.str)) λkk hk=>⟨_,rfl,_,rfl,bC,_,rfl,.inl (ak.of (gB _ _ (gA _ _ jT))),Zas (y_ _),NI _,hk _ (aj.refl _)⟩) _ λH9 g9=>?_;rw[dO];have uX:∀jk:List Str,(∀x∈eF,x∈jk)->(cI c.k=true->av b.ps c.one=k->∀y,kV (a9 b.ps c)=.str y->y∈jk)->∀c'∈b.F.take (j+1),cI c'.k=true->av b.ps c'.one=k->∀y,kV (a9 b.ps c')=.str y->y∈jk:=λjk sub hh c' m' h1 h2 y h3=>by
       rw[qr] at m';rcases Yu.mp m' with m'|m';·exact sub _ (iC c' m' h1 h2 y h3)
       ·rw[Yn.mp m'] at h1 h2 h3;exact hh h1 h2 y h3
      refine bI (λcc=>?_) (λcc=>aZ ?_)
      ·rw[Wh,Wh,decide_eq_true_iff] at cc;obtain⟨c1,c2,c3⟩:=cc;have ns:c.k≠bh:=λz=>by rw[z] at c1;exact absurd c1 (by decide+kernel)
       have eo:kV (a9 b.ps c)=.str (av b.ps c.aJ.toNat):=by rw[gO ns];rfl
       have sF:=g9 _ _ jT;refine⟨_,rfl,.inl ⟨rfl,_,ak.of sF⟩,_,rfl,bC,_,_,rfl,rfl,sF,by rw[Ya];omega,λoF xQ oI=>?_⟩;have no:av b.ps c.aJ.toNat∉eF:=λz=>by
        rw[eo,(IC _ _).mpr z] at c3;cases c3
       refine⟨eF++[av b.ps c.aJ.toNat],tl++[av b.ps c.aJ.toNat],_,_,_,_,λd o e=>xQ _ _ (g9 _ _ (g8 _ _ e)) (ck e xP),by rw[oI,Yp,eo];rfl,⟨?_,λx hx=>?_,Yt _ qz.ma⟩,by rw[e8,Jk],uX _ (λx hx=>Yt _ hx) λ_ _ y hy=>?_,rfl⟩
       ·refine Wv.mpr ⟨qz.nd,by simp,λu hu w hw z=>?_⟩;rw[Yn] at hw;rw[z,hw] at hu;exact no hu
       ·rcases Yu.mp hx with hx|hx;·exact qz.sd x hx
        ·rw[Yn.mp hx];exact .step (qz.sd k (Yg AX)) ((OP ok).mpr ⟨c,mc,c1,c2,eo⟩)
       ·rw[eo] at hy;rw[←V.str.inj hy];exact Yq _ Yh
      ·refine⟨eF,tl,_,_,_,_,g8.trans g9,g9 _ _ jT,qz,e8,uX _ (λ_ h=>h) λh1 h2 y h3=>?_,rfl⟩;rw[h1,Ju,decide_eq_true h2,Ju,h3] at cc;by_cases z:y∈eF;·exact z
       ·exact absurd (by rw[Jy.mpr (λw=>z ((IC _ _).mp w))];rfl) cc
     ·grind
    ·rintro σ H8 ⟨eF,tl,p4,p5,p6,p7,g8,jT,qz,e8,iC,rfl⟩;rw[Wd] at iC;have AX:eF[r]?=some k:=by rw[e8,Wb uV];exact ek
     refine⟨_,rfl,_,_,rfl,rfl,?_⟩;refine⟨⟨eF,r+1,p4,p5,p6,p7,g8,jT,qz,by rw[e8,Yj];omega,λr' h' x hx p hp=>?_,rfl⟩,?_⟩
     ·by_cases z:r'=r
      ·rw[z,AX] at hx;cases hx;obtain⟨c,mc,h1,h2,h3⟩:=(OP ok).mp hp;exact iC c mc h1 h2 p h3
      ·rw[e8,Wb (by omega)] at hx;rw[e8];exact Yt _ (cl r' (by omega) x hx p hp)
     ·show b.ps.length+1-((r:Int)+1).toNat<b.ps.length+1-((r:Int)).toNat;omega
   ·have re:¬((r:Int)<(ks.length:Int)):=λz=>c (decide_eq_true z);exact fP _ _ ⟨ks,g6,ng,up.all (λr' h'=>cl r' (by omega)),_,_,_,_,_,rfl⟩
  ·rintro σ H6 Q1 Q2 mo ⟨v1,w1,v2,w2,v3,v4,w3,w4,v5,v6,w5,w6,v7,w7,h⟩;exact⟨v1,w1,v2,w2,v3,v4,w3,w4,v5,v6,w5,w6,v7,w7,mo _ _ h⟩
 rintro σ H6 ⟨ks,g6,ng,al,o3,o4,o5,o6,o7,rfl⟩;exact⟨_,rfl,q bC ks H6 g6 ng al⟩
end
open Classical in
noncomputable def mK (n:Nat) (b:BS) (c:Fc):Str:=if c.k≠bh/\kF c.k (e_ b.ps c.one) (e_ b.ps c.aJ.toNat)=false then"wrong side" else if oh b.ps b.F c.k (av b.ps c.one) (kV (a9 b.ps c))=true then"told twice" else if cI c.k=true/\fH b (av b.ps c.aJ.toNat) (av b.ps c.one) then"own elder" else if jy (b.F++[c]) n c.one=[] then"barred" else""
inductive Qc(vs:List V)(H:Hp)(Q:VK):Prop
 |mk (sd fa td ff:Addr) (xs ys:List Int) (b:BS) (c:Fc) (aE:vs=[.ref sd,.ref fa,.ref td,.ref ff]) (hs:H sd=some (.dK (fQ b.ps))) (hf:FL H b.ps fa b.F) (ht:gw H td xs ys) (hc:H ff=some (.tup [.str c.k,.str (av b.ps c.one),kV (a9 b.ps c)])) (ok:cG xs ys b) (fg:d_ xs ys b.ps.length c) (q:∀H',aj H H'->Q (.str (mK xs.length b c)) H'):Qc vs H Q
def Rv:Sp:=λvs H Q _=>Qc vs H Q
theorem Ze4(fg:d_ xs ys m c)(ns:c.k≠bh):c.k="mother"\/c.k="father"\/c.k="wed"\/c.k="sibling":=by
 have h:=fg.ub ns
 grind
section
theorem ye:aU ["_law_sides","_law_facts","_law_turns_here","_law_fact_here","_law_kind","_law_one","_law_other"] ["_law_sides","_law_facts","_law_turns_here","_law_fact_here"] (aM Eg):=⟨rfl,rfl,rfl,by decide+kernel,rfl,by decide+kernel,by decide+kernel⟩
open Classical in
theorem Zx(F:aN K "_law_word" "_law_word" Eg f fd)(D1:HasFn P w K mg base 1 "_law_sided" ["_law_sides","_law_kind","_law_one","_law_other"] Qb)(Ew:HasFn P w K mg base 1 "_law_told" ["_law_facts","_law_kind","_law_one","_law_other"] Qa)(FJ:HasFn P w K mg base 1 "_law_up" ["_law_facts","_law_name_here"] Tx)(sZ:HasFn P w K mg base 3 "_law_room" ["_law_facts","_law_turns_here","_law_name_here"] GQ)(bl:Bl mg):aK P w K mg base aP 4 f fd ["_law_sides","_law_facts","_law_turns_here","_law_fact_here"] Rv:=by
 refine F.ok ye (λvs H Q E h=>?_) (λaF A outer s H vs Q E hr h=>?_)
 ·obtain⟨sd,fa,td,ff,xs,ys,b,c,rfl,_⟩:=h;rfl
 obtain⟨sd,fa,td,ff,xs,ys,b,c,rfl,hs,hf,ht,hc,ok,fg,q⟩:=h;have hu:=hr.tU;refine⟨_,(au (lC (pv 3) (gT (K:=K) (n:=3) rfl rfl (bJ (bo (i:=4) ye.nd rfl (Or.inl rfl)) (bJ (bo (i:=5) ye.nd rfl (Or.inl rfl)) (bJ (bo (i:=6) ye.nd rfl (Or.inl rfl)) gP))))) (au (aR (bb cg (pv 4) bc (aQ _)) (au (aR (kA (nH (bH hr) (pv 5) (pv 0)) (by with_unfolding_all rfl)) (aw (aH bc)) a_) (aw (aR (PW.pt (pw_or (bb mH (pv 6) aG (aQ _)) (pw_or1 (bb Zfg (pv 6) (bM (c9 (K:=K) rfl) rfl bl.cX cV (ae (dh (bH hr) (pv 2) bc (λ_ _=>rfl)) ag)) (aQ _))))) (aw (aH bc)) a_))) (au (aR (kA (nH (bH hr) (pv 4) (pv 2)) (by with_unfolding_all rfl)) (aw (aH bc)) a_) (au (aR (PW.pt (pw_or (kA (nH (bH hr) (pv 5) (pv 0)) (by with_unfolding_all rfl)) (pw_or1 (kA (nH (bH hr) (pv 6) (pv 0)) (by with_unfolding_all rfl))))) (aw (aH bc)) a_) (aw (aR (iY (eK (aY D1 hr (by omega) rfl (ae (pv 0) (ae (pv 4) (ae (pv 5) (ae (pv 6) ag))))))) (aw (aH bc)) a_))))) (au (aR (eK (aY Ew hr (by omega) rfl (ae (pv 1) (ae (pv 4) (ae (pv 5) (ae (pv 6) ag)))))) (aw (aH bc)) a_) (au (aR (PW.pt (pw_and (bb (lT (K:=K) rfl) (pv 4) (cK (ae bc (ae bc ag))) (by with_unfolding_all rfl)) (pw_and1 (bb (lT (K:=K) rfl) (pv 5) (aY FJ hr (by omega) rfl (ae (pv 1) (ae (pv 6) ag))) (by with_unfolding_all rfl))))) (aw (aH bc)) a_) (au (aR (bb (QH hu) (aY sZ hr (by omega) rfl (ae (a8 pF (pv 1) (cZ (ae (cK (ae (a8 ze aG aG) (ae (pv 4) (ae (pv 5) (ae (pv 6) ag))))) ag))) (ae (pv 2) (ae (pv 5) ag)))) (cZ ag) (aQ _)) (aw (aH bc)) a_) (aw (aH bc))))))),?_⟩;have sz:(10000:Nat)<=sizeLine:=by rw[sizeLine_eq];omega
 have one:=fg.ok.one;have g1:=nP ok.nm one;refine⟨_,rfl,ff,_,rfl,aA.of hc,rfl,_,_,rfl,bp ⟨_,_,rfl,bp ⟨_,_,rfl,bp ⟨rfl,?_⟩⟩⟩⟩;dsimp only;refine nW (λσ H7=>aj H H7/\¬(c.k≠bh/\kF c.k (e_ b.ps c.one) (e_ b.ps c.aJ.toNat)=false)/\σ=[some (.ref sd),some (.ref fa),some (.ref td),some (.ref ff),some (.str c.k),some (.str (av b.ps c.one)),some (kV (a9 b.ps c))]) (λoR eP=>?_) ?_
 ·refine⟨_,rfl,rfl,_,rfl,?_⟩;rw[dO];refine bI (λcc=>?_) (λcc=>?_)
  ·have sk:c.k=bh:=of_decide_eq_true cc;have eo:kV (a9 b.ps c)=.int c.aJ:=by rw[ko sk];rfl
   refine⟨_,rfl,_,rfl,sd,_,rfl,di hs g1,_,rfl,cj (aZ ?_)⟩;obtain⟨s0,s1⟩:=fg.Iw sk;obtain⟨_,_,_,u0,fO,_,_,_,uY⟩:=id ht;refine(Bt.or (a:=decide (c.aJ<0)) (b:=decide ((((bF xs.length).map V.int).length:Int)<=c.aJ)) (λk hk=>⟨_,rfl,c.aJ,0,eo,rfl,_,rfl,hk _ (aj.refl _)⟩) λH1 _ g1 k hk=>⟨_,rfl,_,rfl,td,.ref u0,rfl,di (g1 _ _ fO) rfl,u0,_,rfl,.inr (aA.of (g1 _ _ uY)),c.aJ,_,eo,rfl,_,rfl,hk _ (aj.refl _)⟩) _ λH2 g2=>?_;rw[decide_eq_false (by omega),decide_eq_false (by rw[Ya,eG];omega)];exact cj (aZ (eP _ _ ⟨g2,λz=>z.1 sk,rfl⟩))
  ·have ns:c.k≠bh:=λz=>cc (decide_eq_true z);have eo:kV (a9 b.ps c)=.str (av b.ps c.aJ.toNat):=by rw[gO ns];rfl
   obtain⟨tk,u,fO,vu,_⟩:=ht.get (fg.ub ns);have g2:=nP ok.nm (fg.ok.gu ns).1.2;refine⟨_,rfl,_,rfl,td,_,rfl,di fO vu,_,rfl,cj (aZ ?_)⟩;refine(Bt.or (a:=false) (b:=false) (λk hk=>⟨_,rfl,_,rfl,sd,_,rfl,di hs g1,_,rfl,hk _ (aj.refl _)⟩) λH1 _ g1 k hk=>⟨_,rfl,_,rfl,sd,some (.str (e_ b.ps c.aJ.toNat)),rfl,(by rw[eo];exact di (g1 _ _ hs) g2),_,rfl,hk _ (aj.refl _)⟩) _ λH2 g2=>cj (aZ ?_);refine⟨_,rfl,_,rfl,_,rfl,_,rfl,sd,b.ps,c.k,c.one,c.aJ.toNat,by rw[eo];rfl,g2 _ _ hs,ok.nm,one,(fg.ok.gu ns).1.2,Ze4 fg ns,λH3 g3=>⟨_,rfl,?_⟩⟩;cases es:kF c.k (e_ b.ps c.one) (e_ b.ps c.aJ.toNat) with
   |true=>exact cj (aZ (eP _ _ ⟨g2.trans g3,λz=>by rw[es] at z;exact absurd z.2 (by decide),rfl⟩))
   |false=>
    refine c6 ?_;have e:mK xs.length b c="wrong side":=if_pos ⟨ns,es⟩;rw[e] at q;exact q _ (g2.trans g3)
 rintro σ H7 ⟨g7,nw,rfl⟩;refine⟨_,rfl,_,rfl,_,rfl,_,rfl,fa,b.ps,b.F,c.k,av b.ps c.one,kV (a9 b.ps c),rfl,hf.same g7,y_ _,λH8 g8=>⟨_,rfl,?_⟩⟩;have KY:=g7.trans g8;unfold mK at q;rw[if_neg nw] at q;refine bI (λct=>?_) (λct=>aZ ?_)
 ·rw[if_pos ct] at q;exact q _ KY
 rw[if_neg ct] at q;refine(Bt.and (b:=decide (fH b (av b.ps c.aJ.toNat) (av b.ps c.one))) (Vt.test (Vt.Hk (k:=c.k) (Vt.var rfl))) λH9 ip g9 k hk=>?_) _ λH9 g9=>?_
 ·have ns:c.k≠bh:=λz=>by rw[z] at ip;exact absurd ip (by decide+kernel)
  have eo:kV (a9 b.ps c)=.str (av b.ps c.aJ.toNat):=by rw[gO ns];rfl
  refine⟨_,rfl,_,rfl,_,rfl,fa,xs,ys,b,av b.ps c.aJ.toNat,by rw[eo];rfl,hf.same (KY.trans g9),ok,Ga (fg.ok.gu ns).1.2,λp ks H' g' hp al=>⟨p,_,rfl,.inl (ak.of hp),rfl,NI _,_,rfl,?_⟩⟩;have e:eX (V.str (av b.ps c.one)) (ks.map V.str)=decide (fH b (av b.ps c.aJ.toNat) (av b.ps c.one)):=by
   rw[Wf,decide_eq_true_iff,IC,al]
  rw[e];exact hk _ g'
 have AY:=KY.trans g9;refine bI (λcu=>?_) (λcu=>aZ ?_)
 ·rw[Wh,decide_eq_true_iff] at cu;rw[if_pos cu] at q;exact q _ AY
 rw[Wh,decide_eq_true_iff] at cu;rw[if_neg cu] at q;obtain⟨as,cY,du⟩:=hf.same AY;have al:=cR du;have fl:=ok.fl;have Fl:b.F.length=b.fs.length:=Ya _;refine⟨_,rfl,_,_,rfl,rfl,_,rfl,_,rfl,_,rfl,by show 4<=sizeLine;omega,λt Ht nt gt xS=>⟨by show 1<=sizeLine;omega,λl Hl nl gl hl=>⟨fa,l,_,_,rfl,rfl,gl _ _ (gt _ _ cY),hl,by rw[Ya];show _+1<=_;omega,λp Hp np gp hp=>⟨_,rfl,_,rfl,?_⟩⟩⟩⟩;have KZ:=(gt.trans gl).trans gp;refine⟨p,td,b.ps,xs,ys,b.F++[c],c.one,rfl,⟨as++[t],by rw[hp,Yp];rfl,iX (F:=KN Hp b.ps) ⟨-1,gp _ _ (gl _ _ xS)⟩ (L2.Paired.bu du λ_ _ ⟨z,e⟩=>⟨z,KZ _ _ e⟩)⟩,ht.same (AY.trans KZ),ok.nm,λc' mV=>?_,ok.gd.2.2.2.2,by have:=ok.m;omega,by rw[Yj];show _+1<=64;omega,one,λpr Hr npr gr hr2=>⟨by show 0<=sizeLine;omega,λe He ne ge he=>⟨pr,e,_,[],rfl,rfl,ak.of (ge _ _ hr2),ak.of he,_,rfl,?_⟩⟩⟩
 ·rcases Yu.mp mV with h|h
  ·obtain⟨pp,oV,rfl⟩:=Ye.mp (show c'∈b.fs.map (·.2) from h);exact ok.fg pp oV
  ·rw[Yn.mp h];exact fg
 have gE:=(AY.trans KZ).trans (gr.trans ge);refine bI (λcr=>?_) (λcr=>aZ ?_)
 ·rw[if_pos (of_decide_eq_true cr)] at q;exact q _ gE
 ·rw[if_neg (λz=>cr (decide_eq_true z))] at q;exact q _ gE
end
theorem za(a b:Str):(L2.lM a b=a/\L2.lN a b=b)\/(L2.lM a b=b/\L2.lN a b=a):=by
 unfold L2.lM L2.lN;by_cases h1:b.cps.toList<a.cps.toList;·grind
 ·rw[if_neg h1];by_cases h2:a.cps.toList<b.cps.toList;·grind
  ·rw[if_neg h2];have e2:a=b:=by
    cases a with|mk ca=>cases b with|mk cb=>
     grind
   grind
theorem OQ{b:BS}{c:Fc}(h:oh b.ps b.F c.k (av b.ps c.one) (kV (a9 b.ps c))=false):eZ b.ps c∉b.keys/\(cI c.k=true->[.inr c.k,.inr (av b.ps c.one)]∉(cz b.ps b.fs).map (·.1))/\¬(c.k="sibling"/\V.str (av b.ps c.one)=kV (a9 b.ps c)):=by
 unfold oh at h;rw[Bool.or_eq_false_iff] at h;obtain⟨h1,h2⟩:=h;have no:∀p∈b.fs,lO b.ps c.k (av b.ps c.one) (kV (a9 b.ps c)) p.2=false:=λp hp=>by
  have:=J9.mp h1 p.2 (Ye.mpr ⟨p,hp,rfl⟩);exact Jy.mpr this
 have ZgY:∀{u v:Key},u=v->kV u=kV v:=λe=>by rw[e]
 refine⟨λhk=>?_,λip hp=>?_,λ⟨e1,e2⟩=>?_⟩
 ·obtain⟨p,hp,e⟩:=Ye.mp hk;have n:=no p hp;have hit:p.2.k=c.k->((av b.ps p.2.one=av b.ps c.one/\a9 b.ps p.2=a9 b.ps c)\/(c.k="sibling"/\a9 b.ps p.2=.inr (av b.ps c.one)/\Sum.inr (av b.ps p.2.one)=a9 b.ps c))->False:=λe1 e2=>by
   have:lO b.ps c.k (av b.ps c.one) (kV (a9 b.ps c)) p.2=true:=by
    unfold lO;rw[decide_eq_true e1,Ju];rcases e2 with⟨e2,e3⟩|⟨e2,e3,e4⟩;·rw[decide_eq_true e2,decide_eq_true (ZgY e3)];rfl
    ·rw[decide_eq_true e2,decide_eq_true (show kV (a9 b.ps p.2)=.str (av b.ps c.one) by rw[e3];rfl),decide_eq_true (show V.str (av b.ps p.2.one)=kV (a9 b.ps c) by rw[←e4];rfl)];simp
   rw[this] at n;cases n
  unfold eZ at e;cases nj:a9 b.ps p.2 with
  |inl z1=>
   cases l9:a9 b.ps c with
   |inl z2=>
    rw[nj,l9] at e;injection e with e1 e;injection e with e2 e;injection e with e3 _;exact hit (Wc e1) (.inl ⟨Wc e2,by rw[nj,l9,e3]⟩)
   |inr z2=>
    rw[nj,l9] at e;unfold keyOf at e;dsimp only at e;split at e
    ·injection e with e1 e;injection e with e2 e;injection e with e3 _;cases e3
    ·injection e with e1 e;injection e with e2 e;injection e with e3 _;cases e3
  |inr z1=>
   cases l9:a9 b.ps c with
   |inl z2=>
    rw[nj,l9] at e;unfold keyOf at e;dsimp only at e;split at e
    ·injection e with e1 e;injection e with e2 e;injection e with e3 _;cases e3
    ·injection e with e1 e;injection e with e2 e;injection e with e3 _;cases e3
   |inr z2=>
    rw[nj,l9] at e;have ek:p.2.k=c.k:=by
     unfold keyOf at e;dsimp only at e;split at e<;>split at e<;>(injection e with e1 _;exact Wc e1)
    unfold keyOf at e;dsimp only at e;rw[ek] at e;by_cases sb:c.k="sibling"
    ·rw[if_pos sb,if_pos sb] at e;injection e with _ e;injection e with e2 e;injection e with e3 _;have e2:=Wc e2;have e3:=Wc e3;refine hit ek ?_;rcases za (av b.ps p.2.one) z1 with⟨m1,m2⟩|⟨m1,m2⟩<;>rcases za (av b.ps c.one) z2 with⟨m3,m4⟩|⟨m3,m4⟩<;>rw[m1,m3] at e2<;>rw[m2,m4] at e3;·exact .inl ⟨e2,by rw[nj,l9,e3]⟩
     ·exact .inr ⟨sb,by rw[nj,e3],by rw[l9,e2]⟩
     ·exact .inr ⟨sb,by rw[nj,e2],by rw[l9,e3]⟩
     ·exact .inl ⟨e3,by rw[nj,l9,e2]⟩
    ·rw[if_neg sb,if_neg sb] at e;injection e with _ e;injection e with e2 e;injection e with e3 _;exact hit ek (.inl ⟨Wc e2,by rw[nj,l9,e3]⟩)
 ·obtain⟨q,hq,e⟩:=Ye.mp hp;unfold cz at hq;obtain⟨p,hp,rfl⟩:=Ye.mp hq;obtain⟨oH,dG⟩:=Y5.mp hp;have n:=no p oH;injection e with e1 e;injection e with e2 _;unfold lO at n;rw[decide_eq_true (Wc e1),decide_eq_true (Wc e2),ip] at n;simp at n
 ·rw[decide_eq_true e1,decide_eq_true e2] at h2;cases h2
theorem Zbk(ok:cG xs ys b)(fg:d_ xs ys b.ps.length c)(h:jy (b.F++[c]) xs.length c.one≠[]):∃f,kT xs.length b.ps.length f/\∀c'∈b.F++[c],eO f c':=by
 obtain⟨a,ha⟩:=List.exists_mem_of_ne_nil _ h;obtain⟨_,g,cl,hg⟩:=E5.mp ha;obtain⟨f0,inr,sat⟩:=ok.lv;have hV:∀c'∈b.F++[c],dB xs.length b.ps.length c':=λc' mV=>by
  rcases Yu.mp mV with h|h
  ·obtain⟨pp,oV,rfl⟩:=Ye.mp (show c'∈b.fs.map (·.2) from h);exact(ok.fg pp oV).ok
  ·rw[Yn.mp h];exact fg.ok
 obtain⟨f,h1,h2,_⟩:=L6 hV inr (λc' mV=>by
  rcases Yu.mp mV with h|h;·grind
  ·rw[Yn.mp h];exact .inl rfl) cl hg
 grind
theorem Qd{xs:List Int}{b:BS}{c:Fc}(h:mK xs.length b c=""):¬(c.k≠bh/\kF c.k (e_ b.ps c.one) (e_ b.ps c.aJ.toNat)=false)/\oh b.ps b.F c.k (av b.ps c.one) (kV (a9 b.ps c))=false/\¬(cI c.k=true/\fH b (av b.ps c.aJ.toNat) (av b.ps c.one))/\jy (b.F++[c]) xs.length c.one≠[]:=by
 unfold mK at h;by_cases h1:c.k≠bh/\kF c.k (e_ b.ps c.one) (e_ b.ps c.aJ.toNat)=false;·rw[if_pos h1] at h;exact absurd h (by decide+kernel)
 rw[if_neg h1] at h;by_cases h2:oh b.ps b.F c.k (av b.ps c.one) (kV (a9 b.ps c))=true;·rw[if_pos h2] at h;exact absurd h (by decide+kernel)
 rw[if_neg h2] at h;by_cases h3:cI c.k=true/\fH b (av b.ps c.aJ.toNat) (av b.ps c.one);·rw[if_pos h3] at h;exact absurd h (by decide+kernel)
 rw[if_neg h3] at h;by_cases h4:jy (b.F++[c]) xs.length c.one=[];·rw[if_pos h4] at h;exact absurd h (by decide+kernel)
 grind
theorem FK{xs ys:List Int}{b:BS}{c:Fc}(ok:cG xs ys b)(fg:d_ xs ys b.ps.length c)(lim:b.fs.length<63)(h:mK xs.length b c=""):zR xs ys b c:=by
 obtain⟨_,h2,_,h4⟩:=Qd h;obtain⟨k1,k2,_⟩:=OQ h2;exact⟨fg,k1,k2,Zbk ok fg h4,lim⟩
theorem Zcu{xs ys:List Int}{b:BS}{c:Fc}(ok:cG xs ys b)(fg:d_ xs ys b.ps.length c)(lim:b.fs.length<63)(h:mK xs.length b c="")(ns:c.k≠bh):G_ xs ys b c:=by
 obtain⟨h1,h2,h3,_⟩:=Qd h;obtain⟨k1,k2,k3⟩:=OQ h2;have eo:=gO (ps:=b.ps) ns;refine⟨FK ok fg lim h,ns,?_,⟨k2,λ_=>⟨?_,λ⟨e1,e2⟩=>k3 ⟨e1,by rw[eo,e2];rfl⟩⟩⟩,λip an=>h3 ⟨ip,an⟩⟩;·grind
 ·rw[←eo];exact k1
def jn(ps:bO):List V:=ps.map λp=>.str p.1
theorem Gf(ps:bO):(jn ps).length=ps.length:=Ya _
theorem Rw{ps:bO}{z:Int}(h0:0<=z)(h:z<(ps.length:Int)):dA (jn ps) z=some (.str (av ps z.toNat)):=by
 obtain⟨k,rfl⟩:∃k:Nat,z=(k:Int):=⟨z.toNat,by omega⟩;refine gQ ?_;unfold jn av
 grind
theorem vZ{z:Int}{n:Nat}(h:0<n):0<=z % (n:Int)/\z % (n:Int)<(n:Int):=⟨Jc _ (by omega),Wz _ (by omega)⟩
theorem Vt.vN{K:PySem.W.Frag}{e:TE}{σ:St}{H:Hp}{nl:Addr}{ps:bO}{z:Int}{i:Nat}(hi:σ[i]?=some (some (.ref nl)))(hn:H nl=some (.lst (jn ps)))(p0:0<ps.length)(he:Vt e σ H (.int z)):Vt (jE (wo K) (eW i) (jE (rI (λ_ j=>0<j) λi j=>V.int (i % j)) e (pY (zL K) (fY (eW i) i4)))) σ H (.str (av ps (z % (ps.length:Int)).toNat)):=λk hk=>⟨_,hi,he _ λH1 g1=>by
 have l:=Gf ps;have m:=vZ (z:=z) p0;exact⟨_,hi,nl,_,rfl,.inl (ak.of (g1 _ _ hn)),_,_,rfl,rfl,by omega,nl,_,_,_,rfl,rfl,ak.of (g1 _ _ hn),by rw[l];exact Rw m.1 m.2,hk H1 g1⟩⟩
inductive Qe(vs:List V)(H:Hp)(Q:VK):Prop
 |mk (nl sd:Addr) (ps:bO) (z:Int) (s:Str) (aE:vs=[.ref nl,.ref sd,.int z,.str s]) (hn:H nl=some (.lst (jn ps))) (hs:H sd=some (.dK (fQ ps))) (nd:(ps.map (·.1)).Nodup) (p0:0<ps.length) (pm:ps.length<=100) (q:∀i,i<ps.length->∀H',aj H H'->Q (.str (av ps i)) H'):Qe vs H Q
def Rx:Sp:=λvs H Q _=>Qe vs H Q
theorem OR(xs ys:List Int){d:Int}(h:0<=d/\d<4):∃(k:Str) (tn:List Int) (w:Str),dA [V.str "mother",V.str "father",V.str "wed",V.str "sibling"] d=some (.str k)/\(k,tn)∈pO xs ys/\dA [V.str "woman",V.str "man",V.str "woman",V.str ""] d=some (.str w):=by
 have:d=0\/d=1\/d=2\/d=3:=by omega
 rcases this with rfl|rfl|rfl|rfl;·exact⟨_,inv xs,_,rfl,by simp,rfl⟩
 ·exact⟨_,inv (bL xs ys),_,rfl,by simp,rfl⟩
 ·exact⟨_,ys,_,rfl,by simp,rfl⟩
 ·exact⟨_,bF xs.length,_,rfl,by simp,rfl⟩
inductive Qf(vs:List V)(H:Hp)(Q:VK):Prop
 |mk (nl sd dr:Addr) (ps:bO) (xs ys:List Int) (d0 d1 d2 d3 d4:Int) (aE:vs=[.ref nl,.ref sd,.ref dr,.int (xs.length:Int)]) (hn:H nl=some (.lst (jn ps))) (hs:H sd=some (.dK (fQ ps))) (nd:(ps.map (·.1)).Nodup) (p0:0<ps.length) (pm:ps.length<=100) (hd:H dr=some (.lst ([d0,d1,d2,d3,d4].map V.int))) (b4:0<=d4/\d4<4) (gd:mJ xs ys) (q:∀c,d_ xs ys ps.length c->∀(ff:Addr) (H':Hp),H ff=none->aj H H'->H' ff=some (.tup [.str c.k,.str (av ps c.one),kV (a9 ps c)])->Q (.ref ff) H'):Qf vs H Q
def Ry:Sp:=λvs H Q _=>Qf vs H Q
section
theorem Mj:aU ["_law_names","_law_sides","_law_at","_law_side","_law_k"] ["_law_names","_law_sides","_law_at","_law_side"] (aM Eh):=⟨rfl,rfl,rfl,by decide+kernel,rfl,by decide+kernel,by decide+kernel⟩
theorem Zy(F:aN K "_law_pick" "_law_pick" Eh f fd)(bl:Bl mg):aK P w K mg base aP 1 f fd ["_law_names","_law_sides","_law_at","_law_side"] Rx:=by
 refine F.ok Mj (λvs H Q E h=>?_) (λaF A outer s H vs Q E hr h=>?_)
 ·obtain⟨nl,sd,ps,z,sx,rfl,_⟩:=h;rfl
 obtain⟨nl,sd,ps,z,sx,rfl,hn,hs,nd,p0,pm,q⟩:=h;refine⟨_,(au (fW PassesOwn.never rfl (pj rfl bl.jt (ae (bM (c9 (K:=K) rfl) rfl bl.cX cV (ae (pv 0) ag)) ag)) (bo (i:=4) Mj.nd rfl (Or.inl rfl)) (aw (aR (PW.pt (pw_or (bb cg (pv 3) bc (aQ _)) (pw_or1 (bb cg (dh (bH hr) (pv 1) (aX (bQ (K:=K) rfl) (pv 0) (a8 dJ (a8 fX (pv 2) (pv 4)) (bM (c9 (K:=K) rfl) rfl bl.cX cV (ae (pv 0) ag))) (λ_ _=>rfl)) (λ_ _=>rfl)) (pv 3) (aQ _))))) (aw (aH (aX (bQ (K:=K) rfl) (pv 0) (a8 dJ (a8 fX (pv 2) (pv 4)) (bM (c9 (K:=K) rfl) rfl bl.cX cV (ae (pv 0) ag))) (λ_ _=>rfl)))) a_))) (aw (aH (aX (bQ (K:=K) rfl) (pv 0) (a8 dJ (pv 2) (bM (c9 (K:=K) rfl) rfl bl.cX cV (ae (pv 0) ag))) (λ_ _=>rfl))))),?_⟩;have AZ:=Gf ps;have at_:∀z:Int,(z % (ps.length:Int)).toNat<ps.length:=λz=>by have:=vZ (z:=z) p0;omega
 refine iI (λσ H6=>aj H H6/\∃o4:Option V,σ=[some (.ref nl),some (.ref sd),some (.int z),some (.str sx),o4]) (λoN fP=>?_) ?_
 ·refine⟨_,rfl,nl,_,rfl,.inl (ak.of hn),_,rfl,by omega,by omega,EJ (lo:=0) (n:=(((jn ps).length:Nat):Int).toNat) (λ_ σ H6=>aj H H6/\∃o4:Option V,σ=[some (.ref nl),some (.ref sd),some (.int z),some (.str sx),o4]) ⟨aj.refl _,none,rfl⟩ ?_ (λσ H6 h=>fP _ _ h)⟩;rintro j σ H6 hj ⟨g6,o4,rfl⟩;rw[J7];have vt:∀H7,aj H6 H7->Vt _ _ H7 _:=λH7 g7=>Vt.vN (K:=K) (i:=0) (σ:=[some (.ref nl),some (.ref sd),some (.int z),some (.str sx),some (.int (j:Int))]) (z:=z+(j:Int)) (e:=jE (pX λi j=>V.int (i+j)) (eW 2) (eW 4)) rfl (g7 _ _ (g6 _ _ hn)) p0 (λk hk=>⟨_,rfl,_,rfl,_,_,rfl,rfl,hk _ (aj.refl _)⟩);refine(Bt.or (Vt.test (Vt.eq (Vt.var rfl) (λ_ _=>Vt.c) rfl)) λH7 _ g7=>Vt.test (Vt.eq (x:=.str (e_ ps ((z+(j:Int)) % (ps.length:Int)).toNat)) (y:=.str sx) (λk hk=>⟨_,rfl,vt H7 g7 _ λH8 g8=>⟨sd,_,rfl,di (g8 _ _ (g7 _ _ (g6 _ _ hs))) (nP nd (at_ _)),hk H8 g8⟩⟩) (λ_ _=>Vt.var rfl) rfl)) _ λH9 g9=>?_;refine bI (λ_=>?_) (λ_=>aZ ⟨g6.trans g9,_,rfl⟩);exact vt H9 g9 _ λHA gA=>q _ (at_ _) HA ((g6.trans g9).trans gA)
 rintro σ H6 ⟨g6,o4,rfl⟩;exact Vt.vN (K:=K) (i:=0) (z:=z) rfl (g6 _ _ hn) p0 (Vt.var rfl) _ λHA gA=>q _ (at_ _) HA (g6.trans gA)
theorem vh:aU ["_law_names","_law_sides","_law_drawn","_law_size","_law_kind","_law_one","_law_want"] ["_law_names","_law_sides","_law_drawn","_law_size"] (aM Ei):=⟨rfl,rfl,rfl,by decide+kernel,rfl,by decide+kernel,by decide+kernel⟩
theorem Zz(F:aN K "_law_fact" "_law_fact" Ei f fd)(yo:HasFn P w K mg base 1 "_law_pick" ["_law_names","_law_sides","_law_at","_law_side"] Rx)(bl:Bl mg):aK P w K mg base aP 2 f fd ["_law_names","_law_sides","_law_drawn","_law_size"] Ry:=by
 refine F.ok vh (λvs H Q E h=>?_) (λaF A outer s H vs Q E hr h=>?_)
 ·obtain⟨nl,sd,dr,ps,xs,ys,d0,d1,d2,d3,d4,rfl,_⟩:=h;rfl
 obtain⟨nl,sd,dr,ps,xs,ys,d0,d1,d2,d3,d4,rfl,hn,hs,nd,p0,pm,hd,b4,gd,q⟩:=h;refine⟨_,(au (bq (i:=4) vh.nd rfl (Or.inl rfl) (aX (bQ (K:=K) rfl) (cZ (ae bc (ae bc (ae bc (ae bc ag))))) (aX (bQ (K:=K) rfl) (pv 2) aG (λ_ _=>rfl)) (λ_ _=>rfl))) (au (bq (i:=5) vh.nd rfl (Or.inl rfl) (aX (bQ (K:=K) rfl) (pv 0) (a8 dJ (aX (bQ (K:=K) rfl) (pv 2) aG (λ_ _=>rfl)) (bM (c9 (K:=K) rfl) rfl bl.cX cV (ae (pv 0) ag))) (λ_ _=>rfl))) (au (aR (bb GY (aX (bQ (K:=K) rfl) (pv 2) aG (λ_ _=>rfl)) aG (aQ _)) (aw (aH (cK (ae bc (ae (pv 5) (ae (a8 dJ (aX (bQ (K:=K) rfl) (pv 2) aG (λ_ _=>rfl)) (pv 3)) ag)))))) a_) (au (aR (bb cg (pv 4) bc (aQ _)) (aw (bq (i:=5) vh.nd rfl (Or.inl rfl) (aY yo hr (by omega) rfl (ae (pv 0) (ae (pv 1) (ae (aX (bQ (K:=K) rfl) (pv 2) aG (λ_ _=>rfl)) (ae bc ag))))))) a_) (au (bq (i:=6) vh.nd rfl (Or.inl rfl) (aX (bQ (K:=K) rfl) (cZ (ae bc (ae bc (ae bc (ae bc ag))))) (aX (bQ (K:=K) rfl) (pv 2) aG (λ_ _=>rfl)) (λ_ _=>rfl))) (aw (aH (cK (ae (pv 4) (ae (pv 5) (ae (aY yo hr (by omega) rfl (ae (pv 0) (ae (pv 1) (ae (aX (bQ (K:=K) rfl) (pv 2) aG (λ_ _=>rfl)) (ae (pv 6) ag))))) ag))))))))))),?_⟩;have sz:(10000:Nat)<=sizeLine:=by rw[sizeLine_eq];omega
 obtain⟨k,tn,wt,ek,hk,ew⟩:=OR xs ys b4;have at_:∀z:Int,(z % (ps.length:Int)).toNat<ps.length:=λz=>by have:=vZ (z:=z) p0;omega
 obtain⟨_,_,_,l2,l8⟩:=id gd;have ZgZ:(0:Int)<(xs.length:Int):=by omega
 refine bX ?_;refine⟨by show 4<=sizeLine;omega,λkl H1 nkl g1 uB=>⟨_,rfl,dr,_,_,_,rfl,rfl,ak.of (g1 _ _ hd),rfl,kl,_,_,_,rfl,rfl,ak.of uB,ek,?_⟩⟩;refine bX ?_;have qj:=g1 _ _ hn;refine Vt.vN (K:=K) (i:=0) (z:=d1) rfl qj p0 (λkk hk=>⟨_,rfl,dr,_,_,_,rfl,rfl,ak.of (g1 _ _ hd),rfl,hk _ (aj.refl _)⟩) _ λH2 g2=>?_;have iW:=g1.trans g2;refine⟨_,rfl,dr,_,_,_,rfl,rfl,ak.of (iW _ _ hd),rfl,_,_,rfl,rfl,_,rfl,bI (λ_=>?_) (λ_=>aZ ?_)⟩
 ·refine⟨_,rfl,_,rfl,dr,_,_,_,rfl,rfl,ak.of (iW _ _ hd),rfl,_,rfl,_,_,rfl,rfl,ZgZ,by show 3<=sizeLine;omega,λff H3 A0 g3 sG=>?_⟩;have mm:=vZ (z:=d3) (n:=xs.length) (by omega);exact q ⟨bh,(d1 % (ps.length:Int)).toNat,d3 % (xs.length:Int),[]⟩ ⟨⟨at_ _,λz=>absurd rfl z⟩,.inl rfl,λ_=>mm⟩ ff H3 (iW.free A0) (iW.trans g3) (by rw[sG,ko rfl];rfl)
 have nk:k≠bh:=λz=>Zaj (z▸hk);refine nW (λσ H6=>aj H H6/\∃i:Nat,i<ps.length/\σ=[some (.ref nl),some (.ref sd),some (.ref dr),some (.int (xs.length:Int)),some (.str k),some (.str (av ps i)),none]) (λoR eP=>?_) ?_
 ·refine⟨_,rfl,rfl,_,rfl,bI (λ_=>?_) (λ_=>aZ (eP _ _ ⟨iW,_,at_ _,rfl⟩))⟩;refine⟨_,rfl,_,rfl,_,rfl,dr,_,_,_,rfl,rfl,ak.of (iW _ _ hd),rfl,nl,sd,ps,d1,"man",rfl,iW _ _ hn,iW _ _ hs,nd,p0,pm,λi hi H3 g3=>bp (eP _ _ ⟨iW.trans g3,i,hi,rfl⟩)⟩
 rintro σ H6 ⟨g6,i,hi,rfl⟩;refine bX ?_;refine⟨by show 4<=sizeLine;omega,λwl H7 Vm g7 wU=>⟨_,rfl,dr,_,_,_,rfl,rfl,ak.of (g7 _ _ (g6 _ _ hd)),rfl,wl,_,_,_,rfl,rfl,ak.of wU,ew,?_⟩⟩;have xT:=g6.trans g7;refine⟨_,rfl,_,rfl,_,rfl,_,rfl,_,rfl,dr,_,_,_,rfl,rfl,ak.of (xT _ _ hd),rfl,_,rfl,nl,sd,ps,d2,wt,rfl,xT _ _ hn,xT _ _ hs,nd,p0,pm,λj hj H8 g8=>⟨by show 3<=sizeLine;omega,λff H9 A0 g9 sG=>?_⟩⟩;obtain⟨ft,tl⟩:=Zcj gd hk;exact q ⟨k,i,(j:Int),tn⟩ ⟨⟨hi,λ_=>⟨⟨by show(0:Int)<=(j:Int);omega,hj⟩,ft,tl⟩⟩,.inr hk,λz=>absurd z nk⟩ ff H9 (xT.free (g8.free A0)) ((xT.trans g8).trans g9) (by rw[sG,gO nk];rfl)
end
def jU(n:Nat):List Nat:=if n<10 then[48+n] else[48+n/10,48+n % 10]
def jV(n:Nat):Str:=.ofString (toString (n:Int))
theorem Gg:∀n<61,(jV n).cps.toList=jU n:=by decide+kernel
def fh(k z:Nat):Nat:=if z/3 % 3=1 then 9 else(k*z+z) % 5
def jW(m:Nat):Str:=Txt.mul "q" (m:Int)
theorem ZdG:∀m<10,(jW m).cps.toList=List.replicate m 113:=by decide+kernel
def sH:Str:="abcdefghijklmnopqrstuvwxyz"
theorem GR:∀i<26,dA sH.cps.toList ((i:Nat):Int)=some (97+i):=by decide+kernel
def oW(i:Nat):Str:=⟨#[97+i]⟩
def dm(z k:Nat):Str:=if z % 3=0 then(oW ((k*7+z) % 26)++jV (k/26))++jW (fh k z) else if z % 3=1 then(oW (z % 26)++jW (fh k z))++jV ((k*17+z) % 61) else(oW (z % 26)++jV ((k*17+z) % 61))++jW (fh k z)
theorem GS(k z:Nat):fh k z<10:=by
 unfold fh;split<;>omega
theorem tT(a b:Str):(a++b).cps.toList=a.cps.toList++b.cps.toList:=Array.toList_append
theorem E9(z k:Nat)(hk:k<60):(dm z k).cps.toList=if z % 3=0 then[97+(k*7+z) % 26,48+k/26]++List.replicate (fh k z) 113 else if z % 3=1 then(97+z % 26)::(List.replicate (fh k z) 113++jU ((k*17+z) % 61)) else(97+z % 26)::(jU ((k*17+z) % 61)++List.replicate (fh k z) 113):=by
 have f:=ZdG _ (GS k z);unfold dm;split
 ·rw[tT,tT,f,Gg _ (by omega)];unfold jU;rw[if_pos (by omega)];rfl
 split
 ·rw[tT,tT,f,Gg _ (by omega)];rfl
 ·rw[tT,tT,f,Gg _ (by omega)];rfl
def K0(l:List Nat):Nat:=l.foldl (λa c=>10*a+(c-48)) 0
theorem zF:K0 (jU n)=n:=by
 unfold jU;split
 ·show 10*0+(48+n-48)=n;omega
 ·show 10*(10*0+(48+n/10-48))+(48+n % 10-48)=n;omega
theorem Rz(h:n<61):∀c∈jU n,48<=c/\c<58:=by
 unfold jU
 grind
theorem yp(h:n<61):(jU n).filter (λc=>decide (c<58))=jU n:=List.filter_eq_self.mpr λc hc=>decide_eq_true (Rz h c hc).2
theorem yq(m:Nat):(List.replicate m 113).filter (λc=>decide (c<58))=[]:=by
 grind
theorem Zbl(hk:k<60)(xl:k'<60)(e:dm z k=dm z k'):k=k':=by
 have e:(dm z k).cps.toList=(dm z k').cps.toList:=by rw[e]
 rw[E9 z k hk,E9 z k' xl] at e;by_cases h0:z % 3=0
 ·rw[if_pos h0,if_pos h0] at e;injection e with e1 e;injection e with e2 _;omega
 rw[if_neg h0,if_neg h0] at e;have key:(k*17+z) % 61=(k'*17+z) % 61->k=k':=λh=>by omega
 by_cases h1:z % 3=1
 ·rw[if_pos h1,if_pos h1] at e;injection e with _ e;have e2:=congrArg (List.filter λc=>decide (c<58)) e;rw[Wr,Wr,yq,yq,yp (by omega),yp (by omega),Uq,Uq] at e2;have e3:=congrArg K0 e2;rw[zF,zF] at e3;exact key e3
 ·rw[if_neg h1,if_neg h1] at e;injection e with _ e;have e2:=congrArg (List.filter λc=>decide (c<58)) e;rw[Wr,Wr,yq,yq,yp (by omega),yp (by omega),We,We] at e2;have e3:=congrArg K0 e2;rw[zF,zF] at e3;exact key e3
theorem RA:∀i<26,fG nO (97+i)=true/\fG lD (97+i)=true:=by decide+kernel
theorem RB:∀i<10,fG lD (48+i)=true:=by decide+kernel
theorem Zg0:fG lD 113=true:=by decide+kernel
theorem Zat(hk:k<60):rA (dm z k)=true/\(dm z k).length<=12:=by
 have fl:=GS k z;have rep:(List.replicate (fh k z) 113).all (fG lD)=true:=Wm.mpr λc hc=>by rw[List.eq_of_mem_replicate hc];exact Zg0
 have dg:∀n,n<61->(jU n).all (fG lD)=true/\(jU n).length<=2:=λn hn=>by
  refine⟨Wm.mpr λc hc=>?_,?_⟩
  ·have:=Rz hn c hc;have e:=RB (c-48) (by omega)
   grind
  ·unfold jU;split<;>simp
 have len:(dm z k).length=(dm z k).cps.toList.length:=rfl;have c:=E9 z k hk;have main:∃(i:Nat) (r:List Nat),i<26/\(dm z k).cps.toList=(97+i)::r/\r.length<=11/\r.all (fG lD)=true:=by
  by_cases h0:z % 3=0
  ·rw[if_pos h0] at c;refine⟨_,_,by omega,c,?_,?_⟩
   ·show((48+k/26)::List.replicate (fh k z) 113).length<=11
    grind
   ·show((48+k/26)::List.replicate (fh k z) 113).all (fG lD)=true;rw[Wi,rep,RB _ (by omega)];rfl
  grind
 obtain⟨i,r,hi,e,lr,ar⟩:=main;have AH:(dm z k).length<=12:=by
  grind
 refine⟨?_,AH⟩;rw[Ny e,decide_eq_true AH,(RA i hi).1,Wi,(RA i hi).2,ar];rfl
theorem ZdH:∀m<10,(jW m).length<=9:=by decide+kernel
theorem Qg:∀n<61,(jV n).length<=2:=by decide+kernel
theorem Gh(a b:Str):(a++b).length=a.length+b.length:=Array.size_append
inductive Qh(vs:List V)(H:Hp)(Q:VK):Prop
 |mk (k z:Nat) (aE:vs=[.int (k:Int),.int (z:Int)]) (hk:k<60) (hz:z<97) (q:Q (.str (dm z k)) H):Qh vs H Q
def RC:Sp:=λvs H Q _=>Qh vs H Q
section
theorem vq:aU ["_law_k","_law_salt","_law_letters","_law_fill","_law_number"] ["_law_k","_law_salt"] (aM Ee):=⟨rfl,rfl,rfl,by decide+kernel,rfl,by decide+kernel,by decide+kernel⟩
theorem ZA(F:aN K "_law_name" "_law_name" Ee f fd)(bl:Bl mg):aK P w K mg base aP 1 f fd ["_law_k","_law_salt"] RC:=by
 refine F.ok vq (λvs H Q E h=>?_) (λaF A outer s H vs Q E hr h=>?_)
 ·obtain⟨k,z,rfl,_⟩:=h;rfl
 obtain⟨k,z,rfl,hk,hz,q⟩:=h;refine⟨_,(au (bq (i:=2) vq.nd rfl (Or.inl rfl) bc) (au (bq (i:=3) vq.nd rfl (Or.inl rfl) (a8 Pj bc (a8 dJ (a8 fX (a8 nU (pv 0) (pv 1)) (pv 1)) aG))) (au (bq (i:=4) vq.nd rfl (Or.inl rfl) (a8 dJ (a8 fX (a8 nU (pv 0) aG) (pv 1)) aG)) (au (aR (bb cg (a8 dJ (a8 yK (pv 1) aG) aG) aG (aQ _)) (aw (bq (i:=3) vq.nd rfl (Or.inl rfl) (a8 Pj bc aG))) a_) (au (aR (bb cg (a8 dJ (pv 1) aG) aG (aQ _)) (aw (aH (a8 sW (a8 sW (aX vQ (pv 2) (a8 dJ (a8 fX (a8 nU (pv 0) aG) (pv 1)) aG) (λ_ _=>rfl)) (eI C2 rfl bl.v_ vS (ae (a8 yK (pv 0) aG) ag))) (pv 3)))) a_) (au (aR (bb cg (a8 dJ (pv 1) aG) aG (aQ _)) (aw (aH (a8 sW (a8 sW (aX vQ (pv 2) (a8 dJ (pv 1) aG) (λ_ _=>rfl)) (pv 3)) (eI C2 rfl bl.v_ vS (ae (pv 4) ag))))) a_) (aw (aH (a8 sW (a8 sW (aX vQ (pv 2) (a8 dJ (pv 1) aG) (λ_ _=>rfl)) (eI C2 rfl bl.v_ vS (ae (pv 4) ag))) (pv 3)))))))))),?_⟩;have cm:wk (k:Int) (z:Int):=.inl ⟨by omega,by omega⟩;have VH:∀j:Int,wk (k:Int) j:=λj=>.inl ⟨by omega,by omega⟩;have c3:H_ (z:Int) 3:=⟨by omega,by omega⟩;have c26:H_ (k:Int) 26:=⟨by omega,by omega⟩;have sz:(10000:Nat)<=sizeLine:=by rw[sizeLine_eq];omega
 have VI:((k:Int)*17+(z:Int)) % 61=(((k*17+z) % 61:Nat):Int):=by omega
 have m26:((k:Int)*7+(z:Int)) % 26=(((k*7+z) % 26:Nat):Int):=by omega
 have VJ:(z:Int) % 26=((z % 26:Nat):Int):=by omega
 have d26:(k:Int)/26=((k/26:Nat):Int):=by omega
 have e5:((k:Int)*(z:Int)+(z:Int)) % 5=(((k*z+z) % 5:Nat):Int):=by rw[Int.natCast_emod,Int.natCast_add,Int.natCast_mul];rfl
 refine setC ?_;refine bX ?_;refine⟨_,rfl,_,rfl,_,_,rfl,rfl,cm,_,rfl,_,_,rfl,rfl,_,_,rfl,rfl,by omega,"q",(k*z+z) % 5,rfl,congrArg V.int e5,by decide+kernel,by omega,?_⟩;refine bX ?_;refine⟨_,rfl,_,_,rfl,rfl,VH _,_,rfl,_,_,rfl,rfl,_,_,rfl,rfl,by omega,?_⟩;refine nW (λσ H6=>H6=H/\σ=[some (.int (k:Int)),some (.int (z:Int)),some (.str sH),some (.str (jW (fh k z))),some (.int (((k*17+z) % 61:Nat):Int))]) (λoR eP=>?_) ?_
 ·refine⟨_,rfl,_,_,rfl,rfl,c3,_,_,rfl,rfl,by omega,rfl,_,rfl,bI (λc=>?_) (λc=>aZ ?_)⟩
  ·have c:=V.int.inj (of_decide_eq_true c);have c1:z/3 % 3=1:=by omega
   have fe:fh k z=9:=if_pos c1;refine⟨"q",9,rfl,rfl,by decide+kernel,by omega,bp (eP _ _ ⟨rfl,?_⟩)⟩;rw[fe,←VI];rfl
  ·have c1:¬z/3 % 3=1:=λw=>c (decide_eq_true (congrArg V.int (by omega)));have fe:fh k z=(k*z+z) % 5:=if_neg c1;refine eP _ _ ⟨rfl,?_⟩;rw[fe,←VI];rfl
 rintro σ H6 ⟨rfl,rfl⟩;have ls:=ZdH _ (GS k z);have ll:sH.length<=sizeLine:=Y3 (show sH.length<=100 by decide+kernel) (by omega);have lg:∀n:Nat,n<61->(n:Int).natAbs.log2<1920:=λn hn=>Wy (Nat.log2_le_self _) (by omega);refine⟨_,rfl,_,_,rfl,rfl,by omega,rfl,_,rfl,bI (λc=>?_) (λc=>aZ ?_)⟩
 ·have h0:z % 3=0:=by have:=V.int.inj (of_decide_eq_true c);omega
  have ld:=Qg (k/26) (by omega);refine⟨_,rfl,_,rfl,_,_,rfl,rfl,VH _,_,rfl,_,_,rfl,rfl,_,_,rfl,rfl,by omega,sH,_,_,rfl,congrArg V.int m26,ll,GR _ (by omega),_,rfl,_,_,rfl,rfl,c26,((k/26:Nat):Int),congrArg (λi=>[V.int i]) d26,lg _ (by omega),_,_,rfl,rfl,?_,_,rfl,_,_,rfl,rfl,?_,?_⟩
  ·show 1+(jV (k/26)).length<=sizeLine;omega
  ·show(oW ((k*7+z) % 26)++jV (k/26)).length+(jW (fh k z)).length<=sizeLine;rw[Gh];show 1+_+_<=_;omega
  ·have e:dm z k=(oW ((k*7+z) % 26)++jV (k/26))++jW (fh k z):=if_pos h0;rw[e] at q;exact q
 have h0:¬z % 3=0:=λw=>c (decide_eq_true (congrArg V.int (by omega)));have ld:=Qg ((k*17+z) % 61) (by omega);refine⟨_,rfl,_,_,rfl,rfl,by omega,rfl,_,rfl,bI (λc=>?_) (λc=>aZ ?_)⟩
 ·have h1:z % 3=1:=by have:=V.int.inj (of_decide_eq_true c);omega
  refine⟨_,rfl,_,rfl,_,_,rfl,rfl,by omega,sH,_,_,rfl,congrArg V.int VJ,ll,GR _ (by omega),_,rfl,_,_,rfl,rfl,?_,_,rfl,_,rfl,lg _ (by omega),_,_,rfl,rfl,?_,?_⟩
  ·show 1+(jW (fh k z)).length<=sizeLine;omega
  ·show(oW (z % 26)++jW (fh k z)).length+(jV ((k*17+z) % 61)).length<=sizeLine;rw[Gh];show 1+_+_<=_;omega
  ·have e:dm z k=(oW (z % 26)++jW (fh k z))++jV ((k*17+z) % 61):=(if_neg h0).trans (if_pos h1);rw[e] at q;exact q
 have h1:¬z % 3=1:=λw=>c (decide_eq_true (congrArg V.int (by omega)));refine⟨_,rfl,_,rfl,_,_,rfl,rfl,by omega,sH,_,_,rfl,congrArg V.int VJ,ll,GR _ (by omega),_,rfl,_,rfl,lg _ (by omega),_,_,rfl,rfl,?_,_,rfl,_,_,rfl,rfl,?_,?_⟩
 ·show 1+(jV ((k*17+z) % 61)).length<=sizeLine;omega
 ·show(oW (z % 26)++jV ((k*17+z) % 61)).length+(jW (fh k z)).length<=sizeLine;rw[Gh];show 1+_+_<=_;omega
 ·have e:dm z k=(oW (z % 26)++jV ((k*17+z) % 61))++jW (fh k z):=(if_neg h0).trans (if_neg h1);rw[e] at q;exact q
end
inductive RD(C CL CJ:Addr)(vs:List V)(H:Hp)(Q:VK):Prop
 |mk (l:BL) (b:BS) (xs ys:List Int) (c:Fc) (ff:Addr) (aE:vs=[.ref l.h,.ref ff]) (ba:bG H C CL CJ l xs ys b) (ok:cG xs ys b) (hf:H ff=some (.tup [.str c.k,.str (av b.ps c.one),kV (a9 b.ps c)])) (fg:d_ xs ys b.ps.length c) (lim:b.fs.length<63) (hw:mK xs.length b c="") (dl:b.dn.length<200) (q:∀(l':BL) (H':Hp),cy H H' l l'->bG H' C CL CJ l' xs ys (b.uc c)->Q (.int (b.co:Int)) H'):RD C CL CJ vs H Q
def Ss(C CL CJ:Addr):Sp:=λvs H Q _=>RD C CL CJ vs H Q
structure iD(C CL CJ:Addr)(H:Hp)(xs ys:List Int)(z j:Nat)(td:Addr)(l:BL)(b:BS)(nl sd fl st:Addr):Prop where
 ba:bG H C CL CJ l xs ys b
 ok:cG xs ys b
 names:H nl=some (.lst (jn b.ps))
 n1:nl∉l.fp
 c8:H sd=some (.dK (fQ b.ps))
 n2:sd∉l.fp
 facts:∃as:List Addr,H fl=some (.lst (as.map V.ref))/\Paired (cW H b.ps) as b.fs
 n3:fl∉l.fp
 tup:H st=some (.tup [.ref nl,.ref sd,.ref fl,.int (b.co:Int)])
 turns:gw H td xs ys
 n4:td∉l.fp
 nm:b.ps.map (·.1)=(List.range b.ps.length).map (dm z)
 so:(b.fs.map (·.1)).Pairwise (·<·)
 cp:b.ps.length<=j
 cf:b.fs.length<=j
 cd:b.dn.length<=j
section
variable {H H':Hp}{xs ys:List Int}{z j:Nat}{td:Addr}{l l':BL}{b b':BS}{nl sd fl st:Addr}
theorem iD.same(g:aj H H')(s:iD C CL CJ H xs ys z j td l b nl sd fl st):iD C CL CJ H' xs ys z j td l b nl sd fl st:=
 ⟨s.ba.same g,s.ok,g _ _ s.names,s.n1,g _ _ s.c8,s.n2,let⟨as,h1,h2⟩:=s.facts;⟨as,g _ _ h1,L2.Paired.bu h2 λ_ _ e=>g _ _ e⟩,s.n3,g _ _ s.tup,s.turns.same g,s.n4,s.nm,s.so,s.cp,s.cf,s.cd⟩
theorem iD.more(s:iD C CL CJ H xs ys z j td l b nl sd fl st):iD C CL CJ H xs ys z (j+1) td l b nl sd fl st:=
 ⟨s.ba,s.ok,s.names,s.n1,s.c8,s.n2,s.facts,s.n3,s.tup,s.turns,s.n4,s.nm,s.so,W3 s.cp,W3 s.cf,W3 s.cd⟩
theorem iD.FL(s:iD C CL CJ H xs ys z j td l b nl sd fl st):FL H b.ps fl b.F:=by
 obtain⟨as,h1,h2⟩:=s.facts;refine⟨as,h1,?_⟩;have:∀{as:List Addr} {fs:List (Nat×Fc)},Paired (cW H b.ps) as fs->Paired (KN H b.ps) as (fs.map (·.2)):=λh=>by
  induction h with
  |nil=>exact .nil
  |cons e _ ih=>exact .cons ⟨_,e⟩ ih
 exact this h2
theorem cy.off(w:cy H H' l l')(h:H a=some o)(n:a∉l.fp):H' a=some o/\a∉l'.fp:=
 ⟨w.out _ _ h n,λz=>(w.grow a z).elim n λq=>by rw[h] at q;cases q⟩
theorem cy.bW(w:cy H H' l l')(ba:bG H C CL CJ l xs ys b)(h:H a=some (.tup us)):H' a=some (.tup us):=w.out _ _ h (ba.tup h)
theorem cy.gw(w:cy H H' l l')(ba:bG H C CL CJ l xs ys b)(h:gw H td xs ys)(n:td∉l.fp):gw H' td xs ys:=by
 obtain⟨m,f,w1,s,h1,h2,h3,h4,h5⟩:=h;exact⟨m,f,w1,s,w.out _ _ h1 n,w.bW ba h2,w.bW ba h3,w.bW ba h4,w.bW ba h5⟩
theorem yx(w:cy H H' l l')(ba:bG H C CL CJ l xs ys b)(h:Paired (cW H ps) as fs):Paired (cW H' ps) as fs:=L2.Paired.bu h λ_ _ e=>w.bW ba e
theorem bG.fresh(ba:bG H C CL CJ l xs ys b)(h:H a=none):a∉l.fp:=λz=>ba.there z h
theorem cW.ext(fg:d_ xs ys ps.length p.2)(h:cW H ps a p):cW H (ps++[(n,s)]) a p:=by
 have e1:∀i,i<ps.length->av (ps++[(n,s)]) i=av ps i:=λi hi=>by
  unfold av
  grind
 unfold cW dC at h⊢;have e2:a9 (ps++[(n,s)]) p.2=a9 ps p.2:=by
  by_cases k:p.2.k=bh;·rw[ko k,ko k]
  ·rw[gO k,gO k,e1 _ (fg.ok.gu k).1.2]
 rw[e1 _ fg.ok.one,e2];exact h
theorem iD.fresh(s:iD C CL CJ H xs ys z j td l b nl sd fl st)(h60:j<60)(iE:Str)(hs:GN iE=true):Iy b (dm z b.ps.length) iE:=by
 have c:=s.cp;obtain⟨f1,f2⟩:=Zat (k:=b.ps.length) (by omega);refine⟨f1,hs,λm=>?_,by omega,by omega⟩;rw[s.nm] at m;obtain⟨i,hi,e⟩:=Ye.mp m;have hi:=Wq.mp hi;have:=Zbl (by omega) (by omega) e;omega
theorem nm_more(h:b.ps.map (·.1)=(List.range b.ps.length).map (dm z))(s:Str):(b.ps++[(dm z b.ps.length,s)]).map (·.1)=(List.range (b.ps++[(dm z b.ps.length,s)]).length).map (dm z):=by
 rw[Yp,h,Yj];show _++[dm z b.ps.length]=(List.range (b.ps.length+1)).map (dm z);rw[List.range_succ,Yp];rfl
end
inductive OS(C CL CJ:Addr)(vs:List V)(H:Hp)(Q:VK):Prop
 |mk (xs ys:List Int) (z j:Nat) (cell:Int) (td:Addr) (l:BL) (b:BS) (nl sd fl st:Addr) (aE:vs=[.ref l.h,.ref st,.int cell,.ref td,.int (z:Int)]) (si:iD C CL CJ H xs ys z j td l b nl sd fl st) (hz:z<97) (hj:j<60) (q:∀(l':BL) (b':BS) (jX iE iu aI:Addr) (H':Hp),cy H H' l l'->iD C CL CJ H' xs ys z (j+1) td l' b' jX iE iu aI->0<b'.ps.length->Q (.ref aI) H'):OS C CL CJ vs H Q
def Qi(C CL CJ:Addr):Sp:=λvs H Q _=>OS C CL CJ vs H Q
theorem ZC{P Q:α->β->Prop}(h:∀a b,b∈bs->P a b->Q a b)(p:Paired P as bs):Paired Q as bs:=by
 induction p with
 |nil=>exact .nil
 |cons e _ ih=>exact .cons (h _ _ Yh e) (ih λa b hb=>h a b (Yx _ hb))
theorem Zau(fs:List α)(p:α->Bool):((List.range fs.length).filter λi=>(fs[i]?.map p).getD false).map (λi=>fs[i]?)=(fs.filter p).map some:=by
 have e:(List.range fs.length).map (λi=>fs[i]?)=fs.map some:=Wj λi=>by
  grind
 have h:=Jt (f:=λi=>fs[i]?) (l:=List.range fs.length) (p:=λo:Option α=>(o.map p).getD false);rw[e,Jt] at h;exact h.symm
theorem Qj:∀{l:List (Nat×α)},(l.map (·.1)).Nodup->∀{p q:Nat×α},p∈l->q∈l->p.1=q.1->p=q
 |[],_,_,_,h,_,_=>nomatch h
 |a::l,nd,p,q,hp,hq,e=>by
  obtain⟨n1,n2⟩:=Yz.mp (show(a.1::l.map (·.1)).Nodup from nd);rcases Ym.mp hp with e1|h1<;>rcases Ym.mp hq with e2|h2;·rw[e1,e2]
  ·grind
  ·grind
  ·exact Qj n2 h1 h2 e
theorem RE(ks:List Key):(ks.map kV).all eQ=true:=by
 rw[Wm];intro v hv;obtain⟨k,_,rfl⟩:=Ye.mp hv;cases k<;>rfl
theorem ZdI:∃s:Str,dA [V.str "man",V.str "woman"] (d % 2)=some (.str s)/\GN s=true:=by
 have:d % 2=0\/d % 2=1:=by omega
 rcases this with e|e<;>rw[e];·exact⟨_,rfl,by decide+kernel⟩
 ·exact⟨_,rfl,by decide+kernel⟩
section
theorem Zav:aU ["_law_book","_law_fact_here"] ["_law_book","_law_fact_here"] (aM E1):=⟨rfl,rfl,rfl,by decide+kernel,rfl,by decide+kernel,by decide+kernel⟩
theorem Zaw(F:aN K "_law_put" "_law_put" E1 f fd)(sQ:cD P w K mg base 12 "say" C ["self","name","section"] (GP C CL CJ))(Di:cD P w K mg base 12 "tie" C ["self","kind","one","other"] (Rr C CL CJ)):aK P w K mg base aP 13 f fd ["_law_book","_law_fact_here"] (Ss C CL CJ):=by
 refine F.ok Zav (λvs H Q E h=>?_) (λaF A outer s H vs Q E hr h=>?_)
 ·obtain⟨l,b,xs,ys,c,ff,rfl,_⟩:=h;rfl
 obtain⟨l,b,xs,ys,c,ff,rfl,ba,ok,hf,fg,lim,hw,dl,q⟩:=h;refine⟨_,(au (aR (bb cg (aX (fU (K:=K) rfl) (pv 1) aG (λ_ _=>rfl)) bc (aQ _)) (aw (aH (cO sQ hr (by omega) (pv 0) (ae (aX (fU (K:=K) rfl) (pv 1) aG (λ_ _=>rfl)) (ae (aX (fU (K:=K) rfl) (pv 1) aG (λ_ _=>rfl)) ag))))) a_) (aw (aH (cO Di hr (by omega) (pv 0) (ae (aX (fU (K:=K) rfl) (pv 1) aG (λ_ _=>rfl)) (ae (aX (fU (K:=K) rfl) (pv 1) aG (λ_ _=>rfl)) (ae (aX (fU (K:=K) rfl) (pv 1) aG (λ_ _=>rfl)) ag))))))),?_⟩;obtain⟨dx,ho⟩:=ba.obj;refine⟨_,rfl,ff,_,_,_,rfl,rfl,aA.of hf,rfl,rfl,_,rfl,?_⟩;rw[dO];refine bI (λcc=>?_) (λcc=>aZ ?_)
 ·have sk:c.k=bh:=of_decide_eq_true cc;have eo:kV (a9 b.ps c)=.int c.aJ:=by rw[ko sk];rfl
  exact⟨_,rfl,l.h,dx,_,rfl,ho,rfl,_,rfl,ff,_,_,_,rfl,rfl,aA.of hf,rfl,_,rfl,ff,_,_,_,rfl,rfl,aA.of hf,rfl,l,b,xs,ys,c,by rw[eo];rfl,ba,ok,⟨FK ok fg lim hw,sk⟩,dl,λl' H' wt K1=>q l' H' wt K1⟩
 ·have ns:c.k≠bh:=λz=>cc (decide_eq_true z);have eo:kV (a9 b.ps c)=.str (av b.ps c.aJ.toNat):=by rw[gO ns];rfl
  exact⟨_,rfl,l.h,dx,_,rfl,ho,rfl,_,rfl,ff,_,_,_,rfl,rfl,aA.of hf,rfl,_,rfl,ff,_,_,_,rfl,rfl,aA.of hf,rfl,_,rfl,ff,_,_,_,rfl,rfl,aA.of hf,rfl,l,b,xs,ys,c,by rw[eo];rfl,ba,ok,Zcu ok fg lim hw ns,dl,λl' H' wt K1=>q l' H' wt K1⟩
theorem kY:aU ["_law_book","_law_state","_law_cell_here","_law_turns_here","_law_salt","_law_names","_law_sides","_law_facts","_law_after_here","_law_drawn","_law_name_here","_law_side","_law_fact_here","_law_out"] ["_law_book","_law_state","_law_cell_here","_law_turns_here","_law_salt"] (aM Ej):=⟨rfl,rfl,rfl,by decide+kernel,rfl,by decide+kernel,by decide+kernel⟩
theorem ZD(F:aN K "_law_step" "_law_step" Ej f fd)(nC:HasFn P w K mg base 1 "_law_draws" ["_law_cell_here","_law_parts"] (yQ K))(Ex:HasFn P w K mg base 1 "_law_name" ["_law_k","_law_salt"] RC)(Ey:HasFn P w K mg base 2 "_law_fact" ["_law_names","_law_sides","_law_drawn","_law_size"] Ry)(Ez:HasFn P w K mg base 4 "_law_word" ["_law_sides","_law_facts","_law_turns_here","_law_fact_here"] Rv)(E_:HasFn P w K mg base 13 "_law_put" ["_law_book","_law_fact_here"] (Ss C CL CJ))(BY:cD P w K mg base 11 "person" C ["self","name","side"] (OD C CL CJ))(CQ:cD P w K mg base 11 "take" C ["self","number"] (Ro C CL CJ))(bl:Bl mg):aK P w K mg base aP 14 f fd ["_law_book","_law_state","_law_cell_here","_law_turns_here","_law_salt"] (Qi C CL CJ):=by
 refine F.ok kY (λvs H Q E h=>?_) (λaF A outer s H vs Q E hr h=>?_)
 ·obtain⟨xs,ys,z,j,cell,td,l,b,nl,sd,fl,st,rfl,_⟩:=h;rfl
 obtain⟨xs,ys,z,j,cell,td,l,b,nl,sd,fl,st,rfl,si,hz,hj,q⟩:=h;have hu:=hr.tU;refine⟨_,(au (lC (pv 1) (gT (K:=K) (n:=4) rfl rfl (bJ (bo (i:=5) kY.nd rfl (Or.inl rfl)) (bJ (bo (i:=6) kY.nd rfl (Or.inl rfl)) (bJ (bo (i:=7) kY.nd rfl (Or.inl rfl)) (bJ (bo (i:=8) kY.nd rfl (Or.inl rfl)) gP)))))) (au (bq (i:=9) kY.nd rfl (Or.inl rfl) (aY nC hr (by omega) rfl (ae (pv 2) (ae (cZ (ae aG (ae aG (ae aG (ae aG (ae aG ag)))))) ag)))) (au (aR (PW.pt (pw_or (bb mH (bM (c9 (K:=K) rfl) rfl bl.cX cV (ae (pv 5) ag)) aG (aQ _)) (pw_or1 (bb mH (aX (bQ (K:=K) rfl) (pv 9) aG (λ_ _=>rfl)) aG (aQ _))))) (au (bq (i:=10) kY.nd rfl (Or.inl rfl) (aY Ex hr (by omega) rfl (ae (bM (c9 (K:=K) rfl) rfl bl.cX cV (ae (pv 5) ag)) (ae (pv 4) ag)))) (au (bq (i:=11) kY.nd rfl (Or.inl rfl) (aX (bQ (K:=K) rfl) (cZ (ae bc (ae bc ag))) (a8 dJ (aX (bQ (K:=K) rfl) (pv 9) aG (λ_ _=>rfl)) aG) (λ_ _=>rfl))) (au (cA (cO BY hr (by omega) (pv 0) (ae (pv 10) (ae (pv 11) ag)))) (au (bq (i:=6) kY.nd rfl (Or.inl rfl) (eI Zl rfl bl.Zec Zc5 (ae (pv 6) ag))) (au (nL (bH hr) (pv 6) (pv 10) (pv 11)) (aw (aH (cK (ae (a8 pF (pv 5) (cZ (ae (pv 10) ag))) (ae (pv 6) (ae (pv 7) (ae (pv 8) ag)))))))))))) a_) (au (aR (bb mH (aX (bQ (K:=K) rfl) (pv 9) aG (λ_ _=>rfl)) aG (aQ _)) (au (bq (i:=12) kY.nd rfl (Or.inl rfl) (aY Ey hr (by omega) rfl (ae (pv 5) (ae (pv 6) (ae (pv 9) (ae (bM (c9 (K:=K) rfl) rfl bl.cX cV (ae (dh (bH hr) (pv 3) bc (λ_ _=>rfl)) ag)) ag)))))) (au (aR (bb lE (aY Ez hr (by omega) rfl (ae (pv 6) (ae (pv 7) (ae (pv 3) (ae (pv 12) ag))))) bc (aQ _)) (aw (aH (pv 1))) a_) (au (cA (aY E_ hr (by omega) rfl (ae (pv 0) (ae (pv 12) ag)))) (aw (aH (cK (ae (pv 5) (ae (pv 6) (ae (a8 pF (pv 7) (cZ (ae (a8 ZcK (cK (ae (pv 8) ag)) (pv 12)) ag))) (ae (a8 fX (pv 8) aG) ag)))))))))) a_) (au (aR (bb (F5 (K:=K) rfl (ZeE hu)) (pv 7) (cZ ag) (aQ _)) (aw (aH (pv 1))) a_) (au (bq (i:=13) kY.nd rfl (Or.inr rfl) (aX (bQ (K:=K) rfl) (pv 7) (a8 dJ (aX (bQ (K:=K) rfl) (pv 9) aG (λ_ _=>rfl)) (bM (c9 (K:=K) rfl) rfl bl.cX cV (ae (pv 7) ag))) (λ_ _=>rfl))) (au (cA (cO CQ hr (by omega) (pv 0) (ae (aX (fU (K:=K) rfl) (pv 13) aG (λ_ _=>rfl)) ag))) (aw (aH (cK (ae (pv 5) (ae (pv 6) (ae (iH (x:="_law_one") (fr:=[("_law_out",13)]) (cl:=[("_law_out",s.heap.objs.size+1)]) rfl ⟨by with_unfolding_all rfl,⟨rfl,trivial⟩,rfl,by decide+kernel,rfl,by decide+kernel,rfl,⟨⟨rfl,.inl rfl,.inl rfl,rfl⟩,trivial⟩,by decide+kernel⟩ (eV (K:=K) rfl (pv 7)) (λ_ _ _ _=>vJ (bb (ZeQ (K:=K) rfl hu) (pv 0) (pv 1) (aQ _))) (λ_ _ _ _=>(pv 0))) (ae (pv 8) ag)))))))))))))),?_⟩;have sz:(10000:Nat)<=sizeLine:=by rw[sizeLine_eq];omega
 refine⟨_,rfl,st,_,rfl,aA.of si.tup,rfl,_,_,rfl,bp ⟨_,_,rfl,bp ⟨_,_,rfl,bp ⟨_,_,rfl,bp ⟨rfl,?_⟩⟩⟩⟩⟩;dsimp only;refine bX ?_;refine⟨_,rfl,by show 5<=sizeLine;omega,λpp H1 np g1 hp=>⟨cell,pp,[16,61,59,8,4],rfl,ak.of hp,by decide,by decide,λdr ds H2 nd g2 h2 bd=>?_⟩⟩;obtain⟨d0,d1,d2,d3,d4,rfl,_,_,_,_,b4⟩:=Zdb bd;have iW:=g1.trans g2;have s2:=si.same iW;obtain⟨dx,ho⟩:=s2.ba.obj;have AZ:=Gf b.ps;have cp:=si.cp;have cf:=si.cf;have cd:=si.cd;have VG:=si.ok.m;have VL:=si.ok.fl;have ix:∀{i:Int} {v:Int} {H9:Hp},aj H2 H9->dA ([d0,d1,d2,d3,d4].map V.int) i=some (.int v)->∀σ:St,σ[9]?=some (some (.ref dr))->Vt (jE (wo K) (eW 9) (tC (V.int i))) σ H9 (.int v):=λg e σ hσ kk hk=>⟨_,hσ,dr,_,_,_,rfl,rfl,ak.of (g _ _ h2),e,hk _ (aj.refl _)⟩;refine(Bt.or (a:=decide (((jn b.ps).length:Int)<2)) (b:=decide (d0<5)) (λkk hk=>⟨_,rfl,nl,_,rfl,.inl (ak.of s2.names),_,_,rfl,rfl,_,rfl,hk _ (aj.refl _)⟩) λH3 _ g3 kk hk=>ix g3 rfl _ rfl _ λH4 g4=>⟨_,_,rfl,rfl,_,rfl,hk _ g4⟩) _ λH3 g3=>?_;have s3:=s2.same g3;have jh:=iW.trans g3;rw[AZ];refine bI (λcc=>?_) (λcc=>aZ ?_)
 ·refine bX ?_;refine⟨_,rfl,nl,_,rfl,.inl (ak.of s3.names),_,rfl,b.ps.length,z,by rw[AZ];rfl,by omega,hz,?_⟩;refine bX ?_;obtain⟨sx,es,so⟩:=ZdI (d:=d1);refine⟨by show 2<=sizeLine;omega,λsl H4 Ko g4 hsl=>ix (g3.trans g4) rfl _ rfl _ λH5 g5=>⟨_,_,rfl,rfl,by omega,sl,_,_,_,rfl,rfl,ak.of (g5 _ _ hsl),es,?_⟩⟩;have s5:=(s3.same g4).same g5;have qA:=(jh.trans g4).trans g5;obtain⟨K2,K3⟩:=s5.ba.obj;refine⟨_,rfl,l.h,K2,_,rfl,K3,rfl,_,rfl,_,rfl,l,b,xs,ys,dm z b.ps.length,sx,rfl,s5.ba,s5.ok,s5.fresh hj sx so,by omega,λl' H6 wt oX=>?_⟩;have K4:=s5.fresh hj sx so;dsimp only;refine bX ?_;have off:=λ{a:Addr} {o:HO} (h:H5 a=some o) (n:a∉l.fp)=>wt.off h n;obtain⟨xU,zT⟩:=off s5.c8 s5.n2;obtain⟨xV,zU⟩:=off s5.names s5.n1;obtain⟨as,nv,du⟩:=s5.facts;obtain⟨u3,ID⟩:=off nv s5.n3;refine⟨_,rfl,sd,_,rfl,xU,λs' H7 cB g7 lS=>?_⟩;have vn:aS (fQ b.ps) (.inr (dm z b.ps.length))=none:=qF λhm=>K4.new (by
   obtain⟨p,hp,e⟩:=Ye.mp hm;obtain⟨p',hp',rfl⟩:=Ye.mp hp;exact Ye.mpr ⟨p',hp',Wc e⟩)
  refine⟨_,rfl,_,rfl,_,rfl,s',_,.inr (dm z b.ps.length),rfl,lS,rfl,by rw[Ya];omega,λH8 b8 e8=>?_⟩;have jY:aj H6 H8:=λc o e=>b8 _ _ (g7 _ _ e) (ck e cB);rw[kq _ vn] at e8;refine⟨_,rfl,_,rfl,by show 1<=sizeLine;omega,λt H9 nt g9 ht=>⟨nl,t,_,_,rfl,rfl,g9 _ _ (jY _ _ xV),ht,by rw[AZ];show _+1<=_;omega,λn' HA nn' gA uu=>⟨_,rfl,_,rfl,_,rfl,by show 4<=sizeLine;omega,λaI HB An gB gZ=>?_⟩⟩⟩;have xW:=(g9.trans gA).trans gB;have kU:=jY.trans xW;have pe:(b.G8 (dm z b.ps.length) sx).ps=b.ps++[(dm z b.ps.length,sx)]:=rfl;obtain⟨tm,tf,tw,ts,fO,_⟩:=id s5.turns;refine q l' (b.G8 (dm z b.ps.length) sx) n' s' fl aI HB ((cy.after qA wt).same kU) ⟨oX.same kU,si.ok.ZgH K4.new K4.lim (Yd _) (by rw[Yj];show _+1<=200;omega) (Yv _),?_,((oX.same jY).same g9).fresh nn',?_,oX.fresh cB,⟨as,kU _ _ u3,?_⟩,ID,gZ,(wt.gw s5.ba s5.turns s5.n4).same kU,(off fO s5.n4).2,nm_more si.nm sx,si.so,?_,W3 cf,?_⟩ (by rw[pe,Yj];exact Nat.succ_pos _)
  ·rw[gB _ _ uu,pe,jn,jn,Yp];rfl
  ·rw[xW _ _ e8,pe];show _=some (HO.dK ((b.ps++[(dm z b.ps.length,sx)]).map _));rw[Yp];rfl
  ·have:=yx wt s5.ba du;refine ZC (λa p hp e=>?_) this;exact cW.ext (si.ok.fg p hp) (kU _ _ e)
  ·rw[pe,Yj];show _+1<=_;omega
  ·show(b.dn++[_]).length<=_;rw[Yj];show _+1<=_;omega
 have p0:0<b.ps.length:=by
  rw[Jv,decide_eq_true_iff] at cc;omega
 refine⟨_,rfl,dr,_,_,_,rfl,rfl,ak.of (g3 _ _ h2),rfl,_,_,rfl,rfl,_,rfl,?_⟩;refine bI (λcc2=>?_) (λcc2=>aZ ?_)
 ·refine bX ?_;obtain⟨tm,tf,tw,u0,fO,_,_,_,uY⟩:=id s3.turns;refine⟨_,rfl,_,rfl,_,rfl,_,rfl,td,.ref u0,rfl,di fO rfl,u0,_,rfl,.inr (aA.of uY),nl,sd,dr,b.ps,xs,ys,d0,d1,d2,d3,d4,by rw[Ya,eG];rfl,s3.names,s3.c8,si.ok.nm,p0,by omega,g3 _ _ h2,b4,si.ok.gd,λc fg ff H4 A0 g4 sG=>?_⟩;have s4:=s3.same g4;refine⟨_,rfl,_,rfl,_,rfl,_,rfl,sd,fl,td,ff,xs,ys,b,c,rfl,s4.c8,s4.FL,s4.turns,sG,si.ok,fg,λH5 g5=>⟨rfl,_,rfl,?_⟩⟩;have s5:=s4.same g5;have qA:=(jh.trans g4).trans g5;rw[dO];refine bI (λcw=>?_) (λcw=>aZ ?_);·exact⟨_,rfl,q l b nl sd fl st H5 (cy.of qA) s5.more p0⟩
  have hw:mK xs.length b c="":=by
   by_cases e:mK xs.length b c="";·exact e
   ·rw[decide_eq_false e] at cw;exact absurd rfl cw
  have nf:=FK si.ok fg (by omega) hw;refine⟨_,rfl,_,rfl,l,b,xs,ys,c,ff,rfl,s5.ba,si.ok,g5 _ _ sG,fg,by omega,hw,by omega,λl' H6 wt oX=>?_⟩;have off:=λ{a:Addr} {o:HO} (h:H5 a=some o) (n:a∉l.fp)=>wt.off h n;obtain⟨xU,zT⟩:=off s5.c8 s5.n2;obtain⟨xV,zU⟩:=off s5.names s5.n1;obtain⟨as,nv,du⟩:=s5.facts;obtain⟨u3,ID⟩:=off nv s5.n3;have ff6:=wt.bW s5.ba (g5 _ _ sG);have al:=cR du;refine⟨_,rfl,_,rfl,_,rfl,_,rfl,by show 1<=sizeLine;omega,λt1 H7 nt1 g7 xS=>⟨_,rfl,t1,ff,_,_,rfl,rfl,aA.of xS,aA.of (g7 _ _ ff6),by simp,by show 1+3<=sizeLine;omega,λe=>(by cases e),λ_ t2 VM=>?_⟩⟩;obtain⟨H8,e8⟩:∃H8,H8=upd H7 t2 (.tup ([V.int (b.co:Int)]++[V.str c.k,V.str (av b.ps c.one),kV (a9 b.ps c)])):=⟨_,rfl⟩;have g8:aj H7 H8:=by rw[e8];exact cq VM _
  have K5:cW H8 b.ps t2 (b.co,c):=by
   show H8 t2=_;rw[e8,aW];rfl
  rw[←e8];have jY:=g7.trans g8;refine⟨by show 1<=sizeLine;omega,λl1 H9 nl1 g9 A1=>⟨fl,l1,_,_,rfl,rfl,g9 _ _ (jY _ _ u3),A1,by rw[Ya];show _+1<=_;omega,λiu HA Zg1 gA Zg2=>⟨_,rfl,_,_,rfl,rfl,by show 4<=sizeLine;omega,λaI HB An gB gZ=>?_⟩⟩⟩;have xW:=(g9.trans gA).trans gB;have kU:=jY.trans xW;obtain⟨tm,tf,tw,ts,IE,_⟩:=id s5.turns;have VN:=si.ok.lt;refine q l' (b.uc c) nl sd iu aI HB ((cy.after qA wt).same kU) ⟨oX.same kU,?_,kU _ _ xV,zU,kU _ _ xU,zT,⟨as++[t2],?_,?_⟩,((oX.same jY).same g9).fresh Zg1,gZ,(wt.gw s5.ba s5.turns s5.n4).same kU,(off IE s5.n4).2,si.nm,?_,W3 cp,?_,?_⟩ p0
  ·exact si.ok.Tg fg (λm=>by
    obtain⟨p,hp,e⟩:=Ye.mp m;have:=VN p hp;omega) nf.nk nf.np nf.lv (by omega) (co:=b.co+1) (z9 _) (W6 _) (by rw[Yj];show _+1<=200;omega) (Yv _)
  ·rw[gB _ _ Zg2,Yp];rfl
  ·exact iX (F:=cW HB b.ps) (xW _ _ K5) (L2.Paired.bu (yx wt s5.ba du) λ_ _ e=>kU _ _ e)
  ·show((b.fs++[(b.co,c)]).map (·.1)).Pairwise _;rw[Yp];refine J0.mpr ⟨si.so,by simp,λu hu v hv=>?_⟩;obtain⟨p,hp,rfl⟩:=Ye.mp hu;have:v=b.co:=by simpa using hv
   rw[this];exact VN p hp
  ·show(b.fs++[_]).length<=_;rw[Yj];show _+1<=_;omega
  ·show(b.dn++[_]).length<=_;rw[Yj];show _+1<=_;omega
 obtain⟨as,nv,du⟩:=s3.facts;have al:=cR du;refine⟨_,rfl,by show 0<=sizeLine;omega,λe0 H4 uW g4 se=>⟨fl,e0,_,rfl,rfl,ak.of (g4 _ _ nv),ak.of se,_,rfl,bI (λce=>?_) (λce=>aZ ?_)⟩⟩;·exact⟨_,rfl,q l b nl sd fl st H4 (cy.of (jh.trans g4)) (s3.same g4).more p0⟩
 refine bX ?_;have s4:=s3.same g4;have f0:0<as.length:=by
  cases e:as with
  |nil=>rw[e] at ce;exact absurd rfl ce
  |cons _ _=>exact Nat.succ_pos _
 have mi:=vZ (z:=d1) f0;refine⟨_,rfl,ix (g3.trans g4) rfl _ rfl _ λH5 g5=>?_⟩;have s5:=s4.same g5;have IF:=g5 _ _ (g4 _ _ nv);obtain⟨i,ei⟩:∃i:Nat,d1 % (as.length:Int)=(i:Int):=⟨(d1 % (as.length:Int)).toNat,by omega⟩;have hi:i<as.length:=by omega
 obtain⟨ao,VO⟩:∃ao,as[i]?=some ao:=⟨_,Yc hi⟩;obtain⟨⟨z0,c0⟩,VP,KJ⟩:=fk du VO;have Tz:=g5 _ _ (g4 _ _ KJ);refine⟨_,rfl,fl,_,rfl,.inl (ak.of IF),_,_,rfl,rfl,by rw[Ya];omega,fl,_,_,.ref ao,rfl,rfl,ak.of IF,?_,?_⟩
 ·rw[Ya,ei];exact gQ (by rw[Yf,VO];rfl)
 obtain⟨K2,K3⟩:=s5.ba.obj;refine⟨_,rfl,l.h,K2,_,rfl,K3,rfl,_,rfl,ao,_,_,_,rfl,rfl,aA.of Tz,rfl,l,b,xs,ys,z0,c0,rfl,s5.ba,si.ok,Yg VP,by omega,λl' H6 wt oX=>?_⟩;have off:=λ{a:Addr} {o:HO} (h:H5 a=some o) (n:a∉l.fp)=>wt.off h n;obtain⟨xU,zT⟩:=off s5.c8 s5.n2;obtain⟨xV,zU⟩:=off s5.names s5.n1;obtain⟨u3,ID⟩:=off IF s5.n3;have Zg3:Paired (cW H5 b.ps) as b.fs:=L2.Paired.bu du λ_ _ e=>g5 _ _ (g4 _ _ e);have TB:=yx wt s5.ba Zg3;have al5:=cR du;have ao6:=wt.bW s5.ba Tz;refine⟨_,rfl,_,rfl,_,rfl,fl,rfl,⟨_,ak.of u3⟩,λD hD=>?_⟩;have qe:∀p∈b.fs,p.1=z0->p=(z0,c0):=λp hp e=>Qj si.ok.zs hp (Yg VP) e;refine vy (K:=K) (ak.of u3) (by rw[Ya];omega) hD (λi=>(b.fs[i]?.map λp=>decide (p.1≠z0)).getD false) (λi y _=>∃a,as[i]?=some a/\y=.ref a) (λ_ _ _ _ _ h=>h) (λi v hi H7 g7 _ Kt Kf kt kf=>?_) λus H7 g7 h7 pr=>?_
 ·rw[Yf] at hi;obtain⟨a,ea,rfl⟩:∃a,as[i]?=some a/\V.ref a=v:=by
   cases e:as[i]? with
   |none=>rw[e] at hi;cases hi
   |some c=>rw[e] at hi;exact⟨c,rfl,Yo hi⟩
  obtain⟨p,ep,hp⟩:=fk TB ea;have mp:=Yg ep;have pb:(b.fs[i]?.map λp=>decide (p.1≠z0)).getD false=decide (p.1≠z0):=by rw[ep];rfl
  rw[pb] at kt kf;refine⟨_,rfl,_,rfl,a,ao,_,_,rfl,rfl,aA.of (g7 _ _ hp),aA.of (g7 _ _ ao6),RE _,RE _,_,rfl,?_⟩;have ed:(!decide ((dC b.ps p.1 p.2).map kV=(dC b.ps z0 c0).map kV))=decide (p.1≠z0):=by
   by_cases e:p.1=z0
   ·rw[qe p mp e];simp
   ·rw[decide_eq_true e,decide_eq_false (λh=>e ?_)];·rfl
    ·injection h with h1 _;have:=V.int.inj h1;omega
  show(if(!decide ((dC b.ps p.1 p.2).map kV=(dC b.ps z0 c0).map kV))=true then _ else _);rw[ed];cases e:decide (p.1≠z0) with
  |true=>exact c6 ⟨_,rfl,kt _ H7 e (aj.refl _) ⟨a,ea,rfl⟩⟩
  |false=>exact cj (kf H7 e (aj.refl _))
 rw[Ya,al5] at pr;obtain⟨gq,rfl,Zg4⟩:∃gq:List Addr,us=gq.map V.ref/\Paired (cW H7 b.ps) gq (cU z0 b.fs):=by
  have aux:∀{ys:List V} {is:List Nat} {gs:List (Nat×Fc)},Paired (λy i=>∃a,as[i]?=some a/\y=.ref a) ys is->is.map (λi=>b.fs[i]?)=gs.map some->∃as:List Addr,ys=as.map V.ref/\Paired (cW H7 b.ps) as gs:=by
   intro ys is gs pr;induction pr generalizing gs with
   |nil=>
    intro e;cases gs with
    |nil=>exact⟨[],rfl,.nil⟩
    |cons _ _=>cases e
   |cons f _ ih=>
    intro e;cases gs with
    |nil=>cases e
    |cons g gs=>
     obtain⟨a,e1,e2⟩:=f;obtain⟨p,ep,hp⟩:=fk TB e1;injection e with e4 e5;obtain⟨as,r1,r2⟩:=ih e5;exact⟨a::as,by rw[e2,r1];rfl,.cons (by rw[←Yo (ep.symm.trans e4)];exact g7 _ _ hp) r2⟩
  exact aux pr (Zau b.fs λp=>decide (p.1≠z0))
 refine⟨_,rfl,by show 4<=sizeLine;omega,λaI H8 An g8 gZ=>?_⟩;have jY:=g7.trans g8;obtain⟨tm,tf,tw,ts,IE,_⟩:=id s5.turns;have sub:(cU z0 b.fs).Sublist b.fs:=List.filter_sublist;refine q l' (b.without z0 c0) nl sd D aI H8 ((cy.after (((jh.trans g4).trans g5)) wt).same jY) ⟨oX.same jY,si.ok.drop z0 (Yd _) (by rw[Yj];show _+1<=200;omega) (Yv _),jY _ _ xV,zU,jY _ _ xU,zT,⟨gq,g8 _ _ h7,L2.Paired.bu Zg4 λ_ _ e=>g8 _ _ e⟩,oX.fresh hD,gZ,(wt.gw s5.ba s5.turns s5.n4).same jY,(off IE s5.n4).2,si.nm,si.so.sublist (sub.map _),W3 cp,W3 (Y3 sub.length_le cf),?_⟩ p0;show(b.dn++[_]).length<=_;rw[Yj];show _+1<=_;omega
end
theorem cG.nil(gd:mJ xs ys):cG xs ys ⟨[],[],0,[],[]⟩:=
 ⟨gd,W9,Yv _,Yv _,λ_ h=>(nomatch h),W9,λ_ h=>(nomatch h),W9,W9,⟨λ_=>0,λ_ h=>absurd h (Wk _),λ_ h=>(nomatch h)⟩,Yv _,Yv _⟩
inductive Qk(C CL CJ:Addr)(vs:List V)(H:Hp)(Q:VK):Prop
 |mk (xs ys:List Int) (z:Nat) (ca td:Addr) (l:BL) (b:BS) (cs:List Int) (aE:vs=[.ref l.h,.ref ca,.ref td,.int (z:Int)]) (ba:bG H C CL CJ l xs ys b) (eb:b=⟨[],[],0,[],[]⟩) (gd:mJ xs ys) (hc:H ca=some (.lst (cs.map V.int))) (nc:ca∉l.fp) (ht:gw H td xs ys) (nt:td∉l.fp) (hz:z<97) (lc:cs.length<=59) (q:∀(l':BL) (b':BS) (jX iE iu aI:Addr) (H':Hp),cy H H' l l'->iD C CL CJ H' xs ys z 59 td l' b' jX iE iu aI->Q (.ref aI) H'):Qk C CL CJ vs H Q
def RF(C CL CJ:Addr):Sp:=λvs H Q _=>Qk C CL CJ vs H Q
section
theorem yf:aU ["_law_book","_law_cells","_law_turns_here","_law_salt","_law_state","_law_cell_here"] ["_law_book","_law_cells","_law_turns_here","_law_salt"] (aM Ek):=⟨rfl,rfl,rfl,by decide+kernel,rfl,by decide+kernel,by decide+kernel⟩
theorem ZE(F:aN K "_law_grow" "_law_grow" Ek f fd)(EA:HasFn P w K mg base 14 "_law_step" ["_law_book","_law_state","_law_cell_here","_law_turns_here","_law_salt"] (Qi C CL CJ))(bl:Bl mg):aK P w K mg base aP 15 f fd ["_law_book","_law_cells","_law_turns_here","_law_salt"] (RF C CL CJ):=by
 refine F.ok yf (λvs H Q E h=>?_) (λaF A outer s H vs Q E hr h=>?_)
 ·obtain⟨xs,ys,z,ca,td,l,b,cs,rfl,_⟩:=h;rfl
 obtain⟨xs,ys,z,ca,td,l,b,cs,rfl,ba,rfl,gd,hc,nc,ht,nt,hz,lc,q⟩:=h;refine⟨_,(au (bq (i:=4) yf.nd rfl (Or.inl rfl) (cK (ae (cZ ag) (ae qK (ae (cZ ag) (ae aG ag)))))) (au (fW PassesOwn.never rfl (eV (K:=K) rfl (pv 1)) (bo (i:=5) yf.nd rfl (Or.inl rfl)) (aw (bq (i:=4) yf.nd rfl (Or.inl rfl) (aY EA hr (by omega) rfl (ae (pv 0) (ae (pv 4) (ae (pv 5) (ae (pv 2) (ae (pv 3) ag))))))))) (aw (aH (pv 4))))),?_⟩;have sz:(10000:Nat)<=sizeLine:=by rw[sizeLine_eq];omega
 refine bX ?_;refine⟨by show 0<=sizeLine;omega,λnl H1 n1 g1 h1=>?_⟩;refine λsd H2 n2 g2 h2=>?_;refine⟨by show 0<=sizeLine;omega,λfl H3 n3 g3 h3=>⟨by show 4<=sizeLine;omega,λst H4 n4 g4 h4=>?_⟩⟩;have qy:=((g1.trans g2).trans g3).trans g4;have cQ:=ba.same g1;have qi:=cQ.same g2;have si:iD C CL CJ H4 xs ys z 0 td l ⟨[],[],0,[],[]⟩ nl sd fl st:=⟨ba.same qy,cG.nil gd,g4 _ _ (g3 _ _ (g2 _ _ h1)),ba.fresh n1,g4 _ _ (g3 _ _ h2),cQ.fresh n2,⟨[],g4 _ _ h3,.nil⟩,qi.fresh n3,h4,ht.same qy,nt,rfl,List.Pairwise.nil,Yv _,Yv _,Yv _⟩;refine iI (λσ H6=>∃(l':BL) (b':BS) (jX iE iu aI:Addr) (o5:Option V),cy H H6 l l'/\iD C CL CJ H6 xs ys z 59 td l' b' jX iE iu aI/\σ=[some (.ref l.h),some (.ref ca),some (.ref td),some (.int (z:Int)),some (.ref aI),o5]) (λoN fP=>?_) ?_
 ·refine⟨_,rfl,ca,rfl,⟨_,ak.of (qy _ _ hc)⟩,jq (K:=K) (a:=ca) (xs:=cs.map V.int) (λj σ H6=>∃(l':BL) (b':BS) (jX iE iu aI:Addr) (o5:Option V),cy H H6 l l'/\iD C CL CJ H6 xs ys z j td l' b' jX iE iu aI/\σ=[some (.ref l.h),some (.ref ca),some (.ref td),some (.int (z:Int)),some (.ref aI),o5])
   ⟨l,_,nl,sd,fl,st,none,cy.of qy,si,rfl⟩ (λj σ H6 _ ⟨_,_,_,_,_,_,_,wt,_⟩=>ak.of (wt.off hc nc).1) ?_ ?_⟩
  ·rintro j v σ H6 hj ⟨l',b',jX,iE,iu,aI,o5,wt,s6,rfl⟩;obtain⟨x,rfl,hx⟩:=mj hj;have jl:j<cs.length:=(Yl.mp hx).1;refine bp ?_;rw[←wt.h];refine⟨_,rfl,_,rfl,_,rfl,_,rfl,_,rfl,xs,ys,z,j,x,td,l',b',jX,iE,iu,aI,rfl,s6,hz,by omega,λl2 b2 xv JI fl2 d5 H7 wt7 s7 _=>bp ⟨l2,b2,xv,JI,fl2,d5,_,wt.trans wt7,s7,rfl⟩⟩
  ·rintro σ H6 ⟨l',b',jX,iE,iu,aI,o5,wt,s6,rfl⟩;rw[Ya] at s6;exact fP _ _ ⟨l',b',jX,iE,iu,aI,o5,wt,⟨s6.ba,s6.ok,s6.names,s6.n1,s6.c8,s6.n2,s6.facts,s6.n3,s6.tup,s6.turns,s6.n4,s6.nm,s6.so,Y3 s6.cp lc,Y3 s6.cf lc,Y3 s6.cd lc⟩,rfl⟩
 rintro σ H6 ⟨l',b',jX,iE,iu,aI,o5,wt,s6,rfl⟩;exact⟨_,rfl,q l' b' jX iE iu aI H6 wt s6⟩
end
theorem Ql(a b:Str):L2.lM a b=L2.lM b a/\L2.lN a b=L2.lN b a:=by
 unfold L2.lM L2.lN;by_cases h1:b.cps.toList<a.cps.toList;·grind
 ·by_cases h2:a.cps.toList<b.cps.toList;·grind
  ·rw[if_neg h1,if_neg h2,if_neg h2,if_neg h1];have e2:a=b:=by
    cases a with|mk ca=>cases b with|mk cb=>
     grind
   exact⟨e2,e2⟩
theorem zb:keyOf k' a' o'=keyOf k a o↔k'=k/\((a'=a/\o'=o)\/(k="sibling"/\o'=.inr a/\Sum.inr a'=o)):=by
 constructor
 ·intro e;cases o' with
  |inl z1=>
   cases o with
   |inl z2=>
    injection e with e1 e
    grind
   |inr z2=>
    unfold keyOf at e
    grind
  |inr z1=>
   cases o with
   |inl z2=>
    unfold keyOf at e
    grind
   |inr z2=>
    have ek:k'=k:=by
     unfold keyOf at e
     grind
    unfold keyOf at e;dsimp only at e;rw[ek] at e;by_cases sb:k="sibling"
    ·rw[if_pos sb,if_pos sb] at e;injection e with _ e;injection e with e2 e;injection e with e3 _;have e2:=Wc e2;have e3:=Wc e3;rcases za a' z1 with⟨m1,m2⟩|⟨m1,m2⟩<;>rcases za a z2 with⟨m3,m4⟩|⟨m3,m4⟩<;>rw[m1,m3] at e2<;>rw[m2,m4] at e3;·grind
     ·grind
     ·grind
     ·grind
    ·grind
 ·rintro⟨rfl,⟨rfl,rfl⟩|⟨sb,rfl,rfl⟩⟩;·rfl
  ·unfold keyOf;dsimp only;rw[if_pos sb,if_pos sb,(Ql a' a).1,(Ql a' a).2]
def rowOf(ps:bO)(p:Nat×Fc):List V:=[.str p.2.k,.str (av ps p.2.one),kV (a9 ps p.2)]
def mM(b:BS)(r:List V):Bool:=(b.fs.map (rowOf b.ps)).any λys=>decide (ys=r)
theorem Ze5(h:kV k=kV k'):k=k':=by
 cases k<;>cases k'<;>cases h<;>rfl
theorem yy:mM b [.str k,.str a,kV o]=true↔∃p∈b.fs,p.2.k=k/\av b.ps p.2.one=a/\a9 b.ps p.2=o:=by
 unfold mM;rw[Jn];constructor
 ·rintro⟨r,hr,e⟩;obtain⟨p,hp,rfl⟩:=Ye.mp hr;have e:=of_decide_eq_true e;injection e with e1 e;injection e with e2 e;injection e with e3 _;exact⟨p,hp,V.str.inj e1,V.str.inj e2,Ze5 e3⟩
 ·rintro⟨p,hp,rfl,rfl,rfl⟩;exact⟨_,Ye.mpr ⟨p,hp,rfl⟩,decide_eq_true rfl⟩
theorem Zcv{b:BS}{k:List Key}:b.told k=true↔k∈b.keys:=by
 unfold BS.told BS.keys;rw[vH];unfold eS
 grind
theorem Zcw{b:BS}{k a:Str}{o:Key}(h:k="sibling"->∃z,o=.inr z):b.told (keyOf k a o)=(mM b [.str k,.str a,kV o]||(decide (k="sibling")&&mM b [.str k,kV o,.str a])):=by
 rw[Wf,Zcv,Jv,Wh,decide_eq_true_iff,yy];constructor
 ·intro m;obtain⟨p,hp,e⟩:=Ye.mp m;obtain⟨e1,⟨e2,e3⟩|⟨e2,e3,e4⟩⟩:=zb.mp (show keyOf p.2.k (av b.ps p.2.one) (a9 b.ps p.2)=keyOf k a o from e);·grind
  ·refine .inr ⟨e2,?_⟩;rw[←e4];exact yy.mpr ⟨p,hp,e1,rfl,e3⟩
 ·rintro(⟨p,hp,e1,e2,e3⟩|⟨sb,e⟩);·exact Ye.mpr ⟨p,hp,zb.mpr ⟨e1,.inl ⟨e2,e3⟩⟩⟩
  ·obtain⟨z,rfl⟩:=h sb;obtain⟨p,hp,e1,e2,e3⟩:=yy.mp (show mM b [.str k,.str z,kV (.inr a)]=true from e);exact Ye.mpr ⟨p,hp,zb.mpr ⟨e1,.inr ⟨sb,e3,by rw[e2]⟩⟩⟩
def oi(H:Hp)(a:Addr)(t:Str×Str×Key):Prop:=H a=some (.tup [.str t.1,.str t.2.1,kV t.2.2])
def Hm(t:Str×Str×Key):Prop:=t.1="sibling"->∃z,t.2.2=.inr z
inductive Qm(vs:List V)(H:Hp)(Q:VK):Prop
 |mk (fa nl dr:Addr) (ps:bO) (xs ys:List Int) (p:Nat×Fc) (d0 d1 d2:Int) (aE:vs=[.ref fa,.ref nl,.ref dr,.int (xs.length:Int)]) (hf:cW H ps fa p) (fg:d_ xs ys ps.length p.2) (hn:H nl=some (.lst (jn ps))) (p0:0<ps.length) (hd:H dr=some (.lst ([d0,d1,d2].map V.int))) (b2:0<=d2/\d2<4) (x0:0<xs.length) (q:∀(l:Addr) (as:List Addr) (ts:List (Str×Str×Key)) (H':Hp),aj H H'->H' l=some (.lst (as.map V.ref))->Paired (oi H') as ts->(∀t∈ts,Hm t)->Q (.ref l) H'):Qm vs H Q
def RG:Sp:=λvs H Q _=>Qm vs H Q
def zG(K:PySem.W.Frag):Sp:=λvs H Q _=>∃(a:Addr) (ns:List Int),vs=[.ref a]/\ak K H a (ns.map V.int)/\ns.length<=63/\∀H',Q (.bl true) H'
theorem Zcx(h:xs.length<=63):(jA xs (some 4) none).length<=59:=by
 unfold jA;have e:HT.bY xs.length 0 (some 4)=min 4 xs.length:=HT.ZcI _ _ 4;rw[Y8,Jp,e];omega
section
theorem nE:aU ["_law_fact_here","_law_names","_law_drawn","_law_size","_law_number","_law_kind","_law_one","_law_other","_law_name_here","_law_that","_law_asked"] ["_law_fact_here","_law_names","_law_drawn","_law_size"] (aM El):=⟨rfl,rfl,rfl,by decide+kernel,rfl,by decide+kernel,by decide+kernel⟩
theorem ZF(F:aN K "_law_asks" "_law_asks" El f fd)(bl:Bl mg):aK P w K mg base aP 1 f fd ["_law_fact_here","_law_names","_law_drawn","_law_size"] RG:=by
 refine F.ok nE (λvs H Q E h=>?_) (λaF A outer s H vs Q E hr h=>?_)
 ·obtain⟨fa,nl,dr,ps,xs,ys,p,d0,d1,d2,rfl,_⟩:=h;rfl
 obtain⟨fa,nl,dr,ps,xs,ys,⟨z,c⟩,d0,d1,d2,rfl,hf,fg,hn,p0,hd,b2,x0,q⟩:=h;refine⟨_,(au (lC (pv 0) (gT (K:=K) (n:=4) rfl rfl (bJ (bo (i:=4) nE.nd rfl (Or.inl rfl)) (bJ (bo (i:=5) nE.nd rfl (Or.inl rfl)) (bJ (bo (i:=6) nE.nd rfl (Or.inl rfl)) (bJ (bo (i:=7) nE.nd rfl (Or.inl rfl)) gP)))))) (au (bq (i:=8) nE.nd rfl (Or.inl rfl) (aX (bQ (K:=K) rfl) (pv 1) (a8 dJ (a8 fX (aX (bQ (K:=K) rfl) (pv 2) aG (λ_ _=>rfl)) (pv 4)) (bM (c9 (K:=K) rfl) rfl bl.cX cV (ae (pv 1) ag))) (λ_ _=>rfl))) (au (bq (i:=9) nE.nd rfl (Or.inl rfl) (aX (bQ (K:=K) rfl) (pv 1) (a8 dJ (a8 fX (aX (bQ (K:=K) rfl) (pv 2) aG (λ_ _=>rfl)) (pv 4)) (bM (c9 (K:=K) rfl) rfl bl.cX cV (ae (pv 1) ag))) (λ_ _=>rfl))) (au (bq (i:=10) nE.nd rfl (Or.inl rfl) (cZ (ae (cK (ae (pv 5) (ae (pv 6) (ae (pv 7) ag)))) (ae (cK (ae bc (ae (pv 6) (ae (a8 dJ (a8 fX (aX (bQ (K:=K) rfl) (pv 2) aG (λ_ _=>rfl)) (pv 4)) (pv 3)) ag)))) ag)))) (au (aR (bb cg (pv 5) bc (aQ _)) (aw (aH (a8 pF (pv 10) (cZ (ae (cK (ae (pv 5) (ae bc (ae (pv 7) ag)))) (ae (cK (ae (pv 5) (ae (pv 8) (ae (pv 7) ag)))) ag)))))) a_) (au (bq (i:=10) nE.nd rfl (Or.inl rfl) (a8 pF (pv 10) (cZ (ae (cK (ae (pv 5) (ae (pv 8) (ae (pv 9) ag)))) (ae (cK (ae (pv 5) (ae bc (ae (pv 7) ag)))) (ae (cK (ae (pv 5) (ae (pv 7) (ae (pv 6) ag)))) ag)))))) (aw (aH (a8 pF (pv 10) (cZ (ae (cK (ae (aX (bQ (K:=K) rfl) (cZ (ae bc (ae bc (ae bc (ae bc ag))))) (aX (bQ (K:=K) rfl) (pv 2) aG (λ_ _=>rfl)) (λ_ _=>rfl)) (ae (pv 6) (ae (pv 7) ag)))) ag))))))))))),?_⟩;have sz:(10000:Nat)<=sizeLine:=by rw[sizeLine_eq];omega
 refine⟨_,rfl,fa,_,rfl,aA.of hf,rfl,_,_,rfl,bp ⟨_,_,rfl,bp ⟨_,_,rfl,bp ⟨_,_,rfl,bp ⟨rfl,?_⟩⟩⟩⟩⟩;dsimp only;refine bX ?_;refine Vt.vN (K:=K) (i:=1) (z:=d0+(z:Int)) rfl hn p0 (λkk hk=>⟨_,rfl,dr,_,_,_,rfl,rfl,ak.of hd,rfl,_,rfl,_,_,rfl,rfl,hk _ (aj.refl _)⟩) _ λH1 g1=>?_;refine bX ?_;refine Vt.vN (K:=K) (i:=1) (z:=d1+(z:Int)) rfl (g1 _ _ hn) p0 (λkk hk=>⟨_,rfl,dr,_,_,_,rfl,rfl,ak.of (g1 _ _ hd),rfl,_,rfl,_,_,rfl,rfl,hk _ (aj.refl _)⟩) _ λH2 g2=>?_;have iW:=g1.trans g2;refine bX ?_;refine⟨_,rfl,_,rfl,_,rfl,by show 3<=sizeLine;omega,λt1 H3 nt1 g3 xS=>⟨_,rfl,_,rfl,dr,_,_,_,rfl,rfl,ak.of (g3 _ _ (iW _ _ hd)),rfl,_,rfl,_,_,rfl,rfl,_,rfl,_,_,rfl,rfl,by omega,by show 3<=sizeLine;omega,λt2 H4 VM g4 K5=>⟨by show 2<=sizeLine;omega,λl1 H5 nl1 g5 A1=>?_⟩⟩⟩;have a1:oi H5 t1 (c.k,av ps c.one,a9 ps c):=g5 _ _ (g4 _ _ xS);have a2:oi H5 t2 (bh,av ps c.one,.inl ((d0+(z:Int)) % (xs.length:Int))):=g5 _ _ K5;have o2:∀(a:Str) (o:Key),Hm (bh,a,o):=λa o e=>absurd (show bh="sibling" from e) (by decide+kernel);have qA:=((iW.trans g3).trans g4).trans g5;refine⟨_,rfl,rfl,_,rfl,bI (λcc=>?_) (λcc=>aZ ?_)⟩
 ·have sk:c.k=bh:=V.str.inj (of_decide_eq_true cc);refine⟨_,rfl,_,rfl,_,rfl,by show 3<=sizeLine;omega,λt3 H6 nt3 g6 K6=>⟨_,rfl,_,rfl,_,rfl,by show 3<=sizeLine;omega,λt4 H7 nt4 g7 xX=>⟨by show 2<=sizeLine;omega,λl2 H8 xv g8 mY=>⟨l1,l2,_,_,rfl,rfl,g8 _ _ (g7 _ _ (g6 _ _ A1)),mY,by show 2+2<=sizeLine;omega,λl3 H9 nl3 g9 K7=>?_⟩⟩⟩⟩;have VQ:=g8.trans g9;have VR:=g7.trans VQ;have lW:=g6.trans VR;have a3:oi H9 t3 (c.k,"stranger",a9 ps c):=VR _ _ K6;have a4:oi H9 t4 (c.k,av ps ((d0+(z:Int)) % (ps.length:Int)).toNat,a9 ps c):=VQ _ _ xX;refine q l3 [t1,t2,t3,t4] _ H9 (qA.trans lW) K7 (.cons (lW _ _ a1) (.cons (lW _ _ a2) (.cons a3 (.cons a4 .nil)))) λt ht=>?_;simp only[Ym,Y0,or_false] at ht;rcases ht with rfl|rfl|rfl|rfl;·rw[sk];exact o2 _ _
  ·exact o2 _ _
  ·rw[sk];exact o2 _ _
  ·rw[sk];exact o2 _ _
 have ns:c.k≠bh:=λe=>cc (decide_eq_true (congrArg V.str e));have eo:kV (a9 ps c)=.str (av ps c.aJ.toNat):=by rw[gO ns];rfl
 have oo:∀(k a:Str),Hm (k,a,a9 ps c):=λk a _=>⟨_,gO ns⟩;refine bX ?_;refine⟨_,rfl,_,rfl,_,rfl,_,rfl,by show 3<=sizeLine;omega,λt3 H6 nt3 g6 K6=>⟨_,rfl,_,rfl,by show 3<=sizeLine;omega,λt4 H7 nt4 g7 xX=>⟨_,rfl,_,rfl,_,rfl,by show 3<=sizeLine;omega,λt5 H8 nt5 g8 ht5=>⟨by show 3<=sizeLine;omega,λl2 H9 xv g9 mY=>⟨l1,l2,_,_,rfl,rfl,g9 _ _ (g8 _ _ (g7 _ _ (g6 _ _ A1))),mY,by show 2+3<=sizeLine;omega,λl3 HA nl3 gA K7=>?_⟩⟩⟩⟩⟩;have VS:=g9.trans gA;have VT:=g8.trans VS;have VU:=g7.trans VT;have A2:=g6.trans VU;have a3:oi HA t3 (c.k,av ps ((d0+(z:Int)) % (ps.length:Int)).toNat,.inr (av ps ((d1+(z:Int)) % (ps.length:Int)).toNat)):=VU _ _ K6;have a4:oi HA t4 (c.k,"stranger",a9 ps c):=VT _ _ xX;have a5:oi HA t5 (c.k,av ps c.aJ.toNat,.inr (av ps c.one)):=by
  have:=VS _ _ ht5;rw[eo] at this;exact this
 obtain⟨k,tn,wt,ek,_,_⟩:=OR xs ys b2;refine⟨_,rfl,by show 4<=sizeLine;omega,λkl HB nkl gB uB=>⟨_,rfl,dr,_,_,_,rfl,rfl,ak.of (gB _ _ (A2 _ _ (qA _ _ hd))),rfl,kl,_,_,_,rfl,rfl,ak.of uB,ek,_,rfl,_,rfl,by show 3<=sizeLine;omega,λt6 HC nt6 gC xY=>⟨by show 1<=sizeLine;omega,λl4 HD nl4 gD hl4=>⟨l3,l4,_,_,rfl,rfl,gD _ _ (gC _ _ (gB _ _ K7)),hl4,by show 5+1<=sizeLine;omega,λl5 HE nl5 gE hl5=>?_⟩⟩⟩⟩;have VW:=gD.trans gE;have u4:=gB.trans (gC.trans VW);have a6:oi HE t6 (k,av ps c.one,a9 ps c):=VW _ _ xY;refine q l5 [t1,t2,t3,t4,t5,t6] _ HE ((qA.trans A2).trans u4) hl5 (.cons (u4 _ _ (A2 _ _ a1)) (.cons (u4 _ _ (A2 _ _ a2)) (.cons (u4 _ _ a3) (.cons (u4 _ _ a4) (.cons (u4 _ _ a5) (.cons a6 .nil)))))) λt ht=>?_;simp only[Ym,Y0,or_false] at ht;rcases ht with rfl|rfl|rfl|rfl|rfl|rfl;·exact oo _ _
 ·exact o2 _ _
 ·exact λ_=>⟨_,rfl⟩
 ·exact oo _ _
 ·exact λ_=>⟨_,rfl⟩
 ·exact oo _ _
end
def A3:Key->Dt
 |.inl i=>.int i
 |.inr z=>.str z
def K8(ps:bO)(fs:List (Nat×Fc)):Dt:=.lst (fs.map λp=>.tup ((dC ps p.1 p.2).map A3))
theorem Ze6(H:Hp)(m:Nat)(k:Key):At H m (kV k) (A3 k):=by
 cases k<;>(unfold A3 At;rfl)
theorem Qn(H:Hp)(m:Nat):∀ks:List Key,Paired (At H m) (ks.map kV) (ks.map A3)
 |[]=>.nil
 |k::ks=>.cons (Ze6 H m k) (Qn H m ks)
theorem zc(h:H p=some (.lst (as.map V.ref)))(pr:Paired (cW H ps) as fs)(l:fs.length<=1000):At H 3 (.ref p) (K8 ps fs):=by
 refine⟨p,_,rfl,h,by rw[Ya];exact l,?_⟩;clear h l;induction pr with
 |nil=>exact .nil
 |cons e _ ih=>
  exact .cons ⟨_,_,rfl,e,by show 4<=1000;omega,Qn H 1 _⟩ ih
theorem Su{fs de:List (Nat×Fc)}(pm:de.Perm fs)(h1:(de.map (·.1)).Pairwise (·<·))(h2:(fs.map (·.1)).Pairwise (·<·)):de=fs:=by
 rw[Wu] at h1 h2;exact List.Perm.eq_of_pairwise (λa b _ _ h1 h2=>by omega) h1 h2 pm
theorem ZdJ{xs:List V}{lo hi:Option Int}{j:Nat}{v:V}(h:(jA xs lo hi)[j]?=some v):v∈xs:=List.mem_of_mem_drop (List.mem_of_mem_take (Yg h))
theorem ZG(p:Paired R as bs)(h:a∈as):∃b∈bs,R a b:=by
 induction p with
 |nil=>cases h
 |cons e _ ih=>
  rcases Ym.mp h with rfl|h;·exact⟨_,Yh,e⟩
  ·obtain⟨b,hb,r⟩:=ih h;exact⟨b,Yx _ hb,r⟩
theorem Zax(ok:cG xs ys b)(hi:i<b.ps.length):∃(r:Int) (rs:List Int),jy b.F xs.length i=r::rs:=by
 obtain⟨f,inr,sat⟩:=ok.lv;have hV:∀c∈b.F,dB xs.length b.ps.length c:=λc hc=>by
  obtain⟨p,hp,rfl⟩:=Ye.mp (show c∈b.fs.map (·.2) from hc);exact(ok.fg p hp).ok
 have m:f i∈jy b.F xs.length i:=E5.mpr ⟨inr i hi,YA hV hi inr sat⟩;cases e:jy b.F xs.length i with
 |nil=>rw[e] at m;cases m
 |cons r rs=>exact⟨r,rs,rfl⟩
theorem ZdK(ok:cG xs ys b)(hi:i<b.ps.length)(hr:r∈jy b.F xs.length i)(nr:mM b [.str bh,.str (av b.ps i),kV (.inl r)]=false)(lim:b.fs.length<63):Hi xs ys b ⟨bh,i,r,[]⟩:=by
 obtain⟨rb,g,cl,hg⟩:=E5.mp hr;obtain⟨f0,inr,sat⟩:=ok.lv;have hV:∀c∈b.F,dB xs.length b.ps.length c:=λc hc=>by
  obtain⟨p,hp,rfl⟩:=Ye.mp (show c∈b.fs.map (·.2) from hc);exact(ok.fg p hp).ok
 obtain⟨f,h1,h2,h3⟩:=L6 hV inr (λc hc=>.inr (sat c hc)) cl hg;have e0:a9 b.ps ⟨bh,i,r,[]⟩=.inl r:=ko rfl;refine⟨⟨⟨⟨hi,λz=>absurd rfl z⟩,.inl rfl,λ_=>rb⟩,λhk=>?_,λz=>absurd z (by show ¬cI bh=true;decide+kernel),⟨f,h1,λc' mV=>?_⟩,lim⟩,rfl⟩
 ·obtain⟨p,hp,e⟩:=Ye.mp hk;obtain⟨e1,⟨e2,e3⟩|⟨e2,_,_⟩⟩:=zb.mp e
  ·have:=yy.mpr ⟨p,hp,e1,e2,e3⟩
   grind
  ·grind
 ·rcases Yu.mp mV with h|h;·exact h2 c' h
  ·rw[Yn.mp h];exact⟨λ_=>h3,λz=>absurd rfl z⟩
theorem Vt.RH(hi:σ[i]?=some (some x))(hj:σ[j]?=some (some y))(hk:σ[k]?=some (some z))(uA:σ[12]?=some (some (.ref D)))(hD:H D=some (.lst (ra.map V.ref)))(pr:Paired (λa ys=>H a=some (.tup ys)/\ys.all eQ=true) ra (b.fs.map (rowOf b.ps)))(ky:[x,y,z].all eQ=true):Vt (jE (Io false) (t_ (fY (eW i) (fY (eW j) (fY (eW k) i4)))) (eW 12)) σ H (.bl (mM b [x,y,z])):=λq hq=>⟨_,hi,_,hj,_,hk,by show 3<=sizeLine;rw[sizeLine_eq];omega,λt H1 nt g1 ht=>⟨_,uA,t,D,_,ra,_,rfl,rfl,ht,ky,g1 _ _ hD,L2.Paired.bu pr λ_ _ ⟨e1,e2⟩=>⟨g1 _ _ e1,e2⟩,hq H1 g1⟩⟩
theorem ZdL{H:Hp}{ps:bO}{D:Addr}{fs:List (Nat×Fc)}:∀{us:List V} {is:List Nat} {gs:List (Nat×Fc)},Paired (λy i=>∃a p,fs[i]?=some p/\y=.ref a/\a≠D/\H a=some (.tup (rowOf ps p))) us is->is.map (λi=>fs[i]?)=gs.map some->∃ra:List Addr,us=ra.map V.ref/\Paired (λa ys=>H a=some (.tup ys)/\ys.all eQ=true) ra (gs.map (rowOf ps)):=by
 intro us is gs pr;induction pr generalizing gs with
 |nil=>
  intro e;cases gs with
  |nil=>exact⟨[],rfl,.nil⟩
  |cons _ _=>cases e
 |cons f _ ih=>
  intro e;cases gs with
  |nil=>cases e
  |cons g gs=>
   obtain⟨a,p,e1,e2,_,e3⟩:=f;injection e with e4 e5;obtain⟨as,r1,r2⟩:=ih e5;refine⟨a::as,by rw[e2,r1];rfl,.cons ⟨by rw[←(Yo (e1.symm.trans e4))];exact e3,?_⟩ r2⟩;unfold rowOf;cases a9 ps g.2<;>rfl
theorem ZdM(fs:List α):(List.range fs.length).map (λi=>fs[i]?)=fs.map some:=Wj λi=>by
 grind
theorem Ze7(k:Key):eQ (kV k)=true:=by cases k<;>rfl
theorem Sv:At H 3 (.bl b) (.bl b):=by unfold At;rfl
theorem RI:At H 3 (.int i) (.int i):=by unfold At;rfl
def A4(s1 m wi td h nl sd fl kp D dr:Addr)(n z co:Int)(oY jZ j9 j_ ke A5:Option V):St:=[some (.ref s1),some (.int n),some (.ref m),some (.ref wi),some (.ref td),some (.int z),some (.ref h),some (.ref nl),some (.ref sd),some (.ref fl),some (.int co),some (.ref kp),some (.ref D),some (.ref dr),oY,jZ,j9,j_,ke,A5]
section
theorem eM:aU ["_law_script","_law_size","_law_mother","_law_wife","_law_turns_here","_law_salt","_law_book","_law_names","_law_sides","_law_facts","_law_after_here","_law_told_here","_law_rows","_law_drawn","_law_fact_here","_law_kind","_law_one","_law_other","_law_due","_law_room_here"] ["_law_script"] (aM rp):=⟨rfl,rfl,rfl,by decide+kernel,rfl,by decide+kernel,by decide+kernel⟩
theorem Ze8(F:aN K "law" "law" rp f fd)(qJ:HasFn P w K mg base 1 "_law_cell" ["_law_script","_law_k"] (QL K))(nC:HasFn P w K mg base 1 "_law_draws" ["_law_cell_here","_law_parts"] (yQ K))(yA:HasFn P w K mg base 2 "_law_row" ["_law_cell_here","_law_size"] Sj)(D2:HasFn P w K mg base 2 "_law_turns" ["_law_mother","_law_wife"] P_)(pd:HasFn P w K mg base 4 "_law_same" ["_law_found","_law_due"] (qV 4))(sZ:HasFn P w K mg base 3 "_law_room" ["_law_facts","_law_turns_here","_law_name_here"] GQ)(EB:HasFn P w K mg base 15 "_law_grow" ["_law_book","_law_cells","_law_turns_here","_law_salt"] (RF C CL CJ))(EC:HasFn P w K mg base 1 "_law_asks" ["_law_fact_here","_law_names","_law_drawn","_law_size"] RG)
  (Fb:HasFn P w K mg base 7 "land_of" ["mother","wife"] (Ob CL))(FN:wb P w K mg base 1 "Hearth" C ["self","land"] (PV C CL CJ))(x9:cD P w K mg base 1 "kept" C ["self"] (Rl C CL CJ))(nB:cD P w K mg base 2 "has" C ["self","kind","one","other"] (zE C CL CJ))(sQ:cD P w K mg base 12 "say" C ["self","name","section"] (GP C CL CJ))(bl:Bl mg):aK P w K mg base (mZ P w) 16 f fd ["_law_script"] (zG K):=by
 refine F.okX eM (λvs H Q E h=>?_) (λaF A outer s H vs Q E hr h=>?_)
 ·obtain⟨a,ns,rfl,_⟩:=h;rfl
 obtain⟨a,ns,rfl,hs,hlen,q⟩:=h;have hu:=hr.tU;refine⟨_,(au (bq (i:=0) eM.nd rfl (Or.inl rfl) (yB (Fq (K:=K) rfl) (pv 0) yN (yO aG))) (au (bq (i:=1) eM.nd rfl (Or.inl rfl) (a8 fX aG (a8 dJ (aY qJ hr (by omega) rfl (ae (pv 0) (ae aG ag))) aG))) (au (bq (i:=2) eM.nd rfl (Or.inl rfl) (aY yA hr (by omega) rfl (ae (aY qJ hr (by omega) rfl (ae (pv 0) (ae aG ag))) (ae (pv 1) ag)))) (au (bq (i:=3) eM.nd rfl (Or.inl rfl) (aY yA hr (by omega) rfl (ae (aY qJ hr (by omega) rfl (ae (pv 0) (ae aG ag))) (ae (pv 1) ag)))) (au (bq (i:=4) eM.nd rfl (Or.inl rfl) (aY D2 hr (by omega) rfl (ae (pv 2) (ae (pv 3) ag)))) (au (bq (i:=5) eM.nd rfl (Or.inl rfl) (a8 dJ (aY qJ hr (by omega) rfl (ae (pv 0) (ae aG ag))) aG)) (au (bq (i:=6) eM.nd rfl (Or.inl rfl) (GZ FN hr (by omega) rfl (ae (aY Fb hr (by omega) rfl (ae (pv 2) (ae (pv 3) ag))) ag))) (au (lC (aY EB hr (by omega) rfl (ae (pv 6) (ae (yB (Fq (K:=K) rfl) (pv 0) (yO aG) yN) (ae (pv 4) (ae (pv 5) ag))))) (gT (K:=K) (n:=4) rfl rfl (bJ (bo (i:=7) eM.nd rfl (Or.inl rfl)) (bJ (bo (i:=8) eM.nd rfl (Or.inl rfl)) (bJ (bo (i:=9) eM.nd rfl (Or.inl rfl)) (bJ (bo (i:=10) eM.nd rfl (Or.inl rfl)) gP)))))) (au (bq (i:=11) eM.nd rfl (Or.inl rfl) (tX x9 hr (by omega) (pv 6))) (au (aR (iY (eK (aY pd hr (by omega) rfl (ae (pv 11) (ae (pv 9) ag))))) (aw (aH jv)) a_) (au (cA (Pg (K:=K) rfl (QE plainAttrs_list PySem.F.slot_list_reverse PySem.F.type_list_reverse ZU (pv 11)))) (au (cA (mD (K:=K) rfl (jw plainAttrs_list PySem.F.slot_list_append PySem.F.type_list_append nF (pv 11) (ae (cK (ae aG (ae bc (ae bc (ae bc ag))))) ag)))) (au (ZV (i:=12) (x:="_law_one") (fr:=[]) (cl:=[]) rfl eM.nd rfl (Or.inl rfl) ⟨by with_unfolding_all rfl,trivial,rfl,by decide+kernel,rfl,by decide+kernel,rfl,trivial,by decide+kernel⟩ (eV (K:=K) rfl (pv 9)) (λ_ _ _ _=>ku) (λ_ _ _ _=>(yB (Zc9 (K:=K) rfl) (pv 0) (yO aG) yN))) (au (bq (i:=13) eM.nd rfl (Or.inl rfl) (aY nC hr (by omega) rfl (ae (aY qJ hr (by omega) rfl (ae (pv 0) (ae aG ag))) (ae (cZ (ae aG (ae aG (ae aG ag)))) ag)))) (au (fW SY rfl (eV (K:=K) rfl (yB (Fq (K:=K) rfl) (pv 9) yN (yO aG))) (bo (i:=14) eM.nd rfl (Or.inl rfl)) (aw (fW SY rfl (eV (K:=K) rfl (aY EC hr (by omega) rfl (ae (pv 14) (ae (pv 7) (ae (pv 13) (ae (pv 1) ag)))))) (gT (K:=K) (n:=3) rfl rfl (bJ (bo (i:=15) eM.nd rfl (Or.inl rfl)) (bJ (bo (i:=16) eM.nd rfl (Or.inl rfl)) (bJ (bo (i:=17) eM.nd rfl (Or.inl rfl)) gP)))) (au (bq (i:=18) eM.nd rfl (Or.inl rfl) (zu (dw (QU (bH hr)) (cK (ae (pv 15) (ae (pv 16) (ae (pv 17) ag)))) (pv 12) (by with_unfolding_all rfl)) (kB (nT (dw cg (pv 15) bc (aQ _)) (kB (dw (QU (bH hr)) (cK (ae (pv 15) (ae (pv 17) (ae (pv 16) ag)))) (pv 12) (by with_unfolding_all rfl))))))) (aw (aR (iY (eK (aY pd hr (by omega) rfl (ae (cO nB hr (by omega) (pv 6) (ae (pv 15) (ae (pv 16) (ae (pv 17) ag)))) (ae (pv 18) ag))))) (aw (aH jv)) a_)))))) (au (aR (bb (F5 (K:=K) rfl (QS hu)) (pv 7) (cZ ag) (aQ _)) (au (bq (i:=19) eM.nd rfl (Or.inl rfl) (aY sZ hr (by omega) rfl (ae (pv 9) (ae (pv 4) (ae (aX (bQ (K:=K) rfl) (pv 7) aG (λ_ _=>rfl)) ag))))) (aw (aR (bb (Za8 (bH hr)) (cK (ae bc (ae (aX (bQ (K:=K) rfl) (pv 7) aG (λ_ _=>rfl)) (ae (aX (bQ (K:=K) rfl) (pv 19) aG (λ_ _=>rfl)) ag)))) (pv 12) (by with_unfolding_all rfl)) (au (aR (iY (eK (aY pd hr (by omega) rfl (ae (cO sQ hr (by omega) (pv 6) (ae (aX (bQ (K:=K) rfl) (pv 7) aG (λ_ _=>rfl)) (ae (aX (bQ (K:=K) rfl) (pv 19) aG (λ_ _=>rfl)) ag))) (ae (pv 10) ag))))) (aw (aH jv)) a_) (aw (bq (i:=9) eM.nd rfl (Or.inl rfl) (a8 pF (pv 9) (cZ (ae (cK (ae (pv 10) (ae bc (ae (aX (bQ (K:=K) rfl) (pv 7) aG (λ_ _=>rfl)) (ae (aX (bQ (K:=K) rfl) (pv 19) aG (λ_ _=>rfl)) ag))))) ag)))))) a_))) a_) (aw (aH (aY pd hr (by omega) rfl (ae (tX x9 hr (by omega) (pv 6)) (ae (pv 9) ag))))))))))))))))))))),?_⟩;have sz:(10000:Nat)<=sizeLine:=by rw[sizeLine_eq];omega
 obtain⟨ms,em⟩:=NP ns none (some 63);have lms:ms.length<=ns.length:=by
  have:=DA (ns.map V.int) none (some 63);rw[em,Ya,Ya] at this;exact this
 obtain⟨cs,ec⟩:=NP ms (some 4) none;have lcs:cs.length<=59:=by
  have:=Zcx (xs:=ms.map V.int) (by rw[Ya];omega);rw[ec,Ya] at this;exact this
 refine bX ?_;refine⟨_,rfl,_,rfl,a,_,rfl,hs,λs1 H0 n1 g0 u5=>?_⟩;rw[em] at u5;refine bX ?_;refine⟨_,rfl,s1,ms,0,rfl,ak.of u5,Int.le_refl 0,λc0=>⟨_,_,rfl,rfl,(by show(0:Int)<7;decide),_,_,rfl,rfl,?_⟩⟩;try dsimp only
 have m0:=Jc c0 (show(7:Int)≠0 by decide);have m1:=Wz c0 (show(0:Int)<7 by decide);obtain⟨n,en⟩:∃n:Nat,2+c0 % 7=(n:Int):=⟨(2+c0 % 7).toNat,by omega⟩;rw[en];have n2:2<=n:=by omega
 have n8:n<=8:=by omega
 refine bX ?_;refine⟨_,rfl,s1,ms,1,rfl,ak.of u5,by decide,λc1=>⟨_,rfl,c1,n,rfl,by omega,by omega,λm xs H1 nm g1 hM px=>?_⟩⟩;refine bX ?_;refine⟨_,rfl,s1,ms,2,rfl,ak.of (g1 _ _ u5),by decide,λc2=>⟨_,rfl,c2,n,rfl,by omega,by omega,λwi ys H2 nw g2 hW py=>?_⟩⟩;have lx:xs.length=n:=by rw[px.length_eq,eG]
 have ly:ys.length=n:=by rw[py.length_eq,eG]
 have gd:mJ xs ys:=⟨qM px,qM py,by omega,by omega,by omega⟩;refine bX ?_;refine⟨_,rfl,_,rfl,m,wi,xs,ys,rfl,g2 _ _ hM,hW,gd,λtd H3 ntd g3 ht=>?_⟩;have jh:=(g1.trans g2).trans g3;refine bX ?_;refine⟨_,rfl,s1,ms,3,rfl,ak.of (jh _ _ u5),by decide,λc3=>⟨_,_,rfl,rfl,(by show(0:Int)<97;decide),?_⟩⟩;try dsimp only
 have z0:=Jc c3 (show(97:Int)≠0 by decide);have z1:=Wz c3 (show(0:Int)<97 by decide);obtain⟨z,ez⟩:∃z:Nat,c3 % 97=(z:Int):=⟨(c3 % 97).toNat,by omega⟩;rw[ez];have hz:z<97:=by omega
 refine bX ?_;refine⟨_,rfl,_,rfl,m,wi,xs,ys,rfl,g3 _ _ (g2 _ _ hM),g3 _ _ hW,gd.1,gd.2.1,gd.2.2.1,gd.2.2.2.1,gd.2.2.2.2,λLd H4 g4 la=>λx dx nx xp nd=>?_⟩;have xq:upd H4 dx (.own x) x=none:=by rw[bg (λz=>nd z.symm)];exact nx
 obtain⟨H5,e5⟩:∃H5,H5=upd (upd H4 dx (.own x)) x (.ins C dx []):=⟨_,rfl⟩;have g5:aj H4 H5:=by rw[e5];exact(cq xp _).trans (cq xq _)
 have hx5:H5 x=some (.ins C dx []):=by rw[e5];exact aW
 rw[←e5];refine⟨x,dx,Ld,xs,ys,rfl,hx5,la.same g5,λl H6 eh AJ b6 ba=>⟨rfl,?_⟩⟩;subst eh;have keep:∀{a:Addr} {o:HO},H4 a=some o->H6 a=some o/\a∉l.fp:=λ{a o} e=>by
  have na:a≠l.h:=ck e nx;refine⟨b6 _ _ (g5 _ _ e) na,λz=>?_⟩;have:=AJ a z na;rw[g5 _ _ e] at this;cases this
 have K9:=g4 _ _ (jh _ _ u5);have xX:=ht.same g4;obtain⟨tm,tf,tw,ts,fO,q1,q2,q3,q4⟩:=xX;have xY:gw H6 td xs ys:=⟨tm,tf,tw,ts,(keep fO).1,(keep q1).1,(keep q2).1,(keep q3).1,(keep q4).1⟩;refine⟨_,rfl,_,rfl,_,rfl,s1,_,rfl,ak.of (keep K9).1,λca H7 nca g7 hca=>⟨_,rfl,_,rfl,xs,ys,z,ca,td,l,⟨[],[],0,[],[]⟩,cs,rfl,ba.same g7,rfl,gd,by rw[hca,ec],ba.fresh nca,xY.same g7,(keep fO).2,hz,lcs,λl2 b nl sd fl st H8 wt si=>?_⟩⟩;refine⟨st,_,rfl,aA.of si.tup,rfl,_,_,rfl,bp ⟨_,_,rfl,bp ⟨_,_,rfl,bp ⟨_,_,rfl,bp ⟨rfl,?_⟩⟩⟩⟩⟩;dsimp only;have eh:=wt.h;have hs8:=(wt.off (g7 _ _ (keep K9).1) (keep K9).2).1;have VL:=si.ok.fl;have VG:=si.ok.m;have cd:=si.cd;have cf:=si.cf;obtain⟨KH,VX⟩:=si.ba.obj;rw[eh] at VX;refine bX ?_;refine⟨_,rfl,l.h,KH,_,rfl,VX,rfl,l2,b,xs,ys,by rw[eh];rfl,si.ba,si.ok.zs,VL,λkp ka de H9 xA g9 pm so9 hk pk=>?_⟩;have fe:=Su pm so9 si.so;subst fe;obtain⟨as,nv,du⟩:=si.facts;have al:=cR du;have kal:=cR pk;refine⟨_,rfl,_,rfl,_,_,K8 b.ps b.fs,3,rfl,rfl,zc hk pk (by omega),zc (g9 _ _ nv) (L2.Paired.bu du λ_ _ e=>g9 _ _ e) (by omega),λHA gA=>⟨_,rfl,cj (aZ ?_)⟩⟩;have VY:=gA _ _ hk;refine⟨_,rfl,.inl ⟨rfl,_,ak.of VY⟩,kp,_,rfl,rfl,VY,?_⟩;obtain⟨HR,eR⟩:∃HR,HR=upd HA kp (.lst (ka.map V.ref).reverse):=⟨_,rfl⟩;have VZ:HR kp=some (.lst (ka.map V.ref).reverse):=by rw[eR];exact aW
 have g8R:aj H8 HR:=λc o e=>by rw[eR,bg (ck e xA)];exact gA _ _ (g9 _ _ e)
 rw[←eR];refine⟨_,rfl,.inl ⟨rfl,_,ak.of VZ⟩,by show 4<=sizeLine;omega,λtz HS ntz gS htz=>⟨kp,_,_,rfl,rfl,gS _ _ VZ,by rw[List.length_reverse,Ya];omega,λHt bT eT=>?_⟩⟩;have A6:aj H8 Ht:=λc o e=>bT _ _ (gS _ _ (g8R _ _ e)) (ck e xA);have siT:=si.same A6;have TC:=A6 _ _ nv;have Zg5:Paired (cW Ht b.ps) as b.fs:=L2.Paired.bu du λ_ _ e=>A6 _ _ e;dsimp only;refine bX ?_;refine⟨_,rfl,fl,rfl,⟨_,ak.of TC⟩,λD hD=>?_⟩;refine vy (K:=K) (ak.of TC) (by rw[Ya];omega) hD (λ_=>true) (λi y H2=>∃a p,b.fs[i]?=some p/\y=.ref a/\a≠D/\H2 a=some (.tup (rowOf b.ps p))) (λi y H1 H2 br ⟨a,p,e1,e2,e3,e4⟩=>⟨a,p,e1,e2,e3,br _ _ e4 e3⟩) (λi v hi H2 g2 ⟨yz,hD2⟩ Kt Kf kt kf=>jB (c6 ?_)) λus HU gU hU pr=>?_
 ·rw[Yf] at hi;obtain⟨a,ea,rfl⟩:∃a,as[i]?=some a/\V.ref a=v:=by
   cases e:as[i]? with
   |none=>rw[e] at hi;cases hi
   |some c=>rw[e] at hi;exact⟨c,rfl,Yo hi⟩
  obtain⟨p,ep,hp⟩:=fk Zg5 ea;refine⟨_,rfl,_,rfl,a,_,rfl,aA.of (g2 _ _ hp),λh=>absurd (show HT.bY 4 0 (some 1)=0 from h.1) (by decide),λp2 oO=>kt _ _ rfl (cq oO _) ⟨p2,p,ep,rfl,(λw=>by rw[w,hD2] at oO;cases oO),aW⟩⟩
 rw[yg,Ya,al] at pr;obtain⟨ra,rfl,prr⟩:=ZdL pr (ZdM b.fs);have V0:=A6.trans gU;refine bX ?_;refine⟨_,rfl,s1,ms,3,rfl,ak.of (V0 _ _ hs8),by decide,λc4=>⟨by show 3<=sizeLine;omega,λpl HV xK gV df=>⟨c4,pl,[61,59,4],rfl,ak.of df,by decide,by decide,λdr ds HD ndr gD hdr bd=>?_⟩⟩⟩;obtain⟨d0,d1,d2,rfl,_,_,b2⟩:=Zdc bd;have K_:=gV.trans gD;have La:=V0.trans K_;have Lb:=si.same La;have Zg6:=La _ _ nv;have Zg7:Paired (cW HD b.ps) as b.fs:=L2.Paired.bu du λ_ _ e=>La _ _ e;have Lc:=K_ _ _ hU;have Le:Paired (λa ys=>HD a=some (.tup ys)/\ys.all eQ=true) ra (b.fs.map (rowOf b.ps)):=L2.Paired.bu prr λ_ _ ⟨e1,e2⟩=>⟨K_ _ _ e1,e2⟩;refine iI (λσ H'=>aj HD H'/\∃oY jZ j9 j_ ke:Option V,σ=A4 s1 m wi td l.h nl sd fl kp D dr n z b.co oY jZ j9 j_ ke none) (λoN fP=>?_) ?_
 ·refine⟨_,rfl,_,rfl,fl,_,rfl,ak.of Zg6,λcl HE ncl gE V1=>⟨cl,rfl,⟨_,ak.of V1⟩,jq (K:=K) (a:=cl) (xs:=jA (as.map V.ref) none (some 20)) (λj σ H'=>aj HE H'/\∃oY jZ j9 j_ ke:Option V,σ=A4 s1 m wi td l.h nl sd fl kp D dr n z b.co oY jZ j9 j_ ke none) ⟨aj.refl _,_,_,_,_,_,rfl⟩ (λj σ H' _ ⟨g,_⟩=>ak.of (g _ _ V1)) ?_ ?_⟩⟩
  ·rintro j v σ HF hj ⟨gF,oY,jZ,j9,j_,ke,rfl⟩;obtain⟨fa,cY,rfl⟩:=Ye.mp (ZdJ hj);obtain⟨p,hp,hfp⟩:=ZG Zg7 cY;have A7:=gE.trans gF;have fg:=si.ok.fg p hp;refine bp ?_;refine⟨_,rfl,_,rfl,_,rfl,_,rfl,fa,nl,dr,b.ps,xs,ys,p,d0,d1,d2,by rw[lx];rfl,A7 _ _ hfp,fg,(Lb.same A7).names,Wy (Yv _) fg.ok.one,A7 _ _ hdr,b2,by omega,λaq aa ts HG gG V2 paq oks=>⟨aq,rfl,⟨_,ak.of V2⟩,jq (K:=K) (a:=aq) (xs:=aa.map V.ref) (λi σ H'=>aj HG H'/\∃jZ j9 j_ ke:Option V,σ=A4 s1 m wi td l.h nl sd fl kp D dr n z b.co (some (.ref fa)) jZ j9 j_ ke none) ⟨aj.refl _,_,_,_,_,rfl⟩ (λi σ H' _ ⟨g,_⟩=>ak.of (g _ _ V2)) ?_ ?_⟩⟩
   ·rintro i v σ HH hi ⟨gH,jZ,j9,j_,ke,rfl⟩;rw[Yf] at hi;obtain⟨a,ea,rfl⟩:∃a,aa[i]?=some a/\V.ref a=v:=by
     cases e:aa[i]? with
     |none=>rw[e] at hi;cases hi
     |some c=>rw[e] at hi;exact⟨c,rfl,Yo hi⟩
    obtain⟨⟨tk,ta,to⟩,et,hat⟩:=fk paq ea;have V3:=oks _ (Yg et);have xZ:=(A7.trans gG).trans gH;refine⟨a,_,rfl,aA.of (gH _ _ hat),rfl,_,_,rfl,bp ⟨_,_,rfl,bp ⟨_,_,rfl,bp ⟨rfl,?_⟩⟩⟩⟩;dsimp only;refine bX ?_;have kk:=Ze7 to;refine(Vt.VE (Vt.RH (b:=b) (x:=.str tk) (y:=.str ta) (z:=kV to) rfl rfl rfl rfl (xZ _ _ Lc) (L2.Paired.bu Le λ_ _ ⟨e1,e2⟩=>⟨xZ _ _ e1,e2⟩) (by rw[Wi,Wi,Wi,List.all_nil,kk];rfl)) λHI _ gI=>Vt.IB (Vt.eq (x:=.str tk) (y:=.str "sibling") (Vt.var rfl) (λ_ _=>Vt.c) rfl) λHJ _ gJ=>Vt.RH (b:=b) (x:=.str tk) (y:=kV to) (z:=.str ta) rfl rfl rfl rfl (gJ _ _ (gI _ _ (xZ _ _ Lc))) (L2.Paired.bu Le λ_ _ ⟨e1,e2⟩=>⟨gJ _ _ (gI _ _ (xZ _ _ e1)),e2⟩) (by rw[Wi,Wi,Wi,List.all_nil,kk];rfl)) _ λHK gK=>?_;have gDK:=xZ.trans gK;have V4:=Lb.same gDK;obtain⟨dxK,V5⟩:=V4.ba.obj;rw[eh] at V5;rw[dO,←Zcw V3];refine⟨_,rfl,l.h,dxK,_,rfl,V5,rfl,_,rfl,_,rfl,_,rfl,l2,b,xs,ys,tk,ta,to,by rw[eh];rfl,V4.ba,V3,λHL gL=>⟨_,rfl,_,_,.bl (b.told (keyOf tk ta to)),3,rfl,rfl,Sv,Sv,λHM gM=>⟨_,rfl,cj (aZ ⟨((gH.trans gK).trans gL).trans gM,_,_,_,_,rfl⟩)⟩⟩⟩
   ·rintro σ HH ⟨gH,jZ,j9,j_,ke,rfl⟩;exact⟨(gF.trans gG).trans gH,_,_,_,_,_,rfl⟩
  ·rintro σ HF ⟨gF,oY,jZ,j9,j_,ke,rfl⟩;exact fP _ _ ⟨gE.trans gF,_,_,_,_,_,rfl⟩
 rintro σ HF ⟨gF,oY,jZ,j9,j_,ke,rfl⟩;have Lf:=Lb.same gF;refine nW (λσ H'=>∃(l3:BL) (b3:BS) (x6:Addr) (oZ:List Addr) (A5:Option V),l3.h=l.h/\bG H' C CL CJ l3 xs ys b3/\cG xs ys b3/\(b3.fs.map (·.1)).Pairwise (·<·)/\H' x6=some (.lst (oZ.map V.ref))/\Paired (cW H' b3.ps) oZ b3.fs/\σ=A4 s1 m wi td l.h nl sd x6 kp D dr n z b.co oY jZ j9 j_ ke A5) (λoR eP=>?_) ?_
 ·refine⟨_,rfl,by show 0<=sizeLine;omega,λe0 Ha uW ga se=>⟨nl,e0,_,rfl,rfl,ak.of (ga _ _ Lf.names),ak.of se,_,rfl,bI (λcn=>?_) (λcn=>?_)⟩⟩
  rotate_left
  ·have sa:=Lf.same ga;obtain⟨oZ,h3,p3⟩:=sa.facts;exact aZ (eP _ _ ⟨l2,b,fl,oZ,none,eh,sa.ba,si.ok,si.so,h3,p3,rfl⟩)
  have p0:0<b.ps.length:=by
   cases e:b.ps with
   |nil=>unfold jn at cn;rw[e] at cn;exact absurd cn (by decide)
   |cons _ _=>exact Nat.succ_pos _
  have sa:=Lf.same ga;have A8:dA (jn b.ps) 0=some (.str (av b.ps 0)):=Rw (z:=0) (Int.le_refl 0) (by omega);obtain⟨r,rs,er⟩:=Zax si.ok p0;have lZ:dA ((r::rs).map V.int) 0=some (.int r):=gQ (xs:=(r::rs).map V.int) (j:=0) (v:=V.int r) rfl;dsimp only;refine bX ?_;refine⟨_,rfl,_,rfl,_,rfl,nl,_,_,_,rfl,rfl,ak.of sa.names,A8,fl,td,b.ps,xs,ys,b.F,0,rfl,sa.FL,sa.turns,si.ok.nm,λc hc=>?_,gd.2.2.2.2,by omega,?_,p0,λrm Hb nrm gb Lg=>?_⟩
  ·obtain⟨pp,oV,rfl⟩:=Ye.mp (show c∈b.fs.map (·.2) from hc);exact si.ok.fg pp oV
  ·show(b.fs.map (·.2)).length<=64;rw[Ya];omega
  rw[er] at Lg;have sb:=sa.same gb;have nrf:=sa.ba.fresh nrm;have V6:=(gF.trans ga).trans gb;refine⟨_,rfl,nl,_,_,_,rfl,rfl,ak.of sb.names,A8,_,rfl,rm,_,_,.int r,rfl,rfl,ak.of Lg,lZ,by show 3<=sizeLine;omega,λt Hc nt gc ht=>⟨_,rfl,t,D,_,ra,_,rfl,rfl,ht,rfl,gc _ _ (V6 _ _ Lc),L2.Paired.bu Le λ_ _ ⟨e1,e2⟩=>⟨gc _ _ (V6 _ _ e1),e2⟩,_,rfl,bI (λcr=>?_) (λcr=>?_)⟩⟩
  rotate_left
  ·have sc:=sb.same gc;obtain⟨oZ,h3,p3⟩:=sc.facts;exact aZ (eP _ _ ⟨l2,b,fl,oZ,_,eh,sc.ba,si.ok,si.so,h3,p3,rfl⟩)
  have nr:mM b [.str bh,.str (av b.ps 0),kV (.inl r)]=false:=by
   cases e:mM b [.str bh,.str (av b.ps 0),kV (.inl r)] with
   |false=>rfl
   |true=>
    have cr:(!mM b [.str bh,.str (av b.ps 0),kV (.inl r)])=true:=cr;rw[e] at cr;cases cr
  have so:=ZdK si.ok p0 (by rw[er];exact Yh) nr (by omega);have sc:=sb.same gc;have TH:=gc _ _ Lg;obtain⟨dxc,wJ⟩:=sc.ba.obj;rw[eh] at wJ;refine⟨_,rfl,l.h,dxc,_,rfl,wJ,rfl,_,rfl,nl,_,_,_,rfl,rfl,ak.of sc.names,A8,_,rfl,rm,_,_,.int r,rfl,rfl,ak.of TH,lZ,l2,b,xs,ys,⟨bh,0,r,[]⟩,by rw[eh];rfl,sc.ba,si.ok,so,by omega,λl3 Hd sy hZ=>⟨_,rfl,_,_,.int (b.co:Int),3,rfl,rfl,RI,RI,λHe ge=>⟨_,rfl,cj (aZ ?_)⟩⟩⟩;obtain⟨oZ,h3,p3⟩:=sc.facts;have nme:=ge _ _ (sy.off sc.names sc.n1).1;have rme:=ge _ _ (sy.off TH nrf).1;have fle:=ge _ _ (sy.off h3 sc.n3).1;have pe:=yx sy sc.ba p3;have al3:=cR p3;refine⟨_,rfl,_,rfl,_,rfl,nl,_,_,_,rfl,rfl,ak.of nme,A8,_,rfl,rm,_,_,.int r,rfl,rfl,ak.of rme,lZ,by show 4<=sizeLine;omega,λt6 Hf nt6 gf xY=>⟨by show 1<=sizeLine;omega,λl6 Hg nl6 gg hl6=>⟨fl,l6,_,_,rfl,rfl,gg _ _ (gf _ _ fle),hl6,by rw[Ya];show _+1<=_;omega,λx6 Hh ZhK gh IG=>bp (eP _ _ ⟨l3,b.uc ⟨bh,0,r,[]⟩,x6,oZ++[t6],_,sy.h.trans eh,hZ.same (((ge.trans gf).trans gg).trans gh),?_,?_,?_,?_,rfl⟩)⟩⟩⟩
  ·exact si.ok.Tg so.nf.fg (λmm=>by
    obtain⟨pp,oV,e⟩:=Ye.mp mm;have:=si.ok.lt pp oV;omega) so.nf.nk so.nf.np so.nf.lv (by omega) (co:=b.co+1) (z9 _) (W6 _) (by rw[Yj];show _+1<=200;omega) (Yv _)
  ·show((b.fs++[(b.co,(⟨bh,0,r,[]⟩:Fc))]).map (·.1)).Pairwise _;rw[Yp];refine J0.mpr ⟨si.so,by simp,λu hu v hv=>?_⟩;obtain⟨pp,oV,rfl⟩:=Ye.mp hu;have e:v=b.co:=by simpa using hv
   rw[e];exact si.ok.lt pp oV
  ·rw[IG,Yp];rfl
  ·refine iX (F:=cW Hh b.ps) ?_ (L2.Paired.bu pe λ_ _ e=>gh _ _ (gg _ _ (gf _ _ (ge _ _ e))));have:=gh _ _ (gg _ _ xY);show Hh t6=some (.tup ((dC b.ps b.co ⟨bh,0,r,[]⟩).map kV));unfold dC;rw[ko rfl];exact this
 rintro σ HX ⟨l3,b3,x6,oZ,A5,V7,hZ,V8,so3,IG,Zg8,rfl⟩;obtain⟨dx3,V9⟩:=hZ.obj;rw[V7] at V9;have f3:=V8.fl;refine⟨_,rfl,l.h,dx3,_,rfl,V9,rfl,l3,b3,xs,ys,by rw[V7];rfl,hZ,V8.zs,f3,λkp3 ka3 fs3 HY ZhL gY pm3 Zg9 hk3 pk3=>?_⟩;have fe3:=Su pm3 Zg9 so3;subst fe3;exact⟨_,rfl,_,_,K8 b3.ps b3.fs,3,rfl,rfl,zc hk3 pk3 (by omega),zc (gY _ _ IG) (L2.Paired.bu Zg8 λ_ _ e=>gY _ _ e) (by omega),λHZ _=>q HZ⟩
end
theorem all_mk{l:PySem.W.OpenLaw}{w:World}{K:PySem.W.Frag}{h:Heap}{mg:Str->Option Value}{fa:Addr}
  {f1 f2 f3 f4 f5 f6 f7 f8 f9 Ae f11 f12 f13 f14 f15 f16 f17 f18 f19 f20 f21 f22 f23 f24 f25 f26 f27 f28 f29 f30 f31 f32 f33 f34 f35 f36 f37 f38 f39 f40 f41 f42 f43 f44 f45 f46 f47 f48:Addr}
  {XU:Tok}
  {YO:Tok}
  {Xj:Tok}
  {Zbm:Tok}
  {YQ:Tok}
  {kW:Addr}
  {dy:Addr}{Zay:Option Addr}{Zaz:Array (Option Value)}{ZaA:Nat}{YR:Tok}{YS:Tok}
  {Ze9:Tok}
  {Zcy:Tok}
  {WG:Tok}
  {WO:Tok}
  {ZdN:Tok}
  {ZaB:Tok}
  {b_:Addr}{ZH ZI:Addr}
  {bR:Addr}{YT ZJ ZK ZL Xk YU WY XW Xy WA YV:Addr}
  {cv:Addr}{XX Xl YW YX XY XZ Xm WZ X0 YY WI WH Xz W_ XA Xn WJ WQ:Addr}
  (X:K.In h)(G:h.Ns mainGlobals mg)(cY:mg "law"=some (.ref fa))
  (p1:aL K "is_turn" EW f1)
  (p2:aL K "still" F6 f2)
  (p3:aL K "behind" Fv f3)
  (p4:aL K "back" GF f4)
  (p5:aL K "check_turn" C5 f5)
  (p6:aL K "check_rows" C6 f6)
  (p7:aL K "check_parents" BJ f7)
  (p8:aL K "land_of" EX f8)
  (p9:aL K "followed" D9 f9)
  (Lh:aL K "turned_back" CC Ae)
  (Li:aL K "lines_up" D_ f11)
  (Lj:aL K "is_tie" Fw f12)
  (Lk:aL K "tie_turn" Ea f13)
  (Ll:aL K "fact_key" Eb f14)
  (Lm:aL K "keep_fact" DE f15)
  (Ln:aL K "fact_fits" DF f16)
  (Lo:aL K "is_name" EY f17)
  (Lp:aL K "check_person" B9 f18)
  (Lq:aL K "check_tie" DG f19)
  (Lr:aL K "sides_fit" DH f20)
  (Ls:aL K "told_already" B_ f21)
  (Lu:aL K "check_elders" Ca f22)
  (Lv:aL K "check_saying" Cb f23)
  (Lw:aL K "check_section" BK f24)
  (Lx:aL K "is_person" DI f25)
  (Ly:aL K "_law_cell" MD f26)
  (Lz:aL K "_law_draws" Mc f27)
  (LA:aL K "_law_turn" ME f28)
  (LB:aL K "_law_row" EZ f29)
  (LC:aL K "_law_inverse" CD f30)
  (LD:aL K "_law_after" DJ f31)
  (LF:aL K "_law_turns" DK f32)
  (LG:aL K "_law_same" yh f33)
  (LH:aL K "_law_nets" Ec f34)
  (LI:aL K "_law_carried" CF f35)
  (LJ:aL K "_law_room" Ed f36)
  (LK:aL K "_law_name" Ee f37)
  (LL:aL K "_law_up" Fx f38)
  (LM:aL K "_law_told" Ef f39)
  (LN:aL K "_law_sided" DL f40)
  (LO:aL K "_law_word" Eg f41)
  (LP:aL K "_law_pick" Eh f42)
  (LQ:aL K "_law_fact" Ei f43)
  (LR:aL K "_law_put" E1 f44)
  (LS:aL K "_law_step" Ej f45)
  (LU:aL K "_law_grow" Ek f46)
  (LV:aL K "_law_asks" El f47)
  (LW:aL K "law" rp f48)
  (Hn:nsIn K mainGlobals "len"=some none)
  (Ho:nsIn K mainGlobals "abs"=some none)
  (GU:nsIn K mainGlobals "list"=some none)
  (Gi:nsIn K mainGlobals "range"=some none)
  (Gj:nsIn K mainGlobals "tuple"=some none)
  (Hq:nsIn K mainGlobals "any"=some none)
  (Hs:nsIn K mainGlobals "all"=some none)
  (Dj:nsIn K mainGlobals "isinstance"=some none)
  (GV:nsIn K mainGlobals "bool"=some none)
  (Hu:nsIn K mainGlobals "int"=some none)
  (Hv:nsIn K mainGlobals "str"=some none)
  (FO:nsIn K mainGlobals "sorted"=some none)
  (Hw:nsIn K mainGlobals "min"=some none)
  (Hx:nsIn K mainGlobals "max"=some none)
  (Hy:nsIn K mainGlobals "sum"=some none)
  (GW:nsIn K mainGlobals "dict"=some none)
  (ED:nsIn K mainGlobals "reversed"=some none)
  (Dk:nsIn K mainGlobals "ValueError"=some none)
  (CS:nsIn K mainGlobals "LEAST_SIZE"=some (some (.int (2) XU)))
  (Dm:nsIn K mainGlobals "MOST_SIZE"=some (some (.int (8) YO)))
  (BZ:nsIn K mainGlobals "LONGEST_NAME"=some (some (.int (12) Xj)))
  (Fd:nsIn K mainGlobals "PUT_IN"=some (some (.int (1) Zbm)))
  (Dn:nsIn K mainGlobals "TAKEN_OUT"=some (some (.int (-1) YQ)))
  (Cp:nsIn K mainGlobals "TIE_LETTERS"=some (some (.ref kW)))
  (x8:PyProof.Rows.KTD.tabLook PyProof.Rows.KTD.flatLooks (λb=>K.lookup b) kW [("mother",PyData.str "m"),("father",PyData.str "f"),("wed",PyData.str "w"),("sibling",PyData.str "s")]=true)
  (EE:nsIn K mainGlobals "PARENTS"=some (some (.ref dy)))
  (EF:K.lookup dy=some ⟨.type "tuple",Zay,.seq #[.str "mother" YR,.str "father" YS] ZaA,Zaz⟩)
  (GX:nsIn K mainGlobals "MAN"=some (some (.str "man" Ze9)))
  (FP:nsIn K mainGlobals "WOMAN"=some (some (.str "woman" Zcy)))
  (Be:nsIn K mainGlobals "LETTERS_OF_NAMES"=some (some (.str "abcdefghijklmnopqrstuvwxyz" WG)))
  (Br:nsIn K mainGlobals "SIGNS_OF_NAMES"=some (some (.str "abcdefghijklmnopqrstuvwxyz0123456789" WO)))
  (Gk:nsIn K mainGlobals "SAID"=some (some (.str "said" ZdN)))
  (EG:nsIn K mainGlobals "SIBLING"=some (some (.str "sibling" ZaB)))
  (Gm:nsIn K mainGlobals "Land"=some (some (.ref b_)))
  (Gn:makesIn K b_=true)
  (Gp:keepIn K (.ref b_)=true)
  (FQ:plainGet K b_ Str.empty=true)
  (Gq:hasDictIn K b_=true)
  (FR:plainOver K b_=true)
  (Gr:PySem.W.findIn K (.ref b_) "__setattr__"=some (some (.builtin "object.__setattr__")))
  (Dp:PySem.W.findIn K (.ref b_) "size"=some none)
  (Cq:PySem.W.findIn K (.ref b_) "mother"=some none)
  (Cr:PySem.W.findIn K (.ref b_) "father"=some none)
  (Dq:PySem.W.findIn K (.ref b_) "wife"=some none)
  (CT:PySem.W.findIn K (.ref b_) "steps"=some none)
  (D3:bA K b_ "__init__" "Land.__init__" DM ZH)
  (D4:bA K b_ "step" "Land.step" DN ZI)
  (FT:nsIn K mainGlobals "Joins"=some (some (.ref bR)))
  (FU:makesIn K bR=true)
  (FV:keepIn K (.ref bR)=true)
  (Fe:plainGet K bR Str.empty=true)
  (FW:hasDictIn K bR=true)
  (Ff:plainOver K bR=true)
  (FX:PySem.W.findIn K (.ref bR) "__setattr__"=some (some (.builtin "object.__setattr__")))
  (CU:PySem.W.findIn K (.ref bR) "size"=some none)
  (Cs:PySem.W.findIn K (.ref bR) "heads"=some none)
  (Ct:PySem.W.findIn K (.ref bR) "leads"=some none)
  (BB:PySem.W.findIn K (.ref bR) "members"=some none)
  (CV:PySem.W.findIn K (.ref bR) "free"=some none)
  (Dr:bA K bR "__init__" "Joins.__init__" C7 YT)
  (D5:bA K bR "add" "Joins.add" DO ZJ)
  (D6:bA K bR "tie" "Joins.tie" DP ZK)
  (D7:bA K bR "say" "Joins.say" DQ ZL)
  (B0:bA K bR "open_at" "Joins.open_at" BM Xk)
  (Du:bA K bR "left" "Joins.left" C8 YU)
  (BC:bA K bR "together" "Joins.together" Bv WY)
  (CW:bA K bR "pairs" "Joins.pairs" CG XW)
  (Cu:bA K bR "narrow" "Joins.narrow" Cc Xy)
  (Ba:bA K bR "bring_together" "Joins.bring_together" A9 WA)
  (Dv:bA K bR "move" "Joins.move" C9 YV)
  (Fg:nsIn K mainGlobals "Hearth"=some (some (.ref cv)))
  (Fh:makesIn K cv=true)
  (Fi:keepIn K (.ref cv)=true)
  (EH:plainGet K cv Str.empty=true)
  (Fj:hasDictIn K cv=true)
  (EI:plainOver K cv=true)
  (Fm:PySem.W.findIn K (.ref cv) "__setattr__"=some (some (.builtin "object.__setattr__")))
  (Cv:PySem.W.findIn K (.ref cv) "land"=some none)
  (B3:PySem.W.findIn K (.ref cv) "sides"=some none)
  (BD:PySem.W.findIn K (.ref cv) "places"=some none)
  (B4:PySem.W.findIn K (.ref cv) "facts"=some none)
  (B5:PySem.W.findIn K (.ref cv) "known"=some none)
  (Bs:PySem.W.findIn K (.ref cv) "parents"=some none)
  (BE:PySem.W.findIn K (.ref cv) "coming"=some none)
  (Cw:PySem.W.findIn K (.ref cv) "done"=some none)
  (BG:PySem.W.findIn K (.ref cv) "undone"=some none)
  (Bm:PySem.W.findIn K (.ref cv) "reckoned"=some none)
  (CY:bA K cv "__init__" "Hearth.__init__" CH XX)
  (B6:bA K cv "person" "Hearth.person" BN Xl)
  (Dw:bA K cv "tie" "Hearth.tie" C_ YW)
  (Dx:bA K cv "say" "Hearth.say" Dc YX)
  (CZ:bA K cv "keep" "Hearth.keep" CI XY)
  (C0:bA K cv "take" "Hearth.take" CK XZ)
  (B7:bA K cv "people" "Hearth.people" BO Xm)
  (BH:bA K cv "side_of" "Hearth.side_of" Bw WZ)
  (C1:bA K cv "kept" "Hearth.kept" CM X0)
  (Dy:bA K cv "has" "Hearth.has" Dd YY)
  (Bn:bA K cv "parent_of" "Hearth.parent_of" Bg WI)
  (Bf:bA K cv "parents_of" "Hearth.parents_of" Bb WH)
  (Cy:bA K cv "joins" "Hearth.joins" Cd Xz)
  (BI:bA K cv "do_deed" "Hearth.do_deed" Bx W_)
  (Cz:bA K cv "shift" "Hearth.shift" Ce XA)
  (B8:bA K cv "put_in" "Hearth.put_in" BP Xn)
  (Bo:bA K cv "note_fact" "Hearth.note_fact" Bh WJ)
  (Bu:bA K cv "take_out" "Hearth.take_out" Bp WQ)
  :∃fd:FuncData,(∀(s:Shared) (v:Value),BindsTo s fd ⟨[v],[]⟩ [("_law_script",v)])/\∀base:Heap,K.In base->base.Ns mainGlobals mg->aK l.prog w K mg base (mZ l.prog w) 16 fa fd ["_law_script"] (zG K):=by
 obtain @⟨od,an,sl,oc,kV,dc,pm,cd,ct,ax,lx,cx,kx⟩:=LW;have e:=cY.symm.trans (mg_of X G ax);cases e;have bl:Bl mg:=⟨mg_none_of X G Hn,mg_none_of X G Ho,mg_none_of X G GU,mg_none_of X G Gi,mg_none_of X G Gj,mg_none_of X G Hq,mg_none_of X G Hs,mg_none_of X G Dj,mg_none_of X G GV,mg_none_of X G Hu,mg_none_of X G Hv,mg_none_of X G FO,mg_none_of X G Hw,mg_none_of X G Hx,mg_none_of X G Hy,mg_none_of X G GW,mg_none_of X G ED,mg_none_of X G Dk⟩;have De:=mg_of X G CS;have DR:=mg_of X G Dm;have Ci:=mg_of X G BZ;have nN:=mg_of X G Fd;have DX:=mg_of X G Dn;have sM:=mg_of X G Cp;have iF:=mg_of X G EE;have vD:∀H,aA K H dy [.str "mother",.str "father"]:=λ_=>.inr ⟨_,_,_,EF,rfl,rfl,by show 2<=sizeLine;decide,(.cons ⟨_,rfl⟩ (.cons ⟨_,rfl⟩ .nil))⟩;have rB:=mg_of X G GX;have qR:=mg_of X G FP;have Bj:=mg_of X G Be;have BA:=mg_of X G Br;have kC:=mg_of X G Gk;have nK:=mg_of X G EG;have Ze_:=mg_of X G Gm;have RJ:fL K b_:=⟨FQ,Gq,FR,Gr⟩;have ZdO:=mg_of X G FT;have k_:fL K bR:=⟨Fe,FW,Ff,FX⟩;have Zcz:=mg_of X G Fg;have fT:fL K cv:=⟨EH,Fj,EI,Fm⟩;refine⟨fnOf "law" "law" (nQ rp) (k9 rp) (aM rp) .none kV dc pm an cd ct,λs v=>.of_eq rfl,λbase _ _=>?_⟩;have F:=vR (st:=rp) lx cx kx;have D:m5 l.prog w K mg base:=⟨X,G⟩;have lc:ua K b_:=⟨RJ,Dp,Cq,Cr,Dq,CT⟩;have jc:mE K bR:=⟨k_,CU,Cs,Ct,BB,CV⟩;have hc:fC K cv:=⟨fT,Cv,B3,BD,B4,B5,Bs,BE,Cw,BG,Bm⟩;have qJ:=D.d Ly (λ_ F=>Zc_ F bl.cX);have nC:=D.d Lz (λ_ F=>Zb2 F bl.Zfo);have tE:=D.d p1 (λ_ F=>Zaa F bl);have ph:=D.d p9 (λ_ F=>Zo F bl);have nA:=D.d Lh (λ_ F=>Xt F bl);have tQ:=D.d p2 (λ_ F=>Zb5 F bl);have DT:=D.m RJ D4 (λ_ F=>Zdg F lc);have Gd:=D.i (y:="Joins") ZdO FU FV Dr (λ_ F=>Zb9 F jc bl);have sI:=D.m k_ BC (λ_ F=>Zp F jc bl);have l_:=D.m k_ B0 (λ_ F=>Zae F jc bl);have sJ:=D.m k_ Cu (λ_ F=>Za_ F jc bl);have tM:=D.d Lj (λ_ F=>Zbe F sM x8);have nG:=D.d Ll (λ_ F=>Zt F nK bl);have BW:=D.m fT B7 (λ_ F=>Zbf (CL:=b_) (CJ:=bR) F hc bl);have qB:=D.m fT BH (λ_ F=>Zal (CL:=b_) (CJ:=bR) F hc bl);have sS:=D.d Lx (λ_ F=>YE F bl);have Bk:=D.m fT Bn (λ_ F=>YF (CL:=b_) (CJ:=bR) F hc);have Bc:=D.m fT Bf (λ_ F=>XR (CL:=b_) (CJ:=bR) F hc iF vD);have x9:=D.m fT C1 (λ_ F=>Zdq (CL:=b_) (CJ:=bR) F hc bl);have E7:=D.d Lo (λ_ F=>Zao F Ci Bj BA bl);have FN:=D.i (y:="Hearth") Zcz Fh Fi CY (λ_ F=>Zcr (CL:=b_) (CJ:=bR) F hc);have DY:=D.d Lr (λ_ F=>YH F rB qR nK);have BX:=D.d Lw (λ_ F=>WX (C:=cv) (CL:=b_) (CJ:=bR) F hc lc bl);have D0:=D.d LD (λ_ F=>YL F bl);have qD:=D.d LC (λ_ F=>Zaq F bl);have CP:=D.d LI (λ_ F=>Zar F bl);have Ew:=D.d LM (λ_ F=>Zw F);have D1:=D.d LN (λ_ F=>YN F);have FJ:=D.d LL (λ_ F=>Zbj F bl);have yo:=D.d LP (λ_ F=>Zy F bl);have Ex:=D.d LK (λ_ F=>ZA F bl);have EC:=D.d LV (λ_ F=>ZF F bl);have Et:=D.d LA (λ_ F=>Zda F bl.tW bl.jt bl.mn);have pd:HasFn l.prog w K mg base 4 "_law_same" ["_law_found","_law_due"] (qV 4):=let⟨_,F,b,k,m⟩:=D.p (ps:=["_law_found","_law_due"]) LG;⟨_,_,Pk F b k m bl 4,b,k,m⟩;have qE:=D.d p5 (λ_ F=>ZeT F tE);have sO:=D.d p6 (λ_ F=>Zde F tE De DR bl);have sT:=D.m k_ D5 (λ_ F=>ZeU F jc tQ bl);have DU:=D.m k_ D7 (λ_ F=>ZeV F l_ sJ bl);have x_:=D.m k_ Dv (λ_ F=>Zdi F jc ph nA bl);have CO:=D.m k_ CW (λ_ F=>Zcc F jc sI l_ bl);have sY:=D.d Lk (λ_ F=>Zr (CL:=b_) F sM x8 lc tM DT);have nB:=D.m fT Dy (λ_ F=>Ze1 (CL:=b_) (CJ:=bR) F hc nG);have Bi:=D.m fT Bo (λ_ F=>Zdv (CL:=b_) (CJ:=bR) F hc iF vD nG);have Bq:=D.m fT Bu (λ_ F=>Zu (CL:=b_) (CJ:=bR) F hc iF vD sS nG);have Cj:=D.d Lp (λ_ F=>Xe (C:=cv) (CL:=b_) (CJ:=bR) F E7 rB qR BW);have Es:=D.d Li (λ_ F=>Zv (C:=cv) (CL:=b_) (CJ:=bR) F Bc);have yA:=D.d LB (λ_ F=>Zap F nC Et bl);have Eu:=D.d LH (λ_ F=>ZdD F qD bl);have D2:=D.d LF (λ_ F=>Zct F qD D0 bl);have Ey:=D.d LQ (λ_ F=>Zz F yo bl);have tL:=D.d p3 (λ_ F=>ZfH F qE ph bl);have vX:=D.d p4 (λ_ F=>ZfI F qE nA bl);have A_:=D.m k_ Ba (λ_ F=>Zcb F jc nA x_ bl);have sP:=D.m k_ Du (λ_ F=>Zdj F CO bl);have Cm:=D.d Ls (λ_ F=>Zdz (C:=cv) (CL:=b_) (CJ:=bR) F nK iF vD Bk nB);have Cn:=D.d Lu (λ_ F=>Xg (C:=cv) (CL:=b_) (CJ:=bR) F Es);have Co:=D.d Lv (λ_ F=>Xi (C:=cv) (CL:=b_) (CJ:=bR) F kC qB BX nB);have sZ:=D.d LJ (λ_ F=>ZdF F Eu CP bl);have BQ:=D.d p7 (λ_ F=>Zab F tL bl);have DV:=D.m k_ D6 (λ_ F=>ZeY F jc sP sI A_ sJ bl);have DW:=D.d Ln (λ_ F=>YC (CL:=b_) (CJ:=bR) F kC sY l_ sP);have DZ:=D.d Lq (λ_ F=>YJ (C:=cv) (CL:=b_) (CJ:=bR) F iF vD tM DY qB Cm Cn);have Ez:=D.d LO (λ_ F=>Zx F D1 Ew FJ sZ bl);have GH:=D.i (y:="Land") Ze_ Gn Gp D3 (λ_ F=>Zdf F lc sO BQ vX tQ bl);have sU:=D.d Lm (λ_ F=>YB (CL:=b_) (CJ:=bR) F kC sY DU DV);have Fb:=D.d p8 (λ_ F=>Zad (C:=b_) F sO tL GH);have BU:=D.m fT B8 (λ_ F=>Zbh (CL:=b_) (CJ:=bR) F hc sS sT Bi sU bl);have Ck:=D.m fT Cy (λ_ F=>Zcp (CL:=b_) (CJ:=bR) F hc lc Gd sT sU);have Cg:=D.m fT Cz (λ_ F=>Zco (CL:=b_) (CJ:=bR) F hc nN BU Bq);have ny:=D.m fT BI (λ_ F=>Zam (CL:=b_) (CJ:=bR) F hc Cg);have BY:=D.m fT B6 (λ_ F=>Zbi (CL:=b_) (CJ:=bR) F hc nN Cj ny);have sN:=D.m fT CZ (λ_ F=>Zdx (CL:=b_) (CJ:=bR) F hc nN DW Ck ny);have CQ:=D.m fT C0 (λ_ F=>Zdy (CL:=b_) (CJ:=bR) F hc DX ny);have Di:=D.m fT Dw (λ_ F=>ZdA (CL:=b_) (CJ:=bR) F hc DZ sN);have sQ:=D.m fT Dx (λ_ F=>ZdB (CL:=b_) (CJ:=bR) F hc kC Co sN);have E_:=D.d LR (λ_ F=>Zaw (C:=cv) (CL:=b_) (CJ:=bR) F sQ Di);have EA:=D.d LS (λ_ F=>ZD (C:=cv) (CL:=b_) (CJ:=bR) F nC Ex Ey Ez E_ BY CQ bl);have EB:=D.d LU (λ_ F=>ZE (C:=cv) (CL:=b_) (CJ:=bR) F EA bl);exact Ze8 F qJ nC yA D2 pd sZ EB EC Fb FN x9 nB sQ bl
theorem walk{l:PySem.W.OpenLaw}{q:Program}{loose:List Str}{XP:(Str->Option Value)->Heap->Prop}{YP:World->Heap->Prop}{d:DefRec}{K:Params->PySem.W.Frag}(hn:l.most=some 63)(wV:d.params.defaults=[])
  (hY:∀(w:World) (h:Heap),YP w h->(K w.params).In h)
  (F:∀(w:World) (mg:Str->Option Value) (fa:Addr) (h:Heap),(K w.params).In h->h.Ns mainGlobals mg->mg d.name=some (.ref fa)->
   ∃fd:FuncData,(∀(s:Shared) (u:Value),BindsTo s fd ⟨[u],[]⟩ [("_law_script",u)])/\∀base:Heap,(K w.params).In base->base.Ns mainGlobals mg->aK l.prog w (K w.params) mg base (mZ l.prog w) 16 fa fd ["_law_script"] (zG (K w.params))):
  PySem.W.WalkO q loose XP YP l.row.toRowW d [] (λf vs=>PySem.call f vs):=
 L2.ZcP (n:=63) (k:=16) (x:="_law_script") (CX:=λw=>mZ l.prog w) (sp:=λw=>zG (K w.params)) hn (by decide) wV ⟨rfl,by decide,by decide,rfl⟩ hY F (λ_ _ a ns hl _ hS=>⟨a,ns,rfl,hS,hl,λ_=>rfl⟩) λ_ _ _ _ _ h=>by obtain⟨_,_,_,_,_,_,_,_,_,_,_,_,_,_,z⟩:=h;exact z
end JT
namespace PySem.W.Fast
def tw6010201428057960491:=0
def tw10918518505853838406:=0
def tw16452846551611229248:=0
def tw17144249169065279872:=0
def tw12575835341866346336:=0
def tw14729255155186112897:=0
def tw8090467045776765665:=0
def tw637202705822662625:=0
def tw1142091877378007555:=0
def tw12277927094863244003:=0
def tw17421483976002567812:=0
def tw2142763405620052772:=0
def tw9046084487337369540:=0
def tw733597944765329381:=0
def tw11023644877795498598:=0
def tw16547593949067061894:=0
def tw10970179626625678054:=0
def tw3994780201758434439:=0
def tw16602500354195412680:=0
def tw281643506144870506:=0
def tw1887524147500331306:=0
def tw3280198363654819498:=0
def tw3210104490024583179:=0
def tw2293148280249199211:=0
def tw16758506841809889035:=0
def tw10491372027281085388:=0
def tw10227529076409022253:=0
def tw16023014362955268207:=0
def tw5721694627278909615:=0
def tw8396731461703947984:=0
def tw14655218529459305809:=0
def tw8846349754196480465:=0
def tw9781520172643585042:=0
def tw13251776465078153490:=0
def tw13538584741857238739:=0
def tw14328292091896357716:=0
def tw8377017007397098388:=0
def tw11964578741938318453:=0
def tw4876877382620327925:=0
def tw4414948517599501879:=0
def tw759994292692600791:=0
def tw10661465830589751512:=0
def tw2173924240502436280:=0
def tw6814813318316682904:=0
def tw7151120366017183416:=0
def tw2699587356423082521:=0
def tw6323042690982404666:=0
def tw5447941220473605499:=0
def tw11879512713564554139:=0
def tw10723950950151462843:=0
def tw12079748132310152572:=0
def tw6356262170626579068:=0
def tw15984849804142415516:=0
def tw17248951461642461116:=0
def tw4279751938471604253:=0
def tw10295073984834949341:=0
def tw4599721352949769629:=0
def tw14462780854312248736:=0
def tw15883076461810970656:=0
def tw10542296978180264096:=0
def tw10355128156677298400:=0
def tw7391706492374428288:=0
def tw17503798044158893193:=0
def tw4786373497215824384:=0
def tw3443793950936707121:=0
def tw2027106087471903840:=0
def tw7496365858048610592:=0
def tw5668463911866661920:=0
def tw1782967307097127650:=0
def tw7988104298433115338:=0
def tw14629666601001131427:=0
def tw49372137283580892:=0
def tw8197855019086905537:=0
def tw151823267325771809:=0
def tw15201433579673193275:=0
def tw1619066744611617184:=0
def tw5894846425899804435:=0
def tw8379518587979084160:=0
def tw1121989990098604286:=0
def tw11764795593554924961:=0
def tw11815899013899740070:=0
def tw18040197870671014721:=0
def tw873589892967844296:=0
def tw5244989721013574977:=0
def tw14464036266901540155:=0
def tw3141614118135067232:=0
def tw3571272865033746124:=0
def tw1652314156333540608:=0
def tw1696596247456071875:=0
def tw4958207690164965536:=0
def tw3613916182872306214:=0
def tw16366659862566249641:=0
def tw4085416647117566733:=0
def tw6553198370947436551:=0
def tw12915170090138265577:=0
def tw5788461679895811529:=0
def tw3771254086262146379:=0
def tw14637462636623700079:=0
def tw13096175743185453728:=0
def tw14040852123984260866:=0
def tw11722816894598387972:=0
def tw17379715691647084551:=0
def tw10152907778211394888:=0
def tw6686019356561166282:=0
def tw16501349064026820684:=0
def tw11099528539106210827:=0
def tw917343820418978431:=0
def tw16370766273010703778:=0
def tw15654305402525457760:=0
def tw12560412462502733413:=0
def tw17295544142478201225:=0
def tw10570413770227173541:=0
def tw3997890973843299275:=0
def tw1424075091306115215:=0
def tw16109114468805256281:=0
def tw4951007116370031073:=0
def tw10810058663276355687:=0
def tw6424177736410093040:=0
def tw2695831479707633868:=0
def tw16329832772104712718:=0
def tw929314701063702961:=0
def tw17401358224783342464:=0
def tw8679141708603216961:=0
def tw11415046611349050082:=0
def tw5157238622152393607:=0
def tw18282486569524211827:=0
def tw816963447772185142:=0
def tw10682945978218328201:=0
def tw12668856731578254319:=0
def tw13024838596366297200:=0
def tw6221558266613454241:=0
def tw4910223683659702650:=0
def tw18099322752997958626:=0
def tw14416595318662698519:=0
def tw12792818859665429359:=0
def tw17812071970338205697:=0
def tw17547084726101374594:=0
def tw12385593269549633056:=0
def tw15318225359932924953:=0
def tw16500263917480312187:=0
def tw13387117655381051138:=0
def tw4307652948533855566:=0
def tw6687833789393198609:=0
def tw3766917618290733308:=0
def tw4437953544573314017:=0
def tw5438881045108863906:=0
def tw17248739170802261956:=0
def tw8412145218657409191:=0
def tw4972076811960942951:=0
def tw13770783341444228807:=0
def tw9994253910503353424:=0
def tw8176826129083278787:=0
def tw7062076651136181420:=0
def tw7429360134084388270:=0
def tw4636004338615672079:=0
def tw15245313654809704335:=0
def tw13449569223433175216:=0
def tw17329789910177698723:=0
def tw1643207770898524121:=0
def tw946008992964283004:=0
def tw15894653959587523518:=0
def tw17190187925007098849:=0
def tw12156158937929101123:=0
def tw17660296994553268754:=0
def tw697440578802441477:=0
def tw905152231247347465:=0
def tw17491209918265812347:=0
def tw13552253693054710656:=0
def tw9020219227465631189:=0
def tw17762306742974395559:=0
def tw11131805887528041929:=0
def tw9960045463160576044:=0
def tw12701231541669137552:=0
def tw4580943682700074244:=0
def tw5130764745155136804:=0
def tw5165244604510719878:=0
def tw2723640894499878515:=0
def tw12222961567392996649:=0
def tw11803334280535119435:=0
def tw7168971401651178892:=0
def tw694295148101187119:=0
def tw9584213291434503380:=0
def tw10495226006888318040:=0
def tw14409229346212377856:=0
def tw6741592352838793767:=0
def tw11454683358458130397:=0
def tw7085878497020837293:=0
def tw18128396487762121915:=0
def tw10689049112788830523:=0
def tw11428793600110728232:=0
def tw17545488635126448849:=0
def tw14765672480341576532:=0
def tw440660154968206071:=0
def tw12146391197626221985:=0
def tw17280284918142426660:=0
def tw13405381493974670569:=0
def tw16989329082847457009:=0
def tw9865537879989807317:=0
def tw14441489593556456790:=0
def tw11908605543830934424:=0
def tw12507343142954618492:=0
def tw17923778556406594034:=0
def tw2334067532944732380:=0
def tw2398294580726667726:=0
def tw14670593013694734647:=0
def tw15359589076956853178:=0
def tw345797876916948667:=0
def tw7044779693721656643:=0
def tw12976667155619540963:=0
def tw4661952516606953934:=0
def tw1008350418840448910:=0
def tw10946166461300088151:=0
def tw8089358838127294999:=0
def tw12202707958710939616:=0
def tw15252638454616025599:=0
def tw12383904485213437900:=0
def tw2789365245562864611:=0
def tw1777399830015517020:=0
def tw13760523055851054548:=0
def tw9835594791043237583:=0
def tw462284023980286726:=0
def tw2870224810000655330:=0
def tw11747092873749232314:=0
def tw12858184877370227017:=0
def tw2350337643858077071:=0
def tw18439286021581379281:=0
def tw6138989435067017555:=0
def tw5310568898430308237:=0
def tw11569825670554900227:=0
def tw5012301064568778886:=0
def tw14805228190595022149:=0
def tw979356400841565733:=0
def tw2662439155852865745:=0
def tw17137691490727291898:=0
def tw11289070580155652722:=0
def tw14617986141912919852:=0
def tw16311129492625833395:=0
def tw16694586263770090323:=0
def tw5172245014968849466:=0
def tw1173539083789079124:=0
def tw16737011827238569841:=0
def tw7225050100747816880:=0
def tw11271956126162470038:=0
def tw2841649344361211621:=0
def tw5494963337105778559:=0
def tw13640429455457852406:=0
def tw9272360941387829893:=0
def tw2944180565648616536:=0
def tw13030565174152743433:=0
def tw1717427700539786071:=0
def tw13666806930895891302:=0
def tw15064965851527008941:=0
def tw18061499941158889918:=0
def tw6764997642111396911:=0
def tw8219893028881871645:=0
def tw10515657983153984965:=0
def tw17867693023059059839:=0
def tw1640649369198839992:=0
def tw16495647347557211397:=0
def tw11937224067774070613:=0
def tw11904738426324041534:=0
def tw6100177807993421493:=0
def tw14641667839628130458:=0
def tw15921681964118591827:=0
def tw13880239487793461881:=0
def tw4760170498082284904:=0
def tw7744335269331395689:=0
def tw8111169657669953472:=0
def tw5576914747372922564:=0
def tw10381487468929026632:=0
def tw15539192445990269260:=0
def tw7656480484754351654:=0
def tw1818843148854076655:=0
def tw8961133327355873790:=0
def tw18076170401029803096:=0
def tw5143242272372306485:=0
def tw13759748333576692759:=0
def tw6353364728890213876:=0
def tw138781450555851030:=0
def tw9910098916171664037:=0
def tw7808474080851994170:=0
def tw2948558024459645519:=0
def tw17614547656932233186:=0
def tw15350310404359847140:=0
def tw13424523950042042877:=0
def tw4190568713479197725:=0
def tw11294299373479927611:=0
def tw8396306141368493972:=0
def tw5218239148592078572:=0
def tw15482861735536300311:=0
def tw2336069274496067494:=0
def tw12898783765241361100:=0
def tw4190876356662552726:=0
def tw2285053955661210114:=0
def tw6014035397473572536:=0
def tw9573130056300200307:=0
def tw8794650697468023244:=0
def tw3026521535199613991:=0
def tw8497597648770308743:=0
def tw16595204551014637861:=0
def tw18371933411185289508:=0
def tw11314167437246307152:=0
def tw16855635811917615588:=0
def tw15196598370286905712:=0
def tw1917554529698517772:=0
def tw5947674474226402175:=0
def tw18041393067284456126:=0
def tw13278393534666901438:=0
def tw15625463929732477452:=0
def tw13493872373136959253:=0
def tw15872592611745455562:=0
def tw13371053748482068764:=0
def tw7448153428628412578:=0
def tw1390195512579368408:=0
def tw7273149118281661048:=0
def tw8108515431477971601:=0
def tw8433986980692230895:=0
def tw10424253234483719006:=0
def tw3124077179434125656:=0
def tw6506020567398789427:=0
def tw9867298380096247665:=0
def tw17755190788741526847:=0
def tw1831962502602473628:=0
def tw8908670237647555278:=0
def tw641895158885303558:=0
def tw7925431355006390933:=0
def tw6376256829955085552:=0
def tw10674251699641108612:=0
def tw9976480604984561481:=0
def tw11358507030081680620:=0
def tw14635714504878548758:=0
def tw12144426832738457420:=0
def tw12763717497243724058:=0
def tw16352470263203491565:=0
def tw2603295741440150786:=0
def tw9487830734753184003:=0
def tw15497253535433871531:=0
def tw5178682971538303147:=0
def tw11123550156538918295:=0
def tw17030035722205279650:=0
def tw15793378258907883270:=0
def tw12681927265215384137:=0
def tw17666223781827065964:=0
def tw8269722387375019528:=0
def tw16984888713844882472:=0
def tw8061763012794634138:=0
def tw2964676641133526628:=0
def tw1706059838057426066:=0
def tw7055993042436627545:=0
def tw8514493941805698722:=0
def tw18421461695297822093:=0
def tw9749848872303063441:=0
def tw10923120021619750186:=0
def tw2148384091327918872:=0
def tw12457855260581518581:=0
def tw1588389548236617917:=0
def tw7667715648260384232:=0
def tw8473503621610371907:=0
def tw12809751942339736284:=0
def tw2876356814547213222:=0
def tw18099897718660115375:=0
def tw10942024317189113885:=0
def tw3070474147999504596:=0
def tw11863786492617117534:=0
def tw11300943755687184633:=0
def tw17367850587118861014:=0
def tw10049039063708964212:=0
def tw4550172394805338508:=0
def tw10610410519338273762:=0
def tw2690236138345057172:=0
def tw13250710636452160874:=0
def tw4718595438507321352:=0
def tw4100065098930751075:=0
def tw11919523681758075637:=0
def tw5361649117248690843:=0
def tw10815683106067257252:=0
def tw1783156911971154262:=0
def tw13677198485435001187:=0
def tw9216697492126222617:=0
def tw16797496880597530929:=0
def tw14236996063934856944:=0
def tw12626266339154725789:=0
def tw1906778950850184020:=0
def tw10120792899096413063:=0
def tw11589048497937029809:=0
def tw13412894190491767387:=0
def tw2661976815277344433:=0
def tw9463518711563679239:=0
def tw10441519258782196995:=0
def tw12431102972261663096:=0
def tw9058088284020582702:=0
def tw13662236232549964383:=0
def tw16920795170758007036:=0
def tw17894356596990381768:=0
def tw5909123148541161086:=0
def tw14968675564638338050:=0
def tw15356369782082309286:=0
def tw12105687977301215761:=0
def tw7537868267670855374:=0
def tw3760189943215380489:=0
def tw13783952435054654936:=0
def tw15808299909232922068:=0
def tw8243878641349592474:=0
def tw17930167059438153139:=0
def tw9076733955765372823:=0
def tw18000050935701510161:=0
def tw9800449442263316425:=0
def tw11871801897008627161:=0
def tw8141164678377910621:=0
def tw11306179273966757712:=0
def tw15414541316744128036:=0
def tw6018620956913901556:=0
def tw9161923173729593347:=0
def tw11686240627313835182:=0
def tw3639437170572974040:=0
def tw3715822780994784829:=0
def tw9049333033900439143:=0
def tw9410381656484777680:=0
def tw3041886857408977027:=0
def tw6210586151243091466:=0
def tw16804967053331036466:=0
def tw12645353521456399824:=0
def tw6491490312605890030:=0
def tw9135833889500822441:=0
def tw6779019809246647857:=0
def tw13848933050954473686:=0
def tw6395910368924650311:=0
def tw6602218226003420859:=0
def tw554482819437319042:=0
def tw15242232545823462023:=0
def tw12444935599672962412:=0
def tw14965509443853681111:=0
def tw4839785570425145947:=0
def tw17102673879813280232:=0
def tw7114506578727399124:=0
def tw15318662287814951665:=0
def tw16581130020013255705:=0
def tw16852907851553551510:=0
def tw2792981346636029326:=0
def tw14402061259540750439:=0
def tw12071432696708281258:=0
def tw10244632638993882360:=0
def tw122190607880302841:=0
def tw1341672075343057771:=0
def tw6191129174326814578:=0
def tw15817197818609194035:=0
def tw15626266960377684786:=0
def tw12894934686074861273:=0
def tw5251295451712844320:=0
def tw17123913032706321443:=0
def tw8557943460376670416:=0
def tw5887189779539656808:=0
def tw10529249115904897997:=0
def tw346232091025303290:=0
def tw15020413500617962013:=0
def tw15480267290764209971:=0
def tw9850838781619122108:=0
def tw14349064482983071983:=0
def tw15295224451769904879:=0
def tw6756863457184326834:=0
def tw1899610121696815534:=0
def tw2807101774063470618:=0
def tw3311523439572145077:=0
def tw17371730949928754067:=0
def tw15423384593338438601:=0
def tw1133299616657978206:=0
def tw16820172877925572803:=0
def tw17868480350541319357:=0
def tw6124876375539883794:=0
def tw6009910792425440323:=0
def tw8456788847747981608:=0
def tw17647298058440025330:=0
def tw5794483224418179269:=0
def tw3485993242736580669:=0
def tw16398888981536844140:=0
def tw1944691393726906564:=0
def tw10931656651294996515:=0
def tw7328033327866603274:=0
def tw14768435990052377667:=0
def tw14779188359928487347:=0
def tw14167259982295806076:=0
def tw16075639851661266238:=0
def tw8560470451915146179:=0
def tw15266972906277119048:=0
def tw13505951915992708206:=0
def tw8514336855288202671:=0
def tw1888188825004966635:=0
def tw4806481778445917150:=0
def tw14289260112841606416:=0
def tw15925992545355400331:=0
def tw6536718634958044862:=0
def tw1679599411931047203:=0
def tw8629441132308142769:=0
def tw10874629143418204369:=0
def tw4007482597408120935:=0
def tw14677142594071268487:=0
def tw3291903482050913896:=0
def tw9049783871131370590:=0
def tw5906681835442683473:=0
def tw13160192031333222092:=0
def tw13920045359454417687:=0
def tw16643570692325009617:=0
def tw7320162297034468988:=0
def tw5184437759436662577:=0
def tw11800504373741527708:=0
def tw997414659931542781:=0
def tw4614414195822653705:=0
def tw2379988076976017778:=0
def tw8247006411480175954:=0
def tw10636596362801864551:=0
def tw11743114646215918193:=0
def tw17789273410194444212:=0
def tw13467189944525298777:=0
def tw7872188673258989097:=0
def tw5375679140230493110:=0
def tw2028620114311322169:=0
def tw2011785508955504220:=0
end PySem.W.Fast
open PySem PySem.W PyProof.Rows
set_option maxRecDepth 100000 in
set_option maxHeartbeats 0 in
theorem PySem.Challenge.cw_kinhearth_k24_facts_kept_and_asked_holds : PySem.Challenge.rw_kinhearth_k24_facts_kept_and_asked.Holds := by
 w_on; o_law; k_head; (case hw=>w_witness2)
 k_fill
 refine JT.walk (l:=PySem.Challenge.rw_kinhearth_k24_facts_kept_and_asked) rfl rfl (λ w h Y=>kIn_of Y) ?F
 case F=>
  intro w mg fa h KX G wW
  refine' JT.all_mk KX G wW ?p1 ?p2 ?p3 ?p4 ?p5 ?p6 ?p7 ?p8 ?p9 ?Lh ?Li ?Lj ?Lk ?Ll ?Lm ?Ln ?Lo ?Lp ?Lq ?Lr ?Ls ?Lu ?Lv ?Lw ?Lx ?Ly ?Lz ?LA ?LB ?LC ?LD ?LF ?LG ?LH ?LI ?LJ ?LK ?LL ?LM ?LN ?LO ?LP ?LQ ?LR ?LS ?LU ?LV ?LW ?Hn ?Ho ?GU ?Gi ?Gj ?Hq ?Hs ?Dj ?GV ?Hu ?Hv ?FO ?Hw ?Hx ?Hy ?GW ?ED ?Dk ?CS ?Dm ?BZ ?Fd ?Dn ?Cp ?x8 ?EE ?EF ?GX ?FP ?Be ?Br ?Gk ?EG ?Gm ?Gn ?Gp ?FQ ?Gq ?FR ?Gr ?Dp ?Cq ?Cr ?Dq ?CT ?D3 ?D4 ?FT ?FU ?FV ?Fe ?FW ?Ff ?FX ?CU ?Cs ?Ct ?BB ?CV ?Dr ?D5 ?D6 ?D7 ?B0 ?Du ?BC ?CW ?Cu ?Ba ?Dv ?Fg ?Fh ?Fi ?EH ?Fj ?EI ?Fm ?Cv ?B3 ?BD ?B4 ?B5 ?Bs ?BE ?Cw ?BG ?Bm ?CY ?B6 ?Dw ?Dx ?CZ ?C0 ?B7 ?BH ?C1 ?Dy ?Bn ?Bf ?Cy ?BI ?Cz ?B8 ?Bo ?Bu
  (case p1=>apply L2.aL.mk<;>k_is)
  (case p2=>apply L2.aL.mk<;>k_is)
  (case p3=>apply L2.aL.mk<;>k_is)
  (case p4=>apply L2.aL.mk<;>k_is)
  (case p5=>apply L2.aL.mk<;>k_is)
  (case p6=>apply L2.aL.mk<;>k_is)
  (case p7=>apply L2.aL.mk<;>k_is)
  (case p8=>apply L2.aL.mk<;>k_is)
  (case p9=>apply L2.aL.mk<;>k_is)
  (case Lh=>apply L2.aL.mk<;>k_is)
  (case Li=>apply L2.aL.mk<;>k_is)
  (case Lj=>apply L2.aL.mk<;>k_is)
  (case Lk=>apply L2.aL.mk<;>k_is)
  (case Ll=>apply L2.aL.mk<;>k_is)
  (case Lm=>apply L2.aL.mk<;>k_is)
  (case Ln=>apply L2.aL.mk<;>k_is)
  (case Lo=>apply L2.aL.mk<;>k_is)
  (case Lp=>apply L2.aL.mk<;>k_is)
  (case Lq=>apply L2.aL.mk<;>k_is)
  (case Lr=>apply L2.aL.mk<;>k_is)
  (case Ls=>apply L2.aL.mk<;>k_is)
  (case Lu=>apply L2.aL.mk<;>k_is)
  (case Lv=>apply L2.aL.mk<;>k_is)
  (case Lw=>apply L2.aL.mk<;>k_is)
  (case Lx=>apply L2.aL.mk<;>k_is)
  (case Ly=>apply L2.aL.mk<;>k_is)
  (case Lz=>apply L2.aL.mk<;>k_is)
  (case LA=>apply L2.aL.mk<;>k_is)
  (case LB=>apply L2.aL.mk<;>k_is)
  (case LC=>apply L2.aL.mk<;>k_is)
  (case LD=>apply L2.aL.mk<;>k_is)
  (case LF=>apply L2.aL.mk<;>k_is)
  (case LG=>apply L2.aL.mk<;>k_is)
  (case LH=>apply L2.aL.mk<;>k_is)
  (case LI=>apply L2.aL.mk<;>k_is)
  (case LJ=>apply L2.aL.mk<;>k_is)
  (case LK=>apply L2.aL.mk<;>k_is)
  (case LL=>apply L2.aL.mk<;>k_is)
  (case LM=>apply L2.aL.mk<;>k_is)
  (case LN=>apply L2.aL.mk<;>k_is)
  (case LO=>apply L2.aL.mk<;>k_is)
  (case LP=>apply L2.aL.mk<;>k_is)
  (case LQ=>apply L2.aL.mk<;>k_is)
  (case LR=>apply L2.aL.mk<;>k_is)
  (case LS=>apply L2.aL.mk<;>k_is)
  (case LU=>apply L2.aL.mk<;>k_is)
  (case LV=>apply L2.aL.mk<;>k_is)
  (case LW=>apply L2.aL.mk<;>k_is)
  (case Hn=>k_is)
  (case Ho=>k_is)
  (case GU=>k_is)
  (case Gi=>k_is)
  (case Gj=>k_is)
  (case Hq=>k_is)
  (case Hs=>k_is)
  (case Dj=>k_is)
  (case GV=>k_is)
  (case Hu=>k_is)
  (case Hv=>k_is)
  (case FO=>k_is)
  (case Hw=>k_is)
  (case Hx=>k_is)
  (case Hy=>k_is)
  (case GW=>k_is)
  (case ED=>k_is)
  (case Dk=>k_is)
  (case CS=>k_is)
  (case Dm=>k_is)
  (case BZ=>k_is)
  (case Fd=>k_is)
  (case Dn=>k_is)
  (case Cp=>k_is)
  (case x8=>kernel_rfl)
  (case EE=>k_is)
  (case EF=>k_is)
  (case GX=>k_is)
  (case FP=>k_is)
  (case Be=>k_is)
  (case Br=>k_is)
  (case Gk=>k_is)
  (case EG=>k_is)
  (case Gm=>k_is)
  (case Gn=>k_is)
  (case Gp=>k_is)
  (case FQ=>k_is)
  (case Gq=>k_is)
  (case FR=>k_is)
  (case Gr=>k_is)
  (case Dp=>k_is)
  (case Cq=>k_is)
  (case Cr=>k_is)
  (case Dq=>k_is)
  (case CT=>k_is)
  (case D3=>apply L2.bA.mk<;>k_is)
  (case D4=>apply L2.bA.mk<;>k_is)
  (case FT=>k_is)
  (case FU=>k_is)
  (case FV=>k_is)
  (case Fe=>k_is)
  (case FW=>k_is)
  (case Ff=>k_is)
  (case FX=>k_is)
  (case CU=>k_is)
  (case Cs=>k_is)
  (case Ct=>k_is)
  (case BB=>k_is)
  (case CV=>k_is)
  (case Dr=>apply L2.bA.mk<;>k_is)
  (case D5=>apply L2.bA.mk<;>k_is)
  (case D6=>apply L2.bA.mk<;>k_is)
  (case D7=>apply L2.bA.mk<;>k_is)
  (case B0=>apply L2.bA.mk<;>k_is)
  (case Du=>apply L2.bA.mk<;>k_is)
  (case BC=>apply L2.bA.mk<;>k_is)
  (case CW=>apply L2.bA.mk<;>k_is)
  (case Cu=>apply L2.bA.mk<;>k_is)
  (case Ba=>apply L2.bA.mk<;>k_is)
  (case Dv=>apply L2.bA.mk<;>k_is)
  (case Fg=>k_is)
  (case Fh=>k_is)
  (case Fi=>k_is)
  (case EH=>k_is)
  (case Fj=>k_is)
  (case EI=>k_is)
  (case Fm=>k_is)
  (case Cv=>k_is)
  (case B3=>k_is)
  (case BD=>k_is)
  (case B4=>k_is)
  (case B5=>k_is)
  (case Bs=>k_is)
  (case BE=>k_is)
  (case Cw=>k_is)
  (case BG=>k_is)
  (case Bm=>k_is)
  (case CY=>apply L2.bA.mk<;>k_is)
  (case B6=>apply L2.bA.mk<;>k_is)
  (case Dw=>apply L2.bA.mk<;>k_is)
  (case Dx=>apply L2.bA.mk<;>k_is)
  (case CZ=>apply L2.bA.mk<;>k_is)
  (case C0=>apply L2.bA.mk<;>k_is)
  (case B7=>apply L2.bA.mk<;>k_is)
  (case BH=>apply L2.bA.mk<;>k_is)
  (case C1=>apply L2.bA.mk<;>k_is)
  (case Dy=>apply L2.bA.mk<;>k_is)
  (case Bn=>apply L2.bA.mk<;>k_is)
  (case Bf=>apply L2.bA.mk<;>k_is)
  (case Cy=>apply L2.bA.mk<;>k_is)
  (case BI=>apply L2.bA.mk<;>k_is)
  (case Cz=>apply L2.bA.mk<;>k_is)
  (case B8=>apply L2.bA.mk<;>k_is)
  (case Bo=>apply L2.bA.mk<;>k_is)
  (case Bu=>apply L2.bA.mk<;>k_is)
