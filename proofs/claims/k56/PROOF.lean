import PyProof.Rows.All
import Wide.All
import OpenK.AllK
import Wide.FinOn
import Lean
import PyProof.EqAt
import PyProof.EqKinds
import PyProof.TupleCall
import PyProof.NeKinds
import PyProof.ConsumeWalk
import PyProof.ListRange
import PyProof.TupleOfSeq
import PyProof.Rows.SortWalk
import PyProof.CompFree
import PySem.Challenge.RW_kinhearth_k56_two_books_in_turn
set_option Elab.async false
set_option linter.all false
set_option maxRecDepth 100000
set_option maxHeartbeats 4000000
abbrev ai:=PySem.W.Frag
abbrev bb:=PySem.Value->PySem.Shared->Prop
abbrev aZ:=List (PySem.Addr×PySem.Obj)
abbrev aX:=PySem.Str->Option PySem.Value
open PySem
open PySem.W (instObj methodObj lookIn plainGet hasDictIn handedIn plainGet_of isFn plainOver takerIn makesIn typeIn emptyDict keepIn kitOne kia_one kitx_list kitx_dict callWith_K methodCall_KW cellsFrom_some fnOf codeIn nsIn mg_of kIn_of)
open PySem.F (slot_tuple_add slot_dict_delitem slot_dict_pop slot_dict_get entry_dict_get plainAttrs_dict type_dict_get plainAttrs_list)
abbrev Ya:=@List.length_map
abbrev Yb:=@List.getElem?_eq_getElem
abbrev Yc:=@Heap.get?_push_of_some
abbrev Yd:=@List.getElem?_map
abbrev Ye:=@Nat.le_refl
abbrev Yf:=@List.mem_map
abbrev Yg:=@List.mem_cons_self
abbrev Yh:=@List.mem_of_getElem?
abbrev Yi:=@List.getElem?_eq_some_iff
abbrev Yj:=@List.getD_eq_getElem?_getD
abbrev Yk:=@Bool.false_ne_true
abbrev Yl:=@List.length_append
abbrev Ym:=@Option.some.inj
abbrev Yn:=@List.mem_cons
abbrev Yo:=@List.mem_singleton
abbrev Yp:=@List.mem_append_right
abbrev Yq:=@List.map_append
abbrev Yr:=@Heap.get?_push_size
abbrev Ys:=@List.mem_cons_of_mem
abbrev Yt:=@List.mem_append_left
abbrev Yu:=@List.size_toArray
abbrev Yv:=@List.mem_append
abbrev Yw:=@Nat.zero_le
abbrev Yx:=@Heap.lt_size
abbrev Yy:=@List.nodup_cons
abbrev Yz:=@Nat.ne_of_lt
abbrev Y0:=@Nat.lt_of_lt_of_le
abbrev Y1:=@List.take_add_one
abbrev Y2:=@List.not_mem_nil
abbrev Y3:=@List.getElem?_eq_none
abbrev Y4:=@Int.toNat_natCast
abbrev Y5:=@List.mem_filter
abbrev Y6:=@Nat.le_trans
abbrev Y7:=@Array.getD_eq_getD_getElem?
abbrev Y8:=@Nat.lt_irrefl
abbrev Y9:=@List.map_map
abbrev Wa:=@List.length_take
abbrev Wb:=@List.getElem?_append_left
abbrev Wc:=@List.take_length
abbrev Wd:=@Nat.not_lt_zero
abbrev We:=@List.length_range
abbrev Wf:=@Sum.inr.inj
abbrev Wg:=@Nat.lt_succ_self
abbrev Wh:=@List.append_nil
abbrev Wi:=@List.length_filter_le
abbrev Wj:=@List.ext_getElem?
abbrev Wk:=@List.take_of_length_le
abbrev Wl:=@List.mem_range
abbrev Wm:=@Bool.eq_iff_iff
abbrev Wn:=@List.length_cons
abbrev Wo:=@Bool.and_eq_true
abbrev Wp:=@List.all_eq_true
abbrev Wq:=@List.map_cons
abbrev Wr:=@Array.length_toList
abbrev Ws:=@List.pairwise_map
abbrev Wt:=@List.filter_append
abbrev Wu:=@List.mem_iff_getElem
abbrev Wv:=@Nat.lt_succ_of_lt
abbrev Ww:=@List.nodup_append
abbrev Wx:=@List.map_congr_left
abbrev Wy:=@Int.toNat_of_nonneg
abbrev Wz:=@List.pairwise_iff_getElem
abbrev W0:=@List.length_replicate
abbrev W1:=@List.lookup_cons
abbrev W3:=@List.filter_cons
abbrev W4:=@List.nodup_nil
abbrev W8:=@Nat.le_succ_of_le
abbrev Ja:=@List.getElem?_range
abbrev Jb:=@List.nodup_iff_pairwise_ne
abbrev Jc:=@Nat.lt_of_le_of_lt
abbrev Jd:=@Int.emod_lt_of_pos
abbrev Je:=@Array.getElem?_eq_getElem
abbrev Jf:=@Option.isSome_iff_exists
abbrev Jg:=@List.length_set
abbrev Jh:=@List.length_zip
abbrev Ji:=@List.all_cons
abbrev Jj:=@List.length_drop
abbrev Jk:=@List.mem_filterMap
abbrev Jl:=@List.filter_filter
abbrev Jm:=@Array.getElem?_toList
abbrev Jn:=@Int.emod_nonneg
abbrev Jo:=@Nat.le_of_ble_eq_true
abbrev Jp:=@List.any_cons
abbrev Jq:=@Heap.get?_push_ne
abbrev Jr:=@List.append_assoc
abbrev Js:=@List.getElem?_append_right
abbrev Jt:=@Array.perm_iff_toList_perm
abbrev Ju:=@Heap.size_push
abbrev Jv:=@List.getElem_mem
abbrev Jw:=@Nat.le_of_lt
abbrev Jx:=@List.filter_cons_of_pos
abbrev Jy:=@List.filter_map
abbrev Jz:=@Bool.true_and
abbrev J0:=@Array.getElem?_eq_none
abbrev J1:=@Bool.eq_false_iff
abbrev J3:=@Heap.get?_update_self
abbrev J4:=@Int.zero_add
abbrev J5:=@List.any_eq_true
abbrev J6:=@List.perm_middle
abbrev J7:=@Bool.false_or
abbrev J8:=@List.filterMap_cons
abbrev J9:=@List.find?_cons
abbrev JE:=@Bool.or_eq_true
abbrev RW:=@List.zip_cons_cons
abbrev Rc:=@List.any_eq_false
abbrev Rw:=@Option.isSome_map
abbrev Bb:=@Sum.inl.inj
abbrev Rv:=@List.cons_append
abbrev Sg:=@List.mem_flatMap
abbrev G5:=@Nat.ne_of_gt
abbrev Rg:=@List.of_mem_zip
abbrev Hv:=@Int.ne_of_gt
abbrev Rx:=@List.range_succ
abbrev HX:=@List.all_map
abbrev RJ:=@List.nil_append
namespace L2
open PySem PySem.Spec PyProof.Rows
abbrev Key:=Sum Int Str
def rG:Key->Value->Bool
 |.inl k,v=>Value.isInt k v
 |.inr x,v=>Value.isStrOf x v
def ZdY(w:World):Key->Int
 |.inl k=>hashInt k
 |.inr x=>hashStr w x
theorem lG:∀{k:Key} {v:Value},rG k v=true->(∃i t,k=Sum.inl i/\v=Value.int i t)\/(∃x t,k=Sum.inr x/\v=Value.str x t)
 |.inl i,v,h=>by
  obtain⟨t,e⟩:=Value.isInt_shape h
  grind
 |.inr x,v,h=>by
  obtain⟨t,e⟩:=Value.isStrOf_shape h
  grind
theorem X9(i:Int)(t:Tok):rG (.inl i) (.int i t)=true:=by simp[rG,Value.isInt]
theorem X_(x:Str)(t:Tok):rG (.inr x) (.str x t)=true:=by simp[rG,Value.isStrOf]
theorem ZbS(a b:Int):decide ((Sum.inl a:Key)=Sum.inl b)=(a==b):=by
 grind
theorem ZbT(a b:Str):decide ((Sum.inr a:Key)=Sum.inr b)=decide (a=b):=by
 grind
theorem ZbU(a:Int)(b:Str):decide ((Sum.inl a:Key)=Sum.inr b)=false:=decide_eq_false (λq=>nomatch q)
theorem ZbV(a:Str)(b:Int):decide ((Sum.inr a:Key)=Sum.inl b)=false:=decide_eq_false (λq=>nomatch q)
def dv(prog:Program)(w:World):PySem.KeyKind prog w Key where
 is:=rG
 hash:=ZdY w
 inj:=λv a b ha hb=>by
  rcases lG ha with⟨i,t,rfl,rfl⟩|⟨x,t,rfl,rfl⟩
  ·rcases lG hb with⟨j,u,rfl,e⟩|⟨y,u,rfl,e⟩;·injection e with e1 _;rw[e1]
   ·exact nomatch e
  ·rcases lG hb with⟨j,u,rfl,e⟩|⟨y,u,rfl,e⟩;·exact nomatch e
   ·injection e with e1 _;rw[e1]
 byValue:=λk v h=>by
  rcases lG h with⟨i,t,rfl,rfl⟩|⟨x,t,rfl,rfl⟩<;>rfl
 pyHash:=λhv h=>by
  rcases lG hv with⟨i,t,rfl,rfl⟩|⟨x,t,rfl,rfl⟩;·exact wpAny_pyHash_int h
  ·exact wpAny_pyHash_str h
 eqBool:=λhu hv h=>by
  rcases lG hu with⟨i,t,rfl,rfl⟩|⟨x,t,rfl,rfl⟩
  ·rcases lG hv with⟨j,u,rfl,rfl⟩|⟨y,u,rfl,rfl⟩;·rw[ZbS] at h;exact wpAny_eqBool_int h
   ·rw[ZbU] at h;exact SeqAt.EqAt.int_str i t y u _ _ _ _ h
  ·rcases lG hv with⟨j,u,rfl,rfl⟩|⟨y,u,rfl,rfl⟩;·rw[ZbV] at h;exact SeqAt.EqAt.str_int x t j u _ _ _ _ h
   ·rw[ZbT] at h;exact wpAny_eqBool_str h
 «strs»:=λk x t v h=>by
  rcases lG h with⟨i,u,rfl,e⟩|⟨y,u,rfl,e⟩;·exact nomatch e
  ·injection e with e1 _;subst e1;cases v<;>rfl
theorem V7(prog:Program)(w:World)(i:Int)(t:Tok):(dv prog w).is (.inl i) (.int i t)=true:=X9 i t
theorem V8(prog:Program)(w:World)(x:Str)(t:Tok):(dv prog w).is (.inr x) (.str x t)=true:=X_ x t
inductive V where
 |az|bl (b:Bool)|int (i:Int)|str (x:Str)|js (b:Array UInt8)|sh (b:UInt64)|ref (a:Addr)|ty (n:String)
 deriving DecidableEq
def RelV:V->Value->Prop
 |.az,u=>u=Value.none
 |.bl b,u=>u=Value.bool b
 |.int i,u=>∃t,u=Value.int i t
 |.str x,u=>∃t,u=Value.str x t
 |.js b,u=>∃t,u=Value.bytes b t
 |.sh b,u=>∃t,u=Value.float b t
 |.ref a,u=>u=Value.ref a
 |.ty n,u=>u=Value.type n
abbrev Vals:List V->List Value->Prop:=Paired RelV
theorem Vals.length{xs:List V}{us:List Value}(r:Vals xs us):xs.length=us.length:=Paired.length r
theorem Vals.get:∀{xs:List V} {us:List Value} {i:Nat} {x:V},Vals xs us->xs[i]?=some x->∃u,us[i]?=some u/\RelV x u
 |_,_,_,_,.nil,e=>by simp at e
 |_,_,0,_,.cons r _,e=>by simp at e;subst e;exact⟨_,rfl,r⟩
 |_,_,i+1,x,.cons _ t,e=>by
  obtain⟨u,h1,h2⟩:=Vals.get t (by simpa using e)
  grind
theorem Vals.set{x:V}{u:Value}(r:RelV x u):∀{xs:List V} {us:List Value} (i:Nat),Vals xs us->Vals (xs.set i x) (us.set i u)
 |_,_,_,.nil=>.nil
 |_,_,0,.cons _ t=>.cons r t
 |_,_,i+1,.cons q t=>.cons q (Vals.set r i t)
theorem Vals.append:∀{xs ys:List V} {us ws:List Value},Vals xs us->Vals ys ws->Vals (xs++ys) (us++ws):=by
 intro xs ys us ws h h';induction h with
 |nil=>exact h'
 |cons r t ih=>exact .cons r ih
theorem Vals.take:∀{xs:List V} {us:List Value} (n:Nat),Vals xs us->Vals (xs.take n) (us.take n)
 |_,_,0,_=>.nil
 |_,_,_+1,.nil=>.nil
 |_,_,n+1,.cons r t=>.cons r (Vals.take n t)
theorem Vals.drop:∀{xs:List V} {us:List Value} (n:Nat),Vals xs us->Vals (xs.drop n) (us.drop n)
 |_,_,0,r=>r
 |_,_,_+1,.nil=>.nil
 |_,_,n+1,.cons _ t=>Vals.drop n t
def fQ:Option V->Option Value->Prop
 |some v,some u=>RelV v u
 |none,none=>True
 |_,_=>False
def KV{κ:Type}:List (κ×V)->List (κ×Value)->Prop:=Paired λ(p:κ×V) (q:κ×Value)=>p.1=q.1/\RelV p.2 q.2
def kV:Key->V
 |.inl i=>.int i
 |.inr x=>.str x
inductive HO where
 /--a list-/
 |lst(xs:List V)
 /--a tuple(never changes)-/
 |tup(xs:List V)
 /--a dict Zdg keys are ints and texts;one Zdg keys are tuples of ints and texts(oO empty one is both)-/
 |dK(kvs:List (Key×V))|dT(kvs:List (List Key×V))
 /--a set of ints:ah members,ah size-/
 |set (S:Int->Bool) (n:Nat)
 /--an instance of oO class at C,ah dict at dx,ah attributes-/
 |ins (C dx:Addr) (fs:List (Str×V))
 /--oO dict of oO instance at x-/
 |own (x:Addr)
 /--oO dict of an exception-/
 |xd (fs:List (Str×V))
 /--a bound method,f of x-/
 |met (f x:Addr)
 /--a range object lo,lo+1,.. below hi-/
 |ir (lo hi:Int)
 /--a Zdh Zgi is known to oO object (oO NS;a dict while a loop walks it):read,never written while it is so-/
 |bX (o:Obj) (u:HO)
 /--a code Zf6 table-/
 |ng (ps:Array Value)
 /--any other Zdh,by Zgj is true of ah one object (a def of Zgd own:Zgk a S n:=HO.ext λh=>..)-/
 |ext (φ:Heap->Prop)
abbrev Hp:=Addr->Option HO
def upd(H:Hp)(a:Addr)(o:HO):Hp:=λb=>if b=a then some o else H b
theorem aI{H:Hp}{a:Addr}{o:HO}:upd H a o a=some o:=by unfold upd;rw[if_pos rfl]
theorem aC{H:Hp}{a b:Addr}{o:HO}(h:b≠a):upd H a o b=H b:=by unfold upd;rw[if_neg h]
theorem EV{H:Hp}{a:Addr}{o u:HO}:upd (upd H a o) a u=upd H a u:=by
 funext b;unfold upd;split<;>rfl
theorem O5{H:Hp}{a b:Addr}{o u:HO}(h:H a=some o)(h':H b=some u)(d:o≠u):a≠b:=by
 intro e;subst e;rw[h] at h';exact d (Ym h')
theorem bO{H:Hp}{a b:Addr}{o:HO}(h:H a=some o)(h':H b=none):a≠b:=by
 grind
section
variable (P:Program)(w:World)
def mO(h:Heap)(a:Addr)(items:Array Value):Prop:=∃o,h.get? a=some o/\o.cls=.type "tuple"/\∃n,o.data=.seq items n/\o.dict=none
theorem mO.tup{h:Heap}{a:Addr}{items:Array Value}(x:mO h a items):IsTup h a items:=let⟨o,e,c,n,d,_⟩:=x;⟨o,e,c,n,d⟩
theorem mO.lt{h:Heap}{a:Addr}{items:Array Value}(x:mO h a items):a<h.objs.size:=x.tup.lt
theorem mO.new(h:Heap)(items:Array Value):mO (h.push {cls:=.type "tuple",data:=.seq items}) h.objs.size items:=⟨_,Yr _ rfl,rfl,_,rfl,rfl⟩
def cB(H:Hp)(h:Heap)(a:Addr):HO->Prop
 |.lst xs=>xs.length<=sizeLine/\∃(ah:List Value) (n:Nat),Vals xs ah/\h.get? a=some {cls:=.type "list",data:=.seq ah.toArray n}
 |.tup xs=>xs.length<=sizeLine/\∃ah:List Value,Vals xs ah/\mO h a ah.toArray
 |.dK kvs=>kvs.length<=sizeLine/\(a==sysModules)=false/\∃vs,KV kvs vs/\h.DictOf (dv P w) a vs
 |.dT kvs=>kvs.length<=sizeLine/\(a==sysModules)=false/\∃xs:List (List Key×Addr×Value),
   Paired (λ(p:List Key×V) (q:List Key×Addr×Value)=>p.1=q.1/\H q.2.1=some (.tup (p.1.map kV))/\RelV p.2 q.2.2) kvs xs/\
   ∃o es ep,h.get? a=some o/\o.ExactDict/\o.data=.dict es ep/\es.toList=xs.map (entryOfKey (tupleKind (dv P w)))/\(xs.map (·.1)).Nodup
 |.set S n=>h.SetOf (intKind P w) a S n
 |.ins C dx fs=>H dx=some (.own a)/\fs.length<=1000/\dx≠a/\h.get? a=some (instObj C dx)/\
   ∃mA,h.Ns1 dx mA/\(∀f,fQ (fs.lookup f) (mA f))/\PySem.Within mA (fs.map (·.1))
 |.own _=>∃o,h.get? a=some o
 |.xd fs=>∃mA,h.Ns1 a mA/\∀f,fQ (fs.lookup f) (mA f)
 |.ir lo hi=>∃t u v,h.get? a=some {cls:=.type "range",data:=.fields #[.int lo t,.int hi u,.int 1 v]}
 |.bX o u=>h.get? a=some o/\cB H h a u
 |.ng ps=>h.get? a=some {cls:=.none,data:=.fields ps}
 |.met f x=>h.get? a=some (methodObj (.ref f) (.ref x))
 |.ext φ=>φ h/\(∃o,h.get? a=some o)/\∀h1 h2:Heap,φ h1->(∀o,h1.get? a=some o->h2.get? a=some o)->φ h2
def c_(H:Hp)(h:Heap):Prop:=∀a o,H a=some o->cB P w H h a o
end
section
variable {P:Program}{w:World}{H H':Hp}{h h':Heap}{a:Addr}{o:HO}
theorem cB.lt(x:cB P w H h a o):a<h.objs.size:=by
 cases o with
 |lst xs=>obtain⟨_,_,_,_,e⟩:=x;exact Yx e
 |tup xs=>obtain⟨_,_,_,p⟩:=x;exact p.lt
 |dK kvs=>obtain⟨_,_,_,_,o,_,_,e,_⟩:=x;exact Yx e
 |dT kvs=>obtain⟨_,_,_,_,o,_,_,e,_⟩:=x;exact Yx e
 |set S n=>obtain⟨o,_,_,_,e,_⟩:=x;exact Yx e
 |ins C dx fs=>obtain⟨_,_,_,e,_⟩:=x;exact Yx e
 |own y=>obtain⟨_,e⟩:=x;exact Yx e
 |xd fs=>obtain⟨_,⟨_,_,_,e,_⟩,_⟩:=x;exact Yx e
 |ir lo hi=>obtain⟨_,_,_,e⟩:=x;exact Yx e
 |bX ob u=>obtain⟨e,_⟩:=x;exact Yx e
 |ng ps=>exact Yx (show h.get? a=some _ from x)
 |met f y=>exact Yx (show h.get? a=some _ from x)
 |ext φ=>obtain⟨_,⟨_,e⟩,_⟩:=x;exact Yx e
theorem Paired.bB{α β:Type}{F G:α->β->Prop}:∀{l₁:List α} {l₂:List β},Paired F l₁ l₂->(∀a b,F a b->G a b)->Paired G l₁ l₂:=by
 intro l₁ l₂ h f;induction h with
 |nil=>exact .nil
 |cons r t ih=>exact .cons (f _ _ r) ih
theorem cB.jL(x:cB P w H h a o)(k:∀b u,(b=a\/H b=some (.own a))->h.get? b=some u->h'.get? b=some u)
  (ho:∀b,H b=some (.own a)->H' b=some (.own a))(ht:∀b xs,H b=some (.tup xs)->H' b=some (.tup xs)):cB P w H' h' a o:=by
 induction o with
 |lst xs=>obtain⟨z,ah,n,r,e⟩:=x;exact⟨z,ah,n,r,k _ _ (.inl rfl) e⟩
 |tup xs=>obtain⟨z,ah,r,ob,e,c⟩:=x;exact⟨z,ah,r,ob,k _ _ (.inl rfl) e,c⟩
 |dK kvs=>obtain⟨z,y,vs,r,ob,es,ep,e,c⟩:=x;exact⟨z,y,vs,r,ob,es,ep,k _ _ (.inl rfl) e,c⟩
 |dT kvs=>
  obtain⟨z,y,xs,r,ob,es,ep,e,c⟩:=x;exact⟨z,y,xs,Paired.bB r λp q z=>⟨z.1,ht _ _ z.2.1,z.2.2⟩,ob,es,ep,k _ _ (.inl rfl) e,c⟩
 |set S n=>obtain⟨ob,es,ep,t,e,c⟩:=x;exact⟨ob,es,ep,t,k _ _ (.inl rfl) e,c⟩
 |ins C dx fs=>
  obtain⟨d,z,ne,e,mA,⟨od,es,ep,e2,c⟩,r⟩:=x;exact⟨ho _ d,z,ne,k _ _ (.inl rfl) e,mA,⟨od,es,ep,k _ _ (.inr d) e2,c⟩,r⟩
 |own y=>obtain⟨ob,e⟩:=x;exact⟨ob,k _ _ (.inl rfl) e⟩
 |xd fs=>obtain⟨mA,⟨od,es,ep,e,c⟩,r⟩:=x;exact⟨mA,⟨od,es,ep,k _ _ (.inl rfl) e,c⟩,r⟩
 |ir lo hi=>obtain⟨t,u,v,e⟩:=x;exact⟨t,u,v,k _ _ (.inl rfl) e⟩
 |bX ob u ih=>obtain⟨e,q⟩:=x;exact⟨k _ _ (.inl rfl) e,ih q⟩
 |ng ps=>
  have e:h.get? a=some {cls:=.none,data:=.fields ps}:=x;show h'.get? a=some {cls:=.none,data:=.fields ps};exact k a _ (.inl rfl) e
 |met f y=>
  have e:h.get? a=some (methodObj (.ref f) (.ref y)):=x;show h'.get? a=some (methodObj (.ref f) (.ref y));exact k a _ (.inl rfl) e
 |ext φ=>obtain⟨p,⟨o,e⟩,st⟩:=x;exact⟨st _ _ p λo q=>k _ _ (.inl rfl) q,⟨o,k _ _ (.inl rfl) e⟩,st⟩
theorem c_.lt(x:c_ P w H h)(e:H a=some o):a<h.objs.size:=(x a o e).lt
theorem c_.fresh(x:c_ P w H h)(e:h.objs.size<=a):H a=none:=by
 cases q:H a with
 |none=>rfl
 |some u=>exact absurd (Y0 (x.lt q) e) (Y8 _)
theorem c_.kept(x:c_ P w H h)(k:∀b u,h.get? b=some u->h'.get? b=some u):c_ P w H h':=λa o e=>
 (x a o e).jL (λb u _ q=>k b u q) (λ_ q=>q) λ_ _ q=>q
theorem c_.laid(x:c_ P w H h)(k:∀b u,h.get? b=some u->h'.get? b=some u)(hp:h.objs.size<=a)(new:cB P w (upd H a o) h' a o):c_ P w (upd H a o) h':=λb u e=>by
 have hn:=x.fresh hp;by_cases hb:b=a;·subst hb;rw[aI] at e;cases e;exact new
 ·rw[aC hb] at e;exact(x b u e).jL (λc v _ q=>k c v q) (λc q=>by rw[aC (bO q hn)];exact q) λc xs q=>by rw[aC (bO q hn)];exact q
end
def Rd(H:Hp)(a:Addr)(u:HO):Prop:=H a=some u\/∃o,H a=some (.bX o u)
theorem Rd.ok{P:Program}{w:World}{H:Hp}{h:Heap}{a:Addr}{u:HO}(r:Rd H a u)(x:c_ P w H h):cB P w H h a u:=by
 rcases r with r|⟨o,r⟩;·exact x a u r
 ·obtain⟨_,q⟩:=x a _ r;exact q
def xq:Option HO->Prop
 |some (.lst _)=>True
 |some (.dK _)=>True
 |some (.dT _)=>True
 |some (.set _ _)=>True
 |some (.ins _ _ _)=>True
 |some (.ext _)=>True
 |_=>False
section
variable {P:Program}{w:World}{H:Hp}{h h':Heap}{x e:Addr}{o':HO}
theorem c_.write(ok:c_ P w H h)(mu:xq (H x))(he:e=x\/H e=some (.own x))(k:∀b u,b≠e->h.get? b=some u->h'.get? b=some u)(xr:∃u,h'.get? e=some u)
  (new:cB P w (upd H x o') h' x o'):c_ P w (upd H x o') h':=λb u q=>by
 have PU:∀c y,H c=some (.own y)->c≠x:=λc y r z=>by subst z;rw[r] at mu;exact mu
 have ZdZ:∀c xs,H c=some (.tup xs)->c≠x:=λc xs r z=>by subst z;rw[r] at mu;exact mu
 by_cases hb:b=x;·subst hb;rw[aI] at q;cases q;exact new
 ·rw[aC hb] at q;by_cases AJ:b=e
  ·have q':H b=some (.own x):=by
    rcases he with z|z;·exact absurd (AJ.trans z) hb
    ·rw[AJ];exact z
   rw[q] at q';cases q';obtain⟨v,hv⟩:=xr;exact⟨v,by rw[AJ];exact hv⟩
  ·refine(ok b u q).jL (λc v hc r=>k c v ?_ r) (λc r=>by rw[aC (PU c b r)];exact r) λc xs r=>by rw[aC (ZdZ c xs r)];exact r
   rcases hc with rfl|hc;·exact AJ
   ·rintro rfl;rcases he with z|z;·exact PU c b hc z
    ·rw[hc] at z;cases z;exact hb rfl
end
structure Un(fs ex:List Addr)(H H':Hp)(h h':Heap):Prop where
 keep:∀b o,h.get? b=some o->H b=none->b∉fs->b∉ex->h'.get? b=some o
 slot:∀b o,h.get? b=some o->H b=none->b∈fs->b∉ex->∃sl,h'.get? b=some {o with slots:=sl}
 free:∀b o,h.get? b=some o->H b=none->b∉ex->H' b=none
 there:∀b o,h.get? b=some o->b∉ex->∃o',h'.get? b=some o'
 jM:∀b xs,H b=some (.tup xs)->H' b=some (.tup xs)
 kQ:∀b o u,H b=some (.bX o u)->H' b=some (.bX o u)
 lT:∀b ps,H b=some (.ng ps)->∃more,H' b=some (.ng (ps++more))
section
variable {fs de ex ex':List Addr}{H H1 H2:Hp}{h h1 h2 h':Heap}{a x e:Addr}{o:HO}
theorem Un.any(u:Un fs ex H H1 h h1){b:Addr}{ob:Obj}(q:h.get? b=some ob)(n:H b=none)(hx:b∉ex):∃sl,h1.get? b=some {ob with slots:=sl}:=by
 by_cases hb:b∈fs;·exact u.slot b ob q n hb hx
 ·exact⟨ob.slots,u.keep b ob q n hb hx⟩
theorem Un.kept(k:∀b u,h.get? b=some u->h'.get? b=some u):Un fs ex H H h h':=
 ⟨λb ob q _ _ _=>k b ob q,λb ob q _ _ _=>⟨ob.slots,k b ob q⟩,λ_ _ _ n _=>n,λb ob q _=>⟨ob,k b ob q⟩,λ_ _ q=>q,λ_ _ _ q=>q,λ_ ps q=>⟨#[],by rw[q];simp⟩⟩
theorem Un.refl:Un fs ex H H h h:=Un.kept λ_ _ q=>q
theorem Un.laid(k:∀b u,h.get? b=some u->h'.get? b=some u)(hp:h.objs.size<=a)(hn:H a=none):Un fs ex H (upd H a o) h h' where
 keep:=λb u q _ _ _=>k b u q
 slot:=λb u q _ _ _=>⟨u.slots,k b u q⟩
 free:=λb u q n _=>by rw[aC (Yz (Y0 (Yx q) hp))];exact n
 there:=λb u q _=>⟨u,k b u q⟩
 jM:=λb xs q=>by rw[aC (bO q hn)];exact q
 kQ:=λb u xs q=>by rw[aC (bO q hn)];exact q
 lT:=λb ps q=>⟨#[],by rw[aC (bO q hn),q];simp⟩
theorem Un.write(mu:xq (H x))(he:e=x\/H e=some (.own x))(k:∀b u,b≠e->h.get? b=some u->h'.get? b=some u)(xr:∃u,h'.get? e=some u):Un fs ex H (upd H x o) h h':=by
 have hx:∀b,H b=none->b≠x:=λb n z=>by subst z;rw[n] at mu;exact mu
 have hb:∀b,H b=none->b≠e:=λb n z=>by
  grind
 have hm:∀b u,H b=some u->¬xq (some u)->b≠x:=λb u q nm z=>by subst z;rw[q] at mu;exact nm mu
 refine⟨λb u q n _ _=>k b u (hb b n) q,λb u q n _ _=>⟨u.slots,k b u (hb b n) q⟩,λb u q n _=>by rw[aC (hx b n)];exact n,λb u q _=>?_,
  λb xs q=>by rw[aC (hm b _ q λz=>z)];exact q,λb u xs q=>by rw[aC (hm b _ q λz=>z)];exact q,λb ps q=>⟨#[],by rw[aC (hm b _ q λz=>z),q];simp⟩⟩
 grind
end
def G1(h:Heap)(H:Hp):List Addr:=(List.range h.objs.size).filter λa=>(H a).isSome
def oK(h:Heap)(H:Hp):Heap:=PySem.W.hideAll h (G1 h H)
theorem YA(h:Heap)(H:Hp):(oK h H).objs.size=h.objs.size:=PySem.W.hideAll_size _ _
theorem Zw{h:Heap}{H:Hp}{b:Addr}{o:Obj}(e:h.get? b=some o)(n:H b=none):(oK h H).get? b=some o:=
 PySem.W.hideAll_get _ e λhm=>by
  have q:=(Y5.mp hm).2
  grind
theorem ZaH{h:Heap}{H:Hp}{b:Addr}{o:Obj}(e:(oK h H).get? b=some o):h.get? b=some o/\H b=none:=by
 have e':=PySem.W.of_hideAll (G1 h H) e;refine⟨e',?_⟩;cases q:H b with
 |none=>rfl
 |some x=>
  have z:(oK h H).get? b=none:=PySem.W.hideAll_none (G1 h H) (Y5.mpr ⟨Wl.mpr (Yx e'),by simp[q]⟩)
  grind
structure Mod(K:ai)(mg:aX)(base:Heap):Prop where
 sr:K.In base
 glob:base.Ns mainGlobals mg
 blt:∃mb,base.Ns builtinsNs mb/\∀x:Str,x≠"__name__"->mb x=bootBuiltins x
 nolimit:base.NoLimit
structure Cx where
 prog:Program
 w:World
 K:ai
 mg:Str->Option Value
 base:Heap
 A:Around
 N:List Str
 cT:Shared
 kR:Hp
 env:Env
 outer:List Env
 stack:List Env
 ex:List Addr
 fn:Str->Bool
 calm:Bool
 pn:List (Addr×Obj)
 xe:Value->Shared->Prop
abbrev Cx.md(X:Cx):=model X.prog X.w
abbrev l3(X:Cx)(e:Expr)(es:List Expr):Prop:=starEach (e::es) X.env=(false,eval e X.env)::starEach es X.env
abbrev ni(X:Cx)(pos:Pos)(es:List Expr):Prop:=(backTo pos (starEach es X.env)).any (·.1)=false
def eY(l:List Env):List Addr:=l.filterMap (·.frame)
abbrev Cx.fs(X:Cx):List Addr:=eY X.outer
def uJ(sc:Scope)(x:Str):Prop:=sc.names.lookup x=some .local\/sc.names.lookup x=some .cell\/sc.names.lookup x=some .free
def Loc(sc:Scope)(x:Str):Prop:=sc.names.lookup x=some .local\/sc.names.lookup x=some .cell
def Look(env:Env)(h:Heap)(m:aX)(x:Str)(u:Value):Prop:=
 (env.kindOf x=some .local/\m x=some u)\/((env.kindOf x=some .cell\/env.kindOf x=some .free)/\∃c,env.cells.lookup x=some c/\h.IsCell c (some u))
structure Cx.Ok(X:Cx):Prop where
 mod:Mod X.K X.mg X.base
 kind:X.env.scope.kind=.function
 glob:X.env.globals=mainGlobals
 blt:X.env.builtins=builtinsNs
 above:X.cT.heap.objs.size<=X.env.locals
 inj:∀x y c,X.env.cells.lookup x=some c->X.env.cells.lookup y=some c->x=y
 has:∀x,(X.env.kindOf x=some .cell\/X.env.kindOf x=some .free)->∃c,X.env.cells.lookup x=some c
 xt:∀x c,X.fn x=true->X.env.cells.lookup x=some c->X.cT.heap.objs.size<=c
 hd:X.calm=true->X.A.handled=none
 frames:X.A.frames=some X.stack
 AK:X.stack=X.outer\/(X.stack=X.env::X.outer/\X.env.frame=some X.env.locals)
 uK:∀b∈X.ex,b≠X.env.locals/\∀x c,X.env.cells.lookup x=some c->c≠b
 bs:∀b o,X.base.get? b=some o->X.cT.heap.get? b=some o/\X.kR b=none
 nj:X.base.objs.size<=X.cT.heap.objs.size
 wV:∀b o,X.base.get? b=some o->b∉X.ex
 ux:∀b∈X.ex,b∉X.fs
 jN:X.cT.heap.FunFrames X.base X.outer
 oP:∀b∈X.fs,X.kR b=none
structure Inv(X:Cx)(pins:aZ)(σ:List (Option V))(H:Hp)(s:Shared):Prop where
 ok:X.Ok
 os:s.os=X.cT.os
 bare:AllBare s.gens
 base:Un X.fs X.ex X.kR H X.cT.heap s.heap
 loc:∃m,s.heap.Ns X.env.locals m/\∀(i:Nat) (x:Str) (v:V),X.N[i]?=some x->σ[i]?=some (some v)->uJ X.env.scope x->∃u,RelV v u/\Look X.env s.heap m x u
 cell:∀x c,X.env.cells.lookup x=some c->∃v,s.heap.IsCell c v
 free:H X.env.locals=none
 kM:∀x c,X.env.cells.lookup x=some c->H c=none
 pin:∀p∈X.pn++pins,s.heap.get? p.1=some p.2/\H p.1=none/\p.1≠X.env.locals/\p.1∉X.fs/\∀v,p.2.data≠.cell v
 aw:c_ X.prog X.w H s.heap
 len:σ.length=X.N.length
section
variable {X:Cx}{pins:aZ}{σ:List (Option V)}{H H':Hp}{s:Shared}{h':Heap}
theorem Cx.Ok.Zd0(ok:X.Ok){b:Addr}{o:Obj}(e:X.base.get? b=some o):b∉X.fs:=λhb=>by
 have:=(ok.jN.mem hb).1
 grind
theorem Inv.bs(I:Inv X pins σ H s):∀b o,X.base.get? b=some o->s.heap.get? b=some o/\H b=none:=λb o e=>
 ⟨I.base.keep b o (I.ok.bs b o e).1 (I.ok.bs b o e).2 (I.ok.Zd0 e) (I.ok.wV b o e),I.base.free b o (I.ok.bs b o e).1 (I.ok.bs b o e).2 (I.ok.wV b o e)⟩
theorem Inv.bk(I:Inv X pins σ H s):∀b o,X.base.get? b=some o->s.heap.get? b=some o:=λb o e=>(I.bs b o e).1
theorem Inv.mod(I:Inv X pins σ H s):Mod X.K X.mg X.base:=I.ok.mod
theorem Inv.dE(I:Inv X pins σ H s):X.K.In s.heap:=I.ok.mod.sr.keeps I.bk
theorem Inv.lt(I:Inv X pins σ H s):X.env.locals<s.heap.objs.size:=let⟨_,hn,_⟩:=I.loc;hn.lt
theorem Inv.sz(I:Inv X pins σ H s):X.cT.heap.objs.size<=s.heap.objs.size:=Y6 I.ok.above (Jw I.lt)
theorem Inv.Zd1(I:Inv X pins σ H s){a:Addr}(h:s.heap.objs.size<=a):a∉X.fs:=λhb=>by
 obtain⟨_,o,ho,_⟩:=I.ok.jN.mem hb;exact absurd (Y0 (Yx ho) (Y6 I.sz h)) (Y8 _)
theorem Inv.su(I:Inv X pins σ H s):∀x c,X.env.cells.lookup x=some c->c≠X.env.locals:=λx c e z=>by
 obtain⟨v,o,ho,hd⟩:=I.cell x c e;obtain⟨m,⟨o',es,ep,uL,AL,_⟩,_⟩:=I.loc
 grind
theorem Inv.jN(I:Inv X pins σ H s):s.heap.FunFrames X.base X.outer:=by
 have all:∀(l:List Env),(∀b∈eY l,b∈X.fs)->X.cT.heap.FunFrames X.base l->s.heap.FunFrames X.base l:=by
  intro l;induction l with
  |nil=>intro _ _;trivial
  |cons env r ih=>
   rintro hs ⟨hk,⟨L,o,hf,hn,ho,hd⟩,hr⟩;have hL:=hs L (by unfold eY;rw[J8,hf];exact Yg);obtain⟨sl,e⟩:=I.base.slot L o ho (I.ok.oP L hL) hL λz=>I.ok.ux L z hL;exact⟨hk,⟨L,_,hf,hn,e,hd⟩,ih (λb hb=>hs b (by unfold eY;rw[J8,hf];exact Ys _ hb)) hr⟩
 exact all X.outer (λ_ hb=>hb) I.ok.jN
theorem Inv.stack(I:Inv X pins σ H s):s.heap.FunFrames X.base X.stack:=by
 rcases I.ok.AK with e|⟨e,hf⟩;·rw[e];exact I.jN
 ·rw[e];obtain⟨m,hn,_⟩:=I.loc;refine .cons (by rw[I.ok.kind];decide) hf hn ?_ I.jN;exact Heap.get?_none_of_le (Y6 I.ok.nj I.ok.above)
theorem Inv.Fj(I:Inv X pins σ H s):∀b∈eY X.stack,b∈X.env.locals::X.fs:=λb hb=>by
 rcases I.ok.AK with e|⟨e,hf⟩;·grind
 ·rw[e] at hb;unfold eY at hb;rw[J8,hf] at hb;exact hb
theorem Inv.MG(I:Inv X pins σ H s):∀b∈eY X.stack,H b=none:=λb hb=>by
 rcases Yn.mp (I.Fj b hb) with e|hb;·rw[e];exact I.free
 ·obtain⟨_,o,ho,_⟩:=I.ok.jN.mem hb;exact I.base.free b o ho (I.ok.oP b hb) λz=>I.ok.ux b z hb
theorem Inv.step{g':Array GenState}{t':Nat}{d':Drawn}{ch:List Addr}(I:Inv X pins σ H s)
  (nv:∀b∈ch,(b∈X.ex\/X.cT.heap.objs.size<=b)/\b≠X.env.locals/\(∀x c,X.env.cells.lookup x=some c->c≠b)/\∀p∈X.pn++pins,p.1≠b)
  (keep:∀b o,b≠X.env.locals->b∉X.fs->b∉ch->s.heap.get? b=some o->H b=none->h'.get? b=some o)
  (slot:∀b o,b≠X.env.locals->b∈X.fs->b∉ch->s.heap.get? b=some o->H b=none->∃sl,h'.get? b=some {o with slots:=sl})(free:∀b o,b∉ch->s.heap.get? b=some o->H b=none->H' b=none)
  (there:∀b o,b∉ch->s.heap.get? b=some o->∃o',h'.get? b=some o')
  (jM:∀b xs,H b=some (.tup xs)->H' b=some (.tup xs))(kQ:∀b o u,H b=some (.bX o u)->H' b=some (.bX o u))(lT:∀b ps,H b=some (.ng ps)->∃more,H' b=some (.ng (ps++more)))
  (ns:∀m,s.heap.Ns X.env.locals m->h'.Ns X.env.locals m)(aw:c_ X.prog X.w H' h')(hg:AllBare g'):
  Inv X pins σ H' {s with heap:=h',gens:=g',drawn:=d',toks:=t'}:=by
 have Q0:∀b o,X.cT.heap.get? b=some o->b≠X.env.locals:=λb o e=>Yz (Y0 (Yx e) I.ok.above);have AM:∀b o,X.cT.heap.get? b=some o->b∉X.ex->b∉ch:=λb o e hx hb=>by
  rcases(nv b hb).1 with z|z;·exact hx z
  ·exact absurd (Y0 (Yx e) z) (Y8 _)
 have cellK:∀x c,X.env.cells.lookup x=some c->∀v,s.heap.IsCell c v->h'.IsCell c v:=λx c e v ⟨o,ho,hd⟩=>by
  have xu:c∉ch:=λz=>(nv c z).2.2.1 x c e rfl;by_cases hc:c∈X.fs
  ·obtain⟨sl,q⟩:=slot c o (I.su x c e) hc xu ho (I.kM x c e);exact⟨_,q,hd⟩
  ·exact⟨o,keep c o (I.su x c e) hc xu ho (I.kM x c e),hd⟩
 refine⟨I.ok,I.os,hg,⟨λb o e n hb hx=>?_,λb o e n hb hx=>?_,λb o e n hx=>?_,λb o e hx=>?_,λb xs e=>jM b xs (I.base.jM b xs e),λb o xs e=>kQ b o xs (I.base.kQ b o xs e),λb ps e=>?_⟩,?_,λx c e=>?_,?_,λx c e=>?_,λp hp=>?_,aw,I.len⟩;·exact keep b o (Q0 b o e) hb (AM b o e hx) (I.base.keep b o e n hb hx) (I.base.free b o e n hx)
 ·obtain⟨sl,e1⟩:=I.base.slot b o e n hb hx;obtain⟨sl',e2⟩:=slot b _ (Q0 b o e) hb (AM b o e hx) e1 (I.base.free b o e n hx);exact⟨sl',e2⟩
 ·obtain⟨o',e1⟩:=I.base.there b o e hx;exact free b o' (AM b o e hx) e1 (I.base.free b o e n hx)
 ·obtain⟨o',e1⟩:=I.base.there b o e hx;exact there b o' (AM b o e hx) e1
 ·obtain⟨m1,e1⟩:=I.base.lT b ps e;obtain⟨m2,e2⟩:=lT b _ e1;exact⟨m1++m2,by rw[e2,Array.append_assoc]⟩
 ·obtain⟨m,hn,hl⟩:=I.loc;refine⟨m,ns m hn,λi x v e1 e2 e3=>?_⟩;obtain⟨u,r,l⟩:=hl i x v e1 e2 e3;refine⟨u,r,?_⟩;rcases l with l|⟨k,c,e,z⟩;·exact .inl l
  ·exact .inr ⟨k,c,e,cellK x c e _ z⟩
 ·obtain⟨v,z⟩:=I.cell x c e;exact⟨v,cellK x c e v z⟩
 ·obtain⟨m,⟨o,_,_,ho,_⟩,_⟩:=I.loc;exact free _ o (λz=>(nv _ z).2.1 rfl) ho I.free
 ·obtain⟨v,o,ho,hd⟩:=I.cell x c e;exact free c o (λz=>(nv c z).2.2.1 x c e rfl) ho (I.kM x c e)
 ·obtain⟨e,n,ne,nf,d⟩:=I.pin p hp;have xu:p.1∉ch:=λz=>(nv p.1 z).2.2.2 p hp rfl;exact⟨keep p.1 p.2 ne nf xu e n,free p.1 p.2 xu e n,ne,nf,d⟩
theorem Inv.un{t':Nat}(I:Inv X pins σ H s)(u:Un X.fs [] H H' s.heap h')(aw:c_ X.prog X.w H' h'):Inv X pins σ H' {s with heap:=h',toks:=t'}:=by
 obtain⟨m,⟨o,es,ep,ho,r⟩,_⟩:=id I.loc;obtain⟨sl,hL⟩:=u.any ho I.free (by simp);exact I.step (g':=s.gens) (d':=s.drawn) (ch:=[]) (λ_ z=>nomatch z) (λb o _ hb _ e n=>u.keep b o e n hb (by simp)) (λb o _ hb _ e n=>u.slot b o e n hb (by simp)) (λb o _ e n=>u.free b o e n (by simp)) (λb o _ e=>u.there b o e (by simp)) u.jM u.kQ u.lT (λm' hm=>by
  obtain⟨o',AN,AO,uL,r'⟩:=hm;rw[ho] at uL;cases uL;exact⟨_,AN,AO,hL,r'⟩) aw I.bare
theorem Inv.call{g':Array GenState}{t':Nat}{d':Drawn}{ch:List Addr}(I:Inv X pins σ H s)(u:Un (eY X.stack) ch H H' s.heap h')(aw:c_ X.prog X.w H' h')(hg:AllBare g')
  (nv:∀b∈ch,(b∈X.ex\/X.cT.heap.objs.size<=b)/\b≠X.env.locals/\(∀x c,X.env.cells.lookup x=some c->c≠b)/\∀p∈X.pn++pins,p.1≠b):
  Inv X pins σ H' {s with heap:=h',gens:=g',drawn:=d',toks:=t'}:=by
 obtain⟨m,⟨o,es,ep,ho,r⟩,_⟩:=id I.loc;obtain⟨sl,hL⟩:=u.any ho I.free λz=>(nv _ z).2.1 rfl;exact I.step (ch:=ch) nv (λb o hL hb hc e n=>u.keep b o e n (λz=>(Yn.mp (I.Fj b z)).elim hL hb) hc) (λb o _ _ hc e n=>u.any e n hc) (λb o hc e n=>u.free b o e n hc) (λb o hc e=>u.there b o e hc) u.jM u.kQ u.lT (λm' hm=>by
  obtain⟨o',AN,AO,uL,r'⟩:=hm;rw[ho] at uL;cases uL;exact⟨_,AN,AO,hL,r'⟩) aw hg
theorem Inv.turned{t':Nat}{it:Addr}(I:Inv X pins σ H s)(k:∀b o,b≠it->s.heap.get? b=some o->h'.get? b=some o)(hn:H it=none)(hL:it≠X.env.locals)
  (h1:it∈X.ex\/X.cT.heap.objs.size<=it)(h2:∀x c,X.env.cells.lookup x=some c->c≠it)(h3:∀p∈X.pn++pins,p.1≠it):Inv X pins σ H {s with heap:=h',toks:=t'}:=by
 have Q4:∀b u,H b=some u->b≠it:=λb u e z=>by rw[z,hn] at e;cases e
 refine I.step (g':=s.gens) (d':=s.drawn) (ch:=[it]) (λb hb=>?_) (λb o _ _ hc e _=>k b o (λz=>hc (by simp[z])) e) (λb o _ _ hc e _=>⟨o.slots,k b o (λz=>hc (by simp[z])) e⟩) (λ_ _ _ _ n=>n)
  (λb o hc e=>⟨o,k b o (λz=>hc (by simp[z])) e⟩) (λ_ _ e=>e) (λ_ _ _ e=>e) (λb ps e=>⟨#[],by rw[e];simp⟩) (λm hm=>?_) (λb u e=>?_) I.bare
 ·have e:b=it:=by simpa using hb
  subst e;exact⟨h1,hL,h2,h3⟩
 ·obtain⟨o,es,ep,ho,r⟩:=hm;exact⟨o,es,ep,k _ o (Ne.symm hL) ho,r⟩
 ·refine(I.aw b u e).jL (λc v hc q=>k c v ?_ q) (λ_ q=>q) λ_ _ q=>q;rcases hc with z|z;·rw[z];exact Q4 b u e
  ·exact Q4 c _ z
theorem Inv.tok(I:Inv X pins σ H s)(t:Nat):Inv X pins σ H {s with toks:=t}:=I.un (h':=s.heap) (t':=t) Un.refl I.aw
theorem Inv.kept{t':Nat}(I:Inv X pins σ H s)(k:∀b u,s.heap.get? b=some u->h'.get? b=some u):Inv X pins σ H {s with heap:=h',toks:=t'}:=I.un (Un.kept k) (I.aw.kept k)
theorem Inv.laid{a:Addr}{o:HO}{t':Nat}(I:Inv X pins σ H s)(k:∀b u,s.heap.get? b=some u->h'.get? b=some u)(hp:s.heap.objs.size<=a)(new:cB X.prog X.w (upd H a o) h' a o):
  Inv X pins σ (upd H a o) {s with heap:=h',toks:=t'}:=I.un (Un.laid k hp (I.aw.fresh hp)) (I.aw.laid k hp new)
theorem Inv.write{x e:Addr}{o:HO}{t':Nat}(I:Inv X pins σ H s)(mu:xq (H x))(he:e=x\/H e=some (.own x))(k:∀b u,b≠e->s.heap.get? b=some u->h'.get? b=some u)(xr:∃u,h'.get? e=some u)
  (new:cB X.prog X.w (upd H x o) h' x o):Inv X pins σ (upd H x o) {s with heap:=h',toks:=t'}:=I.un (Un.write mu he k xr) (I.aw.write mu he k xr new)
theorem Inv.MH{O6:aZ}(I:Inv X pins σ H s)(h:∀p∈O6,s.heap.get? p.1=some p.2/\H p.1=none/\p.1≠X.env.locals/\p.1∉X.fs/\∀v,p.2.data≠.cell v):Inv X O6 σ H s:=
 ⟨I.ok,I.os,I.bare,I.base,I.loc,I.cell,I.free,I.kM,λp hp=>(Yv.mp hp).elim (λz=>I.pin p (Yt _ z)) (h p),I.aw,I.len⟩
theorem LH{N:List Str}(hN:N.Nodup){i j:Nat}{x:Str}(a:N[i]?=some x)(b:N[j]?=some x):i=j:=by
 obtain⟨h1,e1⟩:=Yi.mp a;obtain⟨h2,e2⟩:=Yi.mp b;exact(List.getElem_inj hN).mp (e1.trans e2.symm)
theorem YB{M:Model}{A:Around}{E:bb}{i:Nat}{x:Str}{v:V}{u:Value}{Q:Unit->Shared->Prop}(I:Inv X pins σ H s)(hN:X.N.Nodup)(hi:X.N[i]?=some x)(hx:Loc X.env.scope x)(r:RelV v u)
  (h:∀s',Inv X pins (σ.set i (some v)) H s'->(∃a,Heap.SameBut a s.heap s'.heap/\(a=X.env.locals\/X.env.cells.lookup x=some a))->Q () s')(hf:X.fn x=true\/X.env.scope.names.lookup x=some .local:=by first|exact .inl rfl|exact .inr rfl|assumption):wpAny M A (storeName X.env x u) Q E s:=by
 obtain⟨m,hn,hl⟩:=id I.loc;have Zd2:(X.env.scope.kind==.class||(X.env.scope.kind==.module&&X.env.locals !=X.env.globals))=false:=by rw[I.ok.kind];rfl
 have PV:i<σ.length:=by rw[I.len];exact(Yi.mp hi).1
 have su:=I.su;have tracked:∀{a:Addr} {h':Heap},(∃o,s.heap.get? a=some o/\H a=none)->Heap.SameBut a s.heap h'->c_ X.prog X.w H h':=λ{a h'} ha hs b ob e=>by
  obtain⟨_,_,O7⟩:=ha;refine(I.aw b ob e).jL (λc w' hc q=>(hs.2 c ?_).trans q) (λ_ q=>q) λ_ _ q=>q;rintro rfl;rcases hc with rfl|hc;·rw[O7] at e;cases e
  ·rw[O7] at hc;cases hc
 rcases hx with hk|hk
 ·refine wpAny_storeName_local hk hn (λh' uM hs=>?_) Zd2;obtain⟨oL,_,_,oQ,_⟩:=id hn;refine h _ ⟨I.ok,I.os,I.bare,⟨λb o e n hb hx=>?_,λb o e n hb hx=>?_,I.base.free,λb o e hx=>?_,I.base.jM,I.base.kQ,I.base.lT⟩,⟨_,uM,λj y v' e1 e2 e3=>?_⟩,λy c e=>?_,I.free,I.kM,λp hp=>?_,tracked ⟨oL,oQ,I.free⟩ hs,by simpa using I.len⟩ ⟨_,hs,.inl rfl⟩;·exact(hs.2 b (Yz (Y0 (Yx e) I.ok.above))).trans (I.base.keep b o e n hb hx)
  ·obtain⟨sl,e1⟩:=I.base.slot b o e n hb hx;exact⟨sl,(hs.2 b (Yz (Y0 (Yx e) I.ok.above))).trans e1⟩
  ·obtain⟨o',e1⟩:=I.base.there b o e hx;exact⟨o',(hs.2 b (Yz (Y0 (Yx e) I.ok.above))).trans e1⟩
  ·by_cases hj:j=i
   ·subst hj;rw[hi] at e1;cases e1;rw[List.getElem?_set_self PV] at e2;cases e2;exact⟨u,r,.inl ⟨hk,by simp⟩⟩
   ·rw[List.getElem?_set_ne (Ne.symm hj)] at e2;obtain⟨u',r',q⟩:=hl j y v' e1 e2 e3;refine⟨u',r',?_⟩;rcases q with⟨k,e⟩|⟨k,c,e,z⟩
    ·refine .inl ⟨k,?_⟩;have:y≠x:=λe=>hj (LH hN e1 (e▸hi));simp[this,e]
    ·exact .inr ⟨k,c,e,z.sameBut hs (su y c e)⟩
  ·obtain⟨w',z⟩:=I.cell y c e;exact⟨w',z.sameBut hs (su y c e)⟩
  ·obtain⟨e,n,ne,nf,d⟩:=I.pin p hp;exact⟨(hs.2 p.1 ne).trans e,n,ne,nf,d⟩
 ·have G3:X.fn x=true:=by
   rcases hf with z|z;·exact z
   ·rw[z] at hk;cases hk
  obtain⟨c,hc⟩:=I.ok.has x (.inl hk);obtain⟨w',z⟩:=I.cell x c hc;refine wpAny_storeName_cell I.ok.kind hk hc z (λh' qw hs=>?_);obtain⟨oc,Q5,Zd3⟩:=id z;refine h {s with heap:=h'} ⟨I.ok,I.os,I.bare,⟨λb o e n hb hx=>?_,λb o e n hb hx=>?_,I.base.free,λb o e hx=>?_,I.base.jM,I.base.kQ,I.base.lT⟩,⟨m,hn.sameBut hs (Ne.symm (su x c hc)),λj y v' e1 e2 e3=>?_⟩,λy c' e=>?_,I.free,I.kM,λp hp=>?_,tracked ⟨oc,Q5,I.kM x c hc⟩ hs,by simpa using I.len⟩ ⟨c,hs,.inr hc⟩;·exact(hs.2 b (Yz (Y0 (Yx e) (I.ok.xt x c G3 hc)))).trans (I.base.keep b o e n hb hx)
  ·obtain⟨sl,e1⟩:=I.base.slot b o e n hb hx;exact⟨sl,(hs.2 b (Yz (Y0 (Yx e) (I.ok.xt x c G3 hc)))).trans e1⟩
  ·obtain⟨o',e1⟩:=I.base.there b o e hx;exact⟨o',(hs.2 b (Yz (Y0 (Yx e) (I.ok.xt x c G3 hc)))).trans e1⟩
  ·by_cases hj:j=i
   ·subst hj;rw[hi] at e1;cases e1;rw[List.getElem?_set_self PV] at e2;cases e2;exact⟨u,r,.inr ⟨.inl hk,c,hc,qw⟩⟩
   ·rw[List.getElem?_set_ne (Ne.symm hj)] at e2;obtain⟨u',r',q⟩:=hl j y v' e1 e2 e3;refine⟨u',r',?_⟩;rcases q with q|⟨k,c',e,z'⟩;·exact .inl q
    ·refine .inr ⟨k,c',e,z'.sameBut hs ?_⟩;rintro rfl;exact hj (LH hN e1 (I.ok.inj _ _ _ e hc▸hi))
  ·by_cases Q6:c'=c;·subst Q6;exact⟨_,qw⟩
   ·obtain⟨w2,z2⟩:=I.cell y c' e;exact⟨w2,z2.sameBut hs Q6⟩
  ·obtain⟨e,n,ne,nf,d⟩:=I.pin p hp;refine⟨(hs.2 p.1 ?_).trans e,n,ne,nf,d⟩;intro q;rw[q,Q5] at e;have q':oc=p.2:=Ym e;exact d w' (by rw[←q'];exact Zd3)
theorem EB{M:Model}{A:Around}{E:bb}{i:Nat}{x:Str}{v:V}{u:Value}{Q:Unit->Shared->Prop}(I:Inv X pins σ H s)(hN:X.N.Nodup)(hi:X.N[i]?=some x)(hx:Loc X.env.scope x)(r:RelV v u)
  (h:∀s',Inv X pins (σ.set i (some v)) H s'->Q () s')(hf:X.fn x=true\/X.env.scope.names.lookup x=some .local:=by first|exact .inl rfl|exact .inr rfl|assumption):wpAny M A (storeName X.env x u) Q E s:=
 YB I hN hi hx r (λs' I' _=>h s' I') hf
theorem Inv.Zdi{s':Shared}{ch:List Addr}(I:Inv X pins σ H s)(ho:s'.os=s.os)(u:Un (eY X.stack) ch H H' s.heap s'.heap)(aw:c_ X.prog X.w H' s'.heap)(hg:AllBare s'.gens)
  (nv:∀b∈ch,(b∈X.ex\/X.cT.heap.objs.size<=b)/\b≠X.env.locals/\(∀x c,X.env.cells.lookup x=some c->c≠b)/\∀p∈X.pn++pins,p.1≠b):Inv X pins σ H' s':=by
 obtain⟨h',g',d',t',o'⟩:=s';have e:o'=s.os:=ho;subst e;exact I.call (g':=g') (t':=t') (d':=d') u aw hg nv
end
abbrev XK:=Value->Option Addr->Hp->Prop
abbrev St:=List (Option V)
abbrev VK:=V->Hp->Prop
abbrev TE:=St->Hp->VK->Prop
abbrev TT:=St->Hp->(Bool->Hp->Prop)->Prop
abbrev TA:=St->Hp->(List V->Hp->Prop)->Prop
structure Ends where
 nx:St->Hp->Prop
 rt:VK
 bk:St->Hp->Prop:=λ_ _=>False
 ct:St->Hp->Prop:=λ_ _=>False
abbrev TS:=Ends->St->Hp->Prop
inductive PX(X:Cx)(pins:aZ)(σ:St)(Q:VK)(u:Value)(s':Shared):Prop
 |mk (v H') (aE:Inv X pins σ H' s') (aU:RelV v u) (bc:Q v H'):PX X pins σ Q u s'
def EP(X:Cx)(pins:aZ)(σ:St)(Q:VK)(u:Value)(s':Shared):Prop:=PX X pins σ Q u s'
inductive PY(X:Cx)(pins:aZ)(σ:St)(R:Hp->Prop)(s':Shared):Prop
 |mk (H':Hp) (aE:Inv X pins σ H' s') (aU:R H'):PY X pins σ R s'
def TP(X:Cx)(pins:aZ)(σ:St)(Q:Bool->Hp->Prop)(b:Bool)(s':Shared):Prop:=PY X pins σ (Q b) s'
inductive PZ(X:Cx)(pins:aZ)(σ:St)(Q:List V->Hp->Prop)(us:List Value)(s':Shared):Prop
 |mk (vs H') (aE:Inv X pins σ H' s') (aU:Vals vs us) (bc:Q vs H'):PZ X pins σ Q us s'
def AP(X:Cx)(pins:aZ)(σ:St)(Q:List V->Hp->Prop)(us:List Value)(s':Shared):Prop:=PZ X pins σ Q us s'
inductive rT(X:Cx)(pins:aZ)(Q:St->Hp->Prop)(s':Shared):Prop
 |mk (aO:St) (H':Hp) (aE:Inv X pins aO H' s') (aU:Q aO H'):rT X pins Q s'
inductive P0(X:Cx)(pins:aZ)(Q:VK)(u:Value)(s':Shared):Prop
 |mk (v:V) (aO:St) (H':Hp) (aE:Inv X pins aO H' s') (aU:RelV v u) (bc:Q v H'):P0 X pins Q u s'
def SP(X:Cx)(pins:aZ)(D:Ends)(f:Flow)(s':Shared):Prop:=
 match f with
 |.next=>rT X pins D.nx s'
 |.brk=>rT X pins D.bk s'
 |.cont=>rT X pins D.ct s'
 |.ret u=>P0 X pins D.rt u s'
def PE(X:Cx)(e:Expr)(t:TE):Prop:=
 ∀(pins:aZ) (s:Shared) (σ:St) (H:Hp) (Q:VK),Inv X pins σ H s->t σ H Q->wpAny X.md X.A (eval e X.env) (EP X pins σ Q) X.xe s
def PT(X:Cx)(e:Expr)(t:TT):Prop:=
 ∀(pins:aZ) (s:Shared) (σ:St) (H:Hp) (Q:Bool->Hp->Prop),Inv X pins σ H s->t σ H Q->wpAny X.md X.A (isTrue e X.env (eval e X.env)) (TP X pins σ Q) X.xe s
def PW(X:Cx)(e:Expr)(t:TT):Prop:=
 ∀(whole:Sem Value) (pins:aZ) (s:Shared) (σ:St) (H:Hp) (Q:Bool->Hp->Prop),Inv X pins σ H s->t σ H Q->wpAny X.md X.A (isTrue e X.env whole) (TP X pins σ Q) X.xe s
theorem PW.pt{X:Cx}{e:Expr}{t:TT}(h:PW X e t):PT X e t:=h _
def PA(X:Cx)(es:List Expr)(t:TA):Prop:=
 ∀(pos:Pos) (pins:aZ) (s:Shared) (σ:St) (H:Hp) (Q:List V->Hp->Prop),Inv X pins σ H s->t σ H Q->wpAny X.md X.A (spliced (backTo pos (starEach es X.env))) (AP X pins σ Q) X.xe s
def PS(X:Cx)(st:Stmt)(t:TS):Prop:=
 ∀(pins:aZ) (s:Shared) (σ:St) (H:Hp) (D:Ends),Inv X pins σ H s->t D σ H->wpAny X.md X.A (exec st X.env) (SP X pins D) X.xe s
def gv(X:Cx)(st:List Stmt)(t:TS):Prop:=
 ∀(pins:aZ) (s:Shared) (σ:St) (H:Hp) (D:Ends),Inv X pins σ H s->t D σ H->wpAny X.md X.A (execs st X.env) (SP X pins D) X.xe s
theorem aB{α:Type}{t:Sem α}{Q Q':α->Shared->Prop}{M:Model}{A:Around}{E:bb}{s:Shared}(h:wpAny M A t Q E s)(hQ:∀a s,Q a s->Q' a s):wpAny M A t Q' E s:=wpAny_mono h hQ λ_ _ x=>x
section
variable {X:Cx}
inductive NT(i:Nat)(σ:St)(H:Hp)(Q:VK):Prop
 |mk (v) (aE:σ[i]?=some (some v)) (aU:Q v H):NT i σ H Q
def gn(i:Nat):TE:=λσ H Q=>NT i σ H Q
def tC(v:V):TE:=λ_ H Q=>Q v H
theorem ZbW{i:Nat}{x:Str}{pos:Pos}(hN:X.N[i]?=some x)(hv:uJ X.env.scope x)(hd:(x==("__debug__":Str))=false:=by decide)(i6:(x==("__classdict__":Str))=false:=by decide):PE X (.Name x pos) (gn i):=by
 rintro pins s σ H Q I ⟨v,e,h⟩;obtain⟨m,hn,hl⟩:=I.loc;obtain⟨u,r,l⟩:=hl i x v hN e hv;have fin:EP X pins σ Q u s:=⟨v,H,I,r,h⟩;rcases l with⟨hk,hm⟩|⟨hk,c,hc,zV⟩;·exact wpAny_Name (wpAny_loadName_local I.ok.kind hk hn hm fin) hd
 ·rcases hk with hk|hk;·exact wpAny_Name (wpAny_loadName_cell I.ok.kind hk hc zV fin) hd
  ·exact wpAny_Name (wpAny_loadName_free I.ok.kind hk hc zV fin i6) hd
theorem aF{i j pos}:PE X (.Constant (.int i) j pos) (tC (.int i)):=λ_ _ _ H _ I h=>wpAny_Constant_int ⟨.int i,H,I.tok _,⟨_,rfl⟩,h⟩
theorem ib{b j pos}:PE X (.Constant (.bool b) j pos) (tC (.bl b)):=λ_ _ _ H _ I h=>Constant_bool ⟨.bl b,H,I,rfl,h⟩
theorem lL{j pos}:PE X (.Constant .none j pos) (tC .az):=λ_ _ _ H _ I h=>Constant_none ⟨.az,H,I,rfl,h⟩
theorem bu{x j pos}:PE X (.Constant (.str x) j pos) (tC (.str x)):=λ_ _ _ H _ I h=>Calls.Constant_str ⟨.str x,H,I.tok _,⟨_,rfl⟩,h⟩
def Gl(X:Cx)(x:Str):Prop:=X.env.kindOf x=some .globalImplicit
theorem EW{E:bb}{pins:aZ}{s:Shared}{σ:St}{H:Hp}{x:Str}{u:Value}{pos:Pos}{Q:bb}(I:Inv X pins σ H s)(hg:Gl X x)(hm:X.mg x=some u)(h:Q u s)
  (hd:(x==("__debug__":Str))=false:=by decide):wpAny X.md X.A (eval (.Name x pos) X.env) Q E s:=
 Calls.Name_function_global I.ok.kind hg (Calls.loadGlobal_global (by rw[I.ok.glob];exact I.mod.glob.keeps I.bk) hm h) hd
theorem zI{E:bb}{pins:aZ}{s:Shared}{σ:St}{H:Hp}{x:Str}{u:Value}{pos:Pos}{Q:bb}(I:Inv X pins σ H s)(hg:Gl X x)(hm:X.mg x=none)(hv:bootBuiltins x=some u)(h:Q u s)
  (hn:x≠"__name__":=by decide)(hd:(x==("__debug__":Str))=false:=by decide):wpAny X.md X.A (eval (.Name x pos) X.env) Q E s:=by
 obtain⟨mb,h1,h2⟩:=I.mod.blt;exact Calls.Name_function_global I.ok.kind hg (Calls.loadGlobal_builtin (by rw[I.ok.glob];exact I.mod.glob.keeps I.bk) hm (by rw[I.ok.blt];exact h1.keeps I.bk) ((h2 x hn).trans hv) h) hd
theorem du{x:Str}{v:V}{u:Value}{pos:Pos}(hg:Gl X x)(hm:X.mg x=some u)(r:RelV v u)(hd:(x==("__debug__":Str))=false:=by decide):PE X (.Name x pos) (tC v):=
 λ_ _ _ H _ I h=>EW I hg hm ⟨v,H,I,r,h⟩ hd
theorem ZaI{x:Str}{v:V}{u:Value}{pos:Pos}(hg:Gl X x)(hm:X.mg x=none)(hv:bootBuiltins x=some u)(r:RelV v u)(hn:x≠"__name__":=by decide)(hd:(x==("__debug__":Str))=false:=by decide):PE X (.Name x pos) (tC v):=
 λ_ _ _ H _ I h=>zI I hg hm hv ⟨v,H,I,r,h⟩ hn hd
variable {a b:Expr}{ta tb:TE}{pos:Pos}
def PC(X:Cx)(op:CmpOp)(a b:Expr)(t:TE):Prop:=
 ∀(pins:aZ) (s:Shared) (σ:St) (H:Hp) (Q:VK),Inv X pins σ H s->t σ H Q->
  wpAny X.md X.A (eval a X.env) (λv bG=>wpAny X.md X.A (eval b X.env) (λu d_=>wpAny X.md X.A (compareOp op v u) (EP X pins σ Q) X.xe d_) X.xe bG) X.xe s
inductive P1(Q:Bool->Hp->Prop)(x:V)(H1:Hp):Prop
 |mk (c) (aE:x=.bl c) (aU:Q c H1):P1 Q x H1
def tB(t:TE):TT:=λσ H Q=>t σ H λx H1=>P1 Q x H1
theorem ZbX{op:CmpOp}{t:TE}(h:PC X op a b t)(h1:behindInMarks op b=false:=by first|exact Zx _ (by decide) (by decide)|rfl):PE X (.Compare a [op] [b] pos) t:=λpins s σ H Q I hw=>wpAny_Compare1 (h pins s σ H Q I hw) h1
theorem jH{op:CmpOp}{t:TE}(h:PC X op a b t)(h1:behindInMarks op b=false:=by first|exact Zx _ (by decide) (by decide)|rfl):PT X (.Compare a [op] [b] pos) (tB t):=by
 intro pins s σ H Q I hw;refine wpAny_isTrue_Compare1 (aB (h pins s σ H _ I hw) λv s1 h1=>aB h1 λu s2 h2=>aB h2 λc s3 zq=>?_) h1;obtain⟨x,H1,I1,r1,q1⟩:=zq;obtain⟨d,rfl,q⟩:=q1;cases r1;exact wpAny_truthy_bool ⟨H1,I1,q⟩
theorem d9{e:Expr}{t:TE}(h:PE X e t)(he:∀whole,isTrue e X.env whole=(do let v←whole;standAt e.pos;holding [v] (truthy v)):=by intro _;rfl):PT X e (tB t):=by
 intro pins s σ H Q I hw;refine isTrue_plain (aB (h pins s σ H _ I hw) λv s1 zq=>?_) (he _);obtain⟨x,H1,I1,r1,q1⟩:=zq;obtain⟨d,rfl,q⟩:=q1;cases r1;exact wpAny_truthy_bool ⟨H1,I1,q⟩
variable {tA AQ:TT}{rest:List Expr}
def P2(t u:TT):TT:=λσ H Q=>t σ H λc H1=>if c=true then u σ H1 Q else Q false H1
def Q7(t u:TT):TT:=λσ H Q=>t σ H λc H1=>if c=true then Q true H1 else u σ H1 Q
def Zd4(t:TT):TT:=λσ H Q=>t σ H λc H1=>Q (!c) H1
theorem pw_and1(ha:PT X a tA):PW X (.BoolOp .And [a] pos) tA:=by
 intro wh pins s σ H Q I h;refine isTrue_and (aB (ha pins s σ H Q I h) λc s1 e=>?_);cases c with
 |true=>exact isTrue_and_nil e
 |false=>exact e
theorem pw_or1(ha:PT X a tA):PW X (.BoolOp .Or [a] pos) tA:=by
 intro wh pins s σ H Q I h;refine isTrue_or (aB (ha pins s σ H Q I h) λc s1 e=>?_);cases c with
 |false=>exact isTrue_or_nil e
 |true=>exact e
theorem pw_and(ha:PT X a tA)(hb:PW X (.BoolOp .And (b::rest) pos) AQ):PW X (.BoolOp .And (a::b::rest) pos) (P2 tA AQ):=by
 intro wh pins s σ H Q I h;refine isTrue_and (aB (ha pins s σ H _ I h) λc s1 zq=>?_);obtain⟨H1,I1,q1⟩:=zq;cases c with
 |true=>exact hb wh pins s1 σ H1 Q I1 q1
 |false=>exact⟨H1,I1,q1⟩
theorem pw_or(ha:PT X a tA)(hb:PW X (.BoolOp .Or (b::rest) pos) AQ):PW X (.BoolOp .Or (a::b::rest) pos) (Q7 tA AQ):=by
 intro wh pins s σ H Q I h;refine isTrue_or (aB (ha pins s σ H _ I h) λc s1 zq=>?_);obtain⟨H1,I1,q1⟩:=zq;cases c with
 |true=>exact⟨H1,I1,q1⟩
 |false=>exact hb wh pins s1 σ H1 Q I1 q1
theorem hX(ha:PT X a tA):PT X (.UnaryOp .Not a pos) (Zd4 tA):=by
 intro pins s σ H Q I h;exact isTrue_not (ha pins s σ H (λc H1=>Q (!c) H1) I h)
def O8(ta tb:TE):TE:=λσ H Q=>ta σ H λx H1=>∃c,x=.bl c/\if c=true then tb σ H1 Q else Q (.bl false) H1
def P4(ta tb:TE):TE:=λσ H Q=>ta σ H λx H1=>∃c,x=.bl c/\if c=true then Q (.bl true) H1 else tb σ H1 Q
def Zdj(ta:TE):TE:=λσ H Q=>ta σ H λx H1=>∃c,x=.bl c/\Q (.bl (!c)) H1
theorem lM{op}{t:TE}(h:PE X a t):PE X (.BoolOp op [a] pos) t:=λpins s σ H Q I hw=>BoolOp_one (h pins s σ H Q I hw)
theorem oy(ha:PE X a ta)(hb:PE X (.BoolOp .And (b::rest) pos) tb):PE X (.BoolOp .And (a::b::rest) pos) (O8 ta tb):=by
 intro pins s σ H Q I h;refine BoolOp_and (aB (ha pins s σ H _ I h) λv s1 zq=>?_);obtain⟨x,H1,I1,r1,q1⟩:=zq;obtain⟨c,rfl,q1⟩:=q1;cases r1;refine wpAny_truthy_bool ?_;cases c with
 |true=>exact hb pins s1 σ H1 Q I1 q1
 |false=>exact⟨.bl false,H1,I1,rfl,q1⟩
theorem FK(ha:PE X a ta)(hb:PE X (.BoolOp .Or (b::rest) pos) tb):PE X (.BoolOp .Or (a::b::rest) pos) (P4 ta tb):=by
 intro pins s σ H Q I h;refine BoolOp_or (aB (ha pins s σ H _ I h) λv s1 zq=>?_);obtain⟨x,H1,I1,r1,q1⟩:=zq;obtain⟨c,rfl,q1⟩:=q1;cases r1;refine wpAny_truthy_bool ?_;cases c with
 |false=>exact hb pins s1 σ H1 Q I1 q1
 |true=>exact⟨.bl true,H1,I1,rfl,q1⟩
theorem ZbY(ha:PE X a ta):PE X (.UnaryOp .Not a pos) (Zdj ta):=by
 intro pins s σ H Q I h;refine UnaryOp_ (aB (ha pins s σ H _ I h) λv s1 zq=>?_);obtain⟨x,H1,I1,r1,q1⟩:=zq;obtain⟨c,rfl,q1⟩:=q1;cases r1;exact not_of (wpAny_truthy_bool ⟨.bl (!c),H1,I1,rfl,q1⟩)
end
def ak(K:ai)(H:Hp)(a:Addr)(xs:List V):Prop:=
 Rd H a (.lst xs)\/
  ∃(o:Obj) (ah:Array Value) (n:Nat),K.lookup a=some o/\o.cls=.type "list"/\o.dict=none/\o.data=.seq ah n/\ah.size<=sizeLine/\Vals xs ah.toList
def aA(K:ai)(H:Hp)(a:Addr)(xs:List V):Prop:=
 Rd H a (.tup xs)\/
  ∃(o:Obj) (ah:Array Value) (n:Nat),K.lookup a=some o/\o.cls=.type "tuple"/\o.data=.seq ah n/\ah.size<=sizeLine/\Vals xs ah.toList
def Zd5:Value->Option V
 |.none=>some .az
 |.bool b=>some (.bl b)
 |.int i _=>some (.int i)
 |.str x _=>some (.str x)
 |.bytes b _=>some (.js b)
 |.float b _=>some (.sh b)
 |.ref a=>some (.ref a)
 |.type n=>some (.ty n)
 |_=>none
theorem RelV.abs{x:V}{u:Value}(r:RelV x u):Zd5 u=some x:=by
 cases x with
 |az=>cases r;rfl
 |bl _=>cases r;rfl
 |int _=>obtain⟨t,rfl⟩:=r;rfl
 |str _=>obtain⟨t,rfl⟩:=r;rfl
 |js _=>obtain⟨t,rfl⟩:=r;rfl
 |sh _=>obtain⟨t,rfl⟩:=r;rfl
 |ref _=>cases r;rfl
 |ty _=>cases r;rfl
theorem RelV.inj{x y:V}{u:Value}(r:RelV x u)(q:RelV y u):x=y:=Ym (r.abs.symm.trans q.abs)
theorem Vals.inj:∀{xs ys:List V} {us:List Value},Vals xs us->Vals ys us->xs=ys:=by
 intro xs ys us h;induction h generalizing ys with
 |nil=>intro h';cases h';rfl
 |cons r t ih=>
  intro h';cases h' with
  |cons r' t'=>rw[r.inj r',ih t']
section
variable {X:Cx}{pins:aZ}{σ:St}{H:Hp}{s:Shared}{a:Addr}{xs ys:List V}
theorem ak.of{K:ai}(h:H a=some (.lst xs)):ak K H a xs:=.inl (.inl h)
theorem aA.of{K:ai}(h:H a=some (.tup xs)):aA K H a xs:=.inl (.inl h)
theorem Inv.list(I:Inv X pins σ H s)(h:ak X.K H a xs):∃ah:List Value,Vals xs ah/\PlainL s.heap a ah.toArray/\xs.length<=sizeLine:=by
 rcases h with h|⟨o,ah,n,hk,hc,hd,hs,hz,r⟩
 ·obtain⟨z,ah,n,r,e⟩:=h.ok I.aw;exact⟨ah,r,⟨_,n,e,rfl,rfl,rfl⟩,z⟩
 ·refine⟨ah.toList,r,⟨o,n,I.dE a o hk,hc,hd,by simpa using hs⟩,?_⟩;have e:=r.length
  grind
theorem Inv.tuple(I:Inv X pins σ H s)(h:aA X.K H a xs):∃ah:List Value,Vals xs ah/\IsTup s.heap a ah.toArray/\xs.length<=sizeLine:=by
 rcases h with h|⟨o,ah,n,hk,hc,hs,hz,r⟩
 ·obtain⟨z,ah,r,p⟩:=h.ok I.aw;exact⟨ah,r,p.tup,z⟩
 ·refine⟨ah.toList,r,⟨o,I.dE a o hk,hc,n,by simpa using hs⟩,?_⟩;have e:=r.length
  grind
theorem Inv.Zy(I:Inv X pins σ H s)(h:ak X.K H a xs)(h':ak X.K H a ys):xs=ys:=by
 obtain⟨ah,r,⟨o,n,e,_,_,d⟩,_⟩:=I.list h;obtain⟨its',r',⟨o',n',e',_,_,d'⟩,_⟩:=I.list h';rw[e] at e';cases e';rw[d] at d';injection d' with d1 _;have:ah=its':=by simpa using congrArg Array.toList d1
 subst this;exact r.inj r'
theorem Inv.YC(I:Inv X pins σ H s)(h:aA X.K H a xs)(h':aA X.K H a ys):xs=ys:=by
 obtain⟨ah,r,⟨o,e,_,n,d⟩,_⟩:=I.tuple h;obtain⟨its',r',⟨o',e',_,n',d'⟩,_⟩:=I.tuple h';rw[e] at e';cases e';rw[d] at d';injection d' with d1 _;have:ah=its':=by simpa using congrArg Array.toList d1
 subst this;exact r.inj r'
end
abbrev Cx.mZ(X:Cx)(E:bb):Cx:={X with xe:=E}
abbrev Cx.xv(X:Cx):Cx:=X.mZ λ_ _=>False
theorem Cx.Ok.mZ{X:Cx}(ok:X.Ok)(E:bb):(X.mZ E).Ok:=
 ⟨ok.mod,ok.kind,ok.glob,ok.blt,ok.above,ok.inj,ok.has,ok.xt,ok.hd,ok.frames,ok.AK,ok.uK,ok.bs,ok.nj,ok.wV,ok.ux,ok.jN,ok.oP⟩
theorem Cx.Ok.pZ{X:Cx}{E:bb}(ok:(X.mZ E).Ok):X.Ok:=
 ⟨ok.mod,ok.kind,ok.glob,ok.blt,ok.above,ok.inj,ok.has,ok.xt,ok.hd,ok.frames,ok.AK,ok.uK,ok.bs,ok.nj,ok.wV,ok.ux,ok.jN,ok.oP⟩
section
variable {X:Cx}{pins:aZ}{σ:St}{H:Hp}{s:Shared}{E:bb}
theorem Inv.mZ(I:Inv X pins σ H s)(E:bb):Inv (X.mZ E) pins σ H s:=⟨I.ok.mZ E,I.os,I.bare,I.base,I.loc,I.cell,I.free,I.kM,I.pin,I.aw,I.len⟩
theorem Inv.pZ(I:Inv (X.mZ E) pins σ H s):Inv X pins σ H s:=⟨I.ok.pZ,I.os,I.bare,I.base,I.loc,I.cell,I.free,I.kM,I.pin,I.aw,I.len⟩
theorem SP.pZ{D:Ends}{f:Flow}{s':Shared}(h:SP (X.mZ E) pins D f s'):SP X pins D f s':=by
 cases f with
 |next=>obtain⟨aO,H',I,q⟩:=h;exact⟨aO,H',I.pZ,q⟩
 |brk=>obtain⟨aO,H',I,q⟩:=h;exact⟨aO,H',I.pZ,q⟩
 |cont=>obtain⟨aO,H',I,q⟩:=h;exact⟨aO,H',I.pZ,q⟩
 |ret u=>obtain⟨v,aO,H',I,r,q⟩:=h;exact⟨v,aO,H',I.pZ,r,q⟩
theorem gv.xv{st:List Stmt}{t:TS}(h:gv X.xv st t):gv X st t:=λpins s σ H D I hw=>
 wpAny_mono (h pins s σ H D (I.mZ _) hw) (λ_ _ q=>q.pZ) λ_ _ z=>False.elim z
end
section
variable {X:Cx}{st:Stmt}{rest:List Stmt}{t u:TS}{e:Expr}{te:TE}{pos:Pos}
def O9:TS:=λD σ H=>D.nx σ H
def wW(t u:TS):TS:=λD σ H=>t {D with nx:=u D} σ H
theorem aY:gv X [] O9:=λ_ _ σ H _ I h=>wpAny_execs_nil ⟨σ,H,I,h⟩
theorem aq(h1:PS X st t)(h2:gv X rest u):gv X (st::rest) (wW t u):=by
 intro pins s σ H D I h;refine wpAny_execs_cons (aB (h1 pins s σ H {D with nx:=u D} I h) λf s1 q=>?_);cases f with
 |next=>
  obtain⟨aO,H',I',q⟩:=q;exact h2 pins s1 aO H' D I' q
 |ret v=>exact q
 |brk=>exact q
 |cont=>exact q
theorem au(h1:PS X st t):gv X [st] t:=by
 intro pins s σ H D I h;refine wpAny_execs_cons (aB (h1 pins s σ H D I h) λf s1 q=>?_);cases f with
 |next=>exact wpAny_execs_nil q
 |ret v=>exact q
 |brk=>exact q
 |cont=>exact q
theorem Inv.quiet{pins:aZ}{σ:St}{H:Hp}{s:Shared}(I:Inv X pins σ H s):interactive X.env=false:=by simp[interactive,I.ok.kind]
def Zdk(te:TE):TS:=λD σ H=>te σ H λ_ H1=>D.nx σ H1
theorem bZ(he:PE X e te)(hs:swapsWith e none pos.line X.env=pure false:=by rfl):PS X (.Expr e pos) (Zdk te):=by
 intro pins s σ H D I h;exact wpAny_Expr_any (aB (he pins s σ H _ I h) λv s1 ⟨x,H1,I1,r1,q1⟩=>⟨σ,H1,I1,q1⟩) I.quiet hs
def Zd6(te:TE):TS:=λD σ H=>te σ H D.rt
theorem aG(he:PE X e te):PS X (.Return (some e) pos) (Zd6 te):=by
 intro pins s σ H D I h;exact wpAny_Return_some (aB (he pins s σ H _ I h) λv s1 ⟨x,H1,I1,r1,q1⟩=>⟨x,σ,H1,I1,r1,q1⟩)
def F7(c:TT)(t u:TS):TS:=λD σ H=>c σ H λb H1=>if b=true then t D σ H1 else u D σ H1
theorem aR{c:Expr}{a b:List Stmt}{tc:TT}(hc:PT X c tc)(ha:gv X a t)(hb:gv X b u):PS X (.If c a b pos) (F7 tc t u):=by
 intro pins s σ H D I h;refine wpAny_If (aB (hc pins s σ H _ I h) λd s1 zq=>?_);obtain⟨H1,I1,q1⟩:=zq;cases d with
 |true=>exact ha pins s1 σ H1 D I1 q1
 |false=>exact hb pins s1 σ H1 D I1 q1
def ZbZ:TS:=λ_ _ _=>False
theorem fG{sts:List Stmt}:gv X sts ZbZ:=λ_ _ _ _ _ _ h=>h.elim
end
abbrev TG:=V->St->Hp->(St->Hp->Prop)->Prop
abbrev ny:=List V->St->Hp->(St->Hp->Prop)->Prop
def PG(X:Cx)(target:Expr)(t:TG):Prop:=
 ∀(pins:aZ) (s:Shared) (σ:St) (H:Hp) (v:V) (u:Value) (Q:St->Hp->Prop),Inv X pins σ H s->RelV v u->t v σ H Q->
  wpAny X.md X.A (assign target X.env u) (λ_ s'=>rT X pins Q s') X.xe s
def xw(X:Cx)(ts:List Expr)(t:ny):Prop:=
 ∀(pins:aZ) (s:Shared) (σ:St) (H:Hp) (vs:List V) (us:List Value) (Q:St->Hp->Prop),Inv X pins σ H s->Vals vs us->t vs σ H Q->
  wpAny X.md X.A (assignInOrder ((assignEach ts X.env).map (·.2)) us) (λ_ s'=>rT X pins Q s') X.xe s
abbrev F8:=V->V->V->Hp->(Hp->Prop)->Prop
def rU(X:Cx)(t:F8):Prop:=
 ∀(pins:aZ) (s:Shared) (σ:St) (H:Hp) (o i v:V) (ov iv u:Value) (Q:Hp->Prop),Inv X pins σ H s->RelV o ov->RelV i iv->RelV v u->t o i v H Q->
  wpAny X.md X.A (setItem ov iv u) (λ_ s'=>∃H',Inv X pins σ H' s'/\Q H') X.xe s
abbrev AR:=V->V->Hp->VK->Prop
def Q8(X:Cx)(op:Operator)(t:AR):Prop:=
 ∀(pins:aZ) (s:Shared) (σ:St) (H:Hp) (x y:V) (v u:Value) (Q:VK),Inv X pins σ H s->RelV x v->RelV y u->t x y H Q->
  wpAny X.md X.A (inplaceOp op v u) (EP X pins σ Q) X.xe s
section
variable {X:Cx}{pos:Pos}
def rH(i:Nat):TG:=λv σ H Q=>Q (σ.set i (some v)) H
theorem pU{i:Nat}{x:Str}(hN:X.N.Nodup)(hi:X.N[i]?=some x)(hx:Loc X.env.scope x)(hf:X.fn x=true\/X.env.scope.names.lookup x=some .local:=by first|exact .inl rfl|exact .inr rfl|assumption):PG X (.Name x pos) (rH i):=by
 intro pins s σ H v u Q I r h;exact wpAny_assign_Name (EB I hN hi hx r (λs' I'=>⟨_,H,I',h⟩) hf)
def Zd7:ny:=λvs σ H Q=>vs=[]/\Q σ H
inductive MI(t:TG)(u:ny)(vs:List V)(σ:St)(H:Hp)(Q:St->Hp->Prop):Prop
 |mk (v r) (aE:vs=v::r) (aU:t v σ H λaO H'=>u r aO H' Q):MI t u vs σ H Q
def Zdl(t:TG)(u:ny):ny:=λvs σ H Q=>MI t u vs σ H Q
theorem iM:xw X [] Zd7:=by
 rintro pins s σ H vs us Q I r ⟨e,h⟩;subst e;exact assignInOrder_nil ⟨σ,H,I,h⟩
theorem bQ{e:Expr}{es:List Expr}{t:TG}{u:ny}(h1:PG X e t)(h2:xw X es u)
  (hs:(assignEach (e::es) X.env).map (·.2)=assign e X.env::(assignEach es X.env).map (·.2):=by rfl):xw X (e::es) (Zdl t u):=by
 rintro pins s σ H vs us Q I r ⟨v,vr,e1,h⟩;subst e1;cases r with
 |cons r rr=>
  rw[hs];exact assignInOrder_cons (aB (h1 pins s σ H _ _ _ I r h) λ_ s1 ⟨uN,H1,I1,q1⟩=>h2 pins s1 uN H1 _ _ Q I1 rr q1)
inductive NU(K:ai)(n:Nat)(t:ny)(v:V)(σ:St)(H:Hp)(Q:St->Hp->Prop):Prop
 |mk (a xs) (aE:v=.ref a) (aU:aA K H a xs) (bc:xs.length=n) (bL:t xs σ H Q):NU K n t v σ H Q
def P5(K:ai)(n:Nat)(t:ny):TG:=λv σ H Q=>NU K n t v σ H Q
theorem Zb0{es:List Expr}{k:Nat}{t:ny}{n:Nat}(hc:X.calm=true)(h:xw X es t)
  (hn:(assignEach es X.env).length=n:=by rfl)(dZ:(assignEach es X.env).findIdx? (·.1)=none:=by rfl):PG X (.Tuple es k pos) (P5 X.K n t):=by
 rintro pins s σ H v u Q I r ⟨a,xs,e1,hq,hl,hw⟩;subst e1;cases r;obtain⟨ah,rv,ht,hz⟩:=I.tuple hq;exact assign_Tuple_tuple (I.ok.hd hc) ht (by simp[hn,←hl,rv.length]) dZ λh' hx=>h pins _ σ H xs _ Q (I.kept λb o e=>hx b o (Yz (Yx e)) e) (by simpa using rv) hw
def P6(to ti:TE)(t:F8):TG:=λv σ H Q=>to σ H λo H1=>ti σ H1 λi H2=>t o i v H2 λH3=>Q σ H3
theorem Zb1{o i:Expr}{to ti:TE}{t:F8}(ho:PE X o to)(hi:PE X i ti)(hs:rU X t)
  (ha:∀v,assign (.Subscript o i pos) X.env v=(do
   let ov←holding [v] (eval o X.env);let iv←holding [v,ov] (eval i X.env)
   standAt pos
   holding [v,ov,iv] (setItem ov iv v)
   release [v,ov,iv] []):=by intro _;rfl):PG X (.Subscript o i pos) (P6 to ti t):=by
 intro pins s σ H v u Q I r h;exact wpAny_bind (wpAny_holding (aB (ho pins s σ H _ I h) λov s1 ⟨x,H1,I1,r1,q1⟩=>wpAny_bind (wpAny_holding (aB (hi pins s1 σ H1 _ I1 q1) λiv s2 ⟨y,H2,I2,r2,q2⟩=>wpAny_bind (wpAny_standAt (wpAny_bind (wpAny_holding (aB (hs pins s2 σ H2 x y v ov iv u _ I2 r1 r2 r q2) λ_ s3 ⟨H3,I3,q3⟩=>wpAny_release ⟨σ,H3,I3,q3⟩))))))))
def uy(te:TE)(g:TG):TS:=λD σ H=>te σ H λx H1=>g x σ H1 D.nx
theorem mP{tg e:Expr}{te:TE}{g:TG}(he:PE X e te)(hg:PG X tg g)(hs:swapsWithSole [tg] e pos.line X.env=pure false:=by rfl)(hw:swappedStores [tg] e X.env=pure none:=by rfl)
  (h1:(assignEach [tg] X.env).map (·.2)=[assign tg X.env]:=by rfl):PS X (.Assign [tg] e pos) (uy te g):=by
 intro pins s σ H D I h;refine wpAny_Assign_stores (aB (he pins s σ H _ I h) λv s1 zq=>?_) hs hw;obtain⟨x,H1,I1,r1,q1⟩:=zq;rw[h1];exact aB (hg pins s1 σ H1 x v _ I1 r1 q1) λ_ s2 q=>q
theorem f_{i:Nat}{x:Str}{e:Expr}{te:TE}{pos':Pos}(hN:X.N.Nodup)(hi:X.N[i]?=some x)(hx:Loc X.env.scope x)(he:PE X e te)(hs:swapsWith e (some (.Name x pos')) pos.line X.env=pure false:=by rfl)(hf:X.fn x=true\/X.env.scope.names.lookup x=some .local:=by first|exact .inl rfl|exact .inr rfl|assumption):
  PS X (.Assign [.Name x pos'] e pos) (uy te (rH i)):=by
 intro pins s σ H D I h;refine wpAny_Assign_Name (aB (he pins s σ H _ I h) λv s1 zq=>?_) hs;obtain⟨y,H1,I1,r1,q1⟩:=zq;exact EB I1 hN hi hx r1 (λs2 I2=>⟨_,H1,I2,q1⟩) hf
def Zd8(i:Nat)(te:TE)(ti:AR):TS:=λD σ H=>∃x,σ[i]?=some (some x)/\te σ H λy H1=>ti x y H1 λz H2=>D.nx (σ.set i (some z)) H2
theorem NV{i:Nat}{x:Str}{e:Expr}{te:TE}{op:Operator}{ti:AR}{pos':Pos}(hN:X.N.Nodup)(hi:X.N[i]?=some x)(hx:Loc X.env.scope x)(he:PE X e te)(ho:Q8 X op ti)(hf:X.fn x=true\/X.env.scope.names.lookup x=some .local:=by first|exact .inl rfl|exact .inr rfl|assumption):
  PS X (.AugAssign (.Name x pos') op e pos) (Zd8 i te ti):=by
 rintro pins s σ H D I ⟨v,e1,h⟩;obtain⟨m,hn,hl⟩:=I.loc;have G4:uJ X.env.scope x:=by rcases hx with k|k;exact .inl k;exact .inr (.inl k)
 obtain⟨u,r,l⟩:=hl i x v hi e1 G4;refine wpAny_AugAssign_Name ?_;have go:wpAny X.md X.A (eval e X.env) (λw d_=>wpAny X.md X.A (inplaceOp op u w) (λr dX=>wpAny X.md X.A (storeName X.env x r) (λ_=>SP X pins D .next) X.xe dX) X.xe d_) X.xe s:=aB (he pins s σ H _ I h) λw s1 ⟨y,H1,I1,r1,q1⟩=>aB (ho pins s1 σ H1 v y u w _ I1 r r1 q1) λz s2 ⟨zv,H2,I2,r2,q2⟩=>EB I2 hN hi hx r2 (λs3 I3=>⟨_,H2,I3,q2⟩) hf;rcases l with⟨hk,hm⟩|⟨hk,c,hc,zV⟩;·exact wpAny_loadName_local I.ok.kind hk hn hm go
 ·rcases hk with hk|hk;·exact wpAny_loadName_cell I.ok.kind hk hc zV go
  ·rcases hx with k|k
   ·have:X.env.scope.names.lookup x=some .free:=hk
    grind
   ·have:X.env.scope.names.lookup x=some .free:=hk
    grind
inductive O_(f:Int->Int->Int)(x:V)(y:V)(H:Hp)(Q:VK):Prop
 |mk (i j) (aE:x=.int i) (aU:y=.int j) (bc:Q (.int (f i j)) H):O_ f x y H Q
def ipI(f:Int->Int->Int):AR:=λx y H Q=>O_ f x y H Q
theorem NW:Q8 X .Add (ipI λi j=>i+j):=by
 rintro pins s σ H x y v u Q I r1 r2 ⟨i,j,e1,e2,q⟩;subst e1;subst e2;obtain⟨t,rfl⟩:=r1;obtain⟨t',rfl⟩:=r2;exact iadd_int ⟨.int _,H,I.tok _,⟨_,rfl⟩,q⟩
end
section
variable {X:Cx}{pos:Pos}
def NX(c:TT)(tb:TS):TS:=λD σ H=>∃W:Nat->St->Hp->Prop,(∃m,W m σ H)/\∀m σ H,W m σ H->
 c σ H λb H1=>if b=true then ∃N:St->Hp->Prop,(∀aO H',N aO H'->∃m',m'<m/\W m' aO H')/\tb {D with nx:=N,ct:=N,bk:=D.nx} σ H1 else D.nx σ H1
theorem EC{c:Expr}{body:List Stmt}{tc:TT}{tb:TS}(hp:PassesOwn X.md X.A X.env X.xe)(hc:PT X c tc)(hb:gv X body tb):PS X (.While c body [] pos) (NX tc tb):=by
 intro pins s σ H D I h;obtain⟨W,⟨m0,w0⟩,turn⟩:=h;refine wpAny_While (codeAny_whileLoop (λn s'=>rT X pins (W n) s') ?_ m0 ⟨σ,H,I,w0⟩);rintro n s1 ⟨uN,H1,I1,w1⟩;refine wpAny_passesOwn hp (aB (hc pins s1 uN H1 _ I1 (turn n uN H1 w1)) λb s2 zq=>?_);obtain⟨H2,I2,q2⟩:=zq;cases b with
 |true=>
  obtain⟨N,hN,q2⟩:=q2;rw[if_pos rfl];refine wpAny_passesOwn hp (aB (hb pins s2 uN H2 _ I2 q2) λf s3 q3=>?_);cases f with
  |next=>
   obtain⟨cK,H3,I3,n3⟩:=q3;obtain⟨m',hm,w3⟩:=hN cK H3 n3;exact⟨m',hm,cK,H3,I3,w3⟩
  |cont=>
   obtain⟨cK,H3,I3,n3⟩:=q3;obtain⟨m',hm,w3⟩:=hN cK H3 n3;exact⟨m',hm,cK,H3,I3,w3⟩
  |brk=>exact q3
  |ret v=>exact q3
 |false=>
  rw[if_neg Yk];exact wpAny_execs_nil ⟨uN,H2,I2,q2⟩
end
structure It where
 go:Nat->Hp->Prop
 qx:Nat->Hp->V->Hp->Prop
 stop:Nat->Hp->Prop
def ig(X:Cx)(pins:aZ)(H:Hp)(b:Addr):Prop:=
 H b=none/\b≠X.env.locals/\b∉X.fs/\(b∈X.ex\/X.cT.heap.objs.size<=b)/\(∀x c,X.env.cells.lookup x=some c->c≠b)/\∀p∈X.pn++pins,p.1≠b
theorem Inv.qj{X:Cx}{pins:aZ}{σ:St}{H H':Hp}{s:Shared}{b:Addr}(I:Inv X pins σ H s)(hb:s.heap.objs.size<=b)(hn:H' b=none):ig X pins H' b:=by
 refine⟨hn,G5 (Y0 I.lt hb),I.Zd1 hb,.inr (Y6 I.sz hb),λx c e z=>?_,λp hp z=>?_⟩
 ·obtain⟨v,q⟩:=I.cell x c e;exact absurd (Y0 q.lt (by rw[z];exact hb)) (Y8 _)
 ·exact absurd (Y0 (Yx (I.pin p hp).1) (by rw[z];exact hb)) (Y8 _)
structure Turn(P:Program)(w:World)(K:ai)(tg:Expr)(J:It)(fp:List Addr)(it:Addr)(tn:Nat->Heap->Prop):Prop where
 mem:it∈fp
 obj:∀i h,tn i h->∀b∈fp,∃o,h.get? b=some o/\∀v,o.data≠.cell v
 keep:∀i h h',tn i h->(∀b∈fp,∀o,h.get? b=some o->h'.get? b=some o)->tn i h'
 item:∀(X:Cx),X.prog=P->X.w=w->X.K=K->X.calm=true->∀(i:Nat) (pins:aZ) (s:Shared) (σ:St) (H:Hp) (E:bb),Inv X pins σ H s->(∀b∈fp,ig X pins H b)->tn i s.heap->J.go i H->
  wpAny (model P w) X.A (pyNext (.ref it)) (λr s1=>∃u,r=some u/\
   wpAny (model P w) X.A (letOwnedTupleGo tg (.ref it) u) (λ_ s2=>∃x H',Inv X pins σ H' s2/\RelV x u/\J.qx i H x H'/\tn (i+1) s2.heap/\∀b∈fp,H' b=none) E s1) E s
 done:∀(X:Cx),X.prog=P->X.w=w->X.K=K->X.calm=true->∀(i:Nat) (pins:aZ) (s:Shared) (σ:St) (H:Hp) (E:bb),Inv X pins σ H s->(∀b∈fp,ig X pins H b)->tn i s.heap->J.stop i H->
  wpAny (model P w) X.A (pyNext (.ref it)) (λr s1=>r=none/\Inv X pins σ H s1) E s
 self:∀(A:Around) (i:Nat) (s:Shared) (Q:bb) (E:bb),tn i s.heap->Q (.ref it) s->wpAny (model P w) A (pyIter (.ref it)) Q E s
abbrev TI:=St->Hp->(It->Hp->Prop)->Prop
def Q9(X:Cx)(pins:aZ)(σ:St)(tg:Expr)(R:It->Hp->Prop)(uO:Value)(s2:Shared):Prop:=
 ∃(it:Addr) (fp:List Addr) (tn:Nat->Heap->Prop) (J:It) (H':Hp),uO=.ref it/\Inv X pins σ H' s2/\Turn X.prog X.w X.K tg J fp it tn/\tn 0 s2.heap/\(∀b∈fp,ig X pins H' b)/\R J H'
def PI(X:Cx)(tg iter:Expr)(wi:TI):Prop:=
 ∀(pins:aZ) (s:Shared) (σ:St) (H:Hp) (R:It->Hp->Prop),Inv X pins σ H s->wi σ H R->
  wpAny X.md X.A (eval iter X.env) (λv s1=>wpAny X.md X.A (pyIter v) (Q9 X pins σ tg R) X.xe s1) X.xe s
theorem rJ{M:Model}{A:Around}{E:bb}{s:Shared}{tg:Expr}{it:Addr}{u:Value}{o:Obj}{n:String}{vs:Array Value}{Q:Unit->Shared->Prop}(ho:s.heap.get? it=some o)(hc:o.cls=.type n)(hd:o.data=.fields vs)
    (hn:["enumerate","zip","dict_itemiterator","dict_reverseitemiterator","odict_iterator","itertools.zip_longest","itertools.pairwise"].contains n=false)(hQ:Q () s):wpAny M A (letOwnedTupleGo tg (.ref it) u) Q E s:=by
  unfold letOwnedTupleGo;cases tg <;> first
    | exact wpAny_pure hQ
    | (cases u <;> first
        | exact wpAny_pure hQ
        | (refine wpAny_bind (wpAny_load ho ?_)
           rw [hc,hd];show wpAny M A (if (["enumerate","zip","dict_itemiterator","dict_reverseitemiterator","odict_iterator","itertools.zip_longest","itertools.pairwise"].contains n&&vs[0]? == some (rawInt _))=true then _ else _) Q E s;rw [if_neg (by intro h; rw [hn,Bool.false_and] at h; cases h)];exact wpAny_pure hQ))
def jt(K:ai)(a:Addr):It:=
 ⟨λi H=>∃xs x,ak K H a xs/\xs[i]?=some x,λi H x H'=>H'=H/\∀xs,ak K H a xs->xs[i]?=some x,λi H=>∃xs,ak K H a xs/\xs.length<=i⟩
def uP(K:ai)(a:Addr):It:=
 ⟨λi H=>∃xs x,aA K H a xs/\xs[i]?=some x,λi H x H'=>H'=H/\∀xs,aA K H a xs->xs[i]?=some x,λi H=>∃xs,aA K H a xs/\xs.length<=i⟩
def oR(lo:Int)(n:Nat):It:=⟨λi _=>i<n,λi H x H'=>H'=H/\x=.int (lo+i),λi _=>n<=i⟩
theorem K4{P:Program}{w:World}{K:ai}{tg:Expr}(a it:Addr):Turn P w K tg (jt K a) [it] it (λi h=>h.IsListIter it a i) where
 mem:=by simp
 obj:=λi h st b hb=>by
  have e:b=it:=by simpa using hb
  obtain⟨o,e,c,d⟩:=st
  grind
 keep:=λi h h' st k=>st.at λo e=>k it (by simp) o e
 item:=by
  intro X hP hw hK hc i pins s σ H E I hf st hg;subst hP hw hK;obtain⟨xs,x,hq,hx⟩:=hg;obtain⟨ah,rv,p,hz⟩:=I.list hq;obtain⟨u,hu,ru⟩:=rv.get hx;obtain⟨f0,f1,f2,f3,f4,f5⟩:=hf it (by simp);refine wpAny_pyNext_list_item st p.isList (by simpa using hu) λh' aN sb=>?_;obtain⟨o,e,c,d⟩:=id aN;exact⟨u,rfl,rJ e c d (by decide) ⟨x,H,(I.turned (λb o hb e=>(sb.2 b hb).trans e) f0 f1 f3 f4 f5),ru,⟨rfl,λys hy=>by rw[I.Zy hy hq];exact hx⟩,aN,λb hb=>(hf b hb).1⟩⟩
 done:=by
  intro X hP hw hK hc i pins s σ H E I hf st hg;subst hP hw hK;obtain⟨xs,hq,hx⟩:=hg;obtain⟨ah,rv,p,hz⟩:=I.list hq;obtain⟨f0,f1,f2,f3,f4,f5⟩:=hf it (by simp);have hl:=rv.length;exact wpAny_pyNext_list_end (I.ok.hd hc) st p.isList (by simp;omega) λh' eb=>⟨rfl,I.turned (λb o hb e=>eb b o hb e) f0 f1 f3 f4 f5⟩
 self:=λ_ _ _ _ _ st h=>wpAny_pyIter_listiter st h
theorem Kv{P:Program}{w:World}{K:ai}{tg:Expr}(a it:Addr):Turn P w K tg (uP K a) [it] it (λi h=>h.IsTupleIter it a i) where
 mem:=by simp
 obj:=λi h st b hb=>by
  have e:b=it:=by simpa using hb
  obtain⟨o,e,c,d⟩:=st
  grind
 keep:=λi h h' st k=>st.at λo e=>k it (by simp) o e
 item:=by
  intro X hP hw hK hc i pins s σ H E I hf st hg;subst hP hw hK;obtain⟨xs,x,hq,hx⟩:=hg;obtain⟨ah,rv,p,hz⟩:=I.tuple hq;obtain⟨u,hu,ru⟩:=rv.get hx;obtain⟨f0,f1,f2,f3,f4,f5⟩:=hf it (by simp);refine wpAny_pyNext_tuple_item st (show s.heap.IsTuple a ah.toArray from p) (by simpa using hu) λh' aN sb=>?_;obtain⟨o,e,c,d⟩:=id aN;exact⟨u,rfl,rJ e c d (by decide) ⟨x,H,(I.turned (λb o hb e=>(sb.2 b hb).trans e) f0 f1 f3 f4 f5),ru,⟨rfl,λys hy=>by rw[I.YC hy hq];exact hx⟩,aN,λb hb=>(hf b hb).1⟩⟩
 done:=by
  intro X hP hw hK hc i pins s σ H E I hf st hg;subst hP hw hK;obtain⟨xs,hq,hx⟩:=hg;obtain⟨ah,rv,p,hz⟩:=I.tuple hq;obtain⟨f0,f1,f2,f3,f4,f5⟩:=hf it (by simp);have hl:=rv.length;exact wpAny_pyNext_tuple_end (I.ok.hd hc) st (show s.heap.IsTuple a ah.toArray from p) (by simp;omega) λh' eb=>⟨rfl,I.turned (λb o hb e=>eb b o hb e) f0 f1 f3 f4 f5⟩
 self:=λ_ _ _ _ _ st h=>wpAny_pyIter_tupleiter st h
theorem Xi{P:Program}{w:World}{K:ai}{tg:Expr}(it:Addr)(lo:Int)(n:Nat):Turn P w K tg (oR lo n) [it] it (λi h=>IsRangeIter h it (lo+(i:Nat)*1) ((n:Int)-(i:Nat)) 1) where
 mem:=by simp
 obj:=λi h st b hb=>by
  grind
 keep:=λi h h' st k=>k it (by simp) _ st
 item:=by
  intro X hP hw hK hc i pins s σ H E I hf st hg;subst hP hw hK;obtain⟨f0,f1,f2,f3,f4,f5⟩:=hf it (by simp);refine(Walks.range (I.ok.hd hc) it lo 1 n).item i s _ _ hg st λv h' tk hv aN kk=>?_;obtain⟨t,rfl⟩:=hv;refine⟨_,rfl,rJ aN rfl rfl (by decide) ⟨.int (lo+i),H,(I.turned (λb o hb e=>kk b o (by simpa using hb) e) f0 f1 f3 f4 f5),⟨t,?_⟩,⟨rfl,rfl⟩,aN,λb hb=>(hf b hb).1⟩⟩;rw[Int.mul_one]
 done:=by
  intro X hP hw hK hc i pins s σ H E I hf st hg;subst hP hw hK;obtain⟨f0,f1,f2,f3,f4,f5⟩:=hf it (by simp);exact wpAny_pyNext_range_end (I.ok.hd hc) st (by have:n<=i:=hg;omega) λh' eb=>⟨rfl,I.turned (λb o hb e=>eb b o hb e) f0 f1 f3 f4 f5⟩
 self:=λ_ _ _ _ _ st h=>wpAny_pyIter_rangeiter st h
section
variable {X:Cx}{tg:Expr}
inductive MJ(K:ai)(R:It->Hp->Prop)(x:V)(H1:Hp):Prop
 |mk (a) (aE:x=.ref a) (aU:(∃xs,ak K H1 a xs)) (bc:R (jt K a) H1):MJ K R x H1
def Pa(K:ai)(tl:TE):TI:=λσ H R=>tl σ H λx H1=>MJ K R x H1
inductive NY(K:ai)(R:It->Hp->Prop)(x:V)(H1:Hp):Prop
 |mk (a) (aE:x=.ref a) (aU:(∃xs,aA K H1 a xs)) (bc:R (uP K a) H1):NY K R x H1
def Zd9(K:ai)(tl:TE):TI:=λσ H R=>tl σ H λx H1=>NY K R x H1
theorem MK{l:Expr}{tl:TE}(hl:PE X l tl):PI X tg l (Pa X.K tl):=by
 intro pins s σ H R I h;refine aB (hl pins s σ H _ I h) λv s1 zq=>?_;obtain⟨x,H1,I1,r1,q1⟩:=zq;obtain⟨a,e,⟨xs,hq⟩,q⟩:=q1;subst e;cases r1;obtain⟨ah,rv,p,hz⟩:=I1.list hq;refine wpAny_pyIter_list p.isList ⟨s1.heap.objs.size,[s1.heap.objs.size],_,_,H1,rfl,I1.kept λb o e=>Yc _ e,K4 a _,⟨_,Yr _ rfl,rfl,rfl⟩,λb hb=>?_,q⟩;have e:b=s1.heap.objs.size:=by simpa using hb
 subst e;exact I1.qj (Ye _) (I1.aw.fresh (Ye _))
theorem Fm{l:Expr}{tl:TE}(hl:PE X l tl):PI X tg l (Zd9 X.K tl):=by
 intro pins s σ H R I h;refine aB (hl pins s σ H _ I h) λv s1 zq=>?_;obtain⟨x,H1,I1,r1,q1⟩:=zq;obtain⟨a,e,⟨xs,hq⟩,q⟩:=q1;subst e;cases r1;obtain⟨ah,rv,p,hz⟩:=I1.tuple hq;refine wpAny_pyIter_tuple (show s1.heap.IsTuple a ah.toArray from p) ⟨s1.heap.objs.size,[s1.heap.objs.size],_,_,H1,rfl,I1.kept λb o e=>Yc _ e,Kv a _,⟨_,Yr _ rfl,rfl,rfl⟩,λb hb=>?_,q⟩;have e:b=s1.heap.objs.size:=by simpa using hb
 subst e;exact I1.qj (Ye _) (I1.aw.fresh (Ye _))
theorem Zz{pins:aZ}{σ:St}{H:Hp}{s:Shared}{R:It->Hp->Prop}{E:bb}{lo hi:Int}{t u v:Tok}{tk:Nat}(I:Inv X pins σ H s)(h1:-(2^62)<=lo)(h2:lo<2^62)(h3:-(2^62)<=hi)(h4:hi<2^62)
  (q:R (oR lo (hi-lo).toNat) H):wpAny X.md X.A (pyIter (.ref s.heap.objs.size)) (Q9 X pins σ tg R) E {s with heap:=s.heap.push {cls:=.type "range",data:=.fields #[.int lo t,.int hi u,.int 1 v]},toks:=tk}:=by
 refine wpAny_pyIter_range (IsRange.new ..) (small_one h1 h2 h3 h4) ?_;have I1:Inv X pins σ H {s with heap:=s.heap.push {cls:=.type "range",data:=.fields #[.int lo t,.int hi u,.int 1 v]},toks:=tk}:=I.kept λb o e=>Yc _ e;refine⟨(s.heap.push {cls:=.type "range",data:=.fields #[.int lo t,.int hi u,.int 1 v]}).objs.size,[(s.heap.push {cls:=.type "range",data:=.fields #[.int lo t,.int hi u,.int 1 v]}).objs.size],_,_,H,rfl,
  I1.kept (t':=tk) λb o e=>Yc _ e,Xi _ lo (hi-lo).toNat,?_,λb hb=>?_,q⟩
 ·have e1:lo+((0:Nat):Int)*1=lo:=by simp
  have e2:(((hi-lo).toNat:Nat):Int)-((0:Nat):Int)=Builtin.Range.rangeSize lo hi 1:=by rw[rangeSize_one];split<;>omega
  show IsRangeIter _ _ (lo+((0:Nat):Int)*1) ((((hi-lo).toNat:Nat):Int)-((0:Nat):Int)) 1;rw[e1,e2];exact Yr _ rfl
 ·have e:b=(s.heap.push {cls:=.type "range",data:=.fields #[.int lo t,.int hi u,.int 1 v]}).objs.size:=by simpa using hb
  subst e;exact I1.qj (Ye _) (I1.aw.fresh (Ye _))
inductive ML(R:It->Hp->Prop)(vs:List V)(H1:Hp):Prop
 |mk (j:Int) (aE:vs=[.int j]) (aU:-(2^62)<=j) (bc:j<2^62) (bL:R (oR 0 j.toNat) H1):ML R vs H1
def Zdm(ta:TA):TI:=λσ H R=>ta σ H λvs H1=>ML R vs H1
theorem nZ{a:Expr}{ta:TA}{p pos:Pos}(hg:Gl X "range")(hm:X.mg "range"=none)(ha:PA X [a] ta)(hs:starEach [a] X.env=[(false,eval a X.env)]:=by rfl):PI X tg (.Call (.Name "range" p) [a] [] pos) (Zdm ta):=by
 intro pins s σ H R I h;refine Call_ (zI I hg hm boot_range (PyProof.Rows.callWith_type1 (aB (ha pos pins s σ H _ I h) λus s1 zq=>?_) hs rfl));obtain⟨vs,H1,I1,r1,q1⟩:=zq;obtain⟨j,e,q1,q2,q⟩:=q1;subst e;cases r1 with
 |cons r rr=>
  cases rr;obtain⟨t,rfl⟩:=r;exact call_range_1 (Zz I1 (by omega) (by omega) q1 q2 (by simpa using q))
def F9(wi:TI)(g:TG)(tb:TS):TS:=λD σ H=>wi σ H λJ H1=>∃W:Nat->Nat->St->Hp->Prop,(∃m,W 0 m σ H1)/\∀i m σ H,W i m σ H->
 (J.stop i H/\D.nx σ H)\/(J.go i H/\∃N:St->Hp->Prop,(∀aO H',N aO H'->∃m',m'<m/\W (i+1) m' aO H')/\∀x H',J.qx i H x H'->g x σ H' λdq H2=>tb {D with nx:=N,ct:=N,bk:=D.nx} dq H2)
def p_(fp:List Addr)(h:Heap):List (Addr×Obj):=fp.filterMap λb=>(h.get? b).map λo=>(b,o)
theorem pK{fp:List Addr}{h:Heap}{b:Addr}{o:Obj}(hb:b∈fp)(e:h.get? b=some o):(b,o)∈p_ fp h:=Jk.mpr ⟨b,hb,by rw[e];rfl⟩
theorem YD{fp:List Addr}{h:Heap}{p:Addr×Obj}(hp:p∈p_ fp h):p.1∈fp/\h.get? p.1=some p.2:=by
 obtain⟨b,hb,e⟩:=Jk.mp hp;cases q:h.get? b with
 |none=>grind
 |some o=>grind
theorem Inv.pinned{pins:aZ}{σ:St}{H:Hp}{s:Shared}{fp:List Addr}(I:Inv X pins σ H s)(hf:∀b∈fp,ig X pins H b)(ho:∀b∈fp,∃o,s.heap.get? b=some o/\∀v,o.data≠.cell v):Inv X (pins++p_ fp s.heap) σ H s:=
 I.MH λp hp=>(Yv.mp hp).elim (λz=>I.pin p (Yp _ z)) λz=>by
  obtain⟨hb,e⟩:=YD z;obtain⟨f0,f1,f2,_⟩:=hf p.1 hb
  grind
theorem Inv.t6{pins pl:aZ}{σ:St}{H:Hp}{s:Shared}(I:Inv X (pins++pl) σ H s):Inv X pins σ H s:=I.MH λp hp=>I.pin p (Yp _ (Yt _ hp))
theorem gc{iter:Expr}{body:List Stmt}{wi:TI}{g:TG}{tb:TS}{pos:Pos}(hp:PassesOwn X.md X.A X.env X.xe)(hc:X.calm=true)(hi:PI X tg iter wi)(hg:PG X tg g)(hb:gv X body tb)
  (hs:∀x,foldedSetIterable iter X.env x=pure x:=by intro _;rfl):PS X (.For tg iter body [] pos) (F9 wi g tb):=by
 intro pins s σ H D I h;refine wpAny_For (aB (hi pins s σ H _ I h) λv s1 h1=>aB h1 λuO s2 h2=>?_) hs;obtain⟨it,fp,tn,J,H2,e,I2,T,eZ,f2,W,⟨m0,w0⟩,turn⟩:=h2;subst e;have lU:∀{H':Hp},(∀b∈fp,H' b=none)->∀b∈fp,ig X pins H' b:=λhn b hb=>⟨hn b hb,(f2 b hb).2⟩;refine codeAny_forLoop_any (λn s'=>∃i aO H',Inv X pins aO H' s'/\tn i s'.heap/\(∀b∈fp,H' b=none)/\W i n aO H') ?_ m0 ⟨0,σ,H2,I2,eZ,λb hb=>(f2 b hb).1,w0⟩;rintro n s3 ⟨i,cK,H3,I3,Q_,uQ,w3⟩;rcases turn i n cK H3 w3 with⟨stop,qn⟩|⟨go,N,hN,step⟩
 ·refine wpAny_passesOwn hp (aB (T.done X rfl rfl rfl hc i pins s3 cK H3 X.xe I3 (lU uQ) Q_ stop) λr s4 zq=>?_);obtain⟨hr,I4⟩:=zq;subst hr;exact wpAny_execs_nil ⟨cK,H3,I4,qn⟩
 ·refine wpAny_passesOwn hp (aB (T.item X rfl rfl rfl hc i pins s3 cK H3 X.xe I3 (lU uQ) Q_ go) λr s4 zq=>?_);obtain⟨u,hr,h4⟩:=zq;subst hr;refine wpAny_passesOwn hp (aB h4 λ_ s5 ⟨x,H5,I5,r5,y5,oS,oU⟩=>wpAny_passesOwn hp (aB (hg _ s5 cK H5 x u _ (I5.pinned (lU oU) (T.obj _ _ oS)) r5 (step x H5 y5)) λ_ s6 ⟨AS,H6,I6,q6⟩=>wpAny_passesOwn hp (aB (hb _ s6 AS H6 _ I6 q6) λf s7 q7=>?_)));have again:∀{l6:St} {H7:Hp},Inv X (pins++p_ fp s5.heap) l6 H7 s7->N l6 H7->∃m,m<n/\∃i aO H',Inv X pins aO H' s7/\tn i s7.heap/\(∀b∈fp,H' b=none)/\W i m aO H':=λ{l6 H7} I7 n7=>by
   obtain⟨m',hm,w7⟩:=hN l6 H7 n7;refine⟨m',hm,i+1,l6,H7,I7.t6,T.keep _ _ _ oS λb hb o e=>(I7.pin (b,o) (Yp _ (Yp _ (pK hb e)))).1,λb hb=>?_,w7⟩;obtain⟨o,e,d⟩:=T.obj _ _ oS b hb;exact(I7.pin (b,o) (Yp _ (Yp _ (pK hb e)))).2.1
  cases f with
  |next=>obtain⟨l6,H7,I7,n7⟩:=q7;exact again I7 n7
  |cont=>obtain⟨l6,H7,I7,n7⟩:=q7;exact again I7 n7
  |brk=>obtain⟨l6,H7,I7,q7⟩:=q7;exact⟨l6,H7,I7.t6,q7⟩
  |ret v=>obtain⟨x7,l6,H7,I7,r7,q7⟩:=q7;exact⟨x7,l6,H7,I7.t6,r7,q7⟩
end
theorem kF{K:ai}{a:Addr}{xs:List V}{g:TG}{tb:TS}{D:Ends}{σ:St}{H:Hp}(Pv:Nat->St->Hp->Prop)(h0:Pv 0 σ H)(hl:∀i σ H,i<=xs.length->Pv i σ H->ak K H a xs)
  (hs:∀i x σ H,xs[i]?=some x->Pv i σ H->g x σ H λdq H2=>tb {D with nx:=Pv (i+1),ct:=Pv (i+1),bk:=D.nx} dq H2)(hd:∀σ H,Pv xs.length σ H->D.nx σ H):
  ∃W:Nat->Nat->St->Hp->Prop,(∃m,W 0 m σ H)/\∀i m σ H,W i m σ H->
   ((jt K a).stop i H/\D.nx σ H)\/((jt K a).go i H/\∃N:St->Hp->Prop,(∀aO H',N aO H'->∃m',m'<m/\W (i+1) m' aO H')/\∀x H',(jt K a).qx i H x H'->g x σ H' λdq H2=>tb {D with nx:=N,ct:=N,bk:=D.nx} dq H2):=by
 refine⟨λi m σ H=>m=xs.length-i/\i<=xs.length/\Pv i σ H,⟨xs.length,by simp,Yw _,h0⟩,?_⟩;rintro i m σ H ⟨rfl,hi,p⟩;have q:=hl i σ H hi p;by_cases bJ:i<xs.length
 ·refine .inr ⟨⟨xs,xs[i],q,by simp[bJ]⟩,Pv (i+1),λaO H' p'=>⟨xs.length-(i+1),by omega,rfl,bJ,p'⟩,λx H' y=>?_⟩;obtain⟨e,y⟩:=y;subst e;exact hs i x σ _ (y xs q) p
 ·have e:i=xs.length:=by omega
  subst e;exact .inl ⟨⟨xs,q,Ye _⟩,hd σ H p⟩
theorem yQ{lo:Int}{n:Nat}{g:TG}{tb:TS}{D:Ends}{σ:St}{H:Hp}(Pv:Nat->St->Hp->Prop)(h0:Pv 0 σ H)
  (hs:∀i σ H,i<n->Pv i σ H->g (.int (lo+i)) σ H λdq H2=>tb {D with nx:=Pv (i+1),ct:=Pv (i+1),bk:=D.nx} dq H2)(hd:∀σ H,Pv n σ H->D.nx σ H):
  ∃W:Nat->Nat->St->Hp->Prop,(∃m,W 0 m σ H)/\∀i m σ H,W i m σ H->
   ((oR lo n).stop i H/\D.nx σ H)\/((oR lo n).go i H/\∃N:St->Hp->Prop,(∀aO H',N aO H'->∃m',m'<m/\W (i+1) m' aO H')/\∀x H',(oR lo n).qx i H x H'->g x σ H' λdq H2=>tb {D with nx:=N,ct:=N,bk:=D.nx} dq H2):=by
 refine⟨λi m σ H=>m=n-i/\i<=n/\Pv i σ H,⟨n,by simp,Yw _,h0⟩,?_⟩;rintro i m σ H ⟨rfl,hi,p⟩;by_cases bJ:i<n
 ·refine .inr ⟨bJ,Pv (i+1),λaO H' p'=>⟨n-(i+1),by omega,rfl,bJ,p'⟩,λx H' y=>?_⟩;obtain⟨e,y⟩:=y
  grind
 ·have e:i=n:=by omega
  subst e;exact .inl ⟨Ye _,hd σ H p⟩
theorem ED{c:TT}{tb:TS}{D:Ends}{σ:St}{H:Hp}(Pv:St->Hp->Prop)(μ:St->Hp->Nat)(h0:Pv σ H)
  (hs:∀σ H,Pv σ H->c σ H λb H1=>if b=true then tb {D with nx:=λaO H'=>Pv aO H'/\μ aO H'<μ σ H,ct:=λaO H'=>Pv aO H'/\μ aO H'<μ σ H,bk:=D.nx} σ H1 else D.nx σ H1)
  (mono:∀σ H Q Q',(∀b H1,Q b H1->Q' b H1)->c σ H Q->c σ H Q'):NX c tb D σ H:=by
 refine⟨λm σ H=>m=μ σ H/\Pv σ H,⟨_,rfl,h0⟩,?_⟩;rintro m σ H ⟨rfl,p⟩;refine mono σ H _ _ (λb H1 q=>?_) (hs σ H p);cases b with
 |true=>exact⟨_,λaO H' ⟨p',l⟩=>⟨_,l,rfl,p'⟩,q⟩
 |false=>exact q
abbrev R2:=V->V->Hp->VK->Prop
def cD(X:Cx)(f:Value->Value->Sem Value)(r:R2):Prop:=
 ∀(pins:aZ) (s:Shared) (σ:St) (H:Hp) (x y:V) (v u:Value) (Q:VK),Inv X pins σ H s->RelV x v->RelV y u->r x y H Q->
  wpAny X.md X.A (f v u) (EP X pins σ Q) X.xe s
def cZ(X:Cx)(f:Value)(r:List V->Hp->VK->Prop):Prop:=
 ∀(pins:aZ) (s:Shared) (σ:St) (H:Hp) (xs:List V) (us:List Value) (Q:VK),Inv X pins σ H s->Vals xs us->r xs H Q->
  wpAny X.md X.A (call f us) (EP X pins σ Q) X.xe s
def Zd_(X:Cx)(r:V->Hp->(Bool->Hp->Prop)->Prop):Prop:=
 ∀(pins:aZ) (s:Shared) (σ:St) (H:Hp) (x:V) (v:Value) (Q:Bool->Hp->Prop),Inv X pins σ H s->RelV x v->r x H Q->
  wpAny X.md X.A (truthy v) (TP X pins σ Q) X.xe s
def i8(r:R2)(ta tb:TE):TE:=λσ H Q=>ta σ H λx H1=>tb σ H1 λy H2=>r x y H2 Q
inductive P7(C:Int->Int->Prop)(g:Int->Int->V)(x:V)(y:V)(H:Hp)(Q:VK):Prop
 |mk (i j) (aE:x=.int i) (aU:y=.int j) (bc:C i j) (bL:Q (g i j) H):P7 C g x y H Q
def rI(C:Int->Int->Prop)(g:Int->Int->V):R2:=λx y H Q=>P7 C g x y H Q
inductive Pb(g:Int->Int->V)(x:V)(y:V)(H:Hp)(Q:VK):Prop
 |mk (i j) (aE:x=.int i) (aU:y=.int j) (bc:Q (g i j) H):Pb g x y H Q
def qy(g:Int->Int->V):R2:=λx y H Q=>Pb g x y H Q
section
variable {X:Cx}{a b c:Expr}{ta tb tc:TE}{pos:Pos}
theorem F_(ha:PE X a ta)(hb:PE X b tb){pins:aZ}{s:Shared}{σ:St}{H:Hp}{R:V->V->Hp->Prop}(I:Inv X pins σ H s)
  (h:ta σ H λx H1=>tb σ H1 λy H2=>R x y H2){Q:bb}{f:Value->Value->Sem Value}
  (hf:∀v u s2 x y H2,Inv X pins σ H2 s2->RelV x v->RelV y u->R x y H2->wpAny X.md X.A (f v u) Q X.xe s2):
  wpAny X.md X.A (eval a X.env) (λv bG=>wpAny X.md X.A (eval b X.env) (λu d_=>wpAny X.md X.A (f v u) Q X.xe d_) X.xe bG) X.xe s:=by
 refine aB (ha pins s σ H _ I h) λv s1 zq=>?_;obtain⟨x,H1,I1,r1,q1⟩:=zq;refine aB (hb pins s1 σ H1 _ I1 q1) λu s2 zq=>?_;obtain⟨y,H2,I2,r2,q2⟩:=zq
 grind
theorem aV{op:Operator}{r:R2}(ho:cD X (binaryOp op) r)(ha:PE X a ta)(hb:PE X b tb):PE X (.BinOp a op b pos) (i8 r ta tb):=by
 intro pins s σ H Q I h;exact wpAny_BinOp (F_ ha hb I h λv u s2 x y H2 I2 rx ry q=>ho pins s2 σ H2 x y v u Q I2 rx ry q)
theorem AU{f:Value->Value->Sem Value}{C:Int->Int->Prop}{g:Int->Int->Int}
  (rule:∀(i j:Int) (t u:Tok) (s:Shared) (Q:bb) (E:bb),C i j->Q (.int (g i j) s.toks) {s with toks:=s.toks+1}->wpAny X.md X.A (f (.int i t) (.int j u)) Q E s):
  cD X f (rI C λi j=>.int (g i j)):=by
 rintro pins s σ H x y v u Q I rx ry ⟨i,j,rfl,rfl,hc,q⟩;obtain⟨t,rfl⟩:=rx;obtain⟨t',rfl⟩:=ry;exact rule i j t t' s _ _ hc ⟨.int (g i j),H,I.tok _,⟨_,rfl⟩,q⟩
theorem P8{f:Value->Value->Sem Value}{g:Int->Int->Int}
  (rule:∀(i j:Int) (t u:Tok) (s:Shared) (Q:bb) (E:bb),Q (.int (g i j) s.toks) {s with toks:=s.toks+1}->wpAny X.md X.A (f (.int i t) (.int j u)) Q E s):
  cD X f (qy λi j=>.int (g i j)):=by
 rintro pins s σ H x y v u Q I rx ry ⟨i,j,rfl,rfl,q⟩;obtain⟨t,rfl⟩:=rx;obtain⟨t',rfl⟩:=ry;exact rule i j t t' s _ _ ⟨.int (g i j),H,I.tok _,⟨_,rfl⟩,q⟩
theorem Ga{f:Value->Value->Sem Value}{g:Int->Int->Bool}
  (rule:∀(i j:Int) (t u:Tok) (s:Shared) (Q:bb) (E:bb),Q (.bool (g i j)) s->wpAny X.md X.A (f (.int i t) (.int j u)) Q E s):
  cD X f (qy λi j=>.bl (g i j)):=by
 rintro pins s σ H x y v u Q I rx ry ⟨i,j,rfl,rfl,q⟩;obtain⟨t,rfl⟩:=rx;obtain⟨t',rfl⟩:=ry;exact rule i j t t' s _ _ ⟨.bl (g i j),H,I,rfl,q⟩
def Gb(i j:Int):Prop:=0<j/\j<1073741824
def Zea(i j:Int):Prop:=0<=j/\j<=1000000/\i.natAbs<2^64
def wX(i j:Int):Prop:=(-(2^64)<i/\i<2^64)\/(-(2^64)<j/\j<2^64)
theorem wX.ok{i j:Int}(h:wX i j):IntMulOk i j:=by
 rcases h with⟨h1,h2⟩|⟨h1,h2⟩;·exact .of_left (intBits_le_64 h1 h2)
 ·exact .of_right (intBits_le_64 h1 h2)
theorem fP:cD X (binaryOp .Add) (qy λi j=>.int (i+j)):=P8 λ_ _ _ _ _ _ _ q=>add_int q
theorem uh:cD X (binaryOp .Sub) (qy λi j=>.int (i-j)):=P8 λ_ _ _ _ _ _ _ q=>sub_int q
theorem lN:cD X (binaryOp .Mult) (rI wX λi j=>.int (i*j)):=AU λ_ _ _ _ _ _ _ hc q=>mul_int q hc.ok
theorem wo:cD X (binaryOp .FloorDiv) (rI Gb λi j=>.int (i/j)):=AU λi j _ _ _ _ _ hc q=>by
 have h1:(0:Int)<j:=hc.1;have h2:j<1073741824:=hc.2;exact floordiv_int (by omega) (by rw[Int.fdiv_eq_ediv_of_nonneg i (by omega)];exact q) (.inl (PyProof.noPylong_small (by omega)))
theorem dW:cD X (binaryOp .Mod) (rI (λ_ j=>0<j) λi j=>.int (i % j)):=AU λi j _ _ _ _ _ hc q=>by
 have h1:(0:Int)<j:=hc;exact mod_int' (by omega) (by rw[Int.fmod_eq_emod_of_nonneg i (by omega)];exact q)
theorem NZ:cD X (binaryOp .Pow) (rI Zea λi j=>.int (i^j.toNat)):=AU λ_ _ _ _ _ _ _ hc q=>pow_int_small hc.1 hc.2.1 hc.2.2 q
end
def wY:V->V->Bool
 |.az,.az=>true|.az,.int _=>true|.int _,.az=>true|.az,.bl _=>true|.bl _,.az=>true|.az,.str _=>true|.str _,.az=>true
 |.int _,.int _=>true|.bl _,.bl _=>true|.str _,.str _=>true|.js _,.js _=>true
 |.int _,.str _=>true|.str _,.int _=>true|.bl _,.str _=>true|.str _,.bl _=>true
 |_,_=>false
def Ra:R2:=λx y H Q=>wY x y=true/\Q (.bl (decide (x=y))) H
def Rb:R2:=λx y H Q=>wY x y=true/\Q (.bl (!decide (x=y))) H
theorem MM{i j:Int}:decide (V.int i=V.int j)=(i==j):=by
 grind
theorem N0{i j:Bool}:decide (V.bl i=V.bl j)=(i==j):=by
 grind
theorem MN{i j:Str}:decide (V.str i=V.str j)=(i==j):=by
 grind
theorem MO{i j:Array UInt8}:decide (V.js i=V.js j)=(i.toList==j.toList):=by
 rw[Wm];simp_all
section
variable {X:Cx}{a b c:Expr}{ta tb tc:TE}{pos:Pos}
theorem cF{pins:aZ}{σ:St}{H:Hp}{s:Shared}{Q:VK}{k k':Bool}(I:Inv X pins σ H s)(q:Q (.bl k) H)(e:k=k'):EP X pins σ Q (.bool k') s:=by
 subst e;exact⟨.bl k,H,I,rfl,q⟩
theorem ck:cD X (compareOp .Eq) Ra:=by
 intro pins s σ H x y v u Q I rx ry h;obtain⟨hs,q⟩:=h;cases x with
 |az=>
  cases rx;cases y with
  |az=>cases ry;exact PySem.EqNone.eq_none_none (cF I q (by simp))
  |bl j=>cases ry;exact PySem.EqNone.eq_none_bool (cF I q (by simp))
  |int j=>obtain⟨t',rfl⟩:=ry;exact PySem.EqNone.eq_none_int (cF I q (by simp))
  |str j=>obtain⟨t',rfl⟩:=ry;exact PySem.EqNone.eq_none_str (cF I q (by simp))
  |_=>exact absurd (show false=true from hs) Yk
 |bl i=>
  cases rx;cases y with
  |az=>cases ry;exact PySem.EqNone.eq_bool_none (cF I q (by simp))
  |bl j=>cases ry;exact eq_bool (cF I q N0)
  |str j=>obtain⟨t',rfl⟩:=ry;exact PySem.EqMixed.eq_bool_str (cF I q (by simp))
  |_=>exact absurd (show false=true from hs) Yk
 |int i=>
  obtain⟨t,rfl⟩:=rx;cases y with
  |az=>cases ry;exact PySem.EqNone.eq_int_none (cF I q (by simp))
  |int j=>obtain⟨t',rfl⟩:=ry;exact eq_int (cF I q MM)
  |str j=>obtain⟨t',rfl⟩:=ry;exact PySem.EqMixed.eq_int_str (cF I q (by simp))
  |_=>exact absurd (show false=true from hs) Yk
 |str i=>
  obtain⟨t,rfl⟩:=rx;cases y with
  |az=>cases ry;exact PySem.EqNone.eq_str_none (cF I q (by simp))
  |bl j=>cases ry;exact PySem.EqMixed.eq_str_bool (cF I q (by simp))
  |int j=>obtain⟨t',rfl⟩:=ry;exact PySem.EqMixed.eq_str_int (cF I q (by simp))
  |str j=>obtain⟨t',rfl⟩:=ry;exact eq_str (cF I q MN)
  |_=>exact absurd (show false=true from hs) Yk
 |js i=>
  obtain⟨t,rfl⟩:=rx;cases y with
  |js j=>obtain⟨t',rfl⟩:=ry;exact PySem.W.eq_bytes (cF I q MO)
  |_=>exact absurd (show false=true from hs) Yk
 |_=>cases y<;>exact absurd (show false=true from hs) Yk
theorem kN:cD X (compareOp .NotEq) Rb:=by
 intro pins s σ H x y v u Q I rx ry h;obtain⟨hs,q⟩:=h;cases x with
 |az=>
  cases rx;cases y with
  |az=>cases ry;exact PySem.EqNone.ne_none_none (cF I q (by simp))
  |bl j=>cases ry;exact PySem.EqNone.ne_none_bool (cF I q (by simp))
  |int j=>obtain⟨t',rfl⟩:=ry;exact PySem.EqNone.ne_none_int (cF I q (by simp))
  |str j=>obtain⟨t',rfl⟩:=ry;exact PySem.EqNone.ne_none_str (cF I q (by simp))
  |_=>exact absurd (show false=true from hs) Yk
 |bl i=>
  cases rx;cases y with
  |az=>cases ry;exact PySem.EqNone.ne_bool_none (cF I q (by simp))
  |bl j=>cases ry;exact ne_bool (cF I q (congrArg not N0))
  |str j=>obtain⟨t',rfl⟩:=ry;exact PySem.EqMixed.ne_bool_str (cF I q (by simp))
  |_=>exact absurd (show false=true from hs) Yk
 |int i=>
  obtain⟨t,rfl⟩:=rx;cases y with
  |az=>cases ry;exact PySem.EqNone.ne_int_none (cF I q (by simp))
  |int j=>obtain⟨t',rfl⟩:=ry;exact ne_int (cF I q (congrArg not MM))
  |str j=>obtain⟨t',rfl⟩:=ry;exact PySem.EqMixed.ne_int_str (cF I q (by simp))
  |_=>exact absurd (show false=true from hs) Yk
 |str i=>
  obtain⟨t,rfl⟩:=rx;cases y with
  |az=>cases ry;exact PySem.EqNone.ne_str_none (cF I q (by simp))
  |bl j=>cases ry;exact PySem.EqMixed.ne_str_bool (cF I q (by simp))
  |int j=>obtain⟨t',rfl⟩:=ry;exact PySem.EqMixed.ne_str_int (cF I q (by simp))
  |str j=>obtain⟨t',rfl⟩:=ry;exact ne_str (cF I q (congrArg not MN))
  |_=>exact absurd (show false=true from hs) Yk
 |js i=>
  obtain⟨t,rfl⟩:=rx;cases y with
  |js j=>obtain⟨t',rfl⟩:=ry;exact PySem.W.ne_bytes (cF I q (congrArg not MO))
  |_=>exact absurd (show false=true from hs) Yk
 |_=>cases y<;>exact absurd (show false=true from hs) Yk
theorem mW:cD X (compareOp .Lt) (qy λi j=>.bl (decide (i<j))):=Ga λ_ _ _ _ _ _ _ q=>lt_int q
theorem FN:cD X (compareOp .Gt) (qy λi j=>.bl (decide (j<i))):=Ga λ_ _ _ _ _ _ _ q=>gt_int q
theorem Zdn:cD X (compareOp .GtE) (qy λi j=>.bl (decide (j<=i))):=Ga λ_ _ _ _ _ _ _ q=>ge_int q
theorem YE:cD X (compareOp .In) (λx y H Q=>∃i j,x=.str i/\y=.str j/\Q (.bl (!(Builtin.Str.occurrences j i 0 j.length 1).isEmpty)) H):=by
 intro pins s σ H x y v u Q I rx ry h;obtain⟨i,j,rfl,rfl,q⟩:=h;obtain⟨t,rfl⟩:=rx;obtain⟨t',rfl⟩:=ry;exact in_str (cF I q rfl)
theorem Fn:cD X (compareOp .Is) (λx y H Q=>y=.az/\Q (.bl (decide (x=.az))) H):=by
 intro pins s σ H x y v u Q I rx ry h;obtain⟨rfl,q⟩:=h;cases ry;refine is_none_gen (cF I q ?_);cases x<;>first
  |(cases rx;rfl)
  |(obtain⟨t,rfl⟩:=rx;rfl)
theorem zm:cD X (compareOp .IsNot) (λx y H Q=>y=.az/\Q (.bl (!decide (x=.az))) H):=by
 rintro pins s σ H x y v u Q I rx ry ⟨rfl,q⟩;cases ry;refine isnot_none_gen (cF I q ?_);cases x<;>first
  |(cases rx;rfl)
  |(obtain⟨t,rfl⟩:=rx;rfl)
theorem Vx:cD X (compareOp .NotIn) (λx y H Q=>∃i j,x=.str i/\y=.str j/\Q (.bl (!(!(Builtin.Str.occurrences j i 0 j.length 1).isEmpty))) H):=by
 rintro pins s σ H x y v u Q I rx ry ⟨i,j,rfl,rfl,q⟩;obtain⟨t,rfl⟩:=rx;obtain⟨t',rfl⟩:=ry;exact notIn_str (cF I q rfl)
theorem N1(b:Expr){op:CmpOp}(h:op≠.In:=by decide)(h2:op≠.NotIn:=by decide):behindInMarks op b=false:=by
 have e1:(op==CmpOp.In)=false:=by cases op<;>first|rfl|exact absurd rfl h
 have e2:(op==CmpOp.NotIn)=false:=by cases op<;>first|rfl|exact absurd rfl h2
 cases b<;>simp[behindInMarks,e1,e2]
theorem zo{op:CmpOp}{r:R2}(ho:cD X (compareOp op) r)(ha:PE X a ta)(hb:PE X b tb)(hm:behindInMarks op b=false):PE X (.Compare a [op] [b] pos) (i8 r ta tb):=by
 intro pins s σ H Q I h;exact wpAny_Compare1 (F_ ha hb I h λv u s2 x y H2 I2 rx ry q=>ho pins s2 σ H2 x y v u Q I2 rx ry q) hm
inductive MP(Q:Bool->Hp->Prop)(x:V)(H':Hp):Prop
 |mk (k) (aE:x=.bl k) (aU:Q k H'):MP Q x H'
def FO(t:TE):TT:=λσ H Q=>t σ H λx H'=>MP Q x H'
theorem hU{op:CmpOp}{r:R2}(ho:cD X (compareOp op) r)(ha:PE X a ta)(hb:PE X b tb)(hm:behindInMarks op b=false):PT X (.Compare a [op] [b] pos) (FO (i8 r ta tb)):=by
 intro pins s σ H Q I h;refine wpAny_isTrue_Compare1 (aB (ha pins s σ H _ I h) λv s1 ⟨x,H1,I1,r1,q1⟩=>aB (hb pins s1 σ H1 _ I1 q1) λu s2 ⟨y,H2,I2,r2,q2⟩=>
  aB (ho pins s2 σ H2 x y v u _ I2 r1 r2 q2) λc s3 ⟨z,H3,I3,r3,k,e,q3⟩=>?_) hm
 subst e;cases r3;exact wpAny_truthy_bool ⟨H3,I3,q3⟩
def z_(K:ai)(x:V)(H:Hp)(k:Bool):Prop:=
 match x with
 |.az=>k=false
 |.bl b=>k=b
 |.int i=>k=(i !=0)
 |.str y=>y.length<=sizeLine/\k=((y.length:Int)!=0)
 |.js y=>y.size<=sizeLine/\k=((y.size:Int)!=0)
 |.ref p=>(∃xs,ak K H p xs/\k=!xs.isEmpty)\/(∃xs,aA K H p xs/\k=!xs.isEmpty)\/∃kvs,H p=some (.dK kvs)/\k=!kvs.isEmpty
 |_=>False
theorem Xj{κ:Type}{kvs:List (κ×V)}{vs:List (κ×Value)}(r:KV kvs vs):(!vs.isEmpty)=!kvs.isEmpty:=by
 cases r<;>rfl
theorem Kw{xs:List V}{ah:List Value}(r:Vals xs ah):(!ah.toArray.isEmpty)=!xs.isEmpty:=by
 cases r<;>simp
theorem rC:(sizeLine:Nat)<2^63:=by rw[sizeLine_eq];decide
theorem Zb2:Zd_ X (λx H Q=>∃k,z_ X.K x H k/\Q k H):=by
 intro pins s σ H x v Q I rx h;obtain⟨k,e,q⟩:=h;have hl:=rC;have hs:sizeLine=16777216:=sizeLine_eq;cases x with
 |az=>
  cases rx;have e':k=false:=e;subst e';exact truthy_none ⟨H,I,q⟩
 |bl b=>
  cases rx;have e':k=b:=e;subst e';exact wpAny_truthy_bool ⟨H,I,q⟩
 |int i=>
  obtain⟨t,rfl⟩:=rx;have e':k=(i !=0):=e;subst e';exact PySem.P.truthy_int ⟨H,I,q⟩
 |str y=>
  obtain⟨t,rfl⟩:=rx;obtain⟨hy,e'⟩:y.length<=sizeLine/\k=((y.length:Int)!=0):=e;subst e';exact PySem.P.truthy_str (by omega) ⟨H,I.tok _,q⟩
 |js y=>
  obtain⟨t,rfl⟩:=rx;obtain⟨hy,e'⟩:y.size<=sizeLine/\k=((y.size:Int)!=0):=e;subst e';exact PySem.W.truthy_bytes (by omega) ⟨H,I.tok _,q⟩
 |ref p=>
  cases rx;have e':=e;rcases e' with⟨xs,hx,e'⟩|⟨xs,hx,e'⟩|⟨kvs,hx,e'⟩
  ·subst e';obtain⟨ah,r,pl,hz⟩:=I.list hx;have hlen:=r.length;exact wpAny_truthy_list pl.isList (by simp only[Yu];omega) ⟨H,I.tok _,by rw[Kw r];exact q⟩
  ·subst e';obtain⟨ah,r,pl,hz⟩:=I.tuple hx;have hlen:=r.length;exact truthy_tuple pl (by simp only[Yu];omega) ⟨H,I.tok _,by rw[Kw r];exact q⟩
  ·subst e';obtain⟨hz,hS,vs,r,m⟩:kvs.length<=sizeLine/\(p==sysModules)=false/\∃vs,KV kvs vs/\s.heap.DictOf (dv X.prog X.w) p vs:=I.aw p _ hx;have hlen:kvs.length=vs.length:=Paired.length r;exact wpAny_truthy_dict hS m (by omega) ⟨H,I.tok _,by rw[Xj r];exact q⟩
 |_=>exact(show False from e).elim
theorem LI(ha:PE X a ta)(he:∀whole,isTrue a X.env whole=(do let v←whole;standAt a.pos;holding [v] (truthy v))):
  PT X a (λσ H Q=>ta σ H λx H'=>∃k,z_ X.K x H' k/\Q k H'):=by
 intro pins s σ H Q I h;exact isTrue_plain (aB (ha pins s σ H _ I h) λv s1 ⟨x,H1,I1,r1,q1⟩=>Zb2 pins s1 σ H1 x v Q I1 r1 q1) (he _)
theorem tQ:cD X (binaryOp .Add) (λx y H Q=>∃i j,x=.str i/\y=.str j/\i.length+j.length<=sizeLine/\Q (.str (i++j)) H):=by
 rintro pins s σ H x y v u Q I rx ry ⟨i,j,rfl,rfl,hz,q⟩;obtain⟨t,rfl⟩:=rx;obtain⟨t',rfl⟩:=ry;exact add_str (λt' tk=>⟨.str (i++j),H,I.tok _,⟨_,rfl⟩,q⟩) hz
theorem vals1{x:V}{us:List Value}(r:Vals [x] us):∃u,us=[u]/\RelV x u:=by
 cases r with
 |cons r1 r2=>cases r2;exact⟨_,rfl,r1⟩
theorem vals2{x y:V}{us:List Value}(r:Vals [x,y] us):∃u w',us=[u,w']/\RelV x u/\RelV y w':=by
 cases r with
 |cons r1 r2=>
  cases r2 with
  |cons r3 r4=>cases r4;exact⟨_,_,rfl,r1,r3⟩
theorem LJ:cZ X (.builtin "abs") (λxs H Q=>∃i,xs=[.int i]/\Q (.int (if i<0 then-i else i)) H):=by
 rintro pins s σ H xs us Q I r ⟨i,rfl,q⟩;obtain⟨u,rfl,t,rfl⟩:=vals1 r;exact call_abs_int λu tk=>⟨.int (if i<0 then-i else i),H,I.tok _,⟨_,rfl⟩,q⟩
theorem C0:cZ X (.type "str") (λxs H Q=>∃i,xs=[.int i]/\i.natAbs.log2<1920/\Q (.str (toString i)) H):=by
 rintro pins s σ H xs us Q I r ⟨i,rfl,hz,q⟩;obtain⟨u,rfl,t,rfl⟩:=vals1 r;exact PySem.P.str_of_int hz ⟨.str _,H,I.tok _,⟨_,rfl⟩,q⟩
end
structure rV(h:Heap)(x dx C:Addr)(mA:aX):Prop where
 obj:h.get? x=some (instObj C dx)
 ns:h.Ns1 dx mA
 ne:dx≠x
theorem YF{h:Heap}{dx:Addr}{mA:aX}(n:h.Ns1 dx mA):∃od,h.get? dx=some od/\∀name,lookIn name od=some (mA name):=by
 obtain⟨o,es,ep,ho,hd,hk,_,hm⟩:=n;refine⟨o,ho,λname=>?_⟩;have e:=hm name;unfold nsFind findBy at e;rw[←Array.find?_toList] at e;unfold lookIn;rw[hd];dsimp only;split;·grind
 ·rename_i q
  have a:es.toList.any (·.refKey)=false:=by
   rw[Rc];intro y hy;obtain⟨z,t,m6⟩:=hk y (Array.mem_toList_iff.mp hy);simp[DictEntry.refKey,m6]
  grind
theorem rV.look{h:Heap}{x dx C:Addr}{mA:aX}(I:rV h x dx C mA):∃od,PySem.W.InstAt h x (instObj C dx) C (some od)/\∀name,lookIn name od=some (mA name):=
 let⟨od,ho,hl⟩:=YF I.ns
 ⟨od,⟨I.obj,rfl,rfl,ho⟩,hl⟩
section
variable {prog:Program}{w:World}{A:Around}{E:bb}{s:Shared}{K:ai}{x dx C f:Addr}{mA:aX}{name:Str}{v:Value}
theorem get_map{expr:Bool}{Q:bb}(X:K.In s.heap)(I:rV s.heap x dx C mA)(hg:plainGet K C name=true)(hh:hasDictIn K C=true)
  (ha:PySem.W.findIn K (.ref C) name=some none)(hv:mA name=some v)(hv':handedIn v=true)(h:Q v {s with toks:=s.toks+1}):
  wpAny (model prog w) A (getAttr (.ref x) name expr) Q E s:=by
 obtain⟨od,J,hl⟩:=I.look;exact PySem.W.get_value X J (plainGet_of hg).1 (PySem.W.findObj_own hh ha rfl (by rw[hl,hv])) hv' h
theorem ZA{pl:Sem Bool}{Q:Value×List Value->Shared->Prop}(X:K.In s.heap)(I:rV s.heap x dx C mA)(hg:plainGet K C name=true)
  (hf:PySem.W.findIn K (.ref C) name=some (some (.ref f)))(ht:isFn K (.ref f)=true)(hv:mA name=none)(h:Q (.ref f,[.ref x]) s):
  wpAny (model prog w) A (getMethod (.ref x) name pl) Q E s:=by
 obtain⟨od,J,hl⟩:=I.look;exact PySem.W.method_fn X J (plainGet_of hg).1 (plainGet_of hg).2 hf (beq_iff_eq.mp ht) (by show(lookIn name od).map (·.isSome)=some false;rw[hl,hv];rfl) h
theorem ZaJ{ns:List Str}{Q:Unit->Shared->Prop}(X:K.In s.heap)(I:rV s.heap x dx C mA)
  (hs:PySem.W.findIn K (.ref C) "__setattr__"=some (some (.builtin "object.__setattr__")))(hp:plainOver K C=true)(ht:takerIn K C name=some none)(hh:hasDictIn K C=true)
  (hw:PySem.Within mA ns)(hsz:ns.length<=sizeLine)
  (h:∀h',rV h' x dx C (λy=>if y=name then some v else mA y)->Heap.SameBut dx s.heap h'->Q () {s with heap:=h',toks:=s.toks+2}):
  wpAny (model prog w) A (setAttr (.ref x) name v) Q E s:=by
 obtain⟨od,J,hl⟩:=I.look;refine PySem.W.set_plain X J hs (PySem.W.osa_open X J hp ht λb=>?_);obtain⟨cd,hc,AL⟩:=PySem.W.any_some hh;refine wpAny_bind (wpAny_pure (wpAny_bind (wpAny_bind (wpAny_loadPart I.obj (wpAny_bind (PySem.W.Looks.here (PySem.W.looks_clsIn X hc) ?_))))));rw[AL];refine wpAny_pure (wpAny_bind (wpAny_pure (wpAny_bind (wpAny_nsSet1 I.ns λh' eT qz=>?_))));obtain⟨oD,esD,epD,hoD,hdD,hcD⟩:=eT.count (PySem.Within.cons name v hw);exact wpAny_bind (wpAny_lookBehind hoD (by rw[hdD];exact pastItsLine_dict (Y6 hcD (by rw[Wn];omega))) (wpAny_pure (h _ ⟨(qz.2 _ (Ne.symm I.ne)).trans I.obj,eT,I.ne⟩ qz)))
theorem ZC{R:Result->Shared->Prop}{vs:List Value}{kw:List (Str×Value)}(X:K.In s.heap)(hm:makesIn K C=true)
  (hi:PySem.W.findIn K (.ref C) "__init__"=some (some (.ref f)))(hf:typeIn K (.ref f)=some (.type "function"))
  (h:codeAny (model prog w) (A.under (.builtin "type.__call__" ⟨.ref C::vs,kw⟩)) (.call (.ref f) ⟨.ref (s.heap.objs.size+1)::vs,kw⟩) (PySem.W.InitBack (s.heap.objs.size+1) R)
   {s with heap:=(s.heap.push emptyDict).push (instObj C s.heap.objs.size)}):
  codeAny (model prog w) A (.call (.ref C) ⟨vs,kw⟩) R s:=by
 obtain⟨hh,g,d,t,os⟩:=s;exact PySem.W.make_core (PySem.W.makes_of X hm) (PySem.W.looks_findIn X hi) (λself=>PySem.W.bind_fn X self hf) (.inl rfl) h
end
def cP(f:Str)(v:V):List (Str×V)->List (Str×V)
 |[]=>[(f,v)]
 |(g,x)::r=>if g=f then(g,v)::r else(g,x)::cP f v r
theorem Kj(f g:Str)(v:V):∀fs:List (Str×V),(cP f v fs).lookup g=if g=f then some v else fs.lookup g
 |[]=>by
  show List.lookup g [(f,v)]=_
  grind
 |(k,x)::r=>by
  have ih:=Kj f g v r;rw[show cP f v ((k,x)::r)=(if k=f then(k,v)::r else(k,x)::cP f v r) from rfl]
  grind
theorem Ee(f:Str)(v:V):∀fs:List (Str×V),f∈(cP f v fs).map (·.1)/\∀g,g∈fs.map (·.1)->g∈(cP f v fs).map (·.1)
 |[]=>⟨by simp[cP],λg h=>by simp at h⟩
 |(k,x)::r=>by
  obtain⟨i1,i2⟩:=Ee f v r;rw[show cP f v ((k,x)::r)=(if k=f then(k,v)::r else(k,x)::cP f v r) from rfl]
  grind
theorem Di(f:Str)(v:V):∀fs:List (Str×V),(cP f v fs).length<=fs.length+1
 |[]=>by simp[cP]
 |(k,x)::r=>by
  have ih:=Di f v r;rw[show cP f v ((k,x)::r)=(if k=f then(k,v)::r else(k,x)::cP f v r) from rfl]
  grind
theorem fQ.some_of{v:V}{o:Option Value}(r:fQ (some v) o):∃u,o=some u/\RelV v u:=by
 cases o with
 |none=>exact(show False from r).elim
 |some u=>exact⟨u,rfl,r⟩
theorem fQ.none_of{o:Option Value}(r:fQ none o):o=none:=by
 cases o with
 |none=>rfl
 |some u=>exact(show False from r).elim
theorem YG{v:V}{u:Value}(r:RelV v u):handedIn u=true:=by
 cases v with
 |az=>cases(show u=Value.none from r);rfl
 |bl b=>cases(show u=Value.bool b from r);rfl
 |int i=>obtain⟨t,e⟩:=(show ∃t,u=Value.int i t from r);cases e;rfl
 |str x=>obtain⟨t,e⟩:=(show ∃t,u=Value.str x t from r);cases e;rfl
 |js b=>obtain⟨t,e⟩:=(show ∃t,u=Value.bytes b t from r);cases e;rfl
 |sh b=>obtain⟨t,e⟩:=(show ∃t,u=Value.float b t from r);cases e;rfl
 |ref a=>cases(show u=Value.ref a from r);rfl
 |ty n=>cases(show u=Value.type n from r);rfl
section
variable {P:Program}{w:World}{H H':Hp}{h h':Heap}{a C dx:Addr}{fs de:List (Str×V)}
theorem zp(aw:c_ P w H h)(e:H a=some (.ins C dx fs)):∃mA,rV h a dx C mA/\(∀f,fQ (fs.lookup f) (mA f))/\PySem.Within mA (fs.map (·.1))/\fs.length<=1000/\H dx=some (.own a):=by
 obtain⟨d,z,ne,ob,mA,n,r,q⟩:=(show cB P w H h a (.ins C dx fs) from aw a _ e);exact⟨mA,⟨ob,n,ne⟩,r,q,z,d⟩
end
structure iu(K:ai)(C:Addr):Prop where
 pg:plainGet K C Str.empty=true
 hd:hasDictIn K C=true
 po:plainOver K C=true
 sa:PySem.W.findIn K (.ref C) "__setattr__"=some (some (.builtin "object.__setattr__"))
theorem iu.get{K:ai}{C:Addr}(c:iu K C)(f:Str):plainGet K C f=true:=c.pg
def dB(K:ai)(C:Addr)(f:Str):Prop:=PySem.W.findIn K (.ref C) f=some none
theorem dB.Zdo{K:ai}{C:Addr}{f:Str}(n:dB K C f):takerIn K C f=some none:=by
 unfold takerIn;rw[show PySem.W.findIn K (.ref C) f=some none from n];rfl
structure Meth(K:ai)(C:Addr)(m:Str)(f:Addr):Prop where
 at_:PySem.W.findIn K (.ref C) m=some (some (.ref f))
 fn:isFn K (.ref f)=true
 kp:keepIn K (.ref f)=true
section
variable {X:Cx}{pins:aZ}{σ:St}{H:Hp}{s:Shared}{a C dx:Addr}{fs:List (Str×V)}{f:Str}{v:V}{A:Around}{E:bb}
theorem Xk{b:Bool}{Q:bb}(I:Inv X pins σ H s)(e:H a=some (.ins C dx fs))(c:iu X.K C)(n:dB X.K C f)(l:fs.lookup f=some v)
  (h:∀u s',Inv X pins σ H s'->RelV v u->Q u s'):wpAny X.md A (getAttr (.ref a) f b) Q E s:=by
 obtain⟨mA,O,r,_,_,_⟩:=zp I.aw e;obtain⟨u,hu,ru⟩:=fQ.some_of (by rw[←l];exact r f);exact get_map I.dE O (c.get f) c.hd n hu (YG ru) (h u _ (I.tok _) ru)
theorem Kx{m:Str}{g:Addr}{pl:Sem Bool}{Q:Value×List Value->Shared->Prop}(I:Inv X pins σ H s)(e:H a=some (.ins C dx fs))(c:iu X.K C)(k:Meth X.K C m g)(l:fs.lookup m=none)
  (h:Q (.ref g,[.ref a]) s):wpAny X.md A (getMethod (.ref a) m pl) Q E s:=by
 obtain⟨mA,O,r,_,_,_⟩:=zp I.aw e;exact ZA I.dE O (c.get m) k.at_ k.fn (fQ.none_of (by rw[←l];exact r m)) h
theorem Ky{y:V}{u:Value}{Q:Unit->Shared->Prop}(I:Inv X pins σ H s)(e:H a=some (.ins C dx fs))(c:iu X.K C)(n:dB X.K C f)(hl:fs.length<1000)(ry:RelV y u)
  (h:∀s',Inv X pins σ (upd H a (.ins C dx (cP f y fs))) s'->Q () s'):wpAny X.md A (setAttr (.ref a) f u) Q E s:=by
 obtain⟨mA,O,r,wi,_,ho⟩:=zp I.aw e;have hz:(fs.map (·.1)).length<=sizeLine:=by rw[Ya,sizeLine_eq];omega
 refine ZaJ I.dE O c.sa c.po n.Zdo c.hd wi hz λh' O' sb=>h _ (I.write (by rw[e];exact True.intro) (.inr ho) (λb q hb z=>(sb.2 b hb).trans z) (let⟨o,_,_,e',_⟩:=O'.ns;⟨o,e'⟩) ⟨by rw[aC O.ne];exact ho,?_,O.ne,O'.obj,_,O'.ns,λg=>?_,λg hg=>?_⟩);·have:=Di f y fs;omega
 ·show fQ ((cP f y fs).lookup g) (if g=f then some u else mA g);rw[Kj];by_cases q:g=f;·rw[if_pos q,if_pos q];exact ry
  ·grind
 ·by_cases q:g=f;·rw[q];exact(Ee f y fs).1
  ·refine(Ee f y fs).2 g (wi g λz=>hg ?_)
   grind
theorem Inv.made(I:Inv X pins σ H s):Inv X pins σ (upd (upd H s.heap.objs.size (.own (s.heap.objs.size+1))) (s.heap.objs.size+1) (.ins C s.heap.objs.size []))
  {s with heap:=(s.heap.push emptyDict).push (instObj C s.heap.objs.size)}:=by
 have e1:(s.heap.push emptyDict).get? s.heap.objs.size=some emptyDict:=Yr s.heap rfl;have e2:((s.heap.push emptyDict).push (instObj C s.heap.objs.size)).get? (s.heap.objs.size+1)=some (instObj C s.heap.objs.size):=by
  have:=Yr (s.heap.push emptyDict) (o:=instObj C s.heap.objs.size) rfl
  rwa [Ju] at this
 have e3:(s.heap.push emptyDict).Ns s.heap.objs.size (λ_=>none):=⟨emptyDict,#[],_,e1,rfl,(λe he=>absurd he (by simp)),λ_=>rfl⟩;have I1:=I.laid (a:=s.heap.objs.size) (o:=.own (s.heap.objs.size+1)) (h':=s.heap.push emptyDict) (t':=s.toks) (λb u q=>Yc _ q) (Ye _) ⟨_,e1⟩;refine I1.laid (a:=s.heap.objs.size+1) (o:=.ins C s.heap.objs.size []) (t':=s.toks) (λb u q=>Yc _ q) (Nat.le_of_eq (Ju _ _)) ?_;have ne:s.heap.objs.size≠s.heap.objs.size+1:=Yz (Wg _);refine⟨by rw[aC ne,aI],Yw _,ne,e2,λ_=>none,(Heap.Ns1.of_empty e3).at λo q=>Yc _ q,λ_=>True.intro,λy hy=>absurd rfl hy⟩
theorem ZaK{prog:Program}{w:World}{env:Env}{e:Expr}{f:Str}{pos:Pos}{s:Shared}{Q:bb}(hb:attributeBase e f env (eval e env)=eval e env)
  (h:wpAny (model prog w) A (eval e env) (λo bG=>wpAny (model prog w) A (getAttr o f true) Q E bG) E s):wpAny (model prog w) A (eval (.Attribute e f pos) env) Q E s:=
 Attribute_any_ h (by rw[arm_eval_Attribute,hb])
end
inductive N3(K:ai)(f:Str)(Q:VK)(x:V)(H1:Hp):Prop
 |mk (a C dx fs v) (aE:x=.ref a) (aU:H1 a=some (.ins C dx fs)) (bc:iu K C) (bL:dB K C f) (cL:fs.lookup f=some v) (d5:Q v H1):N3 K f Q x H1
def Gd(K:ai)(ta:TE)(f:Str):TE:=λσ H Q=>ta σ H λx H1=>N3 K f Q x H1
def Zeb(K:ai)(ta tv:TE)(f:Str):TS:=λD σ H=>tv σ H λy H1=>ta σ H1 λx H2=>∃a C dx fs,x=.ref a/\H2 a=some (.ins C dx fs)/\iu K C/\dB K C f/\fs.length<1000/\
 D.nx σ (upd H2 a (.ins C dx (cP f y fs)))
section
variable {X:Cx}{o e value:Expr}{f:Str}{pos pos' Aa:Pos}{ta tv:TE}
theorem Zb3(he:PE X e ta)(hb:attributeBase e f X.env (eval e X.env)=eval e X.env):PE X (.Attribute e f pos) (Gd X.K ta f):=by
 intro pins s σ H Q I h;refine ZaK hb (aB (he pins s σ H _ I h) λu s1 zq=>?_);obtain⟨x,H1,I1,rx,a,C,dx,fs,v,ex,ea,c,n,l,q⟩:=zq;subst ex;obtain rfl:u=Value.ref a:=rx;exact Xk I1 ea c n l λu' s2 I2 ru=>⟨v,H1,I2,ru,q⟩
theorem wA(ha:PE X o ta)(hv:PE X value tv)(hs:swapsWith value (some (.Attribute o f pos')) pos.line X.env=pure false):PS X (.Assign [.Attribute o f pos'] value pos) (Zeb X.K ta tv f):=by
 intro pins s σ H D I h;refine plainObj_wpAny_Assign_Attribute (aB (hv pins s σ H _ I h) λu s1 zq=>?_) hs;obtain⟨y,H1,I1,ry,q⟩:=zq;refine aB (ha pins s1 σ H1 _ I1 q) λov s2 zq=>?_;obtain⟨x,H2,I2,rx,a,C,dx,fs,ex,ea,c,n,l,q2⟩:=zq;subst ex;obtain rfl:ov=Value.ref a:=rx;exact Ky I2 ea c n l ry λs3 I3=>⟨σ,_,I3,q2⟩
end
section
variable {X:Cx}{pins:aZ}{σ:St}{H:Hp}{s:Shared}{A:Around}{E:bb}{Q:bb}{c:Value}{b:Bool}
inductive iX(K:ai)(H:Hp):V->Value->Prop where
 |az:iX K H .az (.type "NoneType")
 |bl (x:Bool):iX K H (.bl x) (.type "bool")
 |int (i:Int):iX K H (.int i) (.type "int")
 |str (x:Str):iX K H (.str x) (.type "str")
 |sh (x:UInt64):iX K H (.sh x) (.type "float")
 |lst {a:Addr} {xs:List V} (e:H a=some (.lst xs)):iX K H (.ref a) (.type "list")
 |bX {a:Addr} {o:Obj} {xs:List V} (e:H a=some (.bX o (.lst xs))):iX K H (.ref a) (.type "list")
 |tup {a:Addr} {xs:List V} (e:H a=some (.tup xs)):iX K H (.ref a) (.type "tuple")
 |dK {a:Addr} {kvs:List (Key×V)} (e:H a=some (.dK kvs)):iX K H (.ref a) (.type "dict")
 |dT {a:Addr} {kvs:List (List Key×V)} (e:H a=some (.dT kvs)):iX K H (.ref a) (.type "dict")
 |ins {a C dx:Addr} {fs:List (Str×V)} (e:H a=some (.ins C dx fs)) (cl:iu K C) (ha:PySem.W.findIn K (.ref C) "__class__"=some (some (.builtin "object.__class__")))
   (hn:PySem.W.specialIn K (.builtin "object.__class__") "__get__"=some (some (.builtin "getset_descriptor.__get__"))) (Rf:PySem.W.takesIn K (.builtin "object.__class__")=some true)
   (hm:PySem.W.mroIn K C (.type "object")=some true):iX K H (.ref a) (.ref C)
theorem YH{x:V}{u t:Value}(I:Inv X pins σ H s)(rx:RelV x u)(ty:iX X.K H x t)(e:kitOne X.K t c=some b)(h:∀tk,Q (.bool b) {s with toks:=tk}):
  wpAny X.md A (call (.builtin "isinstance") [u,c]) Q E s:=by
 cases ty with
 |az=>cases(show u=Value.none from rx);exact kia_one PySem.W.kitx_none I.dE True.intro e (λz=>nomatch z) h
 |bl y=>cases(show u=Value.bool y from rx);exact kia_one PySem.W.kitx_bool I.dE True.intro e (λz=>nomatch z) h
 |int i=>obtain⟨t,q⟩:=(show ∃t,u=Value.int i t from rx);cases q;exact kia_one PySem.W.kitx_int I.dE True.intro e (λz=>nomatch z) h
 |str y=>obtain⟨t,q⟩:=(show ∃t,u=Value.str y t from rx);cases q;exact kia_one PySem.W.kitx_str I.dE True.intro e (λz=>nomatch z) h
 |sh y=>obtain⟨t,q⟩:=(show ∃t,u=Value.float y t from rx);cases q;exact kia_one PySem.W.kitx_float I.dE True.intro e (λz=>nomatch z) h
 |@lst a xs ea=>
  cases(show u=Value.ref a from rx);obtain⟨_,_,n,_,h1⟩:=(show cB X.prog X.w H s.heap a (.lst xs) from I.aw a _ ea);exact kia_one kitx_list I.dE ⟨_,h1,rfl⟩ e (λz=>nomatch z) h
 |@bX a ob xs ea=>
  cases(show u=Value.ref a from rx);obtain⟨_,_,_,n,_,h1⟩:=(show cB X.prog X.w H s.heap a (.bX ob (.lst xs)) from I.aw a _ ea);exact kia_one kitx_list I.dE ⟨_,h1,rfl⟩ e (λz=>nomatch z) h
 |@tup a xs ea=>
  cases(show u=Value.ref a from rx);obtain⟨_,_,_,p⟩:=(show cB X.prog X.w H s.heap a (.tup xs) from I.aw a _ ea);obtain⟨o,h1,h2,_⟩:=p;exact kia_one PySem.W.kitx_tuple I.dE ⟨o,h1,h2⟩ e (λz=>nomatch z) h
 |@dK a kvs ea=>
  cases(show u=Value.ref a from rx);obtain⟨_,_,vs,_,p⟩:=(show cB X.prog X.w H s.heap a (.dK kvs) from I.aw a _ ea);obtain⟨o,es,ep,h1,h2,_⟩:=p;exact kia_one kitx_dict I.dE ⟨o,h1,h2.1⟩ e (λz=>nomatch z) h
 |@dT a kvs ea=>
  cases(show u=Value.ref a from rx);obtain⟨_,_,xs,_,o,es,ep,h1,h2,_⟩:=(show cB X.prog X.w H s.heap a (.dT kvs) from I.aw a _ ea);exact kia_one kitx_dict I.dE ⟨o,h1,h2.1⟩ e (λz=>nomatch z) h
 |@ins a C dx fs ea cl ha hn Rf hm=>
  cases(show u=Value.ref a from rx);obtain⟨mA,O,_⟩:=zp I.aw ea;obtain⟨od,J,_⟩:=O.look;exact kia_one (PySem.W.kitx_own (cl.get _) cl.hd ha hn Rf hm) I.dE J e (λz=>nomatch z) h
end
structure c7(k:Nat)(A:Around):Prop where
 hd:A.handled=none
 dp:A.depth+3*k+5<recursionLimit
 un:A.units+16*k+200<cLine
 gd:A.guards=some []
theorem c7.mono{j k:Nat}{A:Around}(r:c7 k A)(h:j<=k):c7 j A:=⟨r.hd,by have:=r.dp;omega,by have:=r.un;omega,r.gd⟩
theorem c7.deeper{k:Nat}{A:Around}(r:c7 (k+1) A)(env:Env):c7 k (A.deeper env):=
 ⟨r.hd,by have:=r.dp;show A.depth+1+3*k+5<_;omega,by have:=r.un;show A.units+3+16*k+200<_;omega,r.gd⟩
theorem Xl{A:Around}{C:Addr}{us:List Value}{kw:List (Str×Value)}:(A.under (.builtin "type.__call__" ⟨.ref C::us,kw⟩)).depth=A.depth+1:=by
 rfl
theorem Xm{A:Around}{C:Addr}{us:List Value}{kw:List (Str×Value)}:(A.under (.builtin "type.__call__" ⟨.ref C::us,kw⟩)).units=A.units+1:=by
 rfl
theorem c7.make{k:Nat}{A:Around}(r:c7 (k+1) A)(C:Addr)(us:List Value)(kw:List (Str×Value)):c7 k (A.under (.builtin "type.__call__" ⟨.ref C::us,kw⟩)):=
 ⟨r.hd,by have:=r.dp;rw[Xl];omega,by have:=r.un;rw[Xm];omega,by first|exact r.gd|simpa[Around.under,Code.isGuard,Code.isFrame,guardIds] using r.gd⟩
theorem c7.depth{k:Nat}{A:Around}(r:c7 k A):A.depth<recursionLimit:=by have:=r.dp;omega
theorem c7.units{k:Nat}{A:Around}(r:c7 k A):A.units+64<cLine:=by have:=r.un;omega
theorem c7.ui{k:Nat}{A:Around}(r:c7 k A):A.units<cLine:=by have:=r.un;omega
def iY:TA:=λ_ H Q=>Q [] H
def gf(ta:TE)(tr:TA):TA:=λσ H Q=>ta σ H λx H1=>tr σ H1 λxs H2=>Q (x::xs) H2
section
variable {X:Cx}{e:Expr}{es:List Expr}{te:TE}{t:TA}{pos:Pos}
theorem ag:PA X [] iY:=λ_ _ _ _ H Q I h=>Calls.spliced_nil ⟨[],H,I,.nil,h⟩
theorem aa(ha:PE X e te)(hr:PA X es t)(hs:l3 X e es:=by rfl):PA X (e::es) (gf te t):=by
 intro pos pins s σ H Q I h;rw[hs];exact Calls.spliced_cons (aB (ha pins s σ H _ I h) λu s1 ⟨x,H1,I1,r1,q1⟩=>aB (hr pos pins s1 σ H1 _ I1 q1) λus s2 ⟨xs,H2,I2,r2,q2⟩=>⟨x::xs,H2,I2,.cons r1 r2,q2⟩)
def Zec(t:TA):TE:=λσ H Q=>t σ H λxs H1=>xs.length<=sizeLine/\∀p,H1 p=none->Q (.ref p) (upd H1 p (.tup xs))
def Zed(t:TA):TE:=λσ H Q=>t σ H λxs H1=>xs.length<=sizeLine/\∀p,H1 p=none->Q (.ref p) (upd H1 p (.lst xs))
theorem Zb4{x1}(h:PA X es t):PE X (.Tuple es x1 pos) (Zec t):=by
 intro pins s σ H Q I hq;refine wpAny_Tuple_spliced (aB (h pos pins s σ H _ I hq) λus s1 ⟨xs,H1,I1,r,z,q⟩=>⟨by rw[←r.length];exact z,⟨.ref s1.heap.objs.size,upd H1 s1.heap.objs.size (.tup xs),I1.laid (λb u e=>Yc _ e) (Ye _) ?_,rfl,q _ (I1.aw.fresh (Ye _))⟩⟩);exact⟨z,us,r,⟨_,Yr _ rfl,rfl,_,rfl,rfl⟩⟩
theorem jI(h:PA X es t):PE X (.List es pos) (Zed t):=by
 intro pins s σ H Q I hq;refine wpAny_List_spliced (aB (h pos pins s σ H _ I hq) λus s1 ⟨xs,H1,I1,r,z,q⟩=>⟨by rw[←r.length];exact z,⟨.ref s1.heap.objs.size,upd H1 s1.heap.objs.size (.lst xs),I1.laid (λb u e=>Yc _ e) (Ye _) ?_,rfl,q _ (I1.aw.fresh (Ye _))⟩⟩);exact⟨z,us,0,r,Yr _ rfl⟩
end
abbrev Sp:=List V->Hp->VK->XK->Prop
abbrev jP:=List Env->Hp->Shared->XK->Value->Shared->Prop
structure rW(P:Program)(w:World)(K:ai)(mg:aX)(base:Heap)(A:Around)(outer:List Env)(s:Shared)(H:Hp):Prop where
 frames:A.frames=some outer
 mod:Mod K mg base
 bs:∀b o,base.get? b=some o->s.heap.get? b=some o/\H b=none
 nj:base.objs.size<=s.heap.objs.size
 jN:s.heap.FunFrames base outer
 oP:∀b∈eY outer,H b=none
 aw:c_ P w H s.heap
 bare:AllBare s.gens
def CE(outer:List Env)(P:Program)(w:World)(H:Hp)(s:Shared)(Q:VK)(u:Value)(s':Shared):Prop:=
 ∃v H',s'.os=s.os/\AllBare s'.gens/\Un (eY outer) [] H H' s.heap s'.heap/\c_ P w H' s'.heap/\RelV v u/\Q v H'
def CR(CX:jP)(outer:List Env)(P:Program)(w:World)(H:Hp)(s:Shared)(Q:VK)(E:XK)(r:Result)(s':Shared):Prop:=
 match r with
 |.ok (.ret u)=>CE outer P w H s Q u s'
 |.ok _=>False
 |.error e=>CX outer H s E e s'
structure aH(P:Program)(w:World)(K:ai)(mg:aX)(base:Heap)(CX:jP)(k:Nat)(f:Addr)(fd:FuncData)(ps:List Str)(sp:Sp):Prop where
 len:∀vs H Q E,sp vs H Q E->vs.length=ps.length
 run:∀(A:Around) (outer:List Env) (s:Shared) (H:Hp) (args:Args) (us:List Value) (vs:List V) (Q:VK) (E:XK),c7 k A->rW P w K mg base A outer s H->BindsTo s fd args (ps.zip us)->Vals vs us->sp vs H Q E->
  codeAny (model P w) A (.call (.ref f) args) (CR CX outer P w H s Q E) s
theorem rW.make{P:Program}{w:World}{K:ai}{mg:aX}{base:Heap}{A:Around}{outer:List Env}{s:Shared}{H:Hp}(e:rW P w K mg base A outer s H)(C:Addr)(us:List Value)(kw:List (Str×Value)):
  rW P w K mg base (A.under (.builtin "type.__call__" ⟨.ref C::us,kw⟩)) outer s H:=⟨by first|exact e.frames|(simpa[Around.under,Code.envs,Code.isFrame,pushEnvs] using e.frames),e.mod,e.bs,e.nj,e.jN,e.oP,e.aw,e.bare⟩
section
variable {X:Cx}{pins:aZ}{σ:St}{H:Hp}{s s':Shared}
theorem Inv.P9(I:Inv X pins σ H s):rW X.prog X.w X.K X.mg X.base X.A X.stack s H:=
 ⟨I.ok.frames,I.ok.mod,I.bs,Y6 I.ok.nj I.sz,I.stack,I.MG,I.aw,I.bare⟩
theorem Inv.after{Q:VK}{u:Value}(I:Inv X pins σ H s)(h:CE X.stack X.prog X.w H s Q u s'):EP X pins σ Q u s':=by
 obtain⟨v,H',os,bare,un,aw,r,q⟩:=h;obtain⟨hh,g,d,t,os'⟩:=s';obtain rfl:os'=s.os:=os;exact⟨v,H',I.call (h':=hh) (g':=g) (d':=d) (t':=t) (ch:=[]) un aw bare (λb z=>absurd z (by simp)),r,q⟩
end
def FP(sp:Sp)(eG:List V)(E:XK)(t:TA):TE:=λσ H Q=>t σ H λvs H1=>sp (vs++eG) H1 Q E
def zW(C:Addr)(m:Str)(sp:Sp)(eG:List V)(E:XK)(ta:TE)(t:TA):TE:=λσ H Q=>ta σ H λx H1=>∃a dx fs,x=.ref a/\H1 a=some (.ins C dx fs)/\fs.lookup m=none/\
 t σ H1 λvs H2=>sp (x::(vs++eG)) H2 Q E
def Pc(C:Addr)(sp:Sp)(eG:List V)(E:XK)(t:TA):TE:=λσ H Q=>t σ H λvs H1=>∀x dx,H1 x=none->H1 dx=none->dx≠x->
 sp (.ref x::(vs++eG)) (upd (upd H1 dx (.own x)) x (.ins C dx [])) (λv H2=>v=.az/\Q (.ref x) H2) E
def Binds(K:ai)(fd:FuncData)(ps:List Str)(ds:List Value):Prop:=
 ∀(s:Shared) (us:List Value),K.In s.heap->(us++ds).length=ps.length->BindsTo s fd ⟨us,[]⟩ (ps.zip (us++ds))
theorem Binds.all{K:ai}{fd:FuncData}{ps:List Str}(h:∀us:List Value,us.length=ps.length->bindArgs fd ⟨us,[]⟩=pure (ps.zip us)):Binds K fd ps []:=λs us _ hl=>by
 rw[Wh] at hl⊢;exact .of_eq (h us hl)
def Passes(CX:jP)(X:Cx)(E:XK):Prop:=∀(pins:aZ) (σ:St) (H:Hp) (s:Shared) (e:Value) (s':Shared),Inv X pins σ H s->CX X.stack H s E e s'->X.xe e s'
section
variable {X:Cx}{CX:jP}{k:Nat}{f C:Addr}{fd:FuncData}{ps:List Str}{sp:Sp}{eG:List V}{ds:List Value}{E:XK}{x m:Str}{p pos apos:Pos}{e o:Expr}{es:List Expr}{ta:TE}{t:TA}
theorem Fo{pins:aZ}{σ:St}{H:Hp}{s:Shared}{Q:VK}{us:List Value}{vs:List V}(F:aH X.prog X.w X.K X.mg X.base CX k f fd ps sp)(hr:c7 k X.A)(hb:Binds X.K fd ps ds)(hd:Vals eG ds)(hx:Passes CX X E)
  (I:Inv X pins σ H s)(r:Vals vs us)(h:sp (vs++eG) H Q E):wpAny X.md X.A (call (.ref f) us) (EP X pins σ Q) X.xe s:=by
 have r2:Vals (vs++eG) (us++ds):=r.append hd;have hl:(us++ds).length=ps.length:=by rw[←r2.length];exact F.len _ _ _ _ h
 refine wpAny_call (codeAny_mono (F.run X.A X.stack s H ⟨us,[]⟩ (us++ds) (vs++eG) Q E hr I.P9 (hb s us I.dE hl) r2 h) λr s' hq=>?_);cases r with
 |error e=>exact hx pins σ H s e s' I hq
 |ok fl=>
  cases fl with
  |ret u=>exact I.after hq
  |next=>exact False.elim hq
  |brk=>exact False.elim hq
  |cont=>exact False.elim hq
theorem ZaL(F:aH X.prog X.w X.K X.mg X.base CX k f fd ps sp)(hr:c7 k X.A)(hg:Gl X x)(hm:X.mg x=some (.ref f))(hk:keepIn X.K (.ref f)=true)(hb:Binds X.K fd ps ds)(hd:Vals eG ds)(hx:Passes CX X E)
  (ha:PA X (e::es) t)(jQ:(x==("__debug__":Str))=false:=by decide)(he:l3 X e es:=by rfl)(cE:ni X pos es:=by rfl):
  PE X (.Call (.Name x p) (e::es) [] pos) (FP sp eG E t):=by
 intro pins s σ H Q I h;exact wpAny_Call_Name_kw (EW I hg hm (callWith_K I.ok.mod.sr hk (aB (ha pos pins s σ H _ I h) λus s1 ⟨vs,H1,I1,r,q⟩=>⟨I1.dE,Fo F hr hb hd hx I1 r q⟩) he cE) jQ)
theorem ZaM{pl:Sem Bool}(he:PE X o ta)(c:iu X.K C)(hm:Meth X.K C m f)(F:aH X.prog X.w X.K X.mg X.base CX k f fd ps sp)(hr:c7 k X.A)(hb:Binds X.K fd ps ds)(hd:Vals eG ds)(hx:Passes CX X E)(ha:PA X (e::es) t)
  (dZ:l3 X e es:=by rfl)(cE:ni X pos es:=by rfl)
  (ht:eval (.Call (.Attribute o m apos) (e::es) [] pos) X.env=(do
   let ov←eval o X.env
   standAt apos.atName
   let(f,first)←holding [ov] (getMethod ov m pl)
   callWith pos f first (backTo pos (starEach (e::es) X.env)) (backToKw pos (keywordEach [] X.env))):=by rfl):
  PE X (.Call (.Attribute o m apos) (e::es) [] pos) (zW C m sp eG E ta t):=by
 intro pins s σ H Q I h;refine methodCall_KW (pl:=pl) (aB (he pins s σ H _ I h) λu s1 zq=>?_) ht;obtain⟨x,H1,I1,rx,a,dx,fs,ex,ea,l,q⟩:=zq;subst ex;obtain rfl:u=Value.ref a:=rx;refine Kx I1 ea c hm l ?_;refine callWith_K (first:=[.ref a]) (h₀:=X.base) I.ok.mod.sr hm.kp (aB (ha pos pins s1 σ H1 _ I1 q) λus s2 ⟨vs,H2,I2,r,q2⟩=>⟨I2.dE,?_⟩) dZ cE;exact Fo (us:=.ref a::us) (vs:=.ref a::vs) F hr hb hd hx I2 (.cons rfl r) q2
theorem ZD{pl:Sem Bool}(he:PE X o ta)(c:iu X.K C)(hm:Meth X.K C m f)(F:aH X.prog X.w X.K X.mg X.base CX k f fd ps sp)(hr:c7 k X.A)(hb:Binds X.K fd ps ds)(hd:Vals eG ds)(hx:Passes CX X E)
  (ht:eval (.Call (.Attribute o m apos) [] [] pos) X.env=(do
   let ov←eval o X.env
   standAt apos.atName
   let(f,first)←holding [ov] (getMethod ov m pl)
   callWith pos f first (backTo pos (starEach [] X.env)) (backToKw pos (keywordEach [] X.env))):=by rfl):
  PE X (.Call (.Attribute o m apos) [] [] pos) (zW C m sp eG E ta iY):=by
 intro pins s σ H Q I h;refine methodCall_KW (pl:=pl) (aB (he pins s σ H _ I h) λu s1 zq=>?_) ht;obtain⟨x,H1,I1,rx,a,dx,fs,ex,ea,l,q⟩:=zq;subst ex;obtain rfl:u=Value.ref a:=rx;refine Kx I1 ea c hm l ?_;exact PySem.W.callWith_K0 (first:=[.ref a]) I1.dE hm.kp (Fo (us:=[.ref a]) (vs:=[.ref a]) F hr hb hd hx I1 (.cons rfl .nil) q)
structure Mk(K:ai)(C f:Addr):Prop where
 makes:makesIn K C=true
 init:PySem.W.findIn K (.ref C) "__init__"=some (some (.ref f))
 fn:isFn K (.ref f)=true
 kp:keepIn K (.ref C)=true
theorem ZE{pins:aZ}{σ:St}{H:Hp}{s:Shared}{Q:VK}{us:List Value}{vs:List V}(M:Mk X.K C f)(F:aH X.prog X.w X.K X.mg X.base CX k f fd ps sp)(hr:c7 (k+1) X.A)(hb:Binds X.K fd ps ds)(hd:Vals eG ds)
  (hx:Passes CX X E)(I:Inv X pins σ H s)(r:Vals vs us)
  (h:∀x dx,H x=none->H dx=none->dx≠x->sp (.ref x::(vs++eG)) (upd (upd H dx (.own x)) x (.ins C dx [])) (λv H2=>v=.az/\Q (.ref x) H2) E):
  wpAny X.md X.A (call (.ref C) us) (EP X pins σ Q) X.xe s:=by
 have hq:=h (s.heap.objs.size+1) s.heap.objs.size (I.aw.fresh (Nat.le_succ _)) (I.aw.fresh (Ye _)) (Yz (Wg _));have I2:=Inv.made (C:=C) I;have r2:Vals (V.ref (s.heap.objs.size+1)::(vs++eG)) (Value.ref (s.heap.objs.size+1)::(us++ds)):=.cons rfl (r.append hd);have hl:(Value.ref (s.heap.objs.size+1)::us++ds).length=ps.length:=by
  have e:=r2.length;rw[F.len _ _ _ _ hq] at e;exact e.symm
 refine wpAny_call (ZC I.dE M.makes M.init (beq_iff_eq.mp M.fn) (codeAny_mono (F.run _ X.stack _ _ ⟨Value.ref (s.heap.objs.size+1)::us,[]⟩ (Value.ref (s.heap.objs.size+1)::(us++ds)) _ _ E (hr.make C us [])
  (I2.P9.make C us []) (hb _ (Value.ref (s.heap.objs.size+1)::us) I2.dE hl) r2 hq) λr s' xx=>?_))
 cases r with
 |error e=>exact hx pins σ _ _ e s' I2 xx
 |ok fl=>
  cases fl with
  |ret u=>
   obtain⟨v,H',I3,rv,ev,q3⟩:=I2.after xx;subst ev;exact⟨rv,⟨V.ref (s.heap.objs.size+1),H',I3,rfl,q3⟩⟩
  |next=>exact False.elim xx
  |brk=>exact False.elim xx
  |cont=>exact False.elim xx
theorem ZaN(M:Mk X.K C f)(F:aH X.prog X.w X.K X.mg X.base CX k f fd ps sp)(hr:c7 (k+1) X.A)(hg:Gl X x)(hm:X.mg x=some (.ref C))(hb:Binds X.K fd ps ds)(hd:Vals eG ds)(hx:Passes CX X E)
  (ha:PA X (e::es) t)(jQ:(x==("__debug__":Str))=false:=by decide)(he:l3 X e es:=by rfl)(cE:ni X pos es:=by rfl):
  PE X (.Call (.Name x p) (e::es) [] pos) (Pc C sp eG E t):=by
 intro pins s σ H Q I h;exact wpAny_Call_Name_kw (EW I hg hm (callWith_K I.ok.mod.sr M.kp (aB (ha pos pins s σ H _ I h) λus s1 ⟨vs,H1,I1,r,q⟩=>⟨I1.dE,ZE M F hr hb hd hx I1 r q⟩) he cE) jQ)
end
section
variable {X:Cx}{CX:jP}{k:Nat}{f C:Addr}{fd:FuncData}{ps ks:List Str}{sp:Sp}{E:XK}{x m:Str}{p pos apos Zgl:Pos}{e o:Expr}{es:List Expr}{kws:List Keyword}{te ta:TE}{t tk:TA}{nm:Option Str}
variable {g:List Value->List Value->List Value}{gV:List V->List V->List V}
end
structure aQ(N P:List Str)(sc:Scope):Prop where
 kind:sc.kind=.function
 co:sc.isCoroutine=false
 gen:sc.isGenerator=false
 nd:N.Nodup
 pre:N.take P.length=P
 par:∀x∈P,sc.names.lookup x=some .local\/sc.names.lookup x=some .cell
 Zb5:∀y∈sc.names,y.2≠.free
theorem K5{kindOf:Str->Option NameKind}{x:Str}:∀{binds:List (Str×Value)} {m:aX},(∀v,(x,v)∉binds)->bindL kindOf binds m x=m x
 |[],_,_=>rfl
 |(n,v)::r,m,h=>by
  unfold bindL;rw[K5 λw hw=>h w (Ys _ hw)];split;·grind
  ·rfl
theorem K6{kindOf:Str->Option NameKind}{x:Str}:∀{binds:List (Str×Value)} {m:aX},(∀v,(x,v)∉binds)->bindC kindOf binds m x=m x
 |[],_,_=>rfl
 |(n,v)::r,m,h=>by
  unfold bindC;rw[K6 λw hw=>h w (Ys _ hw)];split;·rfl
  ·grind
theorem K7{kindOf:Str->Option NameKind}{x:Str}{v:Value}:∀{P:List Str} {vs:List Value} {i:Nat} {m:aX},P.Nodup->P[i]?=some x->vs[i]?=some v->kindOf x=some .local->
  bindL kindOf (P.zip vs) m x=some v
 |[],_,_,_,_,h,_,_=>by simp at h
 |_::_,[],_,_,_,_,h,_=>by simp at h
 |p::P,w::vs,0,m,nd,h1,h2,hk=>by
  simp at h1 h2;subst h1;subst h2;show bindL kindOf ((p,w)::P.zip vs) m p=_;unfold bindL;rw[K5 λv hv=>(Yy.mp nd).1 (Rg hv).1,if_pos hk];simp
 |p::P,w::vs,i+1,m,nd,h1,h2,hk=>by
  unfold bindL;exact K7 (Yy.mp nd).2 (by simpa using h1) (by simpa using h2) hk
theorem K8{kindOf:Str->Option NameKind}{x:Str}{v:Value}:∀{P:List Str} {vs:List Value} {i:Nat} {m:aX},P.Nodup->P[i]?=some x->vs[i]?=some v->kindOf x≠some .local->
  bindC kindOf (P.zip vs) m x=some v
 |[],_,_,_,_,h,_,_=>by simp at h
 |_::_,[],_,_,_,_,h,_=>by simp at h
 |p::P,w::vs,0,m,nd,h1,h2,hk=>by
  simp at h1 h2;subst h1;subst h2;show bindC kindOf ((p,w)::P.zip vs) m p=_;unfold bindC;rw[K6 λv hv=>(Yy.mp nd).1 (Rg hv).1,if_neg hk];simp
 |p::P,w::vs,i+1,m,nd,h1,h2,hk=>by
  unfold bindC;exact K8 (Yy.mp nd).2 (by simpa using h1) (by simpa using h2) hk
def start(N:List Str)(vs:List V):St:=vs.map some++List.replicate (N.length-vs.length) none
def lV(CX:jP)(P:Program)(w:World)(K:ai)(mg:aX)(base:Heap)(N:List Str)(qual:Str)(scope:Scope)(f:Addr)(cd:Value)(A:Around)(outer:List Env)(s:Shared)(H:Hp)(E:XK):Cx where
 prog:=P
 w:=w
 K:=K
 mg:=mg
 base:=base
 A:=A.deeper (envOfC qual scope s.heap.objs.size f cd)
 N:=N
 cT:=s
 kR:=H
 env:=envOfC qual scope s.heap.objs.size f cd
 outer:=outer
 stack:=envOfC qual scope s.heap.objs.size f cd::outer
 ex:=[]
 calm:=true
 fn:=λ_=>true
 pn:=[]
 xe:=λe s'=>wpAny (model P w) (A.deeper (envOfC qual scope s.heap.objs.size f cd)) (leaving (envOfC qual scope s.heap.objs.size f cd) e) (λ_ sv=>CX outer H s E e sv) (λe' sv=>CX outer H s E e' sv) s'
theorem LK{sc:Scope}{n:Nat}{x:Str}(h:sc.names.lookup x=some .cell):∃c,(cellsFrom n sc.names []).lookup x=some c:=by
 exact Jf.mp (cellsFrom_some sc.names n [] (.inl h))
theorem YI{CX:jP}{P:Program}{w:World}{K:ai}{mg:aX}{base:Heap}{N ps:List Str}{qual:Str}{scope:Scope}{f:Addr}{cd:Value}{A:Around}{outer:List Env}{s s1:Shared}{H:Hp}{E:XK}{us:List Value}{vs:List V}
  (S:aQ N ps scope)(hd:A.handled=none)(e0:rW P w K mg base A outer s H)(hl:vs.length=ps.length)(r:Vals vs us)
  (x:InCallC s s.heap.objs.size (bindL (envOfC qual scope s.heap.objs.size f cd).kindOf (ps.zip us) λ_=>none) (cellsFrom (s.heap.objs.size+1) scope.names []) (bindC (envOfC qual scope s.heap.objs.size f cd).kindOf (ps.zip us) λ_=>none) s1):
  Inv (lV CX P w K mg base N qual scope f cd A outer s H E) [] (start N vs) H s1:=by
 have cE:ps.length<=N.length:=by have:=congrArg List.length S.pre;rw[Wa] at this;omega
 obtain⟨h1,tk,rfl,hk⟩:=x.done;have xy:∀b:Addr,b∉(lV CX P w K mg base N qual scope f cd A outer s H E).ex:=λb z=>absurd (show b∈([]:List Addr) from z) (by simp);refine⟨⟨e0.mod,S.kind,rfl,rfl,Ye _,λy z c h1 h2=>?_,λy hy=>?_,λy c _ h=>?_,λ_=>hd,Around.frames_deeper e0.frames,.inr ⟨rfl,rfl⟩,λb z=>absurd z (xy b),e0.bs,e0.nj,λb _ _=>xy b,λb z=>absurd z (xy b),e0.jN,e0.oP⟩,
  rfl,e0.bare,Un.kept hk,⟨_,x.toInCall.ns,λi y v h1 h2 h3=>?_⟩,λy c h=>⟨_,x.cell y c h⟩,e0.aw.fresh (Ye _),λy c h=>?_,λp hp=>absurd (show p∈([]:aZ) from hp) (by simp),e0.aw.kept hk,?_⟩
 ·exact name_of_addr x.apart (PySem.mem_of_lookup h1) (PySem.mem_of_lookup h2)
 ·have hy:scope.names.lookup y=some .cell\/scope.names.lookup y=some .free:=hy;rcases hy with hy|hy;·exact LK hy
  ·exact absurd rfl (S.Zb5 _ (PySem.mem_of_lookup hy))
 ·exact Jw (x.above y c (PySem.mem_of_lookup h))
 ·have hi:i<vs.length:=by
   unfold start at h2
   grind
  have ha:vs[i]?=some v:=by
   unfold start at h2;rw[Wb (by simpa using hi),Yd] at h2;cases e:vs[i]? with
   |none=>grind
   |some a=>grind
  obtain⟨u,hu,rv⟩:=r.get ha;have hp:ps[i]?=some y:=by
   rw[←S.pre,List.getElem?_take_of_lt (by omega)];exact h1
  have Rh:ps.Nodup:=by rw[←S.pre];exact S.nd.sublist (List.take_sublist _ _)
  refine⟨u,rv,?_⟩;rcases S.par y (Yh hp) with k|k;·exact .inl ⟨k,K7 Rh hp hu k⟩
  ·obtain⟨c,e⟩:=LK k;refine .inr ⟨.inl k,c,e,?_⟩;have q:=x.cell y c e;rw[K8 Rh hp hu (by show scope.names.lookup y≠_;rw[k];decide)] at q;exact q
 ·exact e0.aw.fresh (Jw (x.above y c (PySem.mem_of_lookup h)))
 ·unfold start;show _=N.length
  grind
theorem Pd{CX:jP}{P:Program}{w:World}{K:ai}{mg:aX}{base:Heap}{k:Nat}{f:Addr}{name qual:Str}{params:Arguments}{body:List Stmt}{scope:Scope}{dV kV doc pm b_ ct oc:Value}{an od:Option Addr}
  {oV:Array (Option Value)}{N ps:List Str}{sp:Sp}(lk:K.lookup f=some ⟨oc,od,.func (fnOf name qual params body scope dV kV doc pm an b_ ct),oV⟩)(i6:codeIn K b_ qual=true)(S:aQ N ps scope)
  (len:∀vs H Q E,sp vs H Q E->vs.length=ps.length)
  (rK:∀(A:Around) (outer:List Env) (s:Shared) (H:Hp) (vs:List V) (Q:VK) (E:XK),c7 k (A.deeper (envOfC qual scope s.heap.objs.size f b_))->sp vs H Q E->
   ∃t,gv (lV CX P w K mg base N qual scope f b_ A outer s H E) body t/\t {nx:=λ_ H'=>Q .az H',rt:=Q} (start N vs) H):
  aH P w K mg base CX (k+1) f (fnOf name qual params body scope dV kV doc pm an b_ ct) ps sp:=by
 refine⟨len,λA outer s H args us vs Q E hr e0 hb r nA=>?_⟩;have hl:=len _ _ _ _ nA;have KX:K.In s.heap:=e0.mod.sr.keeps λb o e=>(e0.bs b o e).1;have lim:s.heap.NoLimit:=e0.mod.nolimit.keeps λb o e=>(e0.bs b o e).1;have Zdp:∀y∈ps.zip us,scope.names.lookup y.1=some .local\/(scope.names.lookup y.1=some .cell/\((cellsFrom (s.heap.objs.size+1) scope.names []).lookup y.1).isSome=true):=λ⟨n,v⟩ hy=>by
  rcases S.par n (Rg hy).1 with q|q;·exact .inl q
  ·exact .inr ⟨q,cellsFrom_some _ _ _ (.inl q)⟩
 refine codeAny_call_function hr.depth (KX _ _ lk) rfl S.co S.gen rfl (PySem.W.codeRec_of KX i6) (hb _ _ _ _ ?_);refine wpAny_newFunctionEnv_cells S.kind Zdp λenv he s1 x=>?_;subst he;refine⟨lim.keeps x.toInCall.keep,codeAny_func ?_⟩;obtain⟨t,ht,hq⟩:=rK A outer s H vs Q E (hr.deeper _) nA;have I:Inv (lV CX P w K mg base N qual scope f b_ A outer s H E) [] (start N vs) H s1:=YI S hr.hd e0 hl r x;refine wpAny_mono (ht [] s1 (start N vs) H _ I hq) (λfl s' hs=>?_) λe s' hs=>hs;have fin:∀{aO:St} {H':Hp} {v:V} {u:Value},Inv (lV CX P w K mg base N qual scope f b_ A outer s H E) [] aO H' s'->RelV v u->Q v H'->CE outer P w H s Q u s':=
  λ{aO H' v u} J rv q=>⟨v,H',J.os,J.bare,J.base,J.aw,rv,q⟩
 cases fl with
 |ret u=>
  obtain⟨v,aO,H',J,rv,q⟩:=hs;exact fin J rv q
 |next=>
  obtain⟨aO,H',J,q⟩:=hs;exact fin (v:=V.az) (u:=Value.none) J rfl q
 |brk=>
  obtain⟨_,_,_,q⟩:=hs;exact False.elim q
 |cont=>
  obtain⟨_,_,_,q⟩:=hs;exact False.elim q
section
variable {X:Cx}{x:Str}{p pos:Pos}{e:Expr}{es:List Expr}{t:TA}{id T:String}{r:List V->Hp->VK->Prop}
def nB(r:List V->Hp->VK->Prop)(t:TA):TE:=λσ H Q=>t σ H λvs H1=>r vs H1 Q
theorem hJ(hc:cZ X (.builtin id) r)(hg:Gl X x)(hm:X.mg x=none)(hv:bootBuiltins x=some (.builtin id))(ha:PA X (e::es) t)(hn:x≠"__name__":=by decide)(jQ:(x==("__debug__":Str))=false:=by decide)
  (he:l3 X e es:=by rfl)(cE:ni X pos es:=by rfl):PE X (.Call (.Name x p) (e::es) [] pos) (nB r t):=by
 intro pins s σ H Q I h;refine wpAny_Call_Name_kw (zI I hg hm hv ?_ hn jQ);exact PyProof.Rows.callWith_builtin1 (aB (ha pos pins s σ H _ I h) λus s1 ⟨vs,H1,I1,r1,q1⟩=>hc pins s1 σ H1 vs us Q I1 r1 q1) he cE
theorem eR(hc:cZ X (.type T) r)(hg:Gl X x)(hm:X.mg x=none)(hv:bootBuiltins x=some (.type T))(ha:PA X (e::es) t)(hn:x≠"__name__":=by decide)(jQ:(x==("__debug__":Str))=false:=by decide)
  (he:l3 X e es:=by rfl)(cE:ni X pos es:=by rfl):PE X (.Call (.Name x p) (e::es) [] pos) (nB r t):=by
 intro pins s σ H Q I h;refine wpAny_Call_Name_kw (zI I hg hm hv ?_ hn jQ);exact PyProof.Rows.callWith_type1 (aB (ha pos pins s σ H _ I h) λus s1 ⟨vs,H1,I1,r1,q1⟩=>hc pins s1 σ H1 vs us Q I1 r1 q1) he cE
end
end L2
namespace HT
open PySem PyProof.Rows
section
open PySem.SeqAt
open PySem.AutoSeq1 (wpAny_loadPart')
open PySem.MeetsSeq PySem.MeetsSeq2 PySem.MeetsSeq3
end
section
variable {prog:Program}{w:World}{A:Around}{E:bb}{s:Shared}
theorem ZaO{t b:Addr}{vs ws:List Value}{Q:bb}(ht:IsTup s.heap t vs.toArray)(hb:IsTup s.heap b ws.toArray)(hv:vs≠[])
  (h1:ws=[]->Q (.ref t) s)(h2:ws≠[]->Q (.ref s.heap.objs.size) {s with heap:=s.heap.push {cls:=.type "tuple",data:=.seq (vs++ws).toArray}})
  (hsz:vs.length+ws.length<=sizeLine):wpAny (model prog w) A (binaryOp .Add (.ref t) (.ref b)) Q E s:=by
 obtain⟨⟨cls,dd,data,sl⟩,ho,hc,n,hd⟩:=id ht;obtain⟨⟨Zgm,Ri,data2,Rj⟩,uR,Rk,n2,hd2⟩:=id hb;simp only at hc hd Rk hd2;subst hc hd Rk hd2;have e:vs.toArray++ws.toArray=(vs++ws).toArray:=by simp
 by_cases hw:ws=[]
 ·exact concat_meets ⟨_,ho,rfl⟩ ⟨_,uR,rfl⟩ noFill_tuple_add seq_tuple_add slot_tuple_add PySem.F.entry_tuple_add (PySem.F.args_tuple_add_2 _ _)
   (tuple_addW1 t b vs.toArray ws.toArray n n2 dd Ri sl Rj (by simpa using hv) (by simp[hw])) ⟨ho,uR,h1 hw⟩
 ·refine concat_meets ⟨_,ho,rfl⟩ ⟨_,uR,rfl⟩ noFill_tuple_add seq_tuple_add slot_tuple_add PySem.F.entry_tuple_add (PySem.F.args_tuple_add_2 _ _)
   (tuple_addW2 t b vs.toArray ws.toArray n n2 dd Ri sl Rj (by simpa using hv) (by simpa using hw) (by rw[Yu,Yu];exact hsz)) ⟨ho,uR,?_⟩
  rw[e];exact h2 hw
def gS(n d:Nat):Option Int->Nat
 |none=>d
 |some v=>if v<0 then(v+(n:Int)).toNat else min v.toNat n
end
end HT
namespace L2
open PySem PySem.Spec PyProof.Rows
abbrev TO:=St->Hp->(Option Int->Hp->Prop)->Prop
def PO(X:Cx)(e:Option Expr)(t:TO):Prop:=
 ∀(pins:aZ) (s:Shared) (σ:St) (H:Hp) (Q:Option Int->Hp->Prop),Inv X pins σ H s->t σ H Q->
  wpAny X.md X.A (evalPart e X.env) (λu s'=>∃o H',Inv X pins σ H' s'/\IsPart u o/\Q o H') X.xe s
def ZaP:TO:=λ_ H Q=>Q none H
inductive MQ(Q:Option Int->Hp->Prop)(x:V)(H1:Hp):Prop
 |mk (i) (aE:x=.int i) (aU:Q (some i) H1):MQ Q x H1
def Zdq(t:TE):TO:=λσ H Q=>t σ H λx H1=>MQ Q x H1
theorem intsAre_of{ns:List Int}:∀{us:List Value},Vals (ns.map V.int) us->IntsAre us ns:=by
 induction ns with
 |nil=>intro us r;rw[List.map_nil] at r;cases r;exact .nil
 |cons n ns ih=>
  intro us r;cases r with
  |cons r1 r2=>
   obtain⟨t,e⟩:=r1;subst e;exact .cons n t (ih r2)
section
variable {X:Cx}{e:Expr}{te:TE}{lo hi:Option Expr}{tl th:TO}{pos p2:Pos}
theorem MR:PO X none ZaP:=by
 intro pins s σ H Q I h;exact wpAny_pure ⟨none,H,I,.none,h⟩
theorem MS(h:PE X e te):PO X (some e) (Zdq te):=by
 intro pins s σ H Q I hw;refine aB (h pins s σ H _ I hw) λu s1 zq=>?_;obtain⟨x,H1,I1,r1,q1⟩:=zq;obtain⟨i,rfl,q⟩:=q1;obtain⟨t,rfl⟩:=r1;exact⟨some i,H1,I1,.int i t,q⟩
def Rl(X:Cx)(r:V->Option Int->Option Int->Hp->VK->Prop):Prop:=
 ∀(pins:aZ) (s:Shared) (σ:St) (H:Hp) (x:V) (v vl vu:Value) (lo hi:Option Int) (sl:Addr) (Q:VK),Inv X pins σ H s->RelV x v->s.heap.IsSliceOf sl vl vu .none->IsPart vl lo->IsPart vu hi->r x lo hi H Q->
  ∃T id,typeLookup (.type T) "__getitem__"=pure (some (.builtin id))/\s.TypeIs v T/\wpAny X.md X.A (getItem v (.ref sl)) (EP X pins σ Q) X.xe s
def tSl(r:V->Option Int->Option Int->Hp->VK->Prop)(te:TE)(tl th:TO):TE:=λσ H Q=>te σ H λx H1=>tl σ H1 λl H2=>th σ H2 λu H3=>r x l u H3 Q
theorem LL{r:V->Option Int->Option Int->Hp->VK->Prop}(hr:Rl X r)(he:PE X e te)(hl:PO X lo tl)(hu:PO X hi th):PE X (.Subscript e (.Slice lo hi none p2) pos) (tSl r te tl th):=by
 intro pins s σ H Q I h;refine Subscript_ (aB (he pins s σ H _ I h) λv s1 zq=>?_);obtain⟨x,H1,I1,r1,q1⟩:=zq;refine wpAny_Slice (aB (hl pins s1 σ H1 _ I1 q1) λvl s2 zq=>?_);obtain⟨l,H2,I2,pl,q2⟩:=zq;refine aB (hu pins s2 σ H2 _ I2 q2) λvu s3 zq=>?_;obtain⟨u,H3,I3,pu,q3⟩:=zq;rw[evalPart_none];refine wpAny_pure ?_;have I4:Inv X pins σ H3 {s3 with heap:=s3.heap.push {cls:=.type "slice",data:=.fields #[vl,vu,.none]}}:=I3.kept (t':=s3.toks) λb ob q=>Yc _ q;obtain⟨T,id,hT,ht,hg⟩:=hr pins {s3 with heap:=s3.heap.push {cls:=.type "slice",data:=.fields #[vl,vu,.none]}} σ H3 x v vl vu l u s3.heap.objs.size Q I4 r1 (Heap.IsSliceOf.new ..) pl pu q3;show wpAny X.md X.A (subscriptTail e (.Slice lo hi none p2) v (.ref s3.heap.objs.size)) (EP X pins σ Q) X.xe {s3 with heap:=s3.heap.push {cls:=.type "slice",data:=.fields #[vl,vu,.none]}};exact tail_any (ops:=[.ref s3.heap.objs.size,v]) ht hT hg (by with_unfolding_all rfl)
def qk(xs:List V)(lo hi:Option Int):List V:=(xs.drop (HT.gS xs.length 0 lo)).take (HT.gS xs.length xs.length hi-HT.gS xs.length 0 lo)
theorem Dk(xs:List V)(lo hi:Option Int):(qk xs lo hi).length<=xs.length:=by
 unfold qk
 grind
def Zdr(K:ai):R2:=λx y H Q=>∃a b xs ys,x=.ref a/\y=.ref b/\aA K H a xs/\aA K H b ys/\xs≠[]/\xs.length+ys.length<=sizeLine/\
 (ys=[]->Q (.ref a) H)/\(ys≠[]->∀p,H p=none->Q (.ref p) (upd H p (.tup (xs++ys))))
theorem Vals.EX{xs:List V}{us:List Value}(r:Vals xs us):us=[]↔xs=[]:=by
 cases r with
 |nil=>simp
 |cons _ _=>simp
theorem ZaQ:cD X (binaryOp .Add) (Zdr X.K):=by
 rintro pins s σ H x y v u Q I rx ry ⟨a,b,xs,ys,rfl,rfl,ha,hb,hx,hz,q1,q2⟩;cases rx;cases ry;obtain⟨ah,r1,p1,_⟩:=I.tuple ha;obtain⟨ij,r2,p2,_⟩:=I.tuple hb;refine HT.ZaO p1 p2 (λz=>hx (r1.EX.mp z)) (λz=>⟨.ref a,H,I,rfl,q1 (r2.EX.mp z)⟩) (λz=>⟨.ref s.heap.objs.size,_,I.laid (o:=.tup (xs++ys)) (λb ob q=>Yc _ q) (Ye _) ?_,rfl,q2 (λw=>z (r2.EX.mpr w)) _ (I.aw.fresh (Ye _))⟩) (by rw[←r1.length,←r2.length];exact hz);exact⟨by rw[Yl];exact hz,_,r1.append r2,mO.new _ _⟩
end
def kX(n:Nat)(i:Int):Option Nat:=if 0<=i then(if i<n then some i.toNat else none) else if-(n:Int)<=i then some (i+n).toNat else none
def dw{α:Type}(xs:List α)(i:Int):Option α:=(kX xs.length i).bind λj=>xs[j]?
theorem EY{n:Nat}{i:Int}{j:Nat}(h:kX n i=some j):seqIndex? i n=some j/\j<n/\-(n:Int)<=i/\i<n:=by
 unfold kX at h;by_cases h0:0<=i
 ·rw[if_pos h0] at h;by_cases h1:i<n
  ·rw[if_pos h1] at h;have e:=Ym h;exact⟨by rw[seqIndex_of h0 h1,e],by omega,by omega,h1⟩
  ·grind
 ·rw[if_neg h0] at h;by_cases h1:-(n:Int)<=i
  ·rw[if_pos h1] at h;have e:=Ym h;exact⟨by rw[seqIndex_neg (by omega) h1,e],by omega,h1,by omega⟩
  ·grind
theorem EZ{α:Type}{xs:List α}{i:Int}{v:α}(h:dw xs i=some v):∃j,seqIndex? i xs.length=some j/\xs[j]?=some v/\j<xs.length/\-(xs.length:Int)<=i/\i<xs.length:=by
 unfold dw at h;cases e:kX xs.length i with
 |none=>grind
 |some j=>
  obtain⟨h1,h2,h3,h4⟩:=EY e
  grind
theorem gM{α:Type}{xs:List α}{j:Nat}{v:α}(h:xs[j]?=some v):dw xs (j:Int)=some v:=by
 have e:kX xs.length (j:Int)=some j:=by
  unfold kX
  grind
 unfold dw;rw[e];exact h
def MT(b:Expr):Prop:=∀o i,subscripted b false o i=operate [o,i] (getItem o i)
def iy(X:Cx)(r:R2):Prop:=
 ∀(value slice:Expr) (pins:aZ) (s:Shared) (σ:St) (H:Hp) (x y:V) (v u:Value) (Q:VK),Inv X pins σ H s->RelV x v->RelV y u->r x y H Q->
  subscripted slice false v u=operate [v,u] (getItem v u)->wpAny X.md X.A (subscriptTail value slice v u) (EP X pins σ Q) X.xe s
def Rm(X:Cx)(id:String)(r:V->List V->Hp->VK->Prop):Prop:=
 ∀(pins:aZ) (s:Shared) (σ:St) (H:Hp) (x:V) (xs:List V) (v:Value) (us:List Value) (Q:VK),Inv X pins σ H s->RelV x v->Vals xs us->r x xs H Q->
  wpAny X.md X.A (call (.builtin id) (v::us)) (EP X pins σ Q) X.xe s
section
variable {X:Cx}{a b:Expr}{ta tb:TE}{pos:Pos}
theorem iy.or{r r':R2}(h:iy X r)(h':iy X r'):iy X (λx y H Q=>r x y H Q\/r' x y H Q):=by
 intro value slice pins s σ H x y v u Q I rx ry q hs;rcases q with q|q;·exact h value slice pins s σ H x y v u Q I rx ry q hs
 ·exact h' value slice pins s σ H x y v u Q I rx ry q hs
theorem Pf{r:R2}(hr:iy X r)(ha:PE X a ta)(hb:PE X b tb)(hs:MT b):PE X (.Subscript a b pos) (i8 r ta tb):=by
 intro pins s σ H Q I h;exact Subscript_ (F_ ha hb I h λv u s2 x y H2 I2 rx ry q=>hr a b pins s2 σ H2 x y v u Q I2 rx ry q (hs _ _))
inductive N4(K:ai)(x:V)(y:V)(H:Hp)(Q:VK):Prop
 |mk (p xs i v) (aE:x=.ref p) (aU:y=.int i) (bc:ak K H p xs) (bL:dw xs i=some v) (cL:Q v H):N4 K x y H Q
def uz(K:ai):R2:=λx y H Q=>N4 K x y H Q
inductive N5(K:ai)(x:V)(y:V)(H:Hp)(Q:VK):Prop
 |mk (p xs i v) (aE:x=.ref p) (aU:y=.int i) (bc:aA K H p xs) (bL:dw xs i=some v) (cL:Q v H):N5 K x y H Q
def Ab(K:ai):R2:=λx y H Q=>N5 K x y H Q
inductive N6(x:V)(y:V)(H:Hp)(Q:VK):Prop
 |mk (z i c) (aE:x=.str z) (aU:y=.int i) (bc:z.length<=sizeLine) (bL:dw z.cps.toList i=some c) (cL:Q (.str ⟨#[c]⟩) H):N6 x y H Q
def P_:R2:=λx y H Q=>N6 x y H Q
theorem E1:iy X (uz X.K):=by
 intro value slice pins s σ H x y v u Q I rx ry h hs;obtain⟨p,xs,i,z,rfl,rfl,hq,he,q⟩:=h;cases rx;obtain⟨t,rfl⟩:=ry;obtain⟨ah,r,pl,hz⟩:=I.list hq;obtain⟨j,h1,h2,h3,h4,h5⟩:=EZ he;obtain⟨w,ew,fS⟩:=r.get h2;have hl:=r.length;have hn:=rC;have fin:EP X pins σ Q w s:=⟨z,H,I,fS,q⟩;by_cases h0:0<=i
 ·have hj:i.toNat=j:=by
   rw[seqIndex_of h0 h5] at h1;exact Ym h1
  exact item_listR pl.isList h0 (by omega) (by rw[hj];simpa using ew) fin hs
 ·have hj:(i+(ah.toArray.size:Int)).toNat=j:=by
   rw[seqIndex_neg (by omega) h4] at h1
   grind
  exact subscriptTail_builtinR (x:=w) pl.isList.typeIs slot_list_getitem.lookup
   (wpAny_getItem_list_neg pl.isList (by omega) (by rw[Yu]<;>omega) (by omega) (by rw[hj];simpa using ew) ⟨rfl,fin⟩) hs
theorem N7:iy X (Ab X.K):=by
 intro value slice pins s σ H x y v u Q I rx ry h hs;obtain⟨p,xs,i,z,rfl,rfl,hq,he,q⟩:=h;cases rx;obtain⟨t,rfl⟩:=ry;obtain⟨ah,r,pl,hz⟩:=I.tuple hq;obtain⟨j,h1,h2,h3,h4,h5⟩:=EZ he;obtain⟨w,ew,fS⟩:=r.get h2;have hn:=rC;exact subscriptTail_builtinR pl.typeIs slot_tuple_getitem.lookup
  (getItem_tuple pl (by omega) (by omega) (by rw[Yu,←r.length];exact h1) (by simpa using ew) ⟨rfl,⟨z,H,I,fS,q⟩⟩) hs
theorem wB:iy X P_:=by
 intro value slice pins s σ H x y v u Q I rx ry h hs;obtain⟨z,i,c,rfl,rfl,hz,he,q⟩:=h;obtain⟨t,rfl⟩:=rx;obtain⟨t',rfl⟩:=ry;obtain⟨j,h1,h2,h3,h4,h5⟩:=EZ he;have hl:z.cps.toList.length=z.length:=by simp[Str.length]
 rw[hl] at h1 h4 h5;have hn:=rC;exact tail_any (typeIs_str s z t) slot_str_getitem.lookup (getItem_str (by
  rw[(decide_eq_false (by omega)),(decide_eq_false (by omega)),Bool.or_false]) (by rw[h1];simpa using h2) ⟨.str ⟨#[c]⟩,H,I.tok _,⟨_,rfl⟩,q⟩) hs
def G6(K:ai):R2:=λx y H Q=>uz K x y H Q\/Ab K x y H Q\/P_ x y H Q
theorem Zb6:iy X (G6 X.K):=E1.or (N7.or wB)
theorem Xn(ah:List Value)(n j:Nat)(u:Value):Obj.mapSeq (·.setIfInBounds j u) {cls:=.type "list",data:=.seq ah.toArray n}={cls:=.type "list",data:=.seq (ah.set j u).toArray n}:=by
 simp[Obj.mapSeq]
theorem Inv.lst{pins:aZ}{σ:St}{H:Hp}{s:Shared}{p:Addr}{xs:List V}(I:Inv X pins σ H s)(h:H p=some (.lst xs)):
  ∃(ah:List Value) (n:Nat),Vals xs ah/\s.heap.get? p=some {cls:=.type "list",data:=.seq ah.toArray n}/\xs.length<=sizeLine:=by
 obtain⟨z,ah,n,r,e⟩:=I.aw p _ h
 grind
theorem Inv.Zb7{pins:aZ}{σ:St}{H:Hp}{s:Shared}{p:Addr}{xs ys:List V}{ah its':List Value}{n n':Nat}{f:Obj->Obj}(I:Inv X pins σ H s)(h:H p=some (.lst xs))
  (ho:s.heap.get? p=some {cls:=.type "list",data:=.seq ah.toArray n})(hf:f {cls:=.type "list",data:=.seq ah.toArray n}={cls:=.type "list",data:=.seq its'.toArray n'})(r:Vals ys its')(hz:ys.length<=sizeLine)(t:Nat):
  Inv X pins σ (upd H p (.lst ys)) {s with heap:=s.heap.update p f,toks:=t}:=by
 have e:(s.heap.update p f).get? p=some {cls:=.type "list",data:=.seq its'.toArray n'}:=by
  rw[J3 f ho (by rw[hf]<;>rfl),hf]
 refine I.write (x:=p) (e:=p) (by rw[h];trivial) (.inl rfl) (λb u hb q=>(Heap.get?_update_other _ _ (Ne.symm hb)).trans q) ⟨_,e⟩ ?_;exact⟨hz,its',n',r,e⟩
def Zds:V->V->V->Hp->(Hp->Prop)->Prop:=λo i v H Q=>∃p xs k j,o=.ref p/\i=.int k/\H p=some (.lst xs)/\kX xs.length k=some j/\Q (upd H p (.lst (xs.set j v)))
theorem set_list:rU X Zds:=by
 rintro pins s σ H o i v ov iv u Q I ro ri rv ⟨p,xs,k,j,rfl,rfl,hp,hj,q⟩;cases ro;obtain⟨t,rfl⟩:=ri;obtain⟨ah,n,r,ho,hz⟩:=I.lst hp;obtain⟨h1,h2,h3,h4⟩:=EY hj;have hl:=r.length;have hn:=rC;have I':Inv X pins σ (upd H p (.lst (xs.set j v))) {s with heap:=s.heap.update p (Obj.mapSeq (·.setIfInBounds j u))}:=
  I.Zb7 hp ho (Xn ah n j u) (r.set rv j) (by rw[Jg];exact hz) s.toks
 by_cases h0:0<=k
 ·have hk:k.toNat=j:=by
   rw[seqIndex_of h0 h4] at h1
   grind
  exact PySem.W.ki_setAt ho h0 (by omega) (by rw[Yu,←hl];exact h4) (by rw[hk];exact⟨_,I',q⟩)
 ·have hk:(k+(ah.toArray.size:Int)).toNat=j:=by
   rw[seqIndex_neg (by omega) h3] at h1
   grind
  exact PySem.W.ki_setBack ho (by omega) (by rw[Yu,←hl];exact h3) (by omega) (by rw[hk];exact⟨_,I',q⟩)
theorem Vy(lo hi:Option Int)(n:Nat):(sliceBounds lo hi none n).1=((HT.gS n 0 lo:Nat):Int)/\(sliceBounds lo hi none n).2.1=((HT.gS n n hi:Nat):Int)/\(sliceBounds lo hi none n).2.2=1:=by
 refine⟨?_,?_,rfl⟩
 ·cases lo with
  |none=>rfl
  |some i=>
   simp only[sliceBounds,HT.gS]
   grind
 ·cases hi with
  |none=>rfl
  |some i=>
   simp only[sliceBounds,HT.gS]
   grind
theorem U4(ah:List Value)(lo hi:Option Int):slicePick ah.toArray lo hi none=((ah.drop (HT.gS ah.length 0 lo)).take (HT.gS ah.length ah.length hi-HT.gS ah.length 0 lo)).toArray:=by
 obtain⟨h1,h2,h3⟩:=Vy lo hi ah.toArray.size;unfold slicePick;rw[h1,h2,h3];simp only[sliceRange_one,pick_run]<;>rfl
def Zee(K:ai):V->Option Int->Option Int->Hp->VK->Prop:=λx lo hi H Q=>∃a xs,x=.ref a/\ak K H a xs/\∀p,H p=none->Q (.ref p) (upd H p (.lst (qk xs lo hi)))
theorem MU:Rl X (Zee X.K):=by
 rintro pins s σ H x v vl vu lo hi sl Q I rx hs pl pu ⟨a,xs,rfl,hx,q⟩;cases rx;obtain⟨ah,r,ht,hz⟩:=I.list hx;have hlen:=r.length;refine⟨"list",_,slot_list_getitem.lookup,ht.isList.typeIs,wpAny_getItem_list_slice ht.isList hs pl pu .none (by simp) ?_ (by rw[Yu]<;>omega)⟩;rw[U4,←hlen];refine⟨.ref s.heap.objs.size,_,I.laid (o:=.lst (qk xs lo hi)) (λb ob q=>Yc _ q) (Ye _) ?_,rfl,q _ (I.aw.fresh (Ye _))⟩;exact⟨Y6 (Dk xs lo hi) hz,_,0,(r.drop (HT.gS xs.length 0 lo)).take (HT.gS xs.length xs.length hi-HT.gS xs.length 0 lo),Yr _ rfl⟩
def iR:V->Bool
 |.az=>true
 |.bl _=>true
 |.int _=>true
 |.str _=>true
 |_=>false
def ju:V->V->Bool
 |.az,.az=>true
 |.bl a,.bl b=>a==b
 |.bl a,.int b=>(if a then 1 else 0)==b
 |.int a,.bl b=>a==(if b then 1 else 0)
 |.int a,.int b=>a==b
 |.str a,.str b=>a==b
 |_,_=>false
theorem N8{A:Around}{s:Shared}{y x:V}{u v:Value}(ry:RelV y u)(rx:RelV x v)(fy:iR y=true)(fx:iR x=true):SeqAt.EqAt A s u v (ju y x):=by
 cases y with
 |az=>
  cases ry;cases x with
  |az=>cases rx;exact SeqAt.EqAt.same _
  |bl b=>cases rx;exact SeqAt.EqAt.none_bool b
  |int b=>obtain⟨t,rfl⟩:=rx;exact SeqAt.EqAt.none_int b t
  |str b=>obtain⟨t,rfl⟩:=rx;exact SeqAt.EqAt.none_str b t
  |_=>exact absurd (show false=true from fx) Yk
 |bl a=>
  cases ry;cases x with
  |az=>cases rx;exact SeqAt.EqAt.bool_none a
  |bl b=>cases rx;exact SeqAt.EqAt.bool_bool a b
  |int b=>obtain⟨t,rfl⟩:=rx;exact SeqAt.EqAt.bool_int a b t
  |str b=>obtain⟨t,rfl⟩:=rx;exact SeqAt.EqAt.bool_str a b t
  |_=>exact absurd (show false=true from fx) Yk
 |int a=>
  obtain⟨t',rfl⟩:=ry;cases x with
  |az=>cases rx;exact SeqAt.EqAt.int_none a t'
  |bl b=>cases rx;exact SeqAt.EqAt.int_bool a t' b
  |int b=>obtain⟨t,rfl⟩:=rx;exact SeqAt.EqAt.int_int a t' b t
  |str b=>obtain⟨t,rfl⟩:=rx;exact SeqAt.EqAt.int_str a t' b t
  |_=>exact absurd (show false=true from fx) Yk
 |str a=>
  obtain⟨t',rfl⟩:=ry;cases x with
  |az=>cases rx;exact SeqAt.EqAt.str_none a t'
  |bl b=>cases rx;exact SeqAt.EqAt.str_bool a t' b
  |int b=>obtain⟨t,rfl⟩:=rx;exact SeqAt.EqAt.str_int a t' b t
  |str b=>obtain⟨t,rfl⟩:=rx;exact SeqAt.EqAt.str_str a t' b t
  |_=>exact absurd (show false=true from fx) Yk
 |_=>exact absurd (show false=true from fy) Yk
def gT(x:V)(u:Value):Bool:=match u with
 |.none=>ju .az x
 |.bool b=>ju (.bl b) x
 |.int i _=>ju (.int i) x
 |.str z _=>ju (.str z) x
 |_=>false
theorem N9{x y:V}{u:Value}(r:RelV y u)(f:iR y=true):gT x u=ju y x:=by
 cases y with
 |az=>cases r;rfl
 |bl b=>cases r;rfl
 |int i=>obtain⟨t,rfl⟩:=r;rfl
 |str z=>obtain⟨t,rfl⟩:=r;rfl
 |_=>exact absurd (show false=true from f) Yk
theorem wq{x:V}:∀{xs:List V} {us:List Value},Vals xs us->xs.all iR=true->us.any (gT x)=xs.any λy=>ju y x
 |_,_,.nil,_=>rfl
 |y::xs,u::us,.cons r t,f=>by
  rw[Ji,Wo] at f;rw[Jp,Jp,N9 r f.1,wq t f.2]
theorem wg{A:Around}{s:Shared}{x:V}{v:Value}(rx:RelV x v)(fx:iR x=true):∀{xs:List V} {us:List Value},Vals xs us->xs.all iR=true->∀u∈us,SeqAt.EqAt A s u v (gT x u):=by
 intro xs us h;induction h with
 |nil=>intro _ u hu;cases hu
 |cons r t ih=>
  intro f u' hu;rw[Ji,Wo] at f;rcases Yn.mp hu with rfl|hu;·rw[N9 r f.1];exact N8 r rx f.1 fx
  ·exact ih f.2 u' hu
def e_(x:V)(xs:List V):Bool:=xs.any λy=>ju y x
def xA(K:ai)(neg:Bool):R2:=λx y H Q=>∃p xs,y=.ref p/\(ak K H p xs\/aA K H p xs)/\iR x=true/\xs.all iR=true/\Q (.bl (if neg then !e_ x xs else e_ x xs)) H
theorem YJ:cD X (compareOp .In) (xA X.K false):=by
 rintro pins s σ H x y v u Q I rx ry ⟨p,xs,rfl,hq,fx,fs,q⟩;cases ry;rcases hq with hq|hq
 ·obtain⟨ah,r,pl,hz⟩:=I.list hq;refine SeqAt.in_listAt (gT x) pl.isList (λw hw=>wg rx fx r fs w (by simpa using hw)) ⟨.bl _,H,I,rfl,?_⟩;rw[show ah.toArray.any (gT x)=ah.any (gT x) by simp,wq r fs];exact q
 ·obtain⟨ah,r,pl,hz⟩:=I.tuple hq;refine SeqAt.in_tupleAt (gT x) pl (λw hw=>wg rx fx r fs w (by simpa using hw)) ⟨.bl _,H,I,rfl,?_⟩;rw[show ah.toArray.any (gT x)=ah.any (gT x) by simp,wq r fs];exact q
theorem Vz:cD X (compareOp .NotIn) (xA X.K true):=by
 rintro pins s σ H x y v u Q I rx ry ⟨p,xs,rfl,hq,fx,fs,q⟩;cases ry;rcases hq with hq|hq
 ·obtain⟨ah,r,pl,hz⟩:=I.list hq;refine SeqAt.notIn_listAt (gT x) pl.isList (λw hw=>wg rx fx r fs w (by simpa using hw)) ⟨.bl _,H,I,rfl,?_⟩;rw[show ah.toArray.any (gT x)=ah.any (gT x) by simp,wq r fs];exact q
 ·obtain⟨ah,r,pl,hz⟩:=I.tuple hq;refine SeqAt.notIn_tupleAt (gT x) pl (λw hw=>wg rx fx r fs w (by simpa using hw)) ⟨.bl _,H,I,rfl,?_⟩;rw[show ah.toArray.any (gT x)=ah.any (gT x) by simp,wq r fs];exact q
theorem Ke:cZ X (.builtin "len") (λxs H Q=>∃p ys,xs=[.ref p]/\(ak X.K H p ys\/aA X.K H p ys)/\Q (.int ys.length) H):=by
 rintro pins s σ H xs us Q I r ⟨p,ys,rfl,hq,q⟩;obtain⟨u,rfl,rx⟩:=vals1 r;cases rx;have hn:=rC;rcases hq with hq|hq
 ·obtain⟨ah,r',pl,hz⟩:=I.list hq;have hlen:=r'.length;exact Calls.call_len_list pl.isList (by simp only[Yu]<;>omega) ⟨.int ys.length,H,I.tok _,⟨s.toks+1,by rw[Yu,hlen]⟩,q⟩
 ·obtain⟨ah,r',pl,hz⟩:=I.tuple hq;have hlen:=r'.length;exact len_tuple pl (by simp only[Yu]<;>omega) ⟨.int ys.length,H,I.tok _,⟨s.toks+1,by rw[Yu,hlen]⟩,q⟩
theorem VA:cZ X (.builtin "len") (λxs H Q=>∃z,xs=[.str z]/\z.length<=sizeLine/\Q (.int z.length) H):=by
 rintro pins s σ H xs us Q I r ⟨z,rfl,hz,q⟩;obtain⟨u,rfl,t,rfl⟩:=vals1 r;have hn:=rC;exact len_str (by omega) ⟨.int z.length,H,I.tok _,⟨_,rfl⟩,q⟩
theorem tD:cZ X (.type "tuple") (λxs H Q=>∃p ys,xs=[.ref p]/\((ak X.K H p ys/\∀l,H l=none->Q (.ref l) (upd H l (.tup ys)))\/(aA X.K H p ys/\Q (.ref p) H))):=by
 rintro pins s σ H xs us Q I r ⟨p,ys,rfl,h⟩;obtain⟨u,rfl,rx⟩:=vals1 r;cases rx;rcases h with⟨hq,q⟩|⟨hq,q⟩
 ·obtain⟨ah,r',pl,hz⟩:=I.list hq;have hlen:=r'.length;refine call_tuple_list pl.isList (λh' kp=>?_) (by simp only[Yu]<;>omega);have I1:=I.kept (t':=s.toks) kp;have I2:Inv X pins σ (upd H h'.objs.size (.tup ys)) {s with heap:=h'.push {cls:=.type "tuple",data:=.seq ah.toArray}}:=
   I1.laid (λb o e=>Yc _ e) (Ye _) (show cB X.prog X.w _ _ _ (.tup ys) from⟨hz,ah,r',mO.new _ _⟩)
  exact⟨.ref h'.objs.size,_,I2,rfl,q _ (I1.aw.fresh (Ye _))⟩
 ·obtain⟨ah,r',pl,hz⟩:=I.tuple hq;exact call_tuple_same pl ⟨.ref p,H,I,rfl,q⟩
def G7(K:ai)(T:String)(x:V)(H:Hp):Prop:=match x with
 |.str _=>T="str"
 |.int _=>T="int"
 |.ref p=>(T="list"/\∃xs,ak K H p xs)\/(T="tuple"/\∃o,K.lookup p=some o/\o.cls=.type "tuple"/\o.dict=none)\/
   (T="dict"/\((∃kvs,H p=some (.dK kvs))\/∃kvs,H p=some (.dT kvs)))\/(T="set"/\∃S n,H p=some (.set S n))
 |_=>False
theorem N_{pins:aZ}{σ:St}{H:Hp}{s:Shared}{T:String}{x:V}{v:Value}(I:Inv X pins σ H s)(r:RelV x v)(ty:G7 X.K T x H):
  s.TypeIs v T/\∀a,v=.ref a->∃ob,s.heap.get? a=some ob/\ob.dict=none:=by
 cases x with
 |str z=>
  obtain⟨t,rfl⟩:=r;cases(show T="str" from ty);exact⟨typeIs_str s z t,λ_ e=>nomatch e⟩
 |int i=>
  obtain⟨t,rfl⟩:=r;cases(show T="int" from ty);exact⟨typeIs_int s i t,λ_ e=>nomatch e⟩
 |ref p=>
  cases r;rcases ty with⟨rfl,xs,hq⟩|⟨rfl,o,hk,hc,hd⟩|⟨rfl,hk⟩|⟨rfl,S,n,hk⟩
  ·obtain⟨ah,_,pl,_⟩:=I.list hq;refine⟨pl.isList.typeIs,λa e=>?_⟩;obtain⟨o,n,e,c,hd,_⟩:=pl
   grind
  ·refine⟨⟨o,I.dE p o hk,hc⟩,λa e=>?_⟩;cases e;exact⟨o,I.dE _ o hk,hd⟩
  ·have z:∃o,s.heap.get? p=some o/\o.ExactDict:=by
    rcases hk with⟨kvs,hk⟩|⟨kvs,hk⟩
    ·obtain⟨_,_,_,_,o,_,_,e,ex,_⟩:=I.aw p _ hk;exact⟨o,e,ex⟩
    ·obtain⟨_,_,_,_,o,_,_,e,ex,_⟩:=I.aw p _ hk;exact⟨o,e,ex⟩
   obtain⟨o,e,ex⟩:=z;refine⟨⟨o,e,ex.1⟩,λa e2=>?_⟩;cases e2;exact⟨o,e,ex.2.1⟩
  ·obtain⟨o,_,_,_,e,ex,_⟩:=I.aw p _ hk;refine⟨⟨o,e,ex.1⟩,λa e2=>?_⟩;cases e2;exact⟨o,e,ex.2.1⟩
 |_=>exact False.elim ty
def Ge(K:ai)(T:String)(r:V->List V->Hp->VK->Prop)(to:TE):TE:=λσ H Q=>to σ H λx H1=>G7 K T x H1/\r x [] H1 Q
def xB(K:ai)(T:String)(r:V->List V->Hp->VK->Prop)(to:TE)(t:TA):TE:=λσ H Q=>to σ H λx H1=>G7 K T x H1/\t σ H1 λxs H2=>r x xs H2 Q
variable {o e:Expr}{es:List Expr}{to:TE}{t:TA}{name:Str}{apos cJ:Pos}{T id:String}{r:V->List V->Hp->VK->Prop}
theorem Zb8(pa:PlainAttrs T)(slot:Slot T name id)(G8:typeOf (.builtin id)=pure (.type "method_descriptor"))(hm:Rm X id r)(ho:PE X o to)
  (rL:attributeBase o name X.env (eval o X.env)=eval o X.env:=by rfl)(rM:(apos.endLine==cJ.line)=true:=by rfl):PE X (.Call (.Attribute o name apos) [] [] cJ) (Ge X.K T r to):=by
 intro pins s σ H Q I h;refine wpAny_Call_method0_late rL rM (aB (ho pins s σ H _ I h) λv s1 zq=>?_);obtain⟨x,H1,I1,r1,ty,q1⟩:=zq;obtain⟨h1,h2⟩:=N_ I1 r1 ty;exact⟨T,id,pa,slot,G8,h1,h2,Calls.callWith_builtin rfl (PySem.evalArgs_none (hm pins s1 σ H1 x [] v [] Q I1 r1 .nil q1))⟩
theorem ic(pa:PlainAttrs T)(slot:Slot T name id)(G8:typeOf (.builtin id)=pure (.type "method_descriptor"))(hm:Rm X id r)(ho:PE X o to)(ha:PA X (e::es) t)
  (rL:attributeBase o name X.env (eval o X.env)=eval o X.env:=by rfl)
  (Gf:((backTo cJ (starEach (e::es) X.env)).all (λx=>!x.1)&&(backToKw cJ (keywordEach [] X.env)).all (λx=>x.1.isSome)
   &&decide ((e::es).length+([]:List Keyword).length+(if([]:List Keyword).isEmpty then 0 else 1)<30))=true:=by rfl)
  (rM:(apos.endLine==cJ.line)=true:=by rfl)(hs:l3 X e es:=by rfl)(Zb9:ni X cJ es:=by rfl):
  PE X (.Call (.Attribute o name apos) (e::es) [] cJ) (xB X.K T r to t):=by
 intro pins s σ H Q I h;refine wpAny_Call_method_late rL Gf rM rfl (aB (ho pins s σ H _ I h) λv s1 zq=>?_);obtain⟨x,H1,I1,r1,ty,q1⟩:=zq;obtain⟨h1,h2⟩:=N_ I1 r1 ty;refine⟨T,id,pa,slot,G8,h1,h2,?_⟩;have hA:=ha cJ pins s1 σ H1 _ I1 q1;rw[hs] at hA⊢;exact Calls.callWith_builtin (by show(false||(backTo cJ (starEach es X.env)).any (·.1))=false;rw[Zb9]<;>rfl) (Calls.evalArgs_plain (aB hA λus s2 ⟨vs,H2,I2,r2,q2⟩=>hm pins s2 σ H2 x vs v us Q I2 r1 r2 q2))
end
def nC(X:Cx)(id:String)(r:V->List V->Hp->VK->Prop):Prop:=
 ∀(pins:aZ) (s:Shared) (σ:St) (H:Hp) (x:V) (xs:List V) (v:Value) (us:List Value) (Q:VK),Inv X pins σ H s->RelV x v->Vals xs us->r x xs H Q->
  wpAny X.md X.A (call (.builtin id) (v::us)) (EP X pins σ Q) X.xe s
theorem Vals.one:∀{x:V} {us:List Value},Vals [x] us->∃u,us=[u]/\RelV x u:=by
 intro x us h;cases h with
 |cons r t=>
  cases t;exact⟨_,rfl,r⟩
theorem Vals.zero:∀{us:List Value},Vals [] us->us=[]
 |_,.nil=>rfl
theorem Vals.eraseIdx:∀{xs:List V} {us:List Value} (i:Nat),Vals xs us->Vals (xs.eraseIdx i) (us.eraseIdx i)
 |_,_,_,.nil=>.nil
 |_,_,0,.cons _ t=>t
 |_,_,i+1,.cons r t=>.cons r (Vals.eraseIdx i t)
section
variable {X:Cx}{pins:aZ}{σ:St}{H:Hp}{s:Shared}{l b:Addr}{xs ys zs:List V}
theorem Inv.Ac{ah its':List Value}{n:Nat}{f:Array Value->Array Value}{t':Nat}(I:Inv X pins σ H s)(hH:H l=some (.lst xs))
  (e:s.heap.get? l=some {cls:=.type "list",data:=.seq ah.toArray n})(hf:f ah.toArray=its'.toArray)(hv:Vals ys its')(hz:ys.length<=sizeLine):
  Inv X pins σ (upd H l (.lst ys)) {s with heap:=s.heap.update l (Obj.mapSeq f),toks:=t'}:=by
 have q:=PySem.IsL.update e f;rw[hf] at q;refine I.write (by rw[hH];exact trivial) (.inl rfl) (λb' u hb hu=>(Heap.get?_update_other s.heap (Obj.mapSeq f) (Ne.symm hb)).trans hu) ⟨_,q⟩ ?_;exact⟨hz,its',_,hv,q⟩
theorem Inv.Zef{ah:List Value}{t':Nat}(I:Inv X pins σ H s)(hv:Vals ys ah)(hz:ys.length<=sizeLine):
  Inv X pins σ (upd H s.heap.objs.size (.lst ys)) {s with heap:=s.heap.push {cls:=.type "list",data:=.seq ah.toArray},toks:=t'}:=
 I.laid (λ_ _ q=>Yc _ q) (Ye _) ⟨hz,ah,0,hv,Yr _ rfl⟩
theorem Inv.fresh(I:Inv X pins σ H s):H s.heap.objs.size=none:=I.aw.fresh (Ye _)
theorem Inv.rX(I:Inv X pins σ H s)(hH:H l=some (.lst xs)):xs.length<=sizeLine/\∃(ah:List Value) (n:Nat),Vals xs ah/\xs.length=ah.length/\s.heap.get? l=some {cls:=.type "list",data:=.seq ah.toArray n}:=by
 obtain⟨z,ah,n,r,e⟩:=I.aw l _ hH;exact⟨z,ah,n,r,r.length,e⟩
theorem ZF{n:Nat}(h:n<=sizeLine):Builtin.List.listTooLong n=false:=by
 exact decide_eq_false (by omega)
end
section
variable {X:Cx}
def ZaR:V->List V->Hp->VK->Prop:=λx vs H Q=>∃l xs y,x=.ref l/\vs=[y]/\H l=some (.lst xs)/\xs.length<sizeLine/\Q .az (upd H l (.lst (xs++[y])))
theorem n5:nC X "list.append" ZaR:=by
 intro pins s σ H x vs v us Q I rx rv h;obtain⟨l,xs,y,rfl,rfl,hH,hz,q⟩:=h;cases rx;obtain⟨u,rfl,ru⟩:=rv.one;obtain⟨z,ah,n,r,hl,e⟩:=I.rX hH;refine call_meets F.slot_list_append ⟨_,e,rfl⟩ F.entry_list_append (F.args_list_append_2 _ _) (PySem.list_append l ah.toArray n u (by rw[Yu];omega)) ⟨e,?_⟩;refine⟨.az,_,I.Ac (its':=ah++[u]) hH e (by simp) (r.append (.cons ru .nil)) ?_,rfl,q⟩
 grind
def ZaS:V->List V->Hp->VK->Prop:=λx vs H Q=>∃l b xs zs,x=.ref l/\vs=[.ref b]/\H l=some (.lst xs)/\H b=some (.lst zs)/\xs.length+zs.length<=sizeLine/\Q .az (upd H l (.lst (xs++zs)))
theorem YK:nC X "list.extend" ZaS:=by
 rintro pins s σ H x vs v us Q I rx rv ⟨l,b,xs,zs,rfl,rfl,hH,hB,hz,q⟩;cases rx;obtain⟨u,rfl,ru⟩:=rv.one;cases ru;obtain⟨z,ah,n,r,hl,e⟩:=I.rX hH;obtain⟨z2,ij,n2,r2,uS,e2⟩:=I.rX hB;have hsz:ah.toArray.size+ij.toArray.size<=sizeLine:=by rw[Yu,Yu];omega
 have Zdt:¬(!ah.toArray.isEmpty&&Builtin.List.listTooLong (ah.toArray.size+ij.toArray.size))=true:=by
  rw[ZF hsz,Bool.and_false]
  grind
 refine call_meets F.slot_list_extend ⟨_,e,rfl⟩ F.entry_list_extend (F.args_list_extend_2 _ _)
  (AutoSeq1.list_extend_list_list_0 l ah.toArray n b ij.toArray n2 Zdt (by rw[Yu];omega) (by omega)) ⟨e,e2,?_⟩
 refine⟨.az,_,I.Ac hH e (by simp) (r.append r2) ?_,rfl,q⟩
 grind
def Zb_:V->List V->Hp->VK->Prop:=λx vs H Q=>∃l xs i k y,x=.ref l/\vs=[.int i]/\H l=some (.lst xs)/\-(2^63)<=i/\i<2^63/\seqIndex? i xs.length=some k/\xs[k]?=some y/\Q y (upd H l (.lst (xs.eraseIdx k)))
theorem ZG:nC X "list.pop" Zb_:=by
 rintro pins s σ H x vs v us Q I rx rv ⟨l,xs,i,k,y,rfl,rfl,hH,h1,h2,hk,hy,q⟩;cases rx;obtain⟨u,rfl,ru⟩:=rv.one;obtain⟨t,rfl⟩:=ru;obtain⟨z,ah,n,r,hl,e⟩:=I.rX hH;obtain⟨w,hw,fS⟩:=r.get hy;refine call_meets F.slot_list_pop ⟨_,e,rfl⟩ F.entry_list_pop (F.args_list_pop_2 _ _)
  (MeetsSeq.list_pop_at l ah.toArray n i t k w (fitsIndex_both h1 h2) (by rw[Yu,←hl];exact hk) (by rw[←Jm];exact hw) (by rw[Yu];omega)) ⟨e,?_⟩
 refine⟨y,_,I.Ac hH e ?_ (r.eraseIdx k) ?_,fS,q⟩;·grind
 ·grind
def Zca:V->List V->Hp->VK->Prop:=λx vs H Q=>∃l xs,x=.ref l/\vs=[]/\H l=some (.lst xs)/\Q .az (upd H l (.lst []))
theorem ZH:nC X "list.clear" Zca:=by
 rintro pins s σ H x vs v us Q I rx rv ⟨l,xs,rfl,rfl,hH,q⟩;cases rx;have hus:=rv.zero;subst hus;obtain⟨z,ah,n,r,hl,e⟩:=I.rX hH;exact call_meets F.slot_list_clear ⟨_,e,rfl⟩ F.entry_list_clear (F.args_list_clear_1 _) (AutoSeq1.list_clear_list_0 l ah.toArray n (by rw[Yu];omega)) ⟨e,⟨.az,_,I.Ac hH e rfl .nil (Yw _),rfl,q⟩⟩
def Zeg:R2:=λx y H Q=>∃l b xs zs,x=.ref l/\y=.ref b/\H l=some (.lst xs)/\H b=some (.lst zs)/\xs.length+zs.length<=sizeLine/\∀p,H p=none->Q (.ref p) (upd H p (.lst (xs++zs)))
theorem Zcb:cD X (binaryOp .Add) Zeg:=by
 rintro pins s σ H x y v u Q I rx ry ⟨l,b,xs,zs,rfl,rfl,hH,hB,hz,q⟩;cases rx;cases ry;obtain⟨z,ah,n,r,hl,e⟩:=I.rX hH;obtain⟨z2,ij,n2,r2,uS,e2⟩:=I.rX hB;refine PySem.P.add_list e e2 ?_ (by rw[Yu,Yu];omega);have ea:ah.toArray++ij.toArray=(ah++ij).toArray:=by simp
 rw[ea];exact⟨.ref _,_,I.Zef (r.append r2) (by rw[Yl];omega),rfl,q _ I.fresh⟩
end
section
variable {prog:Program}{w:World}{A:Around}{E:bb}{s:Shared}
set_option maxRecDepth 100000 in
end
section
variable {X:Cx}
end
end L2
namespace Rn
open PySem PySem.W PySem.Calls PyProof.Rows
theorem Uz{P:Params}{h:Heap}:∀(ns:List Int) (vs:List Value),WellAll P h vs (ns.map WData.int)->IntsAre vs ns:=by
 intro ns;induction ns with
 |nil=>
  intro vs w;cases w;exact .nil
 |cons n ns ih=>
  intro vs w;cases w with
  |cons a b=>
   cases a;exact .cons _ _ (ih _ b)
theorem YL{l:OpenLaw}{n:Nat}(hn:l.most=some n){P:Params}{h:Heap}{args:List WData}{vals:List Value}
  (Ad:l.row.toRowW.claim.pre args=true)(xC:WellAll P h vals args):
  ∃a vs ns,vals=[Value.ref a]/\args=[WData.list (ns.map WData.int)]/\h.get? a=some {cls:=.type "list",data:=.seq vs.toArray}/\IntsAre vs ns/\ns.length<=n:=by
 obtain⟨d,r,rfl,h1,h2⟩:=hasAllW_cons ((pre_splitW Ad).1);obtain rfl:=hasAllW_nil h2;obtain⟨xs,rfl,h3⟩:=hasW_list h1;obtain⟨ns,rfl⟩:=items_int h3;have hlen:ns.length<=n:=by
  have h4:(WTm.not (.lt (.lit (.int (n:Int))) (.len (.arg 0)))).holds [] {args:=[.list (ns.map .int)]}=true:=by
   have h4:=(holds_andW ((pre_splitW Ad).2)).1;rw[hn] at h4;exact h4
  have h5:=condW_of h4 (w_not (w_lt w_lit (w_len_list (w_arg rfl))))
  grind
 cases xC with
 |cons w1 w2=>
  cases w2;cases w1 with
  |list ho Gg=>exact⟨_,_,ns,rfl,rfl,ho,Uz ns _ Gg,hlen⟩
theorem YM(l:OpenLaw)(args:List WData):l.row.toRowW.claim.post args (.bool true) args=true:=
 postW_of (X:=(true==true))
  (show WShape.has [] (.bool true) .bool=true by first|rfl|decide|simp[WShape.has])
  (show(WTm.eq .res (.lit (.bool true))).value [] {args:=args,res:=some (.bool true),after:=args}=some (.bool (true==true)) from w_eq_bool (w_res rfl) w_lit) rfl
theorem V9{l:OpenLaw}{n:Nat}{q:Program}{loose:List Str}{XP:(Str->Option Value)->Heap->Prop}{YP:World->Heap->Prop}{d:DefRec}
  (hn:l.most=some n)(xD:d.params.defaults=[])
  (call:∀(w:World) (cT bG:Shared) (mg mb:aX) (fa:Addr) (o:Obj) (pm cd doc:Value) (a:Addr) (vs:List Value) (ns:List Int),
   Ground q loose [] XP w cT mg mb bG.heap->YP w bG.heap->
   bG.heap.get? fa=some o->o.data=.func (docDef d.name d.params d.body d.scope pm cd doc)->bG.heap.CodeRec cd d.name->mg d.name=some (.ref fa)->
   bG.heap.get? a=some {cls:=.type "list",data:=.seq vs.toArray}->IntsAre vs ns->ns.length<=n->bG.gens=#[]->
   codeAny (model l.prog w) callerA (.call (.ref fa) ⟨[.ref a],[]⟩) (λr s'=>r=.ok (.ret (.bool true))/\OldK bG.heap s'.heap/\s'.os=bG.os/\AllBare s'.gens) bG):
  WalkO q loose XP YP l.row.toRowW d [] (λf vs=>PySem.call f vs):=by
 intro w cT bG mg mb G Y fa o pm cd doc dV kV ho hd i6 hD xE hg args vals as Ad Zgn hrd xC hlo;obtain rfl:dV=.none:=Dflts.none hD xD;obtain rfl:kV=.none:=Dflts.noKw hD;obtain⟨a,vs,ns,rfl,rfl,Gh,hints,hlen⟩:=YL hn Ad xC;refine enter_call (codeAny_mono (call w cT bG mg mb fa o pm cd doc a vs ns G Y ho (fd_plain hd) i6 xE Gh hints hlen hg) λr s' hq=>?_);obtain⟨rfl,h2,h3,h4⟩:=hq;exact⟨.inl ⟨.bool true,.bool true,[],rfl,λ_=>rfl,.bool true,YM l _,λ_=>⟨List.Pairwise.nil,λ_ hm=>(nomatch hm)⟩⟩,h2,h3,h4⟩
section
variable {prog:Program}{w:World}{A:Around}{E:bb}{s:Shared}{K:Frag}
end
end Rn
namespace L2
open PySem PySem.Spec PyProof.Rows
theorem Ef:∀{vs:List Value} {ns:List Int},IntsAre vs ns->Vals (ns.map V.int) vs:=by
 intro vs ns h;induction h with
 |nil=>exact .nil
 |cons n t h ih=>exact .cons ⟨t,rfl⟩ ih
def Gi(H:Hp):Prop:=∀b,H b=none\/∃o xs,H b=some (.bX o (.lst xs))
theorem ZI{P:Program}{w:World}{K:ai}{mg mb:aX}{CX:jP}{k:Nat}{fa a:Addr}{fd:FuncData}{x:Str}{sp:Sp}{bG:Shared}{vs:List Value}{ns:List Int}
  (KX:K.In bG.heap)(Ro:bG.heap.Ns mainGlobals mg)(hb:bG.heap.Ns builtinsNs mb)(hbb:∀x:Str,x≠"__name__"->mb x=bootBuiltins x)(Zeh:bG.heap.NoLimit)(hg:bG.gens=#[])
  (ha:bG.heap.get? a=some {cls:=.type "list",data:=.seq vs.toArray})(hi:IntsAre vs ns)(hl:ns.length<=sizeLine)(hr:c7 k callerA)
  (F:∀base:Heap,K.In base->base.Ns mainGlobals mg->aH P w K mg base CX k fa fd [x] sp)(Zdu:∀(s:Shared) (u:Value),BindsTo s fd ⟨[u],[]⟩ [(x,u)])
  (nA:∀H:Hp,Gi H->ak K H a (ns.map V.int)->sp [.ref a] H (λv _=>v=.bl true) λ_ _ _=>False)
  (G9:∀H e s',CX [] H bG (λ_ _ _=>False) e s'->False):
  codeAny (model P w) callerA (.call (.ref fa) ⟨[.ref a],[]⟩) (λr s'=>r=.ok (.ret (.bool true))/\OldK bG.heap s'.heap/\s'.os=bG.os/\AllBare s'.gens) bG:=by
 have rv:=Ef hi;have Zei:=hi.length
 --from an abstract heap in Zge nothing but oO NS may be tracked
 have core:∀H:Hp,Gi H->ak K H a (ns.map V.int)->c_ P w H bG.heap->(∀b,H b≠none->b=a)->(H a≠none->K.lookup a=none)->
   codeAny (model P w) callerA (.call (.ref fa) ⟨[.ref a],[]⟩) (λr s'=>r=.ok (.ret (.bool true))/\OldK bG.heap s'.heap/\s'.os=bG.os/\AllBare s'.gens) bG:=by
  intro H hO hS aw hA hK;have MV:∀{b:Addr} {o:Obj},bG.heap.get? b=some o->H b=none->(oK bG.heap H).get? b=some o:=λe n=>Zw e n;have xy:∀{b:Addr} {o:Obj} {es:Array DictEntry} {ep:Nat},bG.heap.get? b=some o->o.data=.dict es ep->H b=none:=λ{b o es ep} e d=>by
   cases q:H b with
   |none=>rfl
   |some u=>
    have e':b=a:=hA b (by rw[q];simp);subst e';rw[ha] at e;cases e;have d':Data.seq vs.toArray _=Data.dict es ep:=d;cases d'
  have AV:∀{b:Addr} {m:aX},bG.heap.Ns b m->(oK bG.heap H).Ns b m:=λ{b m} ⟨o,es,ep,e,d,r⟩=>⟨o,es,ep,MV e (xy e d),d,r⟩;have Rp:K.In (oK bG.heap H):=λb o e=>MV (KX b o e) (by
   cases q:H b with
   |none=>rfl
   |some u=>
    have e':b=a:=hA b (by rw[q];simp);subst e';rw[hK (by rw[q];simp)] at e;cases e)
  have hM:Mod K mg (oK bG.heap H):=⟨Rp,AV Ro,⟨mb,AV hb,hbb⟩,let⟨mc,h1,h2⟩:=Zeh;⟨mc,AV h1,h2⟩⟩;have e0:rW P w K mg (oK bG.heap H) callerA [] bG H:=⟨rfl,hM,λb o e=>ZaH e,Nat.le_of_eq (YA _ _),trivial,λb hb=>absurd (show b∈([]:List Addr) from hb) (by simp),aw,.of_eq hg⟩;refine codeAny_mono ((F _ Rp (AV Ro)).run callerA [] bG H ⟨[.ref a],[]⟩ [.ref a] [.ref a] _ _ hr e0 (Zdu bG (.ref a)) (.cons rfl .nil) (nA H hO hS)) λr s' h=>?_;cases r with
  |error e=>exact(G9 H e s' h).elim
  |ok fl=>
   cases fl with
   |next=>exact False.elim h
   |brk=>exact False.elim h
   |cont=>exact False.elim h
   |ret u=>
    obtain⟨v,H',os,bare,un,Zej,r',q⟩:=h;have q':v=.bl true:=q;subst q';obtain rfl:u=Value.bool true:=r';refine⟨rfl,OldK.of_keep λb o e=>?_,os,bare⟩;cases q:H b with
    |none=>exact un.keep b o e q (by intro z;exact absurd (show b∈([]:List Addr) from z) (by simp)) (by simp)
    |some u=>
     rcases hO b with z|⟨ob,xs,z⟩;·rw[q] at z;cases z
     ·have z2:=un.kQ b ob _ z;obtain⟨e1,_⟩:=aw b _ z;obtain⟨e2,_⟩:=Zej b _ z2;rw[e] at e1;cases e1;exact e2
 cases hk:K.lookup a with
 |some o=>
  --oO NS is one of oO Zf7 own objects
  have e:=KX a o hk;rw[ha] at e;cases e;refine core (λ_=>none) (λ_=>.inl rfl) (.inr ⟨_,vs.toArray,_,hk,rfl,rfl,rfl,by rw[Yu,Zei];exact hl,by simpa using rv⟩) (λb u z=>by have z':(none:Option HO)=some u:=z;cases z') (λb z=>absurd rfl z) λz=>absurd rfl z
 |none=>
  refine core (λb=>if b=a then some (.bX {cls:=.type "list",data:=.seq vs.toArray} (.lst (ns.map V.int))) else none) (λb=>?_) (.inl (.inr ⟨{cls:=.type "list",data:=.seq vs.toArray},if_pos rfl⟩)) (λb u z=>?_) (λb z=>?_) λ_=>hk
  ·by_cases hb:b=a;·exact .inr ⟨_,_,if_pos hb⟩
   ·exact .inl (if_neg hb)
  ·by_cases hb:b=a
   ·have z':=(if_pos hb).symm.trans z;cases z';subst hb;exact⟨ha,by rw[Ya];exact hl,vs,_,rv,ha⟩
   ·have z':=(if_neg hb).symm.trans z;cases z'
  ·by_cases hb:b=a;·exact hb
   ·exact absurd (if_neg hb) z
theorem ZaT{l:PySem.W.OpenLaw}{n k:Nat}{q:Program}{loose:List Str}{XP:(Str->Option Value)->Heap->Prop}{YP:World->Heap->Prop}{d:DefRec}{K:Params->ai}{CX:World->jP}{sp:World->Sp}{x:Str}
  (hn:l.most=some n)(eT:n<=sizeLine)(xD:d.params.defaults=[])(hr:c7 k callerA)
  (hY:∀(w:World) (h:Heap),YP w h->(K w.params).In h)
  (F:∀(w:World) (mg:aX) (fa:Addr) (h:Heap),(K w.params).In h->h.Ns mainGlobals mg->mg d.name=some (.ref fa)->
   ∃fd:FuncData,(∀(s:Shared) (u:Value),BindsTo s fd ⟨[u],[]⟩ [(x,u)])/\
    ∀base:Heap,(K w.params).In base->base.Ns mainGlobals mg->aH l.prog w (K w.params) mg base (CX w) k fa fd [x] (sp w))
  (nA:∀(w:World) (H:Hp) (a:Addr) (ns:List Int),ns.length<=n->Gi H->ak (K w.params) H a (ns.map V.int)->sp w [.ref a] H (λv _=>v=.bl true) λ_ _ _=>False)
  (G9:∀(w:World) (H:Hp) (s:Shared) (e:Value) (s':Shared),CX w [] H s (λ_ _ _=>False) e s'->False):
  PySem.W.WalkO q loose XP YP l.row.toRowW d [] (λf vs=>PySem.call f vs):=by
 refine Rn.V9 hn xD λw cT bG mg mb fa o pm cd doc a vs ns G Y ho hd i6 xE Gh hints hlen hg=>?_;have KX:=hY w _ Y;obtain⟨fd,hb,hF⟩:=F w mg fa _ KX G.T.g xE;exact ZI KX G.T.g G.T.b G.T.builtins G.T.nolimit hg Gh hints (Y6 hlen eT) hr hF hb (λH hO hS=>nA w H a ns hlen hO hS) λH e s'=>G9 w H bG e s'
def inClass(s:Stmt)(j:Nat):Stmt:=match s with
 |.ClassDef _ _ _ body _ _ _ _ _ _ _=>body.getD j (.Pass ⟨0,0,0,0⟩)
 |_=>.Pass ⟨0,0,0,0⟩
def oq(s:Stmt):Arguments:=match s with
 |.FunctionDef _ a _ _ _ _ _ _ _ _=>a
 |_=>{posonlyargs:=[],args:=[],vararg:=none,kwonlyargs:=[],kw_defaults:=[],kwarg:=none,defaults:=[]}
def kJ(s:Stmt):List Stmt:=match s with
 |.FunctionDef _ _ b _ _ _ _ _ _ _=>b
 |_=>[]
def aK(s:Stmt):Scope:=match s with
 |.FunctionDef _ _ _ _ _ _ sc _ _ _=>sc
 |_=>{kind:=.function,names:=[],isGenerator:=false,isCoroutine:=false}
abbrev aM:jP:=λ_ _ _ _ _ _=>False
abbrev E0:XK:=λ_ _ _=>False
theorem zX{X:Cx}:Passes aM X E0:=λ_ _ _ _ _ _ _ h=>h.elim
structure aL(K:ai)(x qual:Str)(st:Stmt)(f:Addr)(fd:FuncData):Prop where
 ex:∃(oc:Value) (od:Option Addr) (kV doc pm:Value) (an:Option Addr) (b_ ct:Value) (oV:Array (Option Value)),
  fd=fnOf x qual (oq st) (kJ st) (aK st) .none kV doc pm an b_ ct/\K.lookup f=some ⟨oc,od,.func fd,oV⟩/\codeIn K b_ qual=true
 kp:keepIn K (.ref f)=true
section
variable {P:Program}{w:World}{K:ai}{mg:aX}{base:Heap}
theorem aL.ok{x qual:Str}{st:Stmt}{f:Addr}{fd:FuncData}{N ps:List Str}{k:Nat}{sp:Sp}(F:aL K x qual st f fd)(S:aQ N ps (aK st))(len:∀vs H Q E,sp vs H Q E->vs.length=ps.length)
  (rK:∀(b_:Value) (A:Around) (outer:List Env) (s:Shared) (H:Hp) (vs:List V) (Q:VK) (E:XK),c7 k (A.deeper (envOfC qual (aK st) s.heap.objs.size f b_))->sp vs H Q E->
   ∃t,gv (lV aM P w K mg base N qual (aK st) f b_ A outer s H E).xv (kJ st) t/\t {nx:=λ_ H'=>Q .az H',rt:=Q} (start N vs) H):aH P w K mg base aM (k+1) f fd ps sp:=by
 obtain⟨oc,od,kV,doc,pm,an,b_,ct,oV,rfl,lk,i6⟩:=F.ex;refine Pd lk i6 S len λA outer s H vs Q E hr nA=>?_;obtain⟨t,h,q⟩:=rK b_ A outer s H vs Q E hr nA;exact⟨t,h.xv,q⟩
theorem aL.binds{x qual:Str}{st:Stmt}{f:Addr}{fd:FuncData}{ps:List Str}(F:aL K x qual st f fd)
  (h:∀(kV doc pm:Value) (an:Option Addr) (b_ ct:Value) (us:List Value),us.length=ps.length->bindArgs (fnOf x qual (oq st) (kJ st) (aK st) .none kV doc pm an b_ ct) ⟨us,[]⟩=pure (ps.zip us)):Binds K fd ps []:=by
 obtain⟨oc,od,kV,doc,pm,an,b_,ct,oV,rfl,lk,i6⟩:=F.ex;exact .all (h kV doc pm an b_ ct)
theorem wC{x qual:Str}{st:Stmt}{f:Addr}{oc:Value}{od an:Option Addr}{oV:Array (Option Value)}{kV doc pm b_ ct:Value}(l:K.lookup f=some ⟨oc,od,.func (fnOf x qual (oq st) (kJ st) (aK st) .none kV doc pm an b_ ct),oV⟩)
  (c:codeIn K b_ qual=true)(k:keepIn K (.ref f)=true):aL K x qual st f (fnOf x qual (oq st) (kJ st) (aK st) .none kV doc pm an b_ ct):=⟨⟨oc,od,kV,doc,pm,an,b_,ct,oV,rfl,l,c⟩,k⟩
end
theorem bw{A:Around}{k:Nat}(hr:c7 k A):A.units+1<cLine:=Jc (Nat.add_le_add_left (by decide:1<=64) _) hr.units
theorem jD{n:Nat}(h:n<=1000):n<sizeLine:=Jc h (by decide)
section
variable {X:Cx}
theorem pv(i:Nat){x:Str}{pos:Pos}(hN:X.N[i]?=some x:=by rfl)(hv:uJ X.env.scope x:=by first|exact Or.inl rfl|exact Or.inr (Or.inl rfl)|exact Or.inr (Or.inr rfl))(hd:(x==("__debug__":Str))=false:=by decide)
  (i6:(x==("__classdict__":Str))=false:=by decide):PE X (.Name x pos) (gn i):=ZbW hN hv hd i6
end
theorem bR{A B:Prop}(h:B):if false=true then A else B:=by
 grind
theorem cW{A B:Prop}(h:A):if true=true then A else B:=by
 grind
theorem bI{c A B:Prop}[Decidable c](h1:c->A)(h2:¬c->B):if c then A else B:=by
 grind
theorem ur{c A B:Prop}[Decidable c](hc:c)(h:B):if(!decide c)=true then A else B:=by
 grind
def aj(H H':Hp):Prop:=∀b o,H b=some o->H' b=some o
theorem aj.refl(H:Hp):aj H H:=λ_ _ h=>h
theorem aj.trans{H H1 H2:Hp}(a:aj H H1)(b:aj H1 H2):aj H H2:=λc o h=>b c o (a c o h)
theorem aj.free{H H':Hp}(e:aj H H'){l:Addr}(h:H' l=Option.none):H l=Option.none:=by
 cases q:H l with
 |none=>rfl
 |some o=>
  rw[e l o q] at h;cases h
theorem aj.seq{K:ai}{H H':Hp}{a:Addr}{xs:List V}(e:aj H H')(h:ak K H a xs):ak K H' a xs:=by
 rcases h with(h|⟨o,h⟩)|h;·exact .inl (.inl (e _ _ h))
 ·exact .inl (.inr ⟨o,e _ _ h⟩)
 ·exact .inr h
def pV(cells:List (Str×Addr)):List (Str×Addr)->Prop
 |[]=>True
 |p::r=>cells.lookup p.1=some p.2/\pV cells r
theorem pV.look:∀{cl:List (Str×Addr)},pV cells cl->∀(x:Str) (c:Addr),cl.lookup x=some c->cells.lookup x=some c
 |[],_,x,c,h=>by simp at h
 |(n,a)::r,hh,x,c,h=>by
  rw[W1] at h;cases e:x==n with
  |true=>
   rw[e] at h;rw[(eq_of_beq e),←(Ym h)];exact hh.1
  |false=>
   rw[e] at h;exact pV.look hh.2 x c h
theorem C1{env:Env}:∀{names:List (Str×NameKind)} {x:Str} {k:NameKind},
  (names.map λ(n,k)=>if(k==NameKind.free&&env.scope.kind==.function&&env.kindOf n==some .cell) then(n,NameKind.cell) else(n,k)).lookup x=some k->
  ∃k0,(x,k0)∈names/\(k=k0\/k0=.free)
 |[],_,_,h=>by simp at h
 |(n,k0)::r,x,k,h=>by
  have h:List.lookup x ((if(k0==NameKind.free&&env.scope.kind==.function&&env.kindOf n==some .cell)=true then(n,NameKind.cell) else(n,k0))::(r.map λ(n,k)=>if(k==NameKind.free&&env.scope.kind==.function&&env.kindOf n==some .cell) then(n,NameKind.cell) else(n,k)))=some k:=h;by_cases hc:(k0==NameKind.free&&env.scope.kind==.function&&env.kindOf n==some .cell)=true
  ·rw[if_pos hc,W1] at h;cases e:x==n with
   |true=>grind
   |false=>
    rw[e] at h;obtain⟨k1,m,q⟩:=C1 h
    grind
  ·rw[if_neg hc,W1] at h;cases e:x==n with
   |true=>grind
   |false=>
    rw[e] at h;obtain⟨k1,m,q⟩:=C1 h
    grind
structure Oa(X:Cx)(scope:Scope)(cl:List (Str×Addr))(y:Str)(j:Nat):Prop where
 ix:X.N[j]?=some y
 out:X.env.kindOf y=some .cell\/X.env.kindOf y=some .free
 i_:(relabel scope X.env).names.lookup y=some .cell\/(relabel scope X.env).names.lookup y=some .free
 cl:(cl.lookup y).isSome=true
def pW(X:Cx)(scope:Scope)(cl:List (Str×Addr)):List (Str×Nat)->Prop
 |[]=>True
 |p::r=>Oa X scope cl p.1 p.2/\pW X scope cl r
theorem pW.get:∀{fr:List (Str×Nat)} {k:Nat} {p:Str×Nat},pW X scope cl fr->fr[k]?=some p->Oa X scope cl p.1 p.2
 |[],k,p,_,h=>by simp at h
 |q::r,0,p,hh,h=>by
  have e:q=p:=by simpa using h
  rw[←e];exact hh.1
 |q::r,k+1,p,hh,h=>pW.get hh.2 (by simpa using h)
structure yR(X:Cx)(scope:Scope)(cl:List (Str×Addr))(x:Str)(fr:List (Str×Nat)):Prop where
 wZ:closureFor scope X.env=pure cl
 sub:pV X.env.cells cl
 kind:scope.kind=.function
 names:∀y∈scope.names,y.2=.local->scope.names.lookup y.1=some .local
 lx:scope.names.lookup x=some .local
 zY:∀y∈scope.names,y.2≠.cell
 has:(scope.names.all λy=>!(y.2==.free)||(cl.lookup y.1).isSome)=true
 eY:pW X scope cl fr
 nd:(x::fr.map (·.1)).Nodup
def gh(σ:St)(fr:List (Str×Nat)):St:=fr.map λp=>(σ[p.2]?).join
structure pL(X:Cx)(scope:Scope)(cl:List (Str×Addr))(xs:List Str)(fr:List (Str×Nat)):Prop where
 wZ:closureFor scope X.env=pure cl
 sub:pV X.env.cells cl
 kind:scope.kind=.function
 names:∀y∈scope.names,y.2=.local->scope.names.lookup y.1=some .local
 zY:∀y∈scope.names,y.2≠.cell
 has:(scope.names.all λy=>!(y.2==.free)||(cl.lookup y.1).isSome)=true
 eY:pW X scope cl fr
 nd:(xs++fr.map (·.1)).Nodup
def cO(X:Cx)(xs:List Str)(fr:List (Str×Nat))(scope:Scope)(cl:List (Str×Addr))(C:Addr)(s:Shared)(H:Hp)(fp:List Addr):Cx where
 prog:=X.prog
 w:=X.w
 K:=X.K
 mg:=X.mg
 base:=X.base
 A:=X.A
 N:=xs++fr.map (·.1)
 cT:=s
 kR:=H
 env:=compEnvC scope cl C X.env
 outer:=X.stack
 stack:=X.stack
 ex:=fp
 fn:=λ_=>false
 calm:=X.calm
 pn:=[]
 xe:=λ_ _=>False
section
variable {X:Cx}{scope:Scope}{cl:List (Str×Addr)}{xs:List Str}{fr:List (Str×Nat)}{pins:aZ}{σ:St}{H:Hp}{s:Shared}
theorem YN(S:pL X scope cl xs fr)(I:Inv X pins σ H s)(hC:C=s.heap.objs.size)(hf:∀b∈fp,ig X pins H b)(bJ:∀b∈fp,b<s.heap.objs.size)
  (old:∀b o,s.heap.get? b=some o->gq.get? b=some o)(hn:gq.Ns C m):Inv (cO X xs fr scope cl C s H fp) [] (List.replicate xs.length none++gh σ fr) H {s with heap:=gq,toks:=tk}:=by
 have look:=S.sub.look;refine⟨⟨I.ok.mod,S.kind,I.ok.glob,I.ok.blt,by show s.heap.objs.size<=C;rw[hC];exact Ye _,λy z c h1 h2=>I.ok.inj y z c (look y c h1) (look z c h2),λy hy=>?_,λy c h=>?_,I.ok.hd,I.ok.frames,.inl rfl,λb hb=>⟨?_,λy c h=>?_⟩,
   I.bs,Y6 I.ok.nj I.sz,λb o e hb=>?_,λb hb hb2=>?_,I.stack,I.MG⟩,
  rfl,I.bare,Un.kept old,⟨m,hn,λi y v h1 h2 h3=>?_⟩,λy c h=>?_,?_,λy c h=>I.kM y c (look y c h),λp hp=>absurd (show p∈([]:aZ) from hp) (by simp),I.aw.kept old,?_⟩
 ·have hy:(relabel scope X.env).names.lookup y=some .cell\/(relabel scope X.env).names.lookup y=some .free:=hy;have fin:∀{k:NameKind},(relabel scope X.env).names.lookup y=some k->(k=.cell\/k=.free)->∃c,cl.lookup y=some c:=λ{k} e hk=>by
   obtain⟨k0,hm,q⟩:=C1 (env:=X.env) e;have hk0:k0=.free:=by
    rcases q with q|q
    ·rcases hk with z|z;·exact absurd (q.symm.trans z) (S.zY _ hm)
     ·exact q.symm.trans z
    ·exact q
   have hq:=Wp.mp S.has _ hm;rw[hk0] at hq;exact Jf.mp (by simpa using hq)
  rcases hy with e|e;·exact fin e (.inl rfl)
  ·exact fin e (.inr rfl)
 ·exact absurd (show false=true from h) Yk
 ·show b≠C;exact λz=>absurd (bJ b hb) (by rw[show b=C from z,hC];exact Y8 _)
 ·exact(hf b hb).2.2.2.2.1 y c (look y c h)
 ·obtain⟨_,_,_,z,_⟩:=hf b hb;rcases z with z|z;·exact I.ok.wV b o e z
  ·have h1:=Yx e;have h2:=I.ok.nj;exact absurd (Y0 h1 (Y6 h2 z)) (Y8 _)
 ·have z:=I.Fj b hb2;rcases Yn.mp z with z|z;·exact(hf b hb).2.1 z
  ·exact(hf b hb).2.2.1 z
 ·by_cases hi:i<xs.length;·grind
  ·have h1:(xs++fr.map (·.1))[i]?=some y:=h1;rw[Js (Nat.le_of_not_lt hi)] at h1;rw[Js (by rw[W0];exact Nat.le_of_not_lt hi),W0] at h2;generalize i-xs.length=k at h1 h2;have h2:(fr.map λp=>(σ[p.2]?).join)[k]?=some (some v):=h2;rw[Yd] at h1 h2;cases e:fr[k]? with
   |none=>rw[e] at h1;cases h1
   |some p=>
    rw[e] at h1 h2;have e1:p.1=y:=Ym h1;have e2:(σ[p.2]?).join=some v:=Ym h2;have F:=S.eY.get e;rw[e1] at F;have e3:σ[p.2]?=some (some v):=by
     cases q:σ[p.2]? with
     |none=>rw[q] at e2;cases e2
     |some o=>grind
    obtain⟨m0,_,hl⟩:=I.loc;have G4:uJ X.env.scope y:=by
     rcases F.out with z|z;·exact .inr (.inl z)
     ·exact .inr (.inr z)
    obtain⟨u,r,l⟩:=hl p.2 y v F.ix e3 G4;refine⟨u,r,.inr ⟨F.i_,?_⟩⟩;obtain⟨c,hc⟩:=Jf.mp F.cl;refine⟨c,hc,?_⟩;rcases l with⟨k1,_⟩|⟨_,c',e',z⟩
    ·rcases F.out with q|q;·rw[q] at k1;cases k1
     ·rw[q] at k1;cases k1
    ·have e4:=look y c hc;rw[e'] at e4;cases e4;obtain⟨o,ho,hd⟩:=z;exact⟨o,old _ _ ho,hd⟩
 ·obtain⟨v,o,ho,hd⟩:=I.cell y c (look y c h);exact⟨v,o,old _ _ ho,hd⟩
 ·show H C=none;rw[hC];exact I.aw.fresh (Ye _)
 ·show(List.replicate xs.length none++gh σ fr).length=(xs++fr.map (·.1)).length;simp[gh]
end
abbrev zJ(X:Cx)(x:Str)(fr:List (Str×Nat))(scope:Scope)(cl:List (Str×Addr))(C:Addr)(s:Shared)(H:Hp)(fp:List Addr):Cx:=cO X [x] fr scope cl C s H fp
section
variable {prog:Program}{w:World}{A:Around}{R:Result->Shared->Prop}{s:Shared}
theorem TX(I:Nat->Shared->Prop)
  (turn:∀n s,I n s->wpAny (model prog w) A (pyNext it) (λr bG=>match r with
   |none=>R (.ok .next) bG
   |some v=>wpAny (model prog w) A (letOwnedTupleGo target it v) (λ_ cT=>wpAny (model prog w) A (assign target env v) (λ_ d_=>
     wpAny (model prog w) A (forIn ifs true λc r=>if r=true then do let ok←isTrue c env (eval c env);pure (ForInStep.yield ok) else pure (ForInStep.yield r)) (λok dX=>
      if ok=true then wpAny (model prog w) A (eval elt env) (λx ik=>
       wpAny (model prog w) A (call (.builtin "list.append") [acc,x]) (λ_ lW=>∃m,m<n/\I m lW) (notedBy (model prog w) A env λe s'=>R (.error e) s') ik) (notedBy (model prog w) A env λe s'=>R (.error e) s') dX
      else ∃m,m<n/\I m dX) (notedBy (model prog w) A env λe s'=>R (.error e) s') d_) (notedBy (model prog w) A env λe s'=>R (.error e) s') cT) (notedBy (model prog w) A env λe s'=>R (.error e) s') bG) (notedBy (model prog w) A env λe s'=>R (.error e) s') s)
  (n:Nat)(h:I n s):codeAny (model prog w) A (.compLoop (.ListComp elt [⟨target,iter,ifs,0⟩] scope pos) 0 it acc env) R s:=by
 refine codeAny_loop rfl I (λn s hI=>wpAny_noted (wpAny_bind (wpAny_standAt (wpAny_bind (wpAny_mono (turn n s hI) (λr bG gq=>?_) λ_ _ h'=>h'))))) n h;cases r with
 |none=>exact wpAny_pure gq
 |some v=>
  refine wpAny_bind (wpAny_mono gq (λ_ cT h₀=>wpAny_bind (wpAny_mono h₀ (λ_ d_ oM=>wpAny_bind (wpAny_mono oM (λok dX uA=>?_) λ_ _ h'=>h')) λ_ _ h'=>h')) λ_ _ h'=>h');cases ok with
  |false=>exact wpAny_pure ⟨rfl,uA⟩
  |true=>
   exact wpAny_bind (wpAny_bind (wpAny_mono uA (λx ik w8=>wpAny_bind (wpAny_mono w8 (λ_ lW w_=>wpAny_pure (wpAny_pure ⟨rfl,w_⟩)) λ_ _ h'=>h')) λ_ _ h'=>h'))
end
def uT(X:Cx)(ifs:List Expr)(t:TT):Prop:=
 ∀(pins:aZ) (s:Shared) (σ:St) (H:Hp) (Q:Bool->Hp->Prop),Inv X pins σ H s->t σ H Q->
  wpAny X.md X.A (forIn ifs true λc r=>if r=true then do let ok←isTrue c X.env (eval c X.env);pure (ForInStep.yield ok) else pure (ForInStep.yield r)) (TP X pins σ Q) X.xe s
def Ae:TT:=λ_ H Q=>Q true H
theorem lK:uT X [] Ae:=λ_ _ _ H _ I h=>wpAny_tests_nil ⟨H,I,h⟩
theorem wu(h:PT X c t):uT X [c] t:=λpins s σ H Q I hw=>wpAny_tests_one (h pins s σ H Q I hw)
def Fp(n:Nat)(J:It)(tg:TG)(tt:TT)(te:TE)(fv:St)(D:Addr)(H:Hp)(Q:VK):Prop:=
 ∃W:Nat->Nat->List V->Hp->Prop,(∃m,W 0 m [] (upd H D (.lst [])))/\∀i m ys H,W i m ys H->
  (J.stop i H/\Q (.ref D) H)\/(J.go i H/\∃N:List V->Hp->Prop,(∀gw H',N gw H'->∃m',m'<m/\W (i+1) m' gw H')/\
   ∀v H',J.qx i H v H'->∀os:St,os.length=n->tg v (os++fv) H' λdq H2=>(∃jR:St,jR.length=n/\dq=jR++fv)/\tt dq H2 λc H1=>if c=true then te dq H1 λy H3=>H3 D=some (.lst ys)/\ys.length<sizeLine/\N (ys++[y]) (upd H3 D (.lst (ys++[y]))) else N ys H1)
section
variable {X:Cx}{elt iter tgt:Expr}{xs:List Str}{pos:Pos}{ifs:List Expr}{scope:Scope}{cl:List (Str×Addr)}{fr:List (Str×Nat)}{tg:TG}{tt:TT}{te:TE}{pins:aZ}{σ:St}
theorem LM{H2:Hp}{s2:Shared}{it:Addr}{fp:List Addr}{tn:Nat->Heap->Prop}{J:It}{Q:VK}{RR:Value->Addr->Result->Shared->Prop}{E:bb}{rest:List Comprehension}(S:pL X scope cl xs fr)
  (I2:Inv X pins σ H2 s2)(T:Turn X.prog X.w X.K tgt J fp it tn)(eZ:tn 0 s2.heap)(f2:∀b∈fp,ig X pins H2 b)
  (hR:∀D C s1 H1 m,Inv X pins σ H1 s1->s1.heap.Ns C m->H1 C=none->C≠X.env.locals->X.cT.heap.objs.size<=C->(∀y c,X.env.cells.lookup y=some c->c≠C)->(∀p∈X.pn++pins,p.1≠C)->Q (.ref D) H1->RR (.ref D) C (.ok .next) s1)
  (hl:∀(D C:Addr) (s:Shared) (H3:Hp) (dX:Shared),H2 D=none->H3=upd H2 D (.lst [])->Inv (cO X xs fr scope cl C s H3 fp) [] (List.replicate xs.length none++gh σ fr) H3 dX->tn 0 dX.heap->(∀b∈fp,H3 b=none)->
   (∀s6 AS H5,Inv (cO X xs fr scope cl C s H3 fp) [] AS H5 s6->Q (.ref D) H5->RR (.ref D) C (.ok .next) s6)->
   codeAny X.md X.A (.compLoop (.ListComp elt (⟨tgt,iter,ifs,0⟩::rest) scope pos) 0 (.ref it) (.ref D) (compEnvC scope cl C X.env)) (RR (.ref D) C) dX):
  wpAny X.md X.A (newList []) (λacc dX=>wpAny X.md X.A (newFunctionEnv scope X.env.globals cl [] X.env.qual none .none (some X.env)) (λlX ik=>
   codeAny X.md X.A (.compStart (.ListComp elt (⟨tgt,iter,ifs,0⟩::rest) scope pos) 0 (.ref it) acc {lX with scope:=relabel scope X.env}) (RR acc lX.locals) ik) E dX) E s2:=by
 refine wpAny_newObj_type (wpAny_newFunctionEnv S.zY (by intro y hy;simp at hy) (λgq Fq Fs=>?_) S.kind);dsimp only at Fq Fs⊢;have I3:Inv X pins σ (upd H2 s2.heap.objs.size (.lst [])) {s2 with heap:=s2.heap.push {cls:=.type "list",dict:=none,data:=.seq ([]:List Value).toArray}}:=
  I2.laid (t':=s2.toks) (λb u e=>Yc _ e) (Ye _) ⟨Yw _,[],0,.nil,Yr _ rfl⟩
 have hDn:H2 s2.heap.objs.size=none:=I2.aw.fresh (Ye _);have Qa:∀b∈fp,b<s2.heap.objs.size:=λb hb=>by
  obtain⟨o,e,_⟩:=T.obj _ _ eZ b hb;exact Yx e
 generalize Rq:s2.heap.push {cls:=.type "list",dict:=none,data:=.seq ([]:List Value).toArray}=G2 at Fq Fs I3⊢;have hC:G2.objs.size=s2.heap.objs.size+1:=by rw[←Rq,Ju]
 have old:∀b o,G2.get? b=some o->gq.get? b=some o:=λb o e=>Fs.extBut b o (Yz (Yx e)) (Yc _ e);have f3:∀b∈fp,ig X pins (upd H2 s2.heap.objs.size (.lst [])) b:=λb hb=>by
  have:=Qa b hb;exact⟨by rw[aC (Yz this)];exact(f2 b hb).1,(f2 b hb).2⟩
 have lt3:∀b∈fp,b<G2.objs.size:=λb hb=>by
  rw[hC];exact Wv (Qa b hb)
 have uU:tn 0 gq:=T.keep _ _ _ eZ λb hb o e=>old b o ((λb o e=>Rq▸Yc _ e) b o e);have I4:Inv (cO X xs fr scope cl G2.objs.size {s2 with heap:=G2} (upd H2 s2.heap.objs.size (.lst [])) fp) [] (List.replicate xs.length none++gh σ fr) (upd H2 s2.heap.objs.size (.lst [])) {s2 with heap:=gq,toks:=s2.toks+([]:List (Str×Value)).length}:=
  YN (tk:=s2.toks+([]:List (Str×Value)).length) S I3 rfl f3 lt3 old Fq
 have loop:=hl s2.heap.objs.size G2.objs.size {s2 with heap:=G2} _ {s2 with heap:=gq,toks:=s2.toks+([]:List (Str×Value)).length} hDn rfl I4 uU (λb hb=>(f3 b hb).1) λs6 AS H5 I6 qn=>by
   obtain⟨m,hnC,_⟩:=I6.loc;have I7:Inv X pins σ H5 s6:=I3.Zdi (ch:=fp) I6.os I6.base I6.aw I6.bare λb hb=>⟨(f2 b hb).2.2.2.1,(f2 b hb).2.1,(f2 b hb).2.2.2.2.1,(f2 b hb).2.2.2.2.2⟩;refine hR _ _ s6 H5 m I7 hnC I6.free ?_ ?_ (λy c e z=>?_) (λp hp z=>?_) qn;·exact G5 I3.lt
   ·exact I3.sz
   ·obtain⟨v,q⟩:=I3.cell y c e;exact absurd q.lt (by rw[z];exact Y8 _)
   ·exact absurd (Yx (I3.pin p hp).1) (by rw[z];exact Y8 _)
 exact codeAny_compStart_list loop (T.self _ 0 _ _ _ uU loop)
theorem Kz{H2:Hp}{s2:Shared}{it:Addr}{fp:List Addr}{tn:Nat->Heap->Prop}{J:It}{Q:VK}{RR:Value->Addr->Result->Shared->Prop}{E:bb}
  (hc:X.calm=true)(S:pL X scope cl xs fr)(hg:∀C s H fp,PG (cO X xs fr scope cl C s H fp) tgt tg)
  (ht:∀C s H fp,uT (cO X xs fr scope cl C s H fp) ifs tt)(he:∀C s H fp,PE (cO X xs fr scope cl C s H fp) elt te)
  (I2:Inv X pins σ H2 s2)(T:Turn X.prog X.w X.K tgt J fp it tn)(eZ:tn 0 s2.heap)(f2:∀b∈fp,ig X pins H2 b)
  (hw:∀D,H2 D=none->Fp xs.length J tg tt te (gh σ fr) D H2 Q)
  (hR:∀D C s1 H1 m,Inv X pins σ H1 s1->s1.heap.Ns C m->H1 C=none->C≠X.env.locals->X.cT.heap.objs.size<=C->(∀y c,X.env.cells.lookup y=some c->c≠C)->(∀p∈X.pn++pins,p.1≠C)->Q (.ref D) H1->RR (.ref D) C (.ok .next) s1):
  wpAny X.md X.A (newList []) (λacc dX=>wpAny X.md X.A (newFunctionEnv scope X.env.globals cl [] X.env.qual none .none (some X.env)) (λlX ik=>
   codeAny X.md X.A (.compStart (.ListComp elt [⟨tgt,iter,ifs,0⟩] scope pos) 0 (.ref it) acc {lX with scope:=relabel scope X.env}) (RR acc lX.locals) ik) E dX) E s2:=by
 refine LM (rest:=[]) S I2 T eZ f2 hR λD C s H3 dX hD e3 I4 uU uQ fin=>?_;obtain⟨W,⟨m0,w0⟩,turn⟩:=hw D hD;rw[←e3] at w0;refine TX (λk s'=>∃i ys H' os,os.length=xs.length/\Inv (cO X xs fr scope cl C s H3 fp) [] (os++gh σ fr) H' s'/\tn i s'.heap/\(∀b∈fp,H' b=none)/\W i k ys H') ?_ m0
  ⟨0,[],_,List.replicate xs.length none,W0,I4,uU,uQ,w0⟩
 rintro n s5 ⟨i,ys,H5,os,oW,I5,oS,oU,w5⟩;have lU:∀{H':Hp},(∀b∈fp,H' b=none)->∀b∈fp,ig (cO X xs fr scope cl C s H3 fp) [] H' b:=λ{H'} hn b hb=>
  ⟨hn b hb,(I5.ok.uK b hb).1,I5.ok.ux b hb,.inl hb,(I5.ok.uK b hb).2,λp hp=>absurd (show p∈([]:aZ) from hp) (by simp)⟩
 rcases turn i n ys H5 w5 with⟨stop,qn⟩|⟨go,N,hN,step⟩
 ·refine aB (T.done (cO X xs fr scope cl C s H3 fp) rfl rfl rfl hc i [] s5 _ H5 _ I5 (lU oU) oS stop) λr s6 zq=>?_;obtain⟨hr,I6⟩:=zq;subst hr;exact fin _ _ _ I6 qn
 ·refine aB (T.item (cO X xs fr scope cl C s H3 fp) rfl rfl rfl hc i [] s5 _ H5 _ I5 (lU oU) oS go) λr s6 zq=>?_;obtain⟨u,hr,h6⟩:=zq;subst hr;refine aB h6 λ_ s7 zq=>?_;obtain⟨v,H7,I7,r7,y7,sy,xF⟩:=zq;have G_:=I7.pinned (lU xF) (T.obj _ _ sy);refine wpAny_mono (hg _ _ _ _ _ s7 _ H7 v u _ G_ r7 (step v H7 y7 os oW)) (λ_ s8 zq=>?_) λ_ _ z=>False.elim z;obtain⟨σ8,H8,I8,⟨jR,Gj,e8⟩,q8⟩:=zq;subst e8;have again:∀{oX:St} {H9:Hp} {s9:Shared} {oY:List V},oX.length=xs.length->Inv (cO X xs fr scope cl C s H3 fp) ([]++p_ fp s7.heap) (oX++gh σ fr) H9 s9->N oY H9->
    ∃m,m<n/\∃i ys H' os,os.length=xs.length/\Inv (cO X xs fr scope cl C s H3 fp) [] (os++gh σ fr) H' s9/\tn i s9.heap/\(∀b∈fp,H' b=none)/\W i m ys H':=λ{oX H9 s9 oY} l1 I9 n9=>by
   obtain⟨m',hm,w9⟩:=hN oY H9 n9;refine⟨m',hm,i+1,oY,H9,oX,l1,I9.t6,T.keep _ _ _ sy λb hb o e=>(I9.pin (b,o) (Yp _ (Yp _ (pK hb e)))).1,λb hb=>?_,w9⟩;obtain⟨o,e,d⟩:=T.obj _ _ sy b hb;exact(I9.pin (b,o) (Yp _ (Yp _ (pK hb e)))).2.1
  refine wpAny_mono (ht _ _ _ _ _ s8 _ H8 _ I8 q8) (λok s9 zq=>?_) λ_ _ z=>False.elim z;obtain⟨H9,I9,q9⟩:=zq;cases ok with
  |false=>
   rw[if_neg Yk] at q9⊢;exact again Gj I9 q9
  |true=>
   rw[if_pos rfl];rw[if_pos rfl] at q9;refine wpAny_mono (he _ _ _ _ _ s9 _ H9 _ I9 q9) (λu1 Hq zq=>?_) λ_ _ z=>False.elim z;obtain⟨y,oZ,Hs,r10,hD,hz,o_⟩:=zq;refine wpAny_mono (n5 (X:=cO X xs fr scope cl C s H3 fp) _ Hq _ oZ (.ref D) [y] _ [u1] (λ_ H'=>N (ys++[y]) H') Hs rfl (.cons r10 .nil) ⟨_,ys,y,rfl,rfl,hD,hz,o_⟩) (λ_ Hu zq=>?_) λ_ _ z=>False.elim z;obtain⟨_,xG,AW,_,q11⟩:=zq;exact again Gj AW q11
end
def iS(J:It)(tt:TT)(te:TE)(fv:St)(D:Addr)(H:Hp)(Q:VK):Prop:=
 ∃W:Nat->Nat->List V->Hp->Prop,(∃m,W 0 m [] (upd H D (.lst [])))/\∀i m ys H,W i m ys H->
  (J.stop i H/\Q (.ref D) H)\/(J.go i H/\∃N:List V->Hp->Prop,(∀gw H',N gw H'->∃m',m'<m/\W (i+1) m' gw H')/\
   ∀v H',J.qx i H v H'->tt (some v::fv) H' λc H1=>if c=true then te (some v::fv) H1 λy H3=>H3 D=some (.lst ys)/\ys.length<sizeLine/\N (ys++[y]) (upd H3 D (.lst (ys++[y]))) else N ys H1)
section
variable {X:Cx}{elt iter:Expr}{x:Str}{px pos:Pos}{ifs:List Expr}{scope:Scope}{cl:List (Str×Addr)}{fr:List (Str×Nat)}{tt:TT}{te:TE}{pins:aZ}{σ:St}
theorem YO{H2:Hp}{s2:Shared}{it:Addr}{fp:List Addr}{tn:Nat->Heap->Prop}{J:It}{Q:VK}{RR:Value->Addr->Result->Shared->Prop}{E:bb}
  (hc:X.calm=true)(S:yR X scope cl x fr)
  (ht:∀C s H fp,uT (zJ X x fr scope cl C s H fp) ifs tt)(he:∀C s H fp,PE (zJ X x fr scope cl C s H fp) elt te)
  (I2:Inv X pins σ H2 s2)(T:Turn X.prog X.w X.K (.Name x px) J fp it tn)(eZ:tn 0 s2.heap)(f2:∀b∈fp,ig X pins H2 b)
  (hw:∀D,H2 D=none->iS J tt te (gh σ fr) D H2 Q)
  (hR:∀D C s1 H1 m,Inv X pins σ H1 s1->s1.heap.Ns C m->H1 C=none->C≠X.env.locals->X.cT.heap.objs.size<=C->(∀y c,X.env.cells.lookup y=some c->c≠C)->(∀p∈X.pn++pins,p.1≠C)->Q (.ref D) H1->RR (.ref D) C (.ok .next) s1):
  wpAny X.md X.A (newList []) (λacc dX=>wpAny X.md X.A (newFunctionEnv scope X.env.globals cl [] X.env.qual none .none (some X.env)) (λlX ik=>
   codeAny X.md X.A (.compStart (.ListComp elt [⟨.Name x px,iter,ifs,0⟩] scope pos) 0 (.ref it) acc {lX with scope:=relabel scope X.env}) (RR acc lX.locals) ik) E dX) E s2:=by
 refine Kz (xs:=[x]) hc ⟨S.wZ,S.sub,S.kind,S.names,S.zY,S.has,S.eY,S.nd⟩ (λC s H fp=>pU (i:=0) S.nd rfl (.inl (lookup_relabel_local S.lx)) (.inr (lookup_relabel_local S.lx))) ht he I2 T eZ f2 (λD hD=>?_) hR;obtain⟨W,h0,h⟩:=hw D hD;refine⟨W,h0,λi m ys H p=>?_⟩;rcases h i m ys H p with z|⟨z,N,hN,q⟩;·exact .inl z
 ·refine .inr ⟨z,N,hN,λv H' y os hl=>?_⟩;match os,hl with
  |[o],_=>exact⟨⟨[some v],rfl,rfl⟩,q v H' y⟩
def Zdv(wi:TI)(fr:List (Str×Nat))(tt:TT)(te:TE):TE:=λσ H Q=>wi σ H λJ H1=>∀D,H1 D=none->iS J tt te (gh σ fr) D H1 Q
theorem iN(hc:X.calm=true)(S:yR X scope cl x fr)(hi:PI X (.Name x px) iter wi)
  (ht:∀C s H fp,uT (zJ X x fr scope cl C s H fp) ifs tt)(he:∀C s H fp,PE (zJ X x fr scope cl C s H fp) elt te)
  (hs:∀x,foldedSetIterable iter X.env x=pure x:=by intro _;rfl):PE X (.ListComp elt [⟨.Name x px,iter,ifs,0⟩] scope pos) (Zdv wi fr tt te):=by
 intro pins s σ H Q I h;refine wpAny_comprehension_free rfl hs S.wZ S.kind S.names (aB (hi pins s σ H _ I h) λv s1 h1=>aB h1 λuO s2 h2=>?_);obtain⟨it,fp,tn,J,H2,e,I2,T,eZ,f2,hw⟩:=h2;subst e;refine YO (RR:=λacc C=>compPost X.md X.A X.xe none (EP X pins σ Q) acc C) hc S ht he I2 T eZ f2 hw ?_;intro D C s1 H1 m I1 hn f0 f1 f3 f4 f5 q;exact⟨m,hn,λh' pd=>⟨.ref D,H1,I1.turned (λb o hb e=>pd.extBut b o hb e) f0 f1 (.inr f3) f4 f5,rfl,q⟩⟩
end
theorem Eg{K:ai}{a:Addr}{xs:List V}{tt:TT}{te:TE}{fv:St}{D:Addr}{H:Hp}{Q:VK}(Pv:Nat->List V->Hp->Prop)(h0:Pv 0 [] (upd H D (.lst [])))(hl:∀i ys H,i<=xs.length->Pv i ys H->ak K H a xs)
  (hs:∀i v ys H,xs[i]?=some v->Pv i ys H->tt (some v::fv) H λc H1=>if c=true then te (some v::fv) H1 λy H3=>H3 D=some (.lst ys)/\ys.length<sizeLine/\Pv (i+1) (ys++[y]) (upd H3 D (.lst (ys++[y]))) else Pv (i+1) ys H1)
  (hd:∀ys H,Pv xs.length ys H->Q (.ref D) H):iS (jt K a) tt te fv D H Q:=by
 refine⟨λi m ys H=>m=xs.length-i/\i<=xs.length/\Pv i ys H,⟨xs.length,by simp,Yw _,h0⟩,?_⟩;rintro i m ys H ⟨rfl,hi,p⟩;have q:=hl i ys H hi p;by_cases bJ:i<xs.length
 ·refine .inr ⟨⟨xs,xs[i],q,by simp[bJ]⟩,Pv (i+1),λgw H' p'=>⟨xs.length-(i+1),by omega,rfl,bJ,p'⟩,λx H' y=>?_⟩;obtain⟨e,y⟩:=y
  grind
 ·have e:i=xs.length:=by omega
  subst e;exact .inl ⟨⟨xs,q,Ye _⟩,hd ys H p⟩
theorem y8{K:ai}{a:Addr}{xs:List V}{tt:TT}{te:TE}{fv:St}{D:Addr}{H:Hp}{Q:VK}(Pv:Nat->List V->Hp->Prop)(h0:Pv 0 [] (upd H D (.lst [])))(hl:∀i ys H,i<=xs.length->Pv i ys H->aA K H a xs)
  (hs:∀i v ys H,xs[i]?=some v->Pv i ys H->tt (some v::fv) H λc H1=>if c=true then te (some v::fv) H1 λy H3=>H3 D=some (.lst ys)/\ys.length<sizeLine/\Pv (i+1) (ys++[y]) (upd H3 D (.lst (ys++[y]))) else Pv (i+1) ys H1)
  (hd:∀ys H,Pv xs.length ys H->Q (.ref D) H):iS (uP K a) tt te fv D H Q:=by
 refine⟨λi m ys H=>m=xs.length-i/\i<=xs.length/\Pv i ys H,⟨xs.length,by simp,Yw _,h0⟩,?_⟩;rintro i m ys H ⟨rfl,hi,p⟩;have q:=hl i ys H hi p;by_cases bJ:i<xs.length
 ·refine .inr ⟨⟨xs,xs[i],q,by simp[bJ]⟩,Pv (i+1),λgw H' p'=>⟨xs.length-(i+1),by omega,rfl,bJ,p'⟩,λx H' y=>?_⟩;obtain⟨e,y⟩:=y
  grind
 ·have e:i=xs.length:=by omega
  subst e;exact .inl ⟨⟨xs,q,Ye _⟩,hd ys H p⟩
theorem vZ{lo:Int}{n:Nat}{tt:TT}{te:TE}{fv:St}{D:Addr}{H:Hp}{Q:VK}(Pv:Nat->List V->Hp->Prop)(h0:Pv 0 [] (upd H D (.lst [])))
  (hs:∀i ys H,i<n->Pv i ys H->tt (some (.int (lo+i))::fv) H λc H1=>if c=true then te (some (.int (lo+i))::fv) H1 λy H3=>H3 D=some (.lst ys)/\ys.length<sizeLine/\Pv (i+1) (ys++[y]) (upd H3 D (.lst (ys++[y]))) else Pv (i+1) ys H1)
  (hd:∀ys H,Pv n ys H->Q (.ref D) H):iS (oR lo n) tt te fv D H Q:=by
 refine⟨λi m ys H=>m=n-i/\i<=n/\Pv i ys H,⟨n,by simp,Yw _,h0⟩,?_⟩;rintro i m ys H ⟨rfl,hi,p⟩;by_cases bJ:i<n
 ·refine .inr ⟨bJ,Pv (i+1),λgw H' p'=>⟨n-(i+1),by omega,rfl,bJ,p'⟩,λx H' y=>?_⟩;obtain⟨e,y⟩:=y
  grind
 ·have e:i=n:=by omega
  subst e;exact .inl ⟨Ye _,hd ys H p⟩
def Zek(K:ai)(tl:TE):TI:=λσ H R=>tl σ H λx H1=>∃a,x=.ref a/\((∃xs,ak K H1 a xs)/\R (jt K a) H1\/(∃xs,aA K H1 a xs)/\R (uP K a) H1)
theorem Zcc(hl:PE X l tl):PI X tg l (Zek X.K tl):=by
 intro pins s σ H R I h;refine aB (hl pins s σ H _ I h) λv s1 zq=>?_;obtain⟨x,H1,I1,r1,q1⟩:=zq;obtain⟨a,e,q1⟩:=q1;subst e;cases r1;rcases q1 with⟨⟨xs,hq⟩,q⟩|⟨⟨xs,hq⟩,q⟩
 ·obtain⟨ah,rv,p,hz⟩:=I1.list hq;refine wpAny_pyIter_list p.isList ⟨s1.heap.objs.size,[s1.heap.objs.size],_,_,H1,rfl,I1.kept λb o e=>Yc _ e,K4 a _,⟨_,Yr _ rfl,rfl,rfl⟩,λb hb=>?_,q⟩;have e:b=s1.heap.objs.size:=by simpa using hb
  subst e;exact I1.qj (Ye _) (I1.aw.fresh (Ye _))
 ·obtain⟨ah,rv,p,hz⟩:=I1.tuple hq;refine wpAny_pyIter_tuple (show s1.heap.IsTuple a ah.toArray from p) ⟨s1.heap.objs.size,[s1.heap.objs.size],_,_,H1,rfl,I1.kept λb o e=>Yc _ e,Kv a _,⟨_,Yr _ rfl,rfl,rfl⟩,λb hb=>?_,q⟩;have e:b=s1.heap.objs.size:=by simpa using hb
  subst e;exact I1.qj (Ye _) (I1.aw.fresh (Ye _))
theorem Dl:∀{xs:List V} {us:List Value},xs.length=us.length->(∀(i:Nat) (x:V) (u:Value),xs[i]?=some x->us[i]?=some u->RelV x u)->Vals xs us
 |[],[],_,_=>.nil
 |[],_::_,h,_=>by simp at h
 |_::_,[],h,_=>by simp at h
 |x::xs,u::us,h,k=>.cons (k 0 x u rfl rfl) (Dl (by simpa using h) λi y w e1 e2=>k (i+1) y w (by simpa using e1) (by simpa using e2))
theorem KA:∀{bs:List Bool} {us:List Value},Vals (bs.map V.bl) us->us=bs.map Value.bool:=by
 intro bs;induction bs with
 |nil=>intro us r;cases r;rfl
 |cons b bs ih=>
  intro us r;rw[Wq] at r;cases r with
  |cons r t=>
   have e1:_=Value.bool b:=r;rw[e1,ih t];rfl
def bh(n:Nat):List Int:=(List.range n).map λi:Nat=>(i:Int)
theorem eQ(n:Nat):(bh n).length=n:=by simp[bh]
theorem lJ(h:i<n):(bh n)[i]?=some (i:Int):=by
 unfold bh
 grind
theorem ZJ(bs:List Bool):(List.range bs.length).any (λi=>bs.getD i false)=bs.any id:=by
 rw[Wm,J5,J5];constructor
 ·rintro⟨i,hi,hb⟩;rw[Wl] at hi;have e:bs.getD i false=bs[i]:=by rw[Yj,Yb hi];rfl
  rw[e] at hb;exact⟨bs[i],Jv hi,hb⟩
 ·rintro⟨b,hb,e⟩;obtain⟨i,hi,rfl⟩:=Wu.mp hb;refine⟨i,Wl.mpr hi,?_⟩
  grind
theorem ZK(bs:List Bool):(List.range bs.length).all (λi=>bs.getD i false)=bs.all id:=by
 rw[Wm,Wp,Wp];constructor
 ·intro h b hb;obtain⟨i,hi,rfl⟩:=Wu.mp hb;simp_all
 ·intro h i hi;rw[Wl] at hi;rw[Yj,Yb hi];exact h _ (Jv hi)
theorem V_:∀{ns ms:List Int},ns.length=ms.length->(List.range ns.length).all (λj=>ns.getD j 0==ms.getD j 0)=decide (ns=ms):=by
 intro ns ms hl;rw[Wm,Wp,decide_eq_true_iff];constructor
 ·intro h;refine List.ext_getElem hl λi h1 h2=>?_;simp_all
 ·grind
section
variable {X:Cx}
def Qb(K:ai):List V->Hp->VK->Prop:=λxs H Q=>∃(p:Addr) (bs:List Bool),xs=[.ref p]/\ak K H p (bs.map V.bl)/\Q (.bl (bs.any id)) H
def Qc(K:ai):List V->Hp->VK->Prop:=λxs H Q=>∃(p:Addr) (bs:List Bool),xs=[.ref p]/\ak K H p (bs.map V.bl)/\Q (.bl (bs.all id)) H
theorem UO(hc:X.calm=true):cZ X (.builtin "any") (Qb X.K):=by
 rintro pins s σ H xs us Q I r ⟨p,bs,rfl,hq,q⟩;obtain⟨u,rfl,rx⟩:=vals1 r;cases rx;obtain⟨ah,r',pl,hz⟩:=I.list hq;have e:=KA r';subst e;have hl:=pl.isList;have bJ:p<s.heap.objs.size:=by obtain⟨_,e,_⟩:=hl;exact Yx e
 refine call_any_walk (wpAny_pyIter_list hl ⟨s.heap.objs.size,_,_,_,_,_,λi=>bs.getD i false,rfl,Walks.list (show X.A.in1.handled=none from I.ok.hd hc) s.heap.objs.size p (Yz bJ) (bs.map Value.bool).toArray,⟨⟨_,Yr _ rfl,rfl,rfl⟩,hl.push _⟩,?_,λh' tk hk=>?_⟩)
 ·intro i v s' Q' E' hP hQ;have kY:(bs.map Value.bool)[i]?=some v:=by simpa using hP
  rw[Yd] at kY;cases e:bs[i]? with
  |none=>grind
  |some b=>
   rw[e] at kY;have ev:=Ym kY;subst ev;refine wpAny_truthy_bool ?_
   grind
 ·refine⟨.bl (bs.any id),H,I.kept (λb o e=>hk b o (by simpa using Yz (Yx e)) (Yc _ e)),?_,q⟩;show Value.bool _=Value.bool _;have e:(bs.map Value.bool).toArray.size=bs.length:=by simp
  rw[e,ZJ]
theorem UP(hc:X.calm=true):cZ X (.builtin "all") (Qc X.K):=by
 rintro pins s σ H xs us Q I r ⟨p,bs,rfl,hq,q⟩;obtain⟨u,rfl,rx⟩:=vals1 r;cases rx;obtain⟨ah,r',pl,hz⟩:=I.list hq;have e:=KA r';subst e;have hl:=pl.isList;have bJ:p<s.heap.objs.size:=by obtain⟨_,e,_⟩:=hl;exact Yx e
 refine call_all_walk (wpAny_pyIter_list hl ⟨s.heap.objs.size,_,_,_,_,_,λi=>bs.getD i false,rfl,Walks.list (show X.A.in1.handled=none from I.ok.hd hc) s.heap.objs.size p (Yz bJ) (bs.map Value.bool).toArray,⟨⟨_,Yr _ rfl,rfl,rfl⟩,hl.push _⟩,?_,λh' tk hk=>?_⟩)
 ·intro i v s' Q' E' hP hQ;have kY:(bs.map Value.bool)[i]?=some v:=by simpa using hP
  rw[Yd] at kY;cases e:bs[i]? with
  |none=>grind
  |some b=>
   rw[e] at kY;have ev:=Ym kY;subst ev;refine wpAny_truthy_bool ?_
   grind
 ·refine⟨.bl (bs.all id),H,I.kept (λb o e=>hk b o (by simpa using Yz (Yx e)) (Yc _ e)),?_,q⟩;show Value.bool _=Value.bool _;have e:(bs.map Value.bool).toArray.size=bs.length:=by simp
  rw[e,ZK]
inductive Ob(K:ai)(xs:List V)(H:Hp)(Q:VK):Prop
 |mk (x:V) (t:Value) (c:String) (b:Bool) (aE:xs=[x,.ty c]) (aU:iX K H x t) (bc:kitOne K t (.type c)=some b) (bL:Q (.bl b) H):Ob K xs H Q
def Af(K:ai):List V->Hp->VK->Prop:=λxs H Q=>Ob K xs H Q
theorem WA:cZ X (.builtin "isinstance") (Af X.K):=by
 rintro pins s σ H xs us Q I r ⟨x,t,c,b,rfl,ty,e,q⟩;obtain⟨u,w',rfl,rx,ry⟩:=vals2 r;cases ry;exact YH I rx ty e λtk=>⟨.bl b,H,I.tok tk,rfl,q⟩
theorem KC(hT:T="list"\/T="tuple")
  (ho:s.heap.get? l=some o)(hc:o.cls=.type T)(hd:o.data=.seq ah.toArray n)(hI:IntsAre ah ns)(gD:ah.length<64)(hsz:ah.toArray.size<=sizeLine)
  (h:∀(h1 h':Heap) (out:Array Value) (cv:List Int) (e:Nat),(∀b o,s.heap.get? b=some o->h1.get? b=some o)->(∀b o,h1.get? b=some o->h'.get? b=some o)->h'.get? h1.objs.size=some (seqObj "list" out e)->IntsAre out.toList cv->cv.Perm ns->cv.Pairwise (·<=·)->Q (.ref h1.objs.size) {s with heap:=h'}):
  wpAny (model prog w) A (call (.builtin "sorted") [.ref l]) Q E s:=by
 refine Calls.call_function_entry kind_sorted plain_sorted entry_sorted (args_sorted1 _) (wpAny_bind (wpAny_pure ?_));refine wpAny_bind (wpAny_collect_seq l hT ho hc hd (λh1 kp=>wpAny_bind (wpAny_newList ?_)) hsz);have e1:ah.toArray.toList=ah:=by simp
 rw[e1];have oQ:(h1.push (seqObj "list" ah.toArray 0)).get? h1.objs.size=some (seqObj "list" ah.toArray 0):=Yr _ rfl;refine wpAny_bind (wpAny_holding (wpAny_call_entry slot_list_sort ⟨_,oQ,rfl⟩ entry_list_sort (list_sort_tree oQ hI gD λout cv a1 a2 a3=>⟨_,rfl,?_⟩) (args_list_sort _)));obtain⟨e,he⟩:=sortedHeap_at oQ;exact wpAny_pure ⟨_,rfl,h h1 _ out cv e kp (λb ob hb=>by
  have bJ:=Yx hb;rw[sortedHeap_old (Yz bJ) (by rw[size_push'];exact Wv bJ),Jq _ _ _ (Yz bJ)];exact hb) he a1 a2 a3⟩
def E2(K:ai):List V->Hp->VK->Prop:=λxs H Q=>∃(p:Addr) (ns:List Int),xs=[.ref p]/\(ak K H p (ns.map V.int)\/aA K H p (ns.map V.int))/\ns.length<64/\
  ∀(l:Addr) (cv:List Int),H l=none->cv.Perm ns->cv.Pairwise (·<=·)->Q (.ref l) (upd H l (.lst (cv.map V.int)))
theorem Kk:cZ X (.builtin "sorted") (E2 X.K):=by
 rintro pins s σ H xs us Q I r ⟨p,ns,rfl,hq,gD,q⟩;obtain⟨u,rfl,rx⟩:=vals1 r;cases rx;have fin:∀(h1 h':Heap) (out:Array Value) (cv:List Int) (e:Nat),(∀b o,s.heap.get? b=some o->h1.get? b=some o)->(∀b o,h1.get? b=some o->h'.get? b=some o)->h'.get? h1.objs.size=some (seqObj "list" out e)->IntsAre out.toList cv->cv.Perm ns->cv.Pairwise (·<=·)->
   EP X pins σ Q (.ref h1.objs.size) {s with heap:=h'}:=λh1 h' out cv e kp xH he a1 a2 a3=>by
  have I1:=I.kept (t':=s.toks) kp;refine⟨.ref h1.objs.size,_,I1.laid (o:=.lst (cv.map V.int)) xH (Ye _) ⟨?_,out.toList,e,Ef a1,by simpa[seqObj] using he⟩,rfl,q _ cv (I1.aw.fresh (Ye _)) a2 a3⟩;rw[Ya,a2.length_eq];exact Jw (jD (by omega))
 rcases hq with hq|hq
 ·obtain⟨ah,r',pl,hz⟩:=I.list hq;obtain⟨o,n,ho,hc,_,hd⟩:=pl;have hl:=r'.length;rw[Ya] at hl;rw[Ya] at hz;exact KC (.inl rfl) ho hc hd (intsAre_of r') (by omega) (by rw[Yu];omega) fin
 ·obtain⟨ah,r',pl,hz⟩:=I.tuple hq;obtain⟨o,ho,hc,n,hd⟩:=pl;have hl:=r'.length;rw[Ya] at hl;rw[Ya] at hz;exact KC (.inr rfl) ho hc hd (intsAre_of r') (by omega) (by rw[Yu];omega) fin
def MW:List V->Hp->VK->Prop:=λxs H Q=>∃j:Int,xs=[.int j]/\∀p:Addr,H p=none->Q (.ref p) (upd H p (.ir 0 j))
def LN:List V->Hp->VK->Prop:=λxs H Q=>∃(p:Addr) (n:Nat),xs=[.ref p]/\H p=some (.ir 0 (n:Int))/\n<=1000/\∀l:Addr,H l=none->Q (.ref l) (upd H l (.lst ((bh n).map V.int)))
def xc(K:ai):List V->Hp->VK->Prop:=λxs H Q=>∃(p:Addr) (ys:List V),xs=[.ref p]/\(ak K H p ys\/aA K H p ys)/\Q (.int ys.length) H
theorem Xo:cZ X (.builtin "len") (xc X.K):=Ke
theorem yC:cZ X (.type "range") MW:=by
 rintro pins s σ H xs us Q I r ⟨j,rfl,q⟩;obtain⟨u,rfl,t,rfl⟩:=vals1 r;exact call_range_1 ⟨.ref s.heap.objs.size,_,I.laid (o:=.ir 0 j) (λb o e=>Yc _ e) (Ye _) ⟨_,_,_,Yr _ rfl⟩,rfl,q _ (I.aw.fresh (Ye _))⟩
theorem CH(hc:X.calm=true):cZ X (.type "list") LN:=by
 rintro pins s σ H xs us Q I r ⟨p,n,rfl,hp,hn,q⟩;obtain⟨u,rfl,rx⟩:=vals1 r;cases rx;obtain⟨t,u,v,ho⟩:=I.aw p _ hp;refine call_list_range (I.ok.hd hc) ho (small_one (by omega) (by omega) (by omega) (by omega)) (n:=n) (by rw[rangeSize_one];split<;>omega) (by omega) λh' tk Zel c' hk hS' Qd=>⟨.ref s.heap.objs.size,_,I.laid (o:=.lst ((bh n).map V.int)) hk (Ye _) ⟨?_,Zel.toList,c',?_,by simpa using hS'⟩,rfl,q _ (I.aw.fresh (Ye _))⟩
 ·rw[Ya,eQ];exact Jw (jD hn)
 ·refine Dl (by rw[Ya,eQ];simp[Qd.1]) λi x u e1 e2=>?_;obtain⟨t',rfl⟩:=Qd.2 i u (by simpa using e2);have hi:i<n:=by
   have:=(Yi.mp e1).1;rw[Ya,eQ] at this;exact this
  rw[Yd,lJ hi] at e1;have e3:=Ym e1;subst e3;exact⟨t',by rw[show(0:Int)+(i:Int)*1=(i:Int) by omega]⟩
theorem MX{ns:List Int}{ah:List Value}(r:Vals (ns.map V.int) ah){j:Nat}(h:j<ah.length):∃t,ah[j]=.int (ns.getD j 0) t:=by
 have hl:=r.length;rw[Ya] at hl;have hj:j<ns.length:=by omega
 obtain⟨u,hu,t,rfl⟩:=r.get (by rw[Yd,Yb hj];rfl)
 grind
def Qe(K:ai)(neg:Bool):R2:=λx y H Q=>∃(p q:Addr) (ns ms:List Int),x=.ref p/\y=.ref q/\ak K H p (ns.map V.int)/\ak K H q (ms.map V.int)/\Q (.bl (if neg=true then !decide (ns=ms) else decide (ns=ms))) H
theorem Oc(hu:X.A.units<cLine):cD X (compareOp .Eq) (Qe X.K false):=by
 rintro pins s σ H x y v u Q I rx ry ⟨p,q,ns,ms,rfl,rfl,h1,h2,k⟩;cases rx;cases ry;obtain⟨ah,r1,p1,z1⟩:=I.list h1;obtain⟨ij,r2,p2,z2⟩:=I.list h2;have l1:=r1.length;have l2:=r2.length;rw[Ya] at l1 l2;by_cases hl:ns.length=ms.length
 ·refine SeqAt.eq_listAt (e:=λj=>ns.getD j 0==ms.getD j 0) p1.isList p2.isList (by simp;omega) hu (λj h1 h2=>?_) (cF I k ?_)
  ·obtain⟨t,e1⟩:=MX r1 (by simpa using h1);obtain⟨t',e2⟩:=MX r2 (by simpa using h2);have sA:ah.toArray[j]=.int (ns.getD j 0) t:=by simpa using e1
   have e2':ij.toArray[j]=.int (ms.getD j 0) t':=by simpa using e2
   rw[sA,e2'];exact SeqAt.EqAt.int_int _ _ _ _
  ·rw[if_neg Yk,Yu,←l1,V_ hl]
 ·refine SeqAt.eq_list_lengthsAt p1.isList p2.isList (by simp;omega) hu (cF I k ?_)
  grind
theorem hV(M:St->Hp->Prop)(h1:∀nx:St->Hp->Prop,(∀σ H,M σ H->nx σ H)->t {D with nx:=nx} σ H)(h2:∀σ H,M σ H->u D σ H):wW t u D σ H:=h1 _ h2
theorem kO(hg:Gl X x)(hm:X.mg x=none)(hv:bootBuiltins x=some (.type T))(hn:x≠"__name__":=by decide)(hd:(x==("__debug__":Str))=false:=by decide):PE X (.Name x pos) (tC (.ty T)):=ZaI hg hm hv rfl hn hd
end
def HasFn(P:Program)(w:World)(K:ai)(mg:aX)(base:Heap)(k:Nat)(x:Str)(ps:List Str)(sp:Sp):Prop:=
 ∃f fd,aH P w K mg base aM k f fd ps sp/\Binds K fd ps []/\keepIn K (.ref f)=true/\mg x=some (.ref f)
section
variable {P:Program}{w:World}{K:ai}{mg:aX}{base:Heap}{X:Cx}{k j:Nat}{sp:Sp}{x:Str}{ps:List Str}
theorem FQ(h:HasFn X.prog X.w X.K X.mg X.base k x ps sp)(hr:c7 j X.A)(hj:k<=j)(hg:Gl X x)(ha:PA X (e::es) t)
  (jQ:(x==("__debug__":Str))=false:=by decide)(he:l3 X e es:=by rfl)(cE:ni X pos es:=by rfl):
  PE X (.Call (.Name x p) (e::es) [] pos) (FP sp [] E0 t):=by
 obtain⟨f,fd,F,b,kp,m⟩:=h;exact ZaL F (hr.mono hj) hg m kp b .nil zX ha jQ he cE
theorem cz(h:H p=none)(o:HO):aj H (upd H p o):=λb u q=>by rw[aC (bO q h)];exact q
theorem aj.jb(e:aj H H')(h:aA K H a xs):aA K H' a xs:=by
 rcases h with(h|⟨o,h⟩)|h;·exact .inl (.inl (e _ _ h))
 ·exact .inl (.inr ⟨o,e _ _ h⟩)
 ·exact .inr h
theorem ZL(h:X.K=K):iy X (uz K):=h▸E1
theorem ZaU(h:X.K=K):iy X (Ab K):=h▸N7
theorem ZaV(h:X.K=K):cZ X (.builtin "isinstance") (Af K):=h▸WA
theorem Zem(h:X.K=K):cZ X (.builtin "len") (xc K):=h▸Xo
theorem kT(h:Q true H):Ae σ H Q:=h
theorem aW(h:n σ H):O9 ⟨n,rt,bk,ct⟩ σ H:=h
theorem lO(M:St->Hp->Prop)(h1:∀nx:St->Hp->Prop,(∀σ H,M σ H->nx σ H)->F7 c a b {D with nx:=nx} σ H)(h2:∀σ H,M σ H->u D σ H):wW (F7 c a b) u D σ H:=h1 _ h2
theorem Zcd(x:Int)(h0:0<m)(h1:m<=2^62):-(2^64)<x % m/\x % m<2^64:=by
 have a:=Jn x (Hv h0);have b:=Jd x h0;omega
theorem KD:∀(l:List α) (k:Nat) (h:k<l.length),l.Perm (l[k]::l.eraseIdx k)
 |[],k,h=>absurd h (Wd k)
 |a::r,0,_=>List.Perm.refl _
 |a::r,k+1,h=>(List.Perm.cons a (KD r k (Nat.lt_of_succ_lt_succ h))).trans (List.Perm.swap _ _ _)
theorem K9(f:α->β):∀(l:List α) (k:Nat),(l.map f).eraseIdx k=(l.eraseIdx k).map f
 |[],_=>rfl
 |_::_,0=>rfl
 |a::r,k+1=>by
  show f a::(r.map f).eraseIdx k=f a::(r.eraseIdx k).map f;rw[K9 f r k]
theorem zK{n:Nat}{i:Int}(h0:0<=i)(h1:i<n):kX n i=some i.toNat:=by
 unfold kX
 grind
theorem mQ{ns:List Int}{i:Int}(h0:0<=i)(h1:i<ns.length):dw (ns.map V.int) i=some (.int (ns.getD i.toNat 0)):=by
 have e:i=((i.toNat:Nat):Int):=by omega
 rw[e];refine gM ?_
 grind
theorem mJ{ns:List Int}{i:Nat}{y:V}(h:(ns.map V.int)[i]?=some y):∃z,y=.int z/\ns[i]?=some z:=by
 rw[Yd] at h;cases e:ns[i]? with
 |none=>grind
 |some z=>grind
theorem LO(ns:List Int)(z:Int):ns.map V.int++[V.int z]=(ns++[z]).map V.int:=by simp
theorem LP(ns:List Int)(lo hi:Option Int):∃ms:List Int,qk (ns.map V.int) lo hi=ms.map V.int:=by
 refine⟨(ns.drop (HT.gS ns.length 0 lo)).take (HT.gS ns.length ns.length hi-HT.gS ns.length 0 lo),?_⟩;unfold qk;simp_all
end
theorem Od:bootBuiltins "abs"=some (.builtin "abs"):=by decide+kernel
theorem Zce:bootBuiltins "any"=some (.builtin "any"):=by decide+kernel
theorem Oe:bootBuiltins "all"=some (.builtin "all"):=by decide+kernel
theorem zL:bootBuiltins "len"=some (.builtin "len"):=by decide+kernel
theorem Zcf:bootBuiltins "min"=some (.builtin "min"):=by decide+kernel
theorem yS:bootBuiltins "sorted"=some (.builtin "sorted"):=by decide+kernel
theorem U_:bootBuiltins "isinstance"=some (.builtin "isinstance"):=by decide+kernel
theorem ub:bootBuiltins "list"=some (.type "list"):=by decide+kernel
theorem mH:bootBuiltins "tuple"=some (.type "tuple"):=by decide+kernel
theorem t8:bootBuiltins "range"=some (.type "range"):=by decide+kernel
theorem zr:bootBuiltins "bool"=some (.type "bool"):=by decide+kernel
theorem Of:bootBuiltins "int"=some (.type "int"):=by decide+kernel
theorem wD:bootBuiltins "str"=some (.type "str"):=by decide+kernel
def Bd(d p:Int):Prop:=0<=d/\d<p
inductive LQ(K:ai)(vs:List V)(H:Hp)(Q:VK):Prop
 |mk (a:Addr) (ns:List Int) (k:Int) (aE:vs=[.ref a,.int k]) (aU:ak K H a (ns.map V.int)) (bc:0<=k) (bL:∀c:Int,Q (.int c) H):LQ K vs H Q
def Og(K:ai):Sp:=λvs H Q _=>LQ K vs H Q
inductive K_(K:ai)(vs:List V)(H:Hp)(Q:VK):Prop
 |mk (c:Int) (a:Addr) (ps:List Int) (aE:vs=[.int c,.ref a]) (aU:ak K H a (ps.map V.int)) (bc:(∀p∈ps,0<p/\p<1073741824)) (bL:ps.length<=60) (cL:∀(l:Addr) (ds:List Int) (H':Hp),H l=none->aj H H'->H' l=some (.lst (ds.map V.int))->Paired Bd ds ps->Q (.ref l) H'):K_ K vs H Q
def zt(K:ai):Sp:=λvs H Q _=>K_ K vs H Q
inductive LR(vs:List V)(H:Hp)(Q:VK):Prop
 |mk (c:Int) (n:Nat) (aE:vs=[.int c,.int (n:Int)]) (aU:n<=60) (bc:∀(t:Addr) (ns:List Int) (H':Hp),H t=none->aj H H'->H' t=some (.tup (ns.map V.int))->ns.Perm (bh n)->Q (.ref t) H'):LR vs H Q
def Oh:Sp:=λvs H Q _=>LR vs H Q
theorem E3(ho:PE X o to)(hi:PE X i ti)(hs:rU X t)(he:PE X e te)
  (h1:swapsWithSole [.Subscript o i tp] e pos.line X.env=pure false:=by rfl)(h2:swappedStores [.Subscript o i tp] e X.env=pure none:=by rfl)
  (h3:(assignEach [.Subscript o i tp] X.env).map (·.2)=[assign (.Subscript o i tp) X.env]:=by rfl)
  (ha:∀v,assign (.Subscript o i tp) X.env v=(do
   let ov←holding [v] (eval o X.env);let iv←holding [v,ov] (eval i X.env)
   standAt tp
   holding [v,ov,iv] (setItem ov iv v)
   release [v,ov,iv] []):=by intro _;rfl):PS X (.Assign [.Subscript o i tp] e pos) (uy te (P6 to ti t)):=mP he (Zb1 ho hi hs ha) h1 h2 h3
def Qf(h:Heap)(a C:Addr)(d:Option Addr)(vs:Array Value):Prop:=∃oe:Obj,h.get? a=some oe/\oe.cls=.ref C/\oe.dict=d/\oe.data=.fields vs/\1<vs.size
def xo(a C:Addr)(d:Option Addr):HO:=.ext λh=>∃vs,Qf h a C d vs
def Fly(lo:Nat)(H:Hp)(h:Heap)(vs:Array Value):Prop:=
 vs[1]?=some Value.none\/∃T oT ts,vs[1]?=some (Value.ref T)/\lo<=T/\H T=none/\h.get? T=some oT/\oT.data=.fields ts/\ts[3]?=some Value.none
inductive Pg(P:Program)(w:World)(outer:List Env)(H:Hp)(s:Shared)(E:XK)(e:Value)(s':Shared):Prop
 |mk (a C d:Addr) (H':Hp) (vs:Array Value) (aE:e=.ref a) (aU:s.heap.objs.size<=a) (bc:s'.os=s.os) (bL:AllBare s'.gens) (cL:Un (eY outer) [] H H' s.heap s'.heap) (d5:c_ P w H' s'.heap) (gU:H' a=some (xo a C (some d))) (jd:Qf s'.heap a C (some d) vs) (qA:Fly s.heap.objs.size H' s'.heap vs) (xI:E (.ref C) (some d) H'):Pg P w outer H s E e s'
def nE(P:Program)(w:World):jP:=λouter H s E e s'=>Pg P w outer H s E e s'
section
variable {M:Model}{A:Around}{Er:bb}{s:Shared}
end
section
variable {P:Program}{w:World}{A:Around}{Er:bb}
end
section
variable {P:Program}{w:World}{K:ai}{mg:aX}{base:Heap}{N:List Str}{qual:Str}{scope:Scope}{f:Addr}{cd:Value}{A:Around}{outer:List Env}{s:Shared}{H:Hp}{E:XK}
theorem Qg:PassesOwn (model P w) (lV (nE P w) P w K mg base N qual scope f cd A outer s H E).A (lV (nE P w) P w K mg base N qual scope f cd A outer s H E).env (lV (nE P w) P w K mg base N qual scope f cd A outer s H E).xe:=
 λe s' h=>PassesOwn.leaving (Q₁:=λe sv=>nE P w outer H s E e sv) e s' h
end
section
variable {X:Cx}{k j:Nat}{f C:Addr}{fd:FuncData}{ps:List Str}{sp:Sp}{eG:List V}{ds:List Value}{E:St->XK}{x m:Str}{p pos apos:Pos}{e o:Expr}{es:List Expr}{ta:TE}{t:TA}
end
section
variable {P:Program}{w:World}{K:ai}{mg:aX}{base:Heap}
theorem aL.okX{x qual:Str}{st:Stmt}{f:Addr}{fd:FuncData}{N ps:List Str}{k:Nat}{sp:Sp}(F:aL K x qual st f fd)(S:aQ N ps (aK st))(len:∀vs H Q E,sp vs H Q E->vs.length=ps.length)
  (rK:∀(b_:Value) (A:Around) (outer:List Env) (s:Shared) (H:Hp) (vs:List V) (Q:VK) (E:XK),c7 k (A.deeper (envOfC qual (aK st) s.heap.objs.size f b_))->sp vs H Q E->
   ∃t,gv (lV (nE P w) P w K mg base N qual (aK st) f b_ A outer s H E) (kJ st) t/\t {nx:=λ_ H'=>Q .az H',rt:=Q} (start N vs) H):aH P w K mg base (nE P w) (k+1) f fd ps sp:=by
 obtain⟨oc,od,kV,doc,pm,an,b_,ct,oV,rfl,lk,i6⟩:=F.ex;exact Pd lk i6 S len λA outer s H vs Q E hr nA=>rK b_ A outer s H vs Q E hr nA
end
section
variable {prog:Program}{w:World}{A:Around}{E:bb}{h:Heap}{g:Array GenState}{d:Drawn}{t:Nat}{os:OsState}
variable {nm q:Str}{C N:Addr}{bs bm:List Value}{Zgo:Bool}{sn:List Str}{sub:List Value}{ab:Bool}{col:Option Bool}{dd:Option Addr}{k0 k1 k2 k3 k5:Option Value}
local macro_rules|`(tactic|walk_at "vlu")=>`(tactic|exact PySem.F.excBase_ValueError)
end
end L2
namespace L2
open PySem PySem.Spec PyProof.Rows
open PySem.W (Looks InstAt looks_findIn looks_typeIn looks_clsIn looks_mroIn looks_find findObj findIn mroIn clsIn)
section
variable {prog:Program}{w:World}{A:Around}{E:bb}{s:Shared}{K:ai}{x C:Addr}{ox:Obj}{od:Option Obj}{name:Str}
end
section
variable {prog:Program}{w:World}{A:Around}{E:bb}{s:Shared}{K:ai}{x C:Addr}{name:Str}{nV v:Value}{b:Bool}{tk:Tok}
end
section
variable {X:Cx}{o e value:Expr}{f:Str}{pos pos':Pos}{ta tv:TE}
end
section
variable {X:Cx}{CX:jP}{k:Nat}{f C:Addr}{fd:FuncData}{ps:List Str}{sp:Sp}{eG:List V}{ds:List Value}{E:XK}{x m:Str}{p pos apos:Pos}{e:Expr}{es:List Expr}{t:TA}
end
section
variable {M:Model}{A:Around}{E:bb}{s:Shared}{K:ai}{a C:Addr}
end
section
variable {X:Cx}{x:Str}{p pos apos:Pos}{e:Expr}{es:List Expr}{t:TA}
end
section
variable {X:Cx}{k:Nat}{f C:Addr}{fd:FuncData}{ps:List Str}{sp:Sp}{eG:List V}{ds:List Value}{E:St->XK}{x:Str}{p pos cJ:Pos}{e:Expr}{es:List Expr}{t:TA}
end
section
variable {X:Cx}{pins:aZ}{σ:St}{H:Hp}{s:Shared}
end
section
variable {M:Model}{A:Around}{E:bb}{s:Shared}{K:ai}{a C B:Addr}{d:Option Addr}{vs:Array Value}
end
section
variable {X:Cx}{B:Addr}{i:Nat}{n x:Str}{body Zgf:List Stmt}{b0:Stmt}{px hp pos:Pos}{tb:(St->XK)->TS}{th:TS}
end
section
variable {X:Cx}{e:Expr}{te:TE}{pos:Pos}
end
section
variable {X:Cx}{e e2:Expr}{es:List Expr}{te:TE}{t:TJ}{pos:Pos}
end
end L2
namespace L2
open PySem PySem.Spec PyProof.Rows
structure Bl(mg:aX):Prop where
 zZ:mg "len"=none
 Zdw:mg "abs"=none
 uj:mg "list"=none
 jj:mg "range"=none
 mK:mg "tuple"=none
 Zdx:mg "any"=none
 Ph:mg "all"=none
 VB:mg "isinstance"=none
 zM:mg "bool"=none
 Pj:mg "int"=none
 wM:mg "str"=none
 y9:mg "sorted"=none
 Zdy:mg "min"=none
 Zdz:mg "max"=none
 Zgg:mg "sum"=none
 Zcg:mg "dict"=none
 Zf0:mg "reversed"=none
 ZfK:mg "ValueError"=none
theorem Zen{X:Cx}{K:ai}(hc:X.calm=true)(h:X.K=K):cZ X (.builtin "any") (Qb K):=h▸UO hc
theorem Qh{X:Cx}{K:ai}(hc:X.calm=true)(h:X.K=K):cZ X (.builtin "all") (Qc K):=h▸UP hc
theorem sortedK{X:Cx}{K:ai}(h:X.K=K):cZ X (.builtin "sorted") (E2 K):=h▸Kk
theorem dt{X:Cx}{K:ai}(h:X.K=K):cD X (compareOp .In) (xA K false):=h▸YJ
theorem Ft{X:Cx}{K:ai}(h:X.K=K):cD X (compareOp .NotIn) (xA K true):=h▸Vz
theorem MY{X:Cx}{K:ai}(h:X.K=K):iy X (G6 K):=h▸Zb6
section
variable {P:Program}{w:World}{K:ai}{mg:aX}{base:Heap}
end
theorem Oi{K:ai}:kitOne K (.type "int") (.type "int")=some true:=by kernel_rfl
theorem Fu{K:ai}:kitOne K (.type "int") (.type "bool")=some false:=by kernel_rfl
theorem Oj{K:ai}:kitOne K (.type "bool") (.type "bool")=some true:=by kernel_rfl
theorem Zch{K:ai}:kitOne K (.type "str") (.type "bool")=some false:=by kernel_rfl
theorem Zci{K:ai}:kitOne K (.type "str") (.type "int")=some false:=by kernel_rfl
theorem Ol{K:ai}:kitOne K (.type "str") (.type "str")=some true:=by kernel_rfl
theorem Zcj{K:ai}:kitOne K (.type "list") (.type "bool")=some false:=by kernel_rfl
theorem Zck{K:ai}:kitOne K (.type "list") (.type "int")=some false:=by kernel_rfl
theorem Zcl{K:ai}:kitOne K (.type "list") (.type "str")=some false:=by kernel_rfl
theorem Zcm{K:ai}:kitOne K (.type "list") (.type "list")=some true:=by kernel_rfl
theorem Zcn{K:ai}:kitOne K (.type "list") (.type "tuple")=some false:=by kernel_rfl
theorem Zco{K:ai}:kitOne K (.type "tuple") (.type "bool")=some false:=by kernel_rfl
theorem Zcp{K:ai}:kitOne K (.type "tuple") (.type "int")=some false:=by kernel_rfl
theorem Zcq{K:ai}:kitOne K (.type "tuple") (.type "str")=some false:=by kernel_rfl
theorem Zcr{K:ai}:kitOne K (.type "tuple") (.type "list")=some false:=by kernel_rfl
theorem Zcs{K:ai}:kitOne K (.type "tuple") (.type "tuple")=some true:=by kernel_rfl
theorem Eh(ns:List Int)(o:Option Int):(ns++o.toList).map V.int=ns.map V.int++o.toList.map V.int:=by simp
inductive Dt where
 |az|bl (b:Bool)|int (i:Int)|str (x:Str)|lst (ds:List Dt)|tup (ds:List Dt)
def At(H:Hp):Nat->V->Dt->Prop
 |_,v,.az=>v=.az
 |_,v,.bl b=>v=.bl b
 |_,v,.int i=>v=.int i
 |_,v,.str x=>v=.str x
 |0,_,.lst _=>False
 |0,_,.tup _=>False
 |m+1,v,.lst ds=>∃a xs,v=.ref a/\H a=some (.lst xs)/\ds.length<=1000/\Paired (At H m) xs ds
 |m+1,v,.tup ds=>∃a xs,v=.ref a/\H a=some (.tup xs)/\ds.length<=1000/\Paired (At H m) xs ds
theorem At.same(g:aj H H'):∀{m:Nat} {v:V} {d:Dt},At H m v d->At H' m v d
 |_,_,.az,h=>by unfold At at h⊢;exact h
 |_,_,.bl _,h=>by unfold At at h⊢;exact h
 |_,_,.int _,h=>by unfold At at h⊢;exact h
 |_,_,.str _,h=>by unfold At at h⊢;exact h
 |0,_,.lst _,h=>by unfold At at h;exact h.elim
 |0,_,.tup _,h=>by unfold At at h;exact h.elim
 |m+1,_,.lst _,h=>by
  obtain⟨a,xs,e,h1,h2,h3⟩:=h;exact⟨a,xs,e,g _ _ h1,h2,L2.Paired.bB h3 λ_ _ z=>At.same g z⟩
 |m+1,_,.tup _,h=>by
  obtain⟨a,xs,e,h1,h2,h3⟩:=h;exact⟨a,xs,e,g _ _ h1,h2,L2.Paired.bB h3 λ_ _ z=>At.same g z⟩
section
variable {H:Hp}{m:Nat}
theorem Zct(i:Int):At H m (.int i) (.int i):=by unfold At;rfl
theorem Zcu(x:Str):At H m (.str x) (.str x):=by unfold At;rfl
theorem Om(h:H a=some (.lst xs))(l:ds.length<=1000)(p:Paired (At H m) xs ds):At H (m+1) (.ref a) (.lst ds):=by unfold At;exact⟨a,xs,rfl,h,l,p⟩
theorem MZ:∀ns:List Int,Paired (At H m) (ns.map V.int) (ns.map Dt.int)
 |[]=>.nil
 |n::r=>.cons (Zct n) (MZ r)
end
theorem fX:∀{xs:List α} {ys:List β} {i:Nat} {x:α},Paired F xs ys->xs[i]?=some x->∃y,ys[i]?=some y/\F x y:=by
 intro xs ys i x h;induction h generalizing i with
 |nil=>intro e;simp at e
 |cons r t ih=>
  intro e;cases i with
  |zero=>
   have e:=Ym (show some _=some _ by simpa using e);subst e;exact⟨_,rfl,r⟩
  |succ i=>
   obtain⟨y,h1,h2⟩:=ih (i:=i) (by simpa using e);exact⟨y,by simpa using h1,h2⟩
theorem cX:∀{xs:List α} {ys:List β},Paired F xs ys->xs.length=ys.length:=by
 intro xs ys h;induction h with
 |nil=>rfl
 |cons _ _ ih=>rw[Wn,Wn,ih]
theorem LS{α:Type}{xs:List α}{i:Nat}{x:α}(h:xs[i]?=some x):dw xs (0+(i:Int))=some x:=by
 rw[show(0:Int)+(i:Int)=(i:Int) from by omega];exact gM h
def ZaW:List V->Hp->VK->Prop:=λxs H Q=>∃(p:Addr) (n:Nat),xs=[.ref p]/\H p=some (.ir 0 (n:Int))/\n<=1000/\∀l:Addr,H l=none->Q (.ref l) (upd H l (.tup ((bh n).map V.int)))
section
variable {prog:Program}{w:World}{A:Around}{E:bb}{s:Shared}
theorem WB{Q:List Value->Shared->Prop}{r:Addr}{n:Nat}{t u v:Tok}(hh:A.handled=none)(hr:IsRange s.heap r 0 (n:Int) 1 t u v)(hn:n<=1000)
  (k:∀h' tk (acc:Array Value),(∀b o,s.heap.get? b=some o->h'.get? b=some o)->ItemsOf (λi v=>∃t,v=.int (0+i*1) t) acc n->Q acc.toList {s with heap:=h',toks:=tk}):
  wpAny (model prog w) A (collect (.ref r)) Q E s:=by
 refine wpAny_bind (wpAny_runValue (codeAny_builtin PySem.F.entry_proto_collect (wpAny_bind (wpAny_newObj_type (wpAny_pure ⟨plainId_quiet PySem.F.plain_list_iadd _,codeAny_builtin PySem.F.entry_list_iadd ?_⟩)))));have ZdA:∀s':Shared,(∃(h':Heap) (tk:Nat) (acc:Array Value) (c:Nat),s'={s with heap:=h',toks:=tk}/\(∀b o,b≠s.heap.objs.size->(s.heap.push {cls:=.type "list",data:=.seq ([]:List Value).toArray}).get? b=some o->h'.get? b=some o)/\
   h'.get? s.heap.objs.size=some {cls:=.type "list",dict:=none,data:=.seq acc c,slots:=#[]}/\ItemsOf (λi v=>∃t,v=.int (0+i*1) t) acc n)->
   wpAny (model prog w) A (match Value.ref s.heap.objs.size with
    |Value.ref a=>do
     match(←load a).data with
      |Data.seq xs _=>pure xs.toList
      |_=>unsupported "internal:collect"
    |_=>unsupported "internal:collect") Q E s':=by
  rintro s' ⟨h',tk,acc,c,rfl,kp,here,ah⟩;exact wpAny_bind (wpAny_load here (wpAny_pure (k h' tk acc (λb o hb=>kp b o (Yz (Yx hb)) (Yc _ hb)) ah)))
 refine wpAny_mono (wpAny_extend_range (s:={s with heap:=s.heap.push {cls:=.type "list",data:=.seq ([]:List Value).toArray}})
  (R:=λr s'=>r=.ok (.ret (.ref s.heap.objs.size))/\∃(h':Heap) (tk:Nat) (acc:Array Value) (c:Nat),s'={s with heap:=h',toks:=tk}/\(∀b o,b≠s.heap.objs.size->(s.heap.push {cls:=.type "list",data:=.seq ([]:List Value).toArray}).get? b=some o->h'.get? b=some o)/\
   h'.get? s.heap.objs.size=some {cls:=.type "list",dict:=none,data:=.seq acc c,slots:=#[]}/\ItemsOf (λi v=>∃t,v=.int (0+i*1) t) acc n)
  hh (Yc _ hr) (small_one (by omega) (by omega) (by omega) (by omega)) (by rw[rangeSize_one];split<;>omega) (by omega) _ _ 0 (Yr _ rfl) λh' tk acc c kp here ah=>⟨rfl,h',tk,acc,c,rfl,kp,here,ah⟩) (λfin s' z=>?_) λe s' z=>?_
 ·cases fin with
  |done f=>grind
  |again c'=>exact⟨z.1,codeAny_mono z.2 λr sv hr=>by obtain⟨rfl,hz⟩:=hr;exact ZdA sv hz⟩
 ·grind
theorem ZaX(r:Addr)(n:Nat)(t u v:Tok)(hn:n<=1000):
  Meets (Builtin.«tuple.__new__» ⟨[.type "tuple",.ref r],[]⟩) (λA R s=>A.handled=none/\IsRange s.heap r 0 (n:Int) 1 t u v/\∀(h':Heap) (tk:Nat) (acc:Array Value),(∀b o,s.heap.get? b=some o->h'.get? b=some o)->ItemsOf (λi v=>∃t,v=.int (0+i*1) t) acc n->
   R (.ok (.ret (.ref h'.objs.size))) {s with heap:=h'.push {cls:=.type "tuple",data:=.seq acc},toks:=tk}):=
 .of_wp λprog w A R s h=>by
  obtain⟨hp,g,d,tk,os⟩:=s;obtain⟨hh,ht,q⟩:=h;have sub:=sub_tuple_self;have ini:=init_tuple_lookup;have mh:=madeHere_tuple;have hh1:A.in1.handled=none:=hh
  wp_walk using PySem.AutoSeq1.wpAny_loadPart' ht,wpAny_typeOf ty,WB (A:=A.in1) hh1 ht hn
  intro h' tk' acc kp ah;show wpAny _ _ (Builtin.Tuple.tupleExact acc.toList.toArray>>=λv=>ret v) _ _ _;unfold Builtin.Tuple.tupleExact;have lz:acc.toList.toArray.size<=sizeLine:=by
   have e:=ah.1;rw[sizeLine_eq];simp;omega
  refine wpAny_bind (wpAny_newObj_type (wpAny_pure ⟨_,rfl,?_⟩) lz);have e:acc.toList.toArray=acc:=by simp
  rw[e];exact q h' tk' acc kp ah
end
theorem Ka(hc:X.calm=true):cZ X (.type "tuple") ZaW:=by
 intro pins s σ H xs us Q I r h;obtain⟨p,n,rfl,hp,hn,q⟩:=h;obtain⟨u,rfl,rx⟩:=vals1 r;cases rx;obtain⟨t,u,v,ho⟩:=I.aw p _ hp;refine callType_new PySem.F.called_tuple (by decide) (PySem.F.typeCall_tuple_1 _) (PySem.F.newCall_tuple_1 _) (λobj=>PySem.F.args_object_init_2 obj _) PySem.F.entry_tuple_new (ZaX p n t u v hn) ⟨I.ok.hd hc,ho,λh' tk acc kp ah=>⟨⟨_,Yr _ rfl,rfl⟩,?_⟩⟩;have I1:=I.kept (t':=tk) kp;have vs:Vals ((bh n).map V.int) acc.toList:=by
  refine Dl (by rw[Ya,eQ];simp[ah.1]) λi x u e1 e2=>?_;obtain⟨t',rfl⟩:=ah.2 i u (by simpa using e2);have hi:i<n:=by
   have:=(Yi.mp e1).1;rw[Ya,eQ] at this;exact this
  rw[Yd,lJ hi] at e1;have e3:=Ym e1;subst e3;exact⟨t',by rw[show(0:Int)+(i:Int)*1=(i:Int) by omega]⟩
 have I2:Inv X pins σ (upd H h'.objs.size (.tup ((bh n).map V.int))) {s with heap:=h'.push {cls:=.type "tuple",data:=.seq acc},toks:=tk}:=
  I1.laid (t':=tk) (λb o e=>Yc _ e) (Ye _) (show cB X.prog X.w _ _ _ (.tup _) from⟨by rw[Ya,eQ];exact Jw (jD hn),acc.toList,vs,by simpa using mO.new h' acc⟩)
 exact⟨.ref h'.objs.size,_,I2,rfl,q _ (I1.aw.fresh (Ye _))⟩
section
variable {X:Cx}{e e2:Expr}{es:List Expr}{te:TE}{t:TF}{pos:Pos}
end
end L2
namespace L2
open PySem PySem.Spec PyProof.Rows
open PySem.W (Looks InstAt looks_findIn looks_typeIn looks_clsIn looks_mroIn looks_find findObj findIn mroIn clsIn)
section
variable {X:Cx}{B1 B2:Addr}{i:Nat}{n x1 x2:Str}{body Zf_ Zga:List Stmt}{b1 b2:Stmt}{px1 px2 ph dF pos:Pos}{tb:(St->XK)->TS}{th1 th2:TS}
end
end L2
namespace AX
open L2
theorem DP(n:Nat):(bh n).Nodup:=by
 exact List.Pairwise.map _ (λa b h e=>h (by omega)) List.nodup_range
section
variable {t:List Int}{n:Nat}
end
end AX
namespace L2
open PySem PySem.Spec PyProof.Rows
def Row(K:ai)(H:Hp)(p:Addr)(ns:List Int):Prop:=ak K H p (ns.map V.int)\/aA K H p (ns.map V.int)
theorem Row.same{K:ai}{H H':Hp}{p:Addr}{ns:List Int}(e:aj H H')(h:Row K H p ns):Row K H' p ns:=by
 rcases h with h|h;·exact .inl (e.seq h)
 ·exact .inr (e.jb h)
def full(ns:List Int):Bool:=decide (ns.Perm (bh ns.length))
theorem pO(h:full ns=true):ns.Perm (bh ns.length):=of_decide_eq_true h
theorem rf(h:ns.Perm (bh n)):full ns=true:=decide_eq_true (by rw[h.length_eq,eQ];exact h)
theorem WC(n:Nat):(bh n).Pairwise (·<=·):=by
 unfold bh;rw[Ws];exact List.pairwise_lt_range.imp λh=>by omega
theorem KG:∀{as bs:List Int},as.Perm bs->as.Pairwise (·<=·)->bs.Pairwise (·<=·)->as=bs
 |[],bs,p,_,_=>by
  simp_all
 |a::as,[],p,_,_=>by
  simp_all
 |a::as,b::bs,p,h1,h2=>by
  rw[List.pairwise_cons] at h1 h2;have e:a=b:=by
   have ha:=p.subset Yg;have hb:=p.symm.subset Yg
   grind
  subst e;rw[KG (List.Perm.cons_inv p) h1.2 h2.2]
theorem WD(p:cv.Perm ns)(h:cv.Pairwise (·<=·)):decide (cv=bh ns.length)=full ns:=by
 unfold full;rw[Wm,decide_eq_true_iff,decide_eq_true_iff];constructor;·grind
 ·intro q;exact KG (p.trans q) h (WC _)
def Pk(K:ai)(neg:Bool)(tr:TE):TE:=i8 (Qe K neg) (nB (E2 K) (gf tr iY)) (nB LN (gf (nB MW (gf (nB (xc K) (gf tr iY)) iY)) iY))
theorem ZM{K:ai}{i:Nat}{neg:Bool}{σ:St}{H:Hp}{p:Addr}{ns:List Int}{Q:VK}(hi:σ[i]?=some (some (.ref p)))(hR:Row K H p ns)(gD:ns.length<64)(q:∀H',aj H H'->Q (.bl (if neg=true then !full ns else full ns)) H'):
   (Pk K neg (gn i)) σ H Q:=by
 refine⟨_,hi,p,ns,rfl,hR,gD,λl cv hl pm so=>?_⟩;have g1:aj H (upd H l (.lst (cv.map V.int))):=cz hl _;refine⟨_,hi,p,ns.map V.int,rfl,Row.same g1 hR,_,rfl,λr hr=>⟨r,(ns.map V.int).length,rfl,aI,by rw[Ya];omega,λu hu=>?_⟩⟩;have g3:=(g1.trans (cz hr (.ir 0 (((ns.map V.int).length:Nat):Int)))).trans (cz hu (.lst ((bh (ns.map V.int).length).map V.int)));refine⟨l,u,cv,bh (ns.map V.int).length,rfl,rfl,ak.of ?_,ak.of aI,?_⟩
 ·rw[aC (bO ((cz hr _) _ _ aI) hu)];exact(cz hr _) _ _ aI
 ·rw[Ya,WD pm so]
  grind
theorem any_false(n:Nat):(List.replicate n false).any id=false:=by
 induction n with
 |zero=>rfl
 |succ n ih=>grind
section
open PySem.AutoSeq1 (wpAny_loadPart')
open PySem.MeetsSeq PySem.SeqAt
theorem Va(l:Addr)(items:Array Value)(n:Nat)(dd:Option Addr)(sl:Array (Option Value))(x:Value)(e:Value->Bool)(j:Nat)(hj:j<items.size)
  (hit:e items[j]=true)(Hw:∀m (hm:m<items.size),m<j->e items[m]=false):
  Meets (Builtin.«tuple.index» ⟨[.ref l,x],[]⟩)
   (λA R s=>s.heap.get? l=some {cls:=.type "tuple",dict:=dd,data:=.seq items n,slots:=sl}/\(∀y,y∈items->EqAt A.in1 s y x (e y))/\R (.ok (.ret (.int j s.toks))) {s with toks:=s.toks+1}):=
 .of_wp λprog w A R s h=>by
  obtain⟨hp,g,d,tk,os⟩:=s;obtain⟨hl,he,h⟩:=h
  wp_walk using wpAny_loadPart' hl
  show wpAny _ _ (forIn (m:=Sem) [:min items.size items.size] (none,()) _) _ _ _;rw[Std.Legacy.Range.forIn_eq_forIn_range'];refine wpAny_forIn_list _ (λrest b s'=>s'=⟨hp,g,d,tk,os⟩/\∃i,i<=j/\rest=List.range' i (items.size-i)) _ ?_ ?_ _ _ ⟨rfl,0,Yw _,by simp⟩
  ·rintro k rest b s' ⟨rfl,i,hi,hr⟩;have bJ:i<items.size:=by omega
   obtain⟨rfl,wN⟩:k=i/\rest=List.range' (i+1) (items.size-(i+1)):=by
    have e:items.size-i=(items.size-(i+1))+1:=by omega
    rw[e,List.range'_succ] at hr;injection hr with h1 h2;exact⟨h1,h2⟩
   rw[Je bJ];refine wpAny_bind (he _ (Array.getElem_mem bJ) prog w _ _ ?_);rcases Nat.lt_or_ge k j with hk|hk
   ·rw[Hw k bJ hk]
    wp_walk
    exact⟨rfl,k+1,by omega,wN⟩
   ·obtain rfl:k=j:=by omega
    rw[hit]
    wp_walk
    exact⟨_,rfl,h⟩
  ·grind
end
def Zcv(to:TE)(t:TA):TE:=λσ H Q=>to σ H λx H1=>∃(p:Addr) (ns:List Int),x=.ref p/\H1 p=some (.tup (ns.map V.int))/\t σ H1 λvs H2=>∃(z:Int) (j:Nat),vs=[.int z]/\H2 p=some (.tup (ns.map V.int))/\ns[j]?=some z/\(∀m,m<j->ns[m]?≠some z)/\Q (.int (j:Int)) H2
theorem Vb:∀{ns:List Int} {us:List Value} {j:Nat} (h:j<us.length),Vals (ns.map V.int) us->∃n t,ns[j]?=some n/\us[j]=.int n t:=by
 intro ns;induction ns with
 |nil=>intro us j h r;cases r;simp at h
 |cons n ns ih=>
  intro us j h r;rw[Wq] at r;cases r with
  |cons r t=>
   cases j with
   |zero=>
    obtain⟨t',rfl⟩:=r;exact⟨n,t',rfl,rfl⟩
   |succ j=>
    obtain⟨n',t',e1,e2⟩:=ih (j:=j) (by simpa using h) t;exact⟨n',t',by simpa using e1,by simpa using e2⟩
theorem YQ(ns:List Int):(ns.map V.int).all iR=true:=by
 induction ns with
 |nil=>rfl
 |cons n ns ih=>rw[Wq,Ji,ih];rfl
theorem Kl(ho:PE X o to)(ha:PA X [e] t)
  (rL:attributeBase o "index" X.env (eval o X.env)=eval o X.env:=by rfl)
  (Gf:((backTo cJ (starEach [e] X.env)).all (λx=>!x.1)&&(backToKw cJ (keywordEach [] X.env)).all (λx=>x.1.isSome)
   &&decide ([e].length+([]:List Keyword).length+(if([]:List Keyword).isEmpty then 0 else 1)<30))=true:=by rfl)
  (rM:(apos.endLine==cJ.line)=true:=by rfl)(hs:starEach [e] X.env=(false,eval e X.env)::starEach [] X.env:=by rfl):
  PE X (.Call (.Attribute o "index" apos) [e] [] cJ) (Zcv to t):=by
 intro pins s σ H Q I h;refine wpAny_Call_method_late rL Gf rM rfl (aB (ho pins s σ H _ I h) λv s1 zq=>?_);obtain⟨x,H1,I1,r1,p,ns,ex,hp,q1⟩:=zq;subst ex;obtain rfl:v=Value.ref p:=r1;obtain⟨_,_,_,ob,g,oc,_,_,od⟩:=(show cB X.prog X.w H1 s1.heap p (.tup (ns.map V.int)) from I1.aw p _ hp);refine⟨"tuple","tuple.index",F.plainAttrs_tuple,F.slot_tuple_index,F.type_tuple_index,⟨ob,g,oc⟩,λa ea=>by cases ea;exact⟨ob,g,od⟩,?_⟩;have hA:=ha cJ pins s1 σ H1 _ I1 q1;rw[hs] at hA⊢;refine Calls.callWith_builtin rfl (Calls.evalArgs_plain ?_);refine aB hA λus s2 zq=>?_;obtain⟨vs,H2,I2,r2,z,j,ev,dF,hj,Hw,q2⟩:=zq;subst ev;obtain⟨u,rfl,ru⟩:=r2.one;obtain⟨tz,rfl⟩:=ru;obtain⟨_,ah,rv,⟨cls,dd,data,sl⟩,g2,Rr,n2,Rt,_⟩:=(show cB X.prog X.w H2 s2.heap p (.tup (ns.map V.int)) from I2.aw p _ dF);simp only at Rr Rt;subst Rr Rt;have hlen:ah.length=ns.length:=by have:=rv.length;rw[Ya] at this;omega
 have Ru:j<ah.length:=by rw[hlen];exact(Yi.mp hj).1
 have ix:∀m (hm:m<ah.length),gT (.int z) ah[m]=decide (ns[m]?=some z):=λm hm=>by
  obtain⟨n',t',e1,e2⟩:=Vb hm rv;rw[e1,e2];show(n'==z)=decide (some n'=some z)
  grind
 refine call_meets F.slot_tuple_index ⟨_,g2,rfl⟩ F.entry_tuple_index (F.args_tuple_index_2 _ _) (Va p ah.toArray n2 dd sl (.int z tz) (gT (.int z)) j (by rw[Yu];exact Ru) ?_ ?_) ⟨g2,?_,?_⟩;·rw[List.getElem_toArray,ix j Ru];exact decide_eq_true hj
 ·intro m hm bJ;rw[List.getElem_toArray,ix m (by simpa using hm)];exact decide_eq_false (Hw m bJ)
 ·intro y hy;exact wg (x:=.int z) ⟨tz,rfl⟩ rfl rv (YQ ns) y (by simpa using hy)
 ·exact⟨.int _,H2,I2.tok _,⟨_,rfl⟩,q2⟩
section
variable {κ:Type}[DecidableEq κ]
def aS(kvs:List (κ×V))(k:κ):Option V:=(kvs.find? λkv=>decide (kv.1=k)).map (·.2)
def putK(kvs:List (κ×V))(k:κ)(v:V):List (κ×V):=
 if(kvs.any λkv=>decide (kv.1=k))=true then kvs.map (λkv=>if kv.1=k then(kv.1,v) else kv) else kvs++[(k,v)]
def gk(kvs:List (κ×V))(k:κ):List (κ×V):=kvs.filter λkv=>decide (kv.1≠k)
theorem fH{p:κ×V}{r:List (κ×V)}{k:κ}(e:p.1=k):aS (p::r) k=some p.2:=by simp[aS,J9,e]
theorem eV{p:κ×V}{r:List (κ×V)}{k:κ}(e:¬p.1=k):aS (p::r) k=aS r k:=by simp[aS,J9,e]
theorem t9(k:κ):∀kvs:List (κ×V),(kvs.any λkv=>decide (kv.1=k))=(aS kvs k).isSome
 |[]=>rfl
 |p::r=>by
  rw[Jp];by_cases e:p.1=k;·simp only[fH e,decide_eq_true e,Bool.true_or,Option.isSome_some]
  ·rw[eV e,decide_eq_false e,J7];exact t9 k r
theorem LU(k j:κ)(y:V):∀kvs:List (κ×V),aS (kvs.map λkv=>if kv.1=k then(kv.1,y) else kv) j=(aS kvs j).map λx=>if j=k then y else x
 |[]=>rfl
 |p::r=>by
  have ih:=LU k j y r;rw[Wq];by_cases h:p.1=k
  ·rw[if_pos h];by_cases e:p.1=j;·rw[fH (p:=(p.1,y)) e,fH e,Option.map_some,if_pos (e.symm.trans h)]
   ·rw[eV (p:=(p.1,y)) e,eV e,ih]
  ·rw[if_neg h];by_cases e:p.1=j;·rw[fH e,fH e,Option.map_some,if_neg (λz=>h (e.trans z))]
   ·rw[eV e,eV e,ih]
theorem tT(k j:κ)(y:V):∀kvs:List (κ×V),aS kvs k=none->aS (kvs++[(k,y)]) j=if j=k then some y else aS kvs j
 |[],_=>by
  by_cases e:k=j;·rw[if_pos e.symm];exact fH (p:=(k,y)) e
  ·rw[if_neg (λz=>e z.symm)];exact eV (p:=(k,y)) e
 |p::r,hn=>by
  rw[Rv];have hk:¬p.1=k:=λz=>by rw[fH z] at hn;cases hn
  rw[eV hk] at hn;by_cases e:p.1=j;·rw[fH e,fH e,if_neg (λz=>hk (e.trans z))]
  ·rw[eV e,eV e,(tT k j y r hn)]
theorem ZN(kvs:List (κ×V))(k j:κ)(y:V):aS (putK kvs k y) j=if j=k then some y else aS kvs j:=by
 unfold putK;by_cases a:(kvs.any λkv=>decide (kv.1=k))=true
 ·rw[if_pos a,LU];rw[t9] at a;by_cases e:j=k
  ·obtain⟨x,hx⟩:=Jf.mp a
   grind
  ·simp_all
 ·rw[if_neg a];refine tT k j y kvs ?_;rw[t9] at a;cases q:aS kvs k with
  |none=>rfl
  |some x=>grind
theorem yD(kvs:List (κ×V))(k:κ)(v:V):(putK kvs k v).length<=kvs.length+1:=by
 unfold putK
 grind
theorem kG{kvs:List (κ×V)}{k:κ}(v:V)(h:aS kvs k=none):putK kvs k v=kvs++[(k,v)]:=by
 unfold putK;rw[t9,h];rfl
theorem fQ.tU(r:fQ o u):o.isSome=u.isSome:=by
 cases o with
 |none=>cases u with
  |none=>rfl
  |some _=>exact(show False from r).elim
 |some _=>cases u with
  |none=>exact(show False from r).elim
  |some _=>rfl
theorem fQ.getD(r:fQ o u)(rd:RelV d d'):RelV (o.getD d) (u.getD d'):=by
 cases o with
 |none=>cases u with
  |none=>exact rd
  |some _=>exact(show False from r).elim
 |some _=>cases u with
  |none=>exact(show False from r).elim
  |some _=>exact r
theorem KV.val{kvs:List (κ×V)}{vs:List (κ×Value)}(r:KV kvs vs)(k:κ):fQ (aS kvs k) (valueAt vs k):=by
 unfold KV at r;induction r with
 |nil=>exact True.intro
 |@cons p q ps qs h t ih=>
  obtain⟨h1,h2⟩:=h;by_cases e:p.1=k
  ·have e':q.1=k:=h1.symm.trans e;have b:valueAt (q::qs) k=some q.2:=by simp[valueAt,J9,e']
   rw[fH e,b];exact h2
  ·have e':¬q.1=k:=λz=>e (h1.trans z);have b:valueAt (q::qs) k=valueAt qs k:=by simp[valueAt,J9,e']
   rw[eV e,b];exact ih
theorem KV.any(r:KV kvs vs)(k:κ):(kvs.any λkv=>decide (kv.1=k))=vs.any λkv=>decide (kv.1=k):=by
 induction r with
 |nil=>rfl
 |cons h t ih=>grind
theorem KV.Gk(r:KV kvs vs)(k:κ)(ry:RelV y u):
  KV (kvs.map λkv=>if kv.1=k then(kv.1,y) else kv) (vs.map λkv=>if kv.1=k then(kv.1,u) else kv):=by
 induction r with
 |nil=>exact .nil
 |@cons p q ps qs h t ih=>
  refine .cons ?_ ih
  grind
theorem KV.put(r:KV kvs vs)(k:κ)(ry:RelV y u):KV (putK kvs k y) (stored vs k u):=by
 unfold putK stored;rw[r.any k];by_cases e:(vs.any λkv=>decide (kv.1=k))=true;·rw[if_pos e,if_pos e];exact r.Gk k ry
 ·rw[if_neg e,if_neg e];exact Paired.snoc r ⟨rfl,ry⟩
theorem KV.drop(r:KV kvs vs)(k:κ):KV (gk kvs k) (without vs k):=by
 unfold gk without;induction r with
 |nil=>exact .nil
 |@cons p q ps qs h t ih=>
  obtain⟨h1,h2⟩:=h;rw[W3,W3];by_cases e:p.1=k;·grind
  ·have e':¬q.1=k:=λz=>e (h1.trans z);have a:decide (p.1≠k)=true:=by simp[e]
   have b:decide (q.1≠k)=true:=by simp[e']
   rw[if_pos a,if_pos b];exact .cons ⟨h1,h2⟩ ih
theorem KV.keys{kvs:List (κ×V)}{vs:List (κ×Value)}(r:KV kvs vs):kvs.map (·.1)=vs.map (·.1):=by
 induction r with
 |nil=>rfl
 |cons h t ih=>grind
theorem KV.length(r:KV kvs vs):kvs.length=vs.length:=Paired.length r
theorem LV(kvs:List (κ×V))(k:κ):(gk kvs k).length<=kvs.length:=Wi _ _
end
theorem lQ(r:RelV (kV k) u):(dv P w).is k u=true:=by
 cases k with
 |inl i=>obtain⟨t,e⟩:=(show ∃t,u=Value.int i t from r);subst e;exact V7 P w i t
 |inr x=>obtain⟨t,e⟩:=(show ∃t,u=Value.str x t from r);subst e;exact V8 P w x t
theorem La:∀{ks:List Key} {us:List Value},Vals (ks.map kV) us->ItemsAre (dv P w) ks us
 |[],_,r=>by rw[List.map_nil] at r;cases r;exact .nil
 |k::ks,_,r=>by
  cases r with
  |cons h t=>exact .cons (lQ h) (La t)
abbrev KT(H:Hp):List (List Key×V)->List (List Key×Addr×Value)->Prop:=Paired λp q=>p.1=q.1/\H q.2.1=some (.tup (p.1.map kV))/\RelV p.2 q.2.2
theorem KT.val{H:Hp}{kvs:List (List Key×V)}{xs:List (List Key×Addr×Value)}(r:KT H kvs xs)(k:List Key):fQ (aS kvs k) ((atKey xs k).map (·.2)):=by
 induction r with
 |nil=>exact True.intro
 |@cons p q ps qs h t ih=>
  obtain⟨h1,_,h2⟩:=h;by_cases e:p.1=k
  ·have e':q.1=k:=h1.symm.trans e;have b:atKey (q::qs) k=some q.2:=by simp[atKey,e']
   rw[fH e,b];exact h2
  ·have e':¬q.1=k:=λz=>e (h1.trans z);have b:atKey (q::qs) k=atKey qs k:=by simp[atKey,e']
   rw[eV e,b];exact ih
theorem KT.Gk(r:KT H kvs xs)(k:List Key)(ry:RelV y u):
  KT H (kvs.map λkv=>if kv.1=k then(kv.1,y) else kv) (xs.map (putAt k u)):=by
 induction r with
 |nil=>exact .nil
 |@cons p q ps qs h t ih=>
  refine .cons ?_ ih;unfold putAt
  grind
theorem KT.put(r:KT H kvs xs)(k:List Key)(hb:H b=some (.tup (k.map kV)))(ry:RelV y u):
  KT H (putK kvs k y) (storedH xs k b u):=by
 have e:(kvs.any λkv=>decide (kv.1=k))=(atKey xs k).isSome:=by
  rw[t9,(r.val k).tU,Rw]
 unfold putK storedH;rw[e];by_cases q:(atKey xs k).isSome=true;·rw[if_pos q,if_pos q];exact r.Gk k ry
 ·rw[if_neg q,if_neg q];exact Paired.snoc r ⟨rfl,hb,ry⟩
theorem KT.keeps(r:KT H kvs xs)(ht:∀b ys,H b=some (.tup ys)->H' b=some (.tup ys)):KT H' kvs xs:=
 Paired.bB r λ_ _ z=>⟨z.1,ht _ _ z.2.1,z.2.2⟩
section
variable {P:Program}{w:World}{H:Hp}{h:Heap}{a:Addr}
theorem Pl(ok:c_ P w H h)(e:Rd H a u):cB P w H h a u:=e.ok ok
theorem oC(ok:c_ P w H h)(e:Rd H a (.dK kvs)):kvs.length<=sizeLine/\(a==sysModules)=false/\∃vs,KV kvs vs/\h.DictOf (dv P w) a vs:=
 show cB P w H h a (.dK kvs) from Pl ok e
theorem mX(ok:c_ P w H h)(e:H a=some (.dK kvs)):kvs.length<=sizeLine/\(a==sysModules)=false/\∃vs,KV kvs vs/\h.DictOf (dv P w) a vs:=oC ok (.inl e)
theorem qa(ok:c_ P w H h)(e:H a=some (.tup (ks.map kV))):(tupleKind (dv P w)).is h ks a:=by
 obtain⟨_,ah,r,o,h1,h2,n,h3,_⟩:=(show cB P w H h a (.tup (ks.map kV)) from ok a _ e);exact⟨o,ah.toArray,n,h1,h2,h3,by simpa using La r⟩
theorem qh(ok:c_ P w H h)(e:Rd H a (.dT kvs)):kvs.length<=sizeLine/\(a==sysModules)=false/\
  ∃xs,KT H kvs xs/\h.DictOfH (tupleKind (dv P w)) a xs:=by
 obtain⟨z,y,xs,r,o,es,ep,h1,h2,h3,h4,h5⟩:=(show cB P w H h a (.dT kvs) from Pl ok e);refine⟨z,y,xs,r,o,es,ep,h1,h2,h3,h4,λx hx=>?_,h5⟩;have all:∀{l:List (List Key×V)} {m:List (List Key×Addr×Value)},KT H l m->∀x∈m,(tupleKind (dv P w)).is h x.1 x.2.1:=by
  intro l m q;induction q with
  |nil=>grind
  |@cons p q ps qs hq t ih=>
   intro x hx;rcases Yn.mp hx with e|hx
   ·subst e;exact qa ok (by rw[←hq.1];exact hq.2.1)
   ·exact ih x hx
 grind
theorem Pm(ok:c_ P w H h)(e:H a=some (.dT kvs)):kvs.length<=sizeLine/\(a==sysModules)=false/\
  ∃xs,KT H kvs xs/\h.DictOfH (tupleKind (dv P w)) a xs:=qh ok (.inl e)
end
def eA(H:Hp)(a:Addr)(y:V)(r:Option V):Prop:=
 (∃kvs k,Rd H a (.dK kvs)/\y=kV k/\r=aS kvs k)\/∃kvs k b,Rd H a (.dT kvs)/\y=.ref b/\H b=some (.tup (k.map kV))/\r=aS kvs k
def rY(H:Hp)(a:Addr)(y v:V)(H':Hp):Prop:=
 (∃kvs k,H a=some (.dK kvs)/\y=kV k/\kvs.length<sizeLine/\H'=upd H a (.dK (putK kvs k v)))\/
 ∃kvs k b,H a=some (.dT kvs)/\y=.ref b/\H b=some (.tup (k.map kV))/\kvs.length<sizeLine/\H'=upd H a (.dT (putK kvs k v))
theorem eA.k{H:Hp}{a:Addr}{kvs:List (Key×V)}{k:Key}(e:H a=some (.dK kvs)):eA H a (kV k) (aS kvs k):=.inl ⟨kvs,k,.inl e,rfl,rfl⟩
theorem eA.t{H:Hp}{a b:Addr}{kvs:List (List Key×V)}{k:List Key}(e:H a=some (.dT kvs))(eb:H b=some (.tup (k.map kV))):eA H a (.ref b) (aS kvs k):=.inr ⟨kvs,k,b,.inl e,rfl,eb,rfl⟩
theorem rY.k{H:Hp}{a:Addr}{kvs:List (Key×V)}{k:Key}{v:V}(e:H a=some (.dK kvs))(hl:kvs.length<sizeLine):rY H a (kV k) v (upd H a (.dK (putK kvs k v))):=.inl ⟨kvs,k,e,rfl,hl,rfl⟩
theorem rY.t{H:Hp}{a b:Addr}{kvs:List (List Key×V)}{k:List Key}{v:V}(e:H a=some (.dT kvs))(eb:H b=some (.tup (k.map kV)))(hl:kvs.length<sizeLine):
  rY H a (.ref b) v (upd H a (.dT (putK kvs k v))):=.inr ⟨kvs,k,b,e,rfl,eb,hl,rfl⟩
section
variable {X:Cx}{pins:aZ}{σ:St}{H:Hp}{s:Shared}{a:Addr}{y v:V}{u r:Value}{o:Option V}{A:Around}{E:bb}
theorem Inv.big(I:Inv X pins σ H s):sysModules<s.heap.objs.size:=by
 exact Nat.lt_trans (by decide) ((I.mod.glob.keeps I.bk).lt)
theorem YR(hu:A.units+1<cLine)(I:Inv X pins σ H s)(g:eA H a y (some v))(ry:RelV y u)(h:∀w' s',Inv X pins σ H s'->RelV v w'->Q w' s'):
  wpAny X.md A (getItem (.ref a) u) Q E s:=by
 rcases g with⟨kvs,k,e,ey,l⟩|⟨kvs,k,b,e,ey,eb,l⟩
 ·subst ey;obtain⟨z,hd,vs,rel,dd⟩:=oC I.aw e;obtain⟨w',hw,fS⟩:=fQ.some_of (v:=v) (o:=valueAt vs k) (by rw[l];exact rel.val k);exact wpAny_getItem_of (lQ ry) dd.mapOf hw (h w' _ (I.tok _) fS)
 ·subst ey;cases(show u=Value.ref b from ry);obtain⟨z,hd,xs,rel,dd⟩:=qh I.aw e;obtain⟨w',hw,fS⟩:=fQ.some_of (v:=v) (o:=(atKey xs k).map (·.2)) (by rw[l];exact rel.val k);obtain⟨p,hp,dF⟩:=Option.map_eq_some_iff.mp hw;refine wpAny_getItem_heap (tupleKind_room_in1 hu) (qa I.aw eb) dd hp ?_;rw[dF];exact h w' _ (I.tok _) fS
theorem Zeo(hu:A.units+1<cLine)(I:Inv X pins σ H s)(g:eA H a y o)(ry:RelV y u)(h:∀s',Inv X pins σ H s'->Q (.bool o.isSome) s'):
  wpAny X.md A (compareOp .In u (.ref a)) Q E s:=by
 rcases g with⟨kvs,k,e,ey,l⟩|⟨kvs,k,b,e,ey,eb,l⟩
 ·subst ey;obtain⟨z,hd,vs,rel,dd⟩:=oC I.aw e;refine wpAny_in_of (lQ ry) hd dd.mapOf ?_;rw[←(rel.val k).tU,←l];exact h _ (I.tok _)
 ·subst ey;cases(show u=Value.ref b from ry);obtain⟨z,hd,xs,rel,dd⟩:=qh I.aw e;refine wpAny_in_heap (tupleKind_room_in1 hu) (qa I.aw eb) hd dd ?_;have q:=(rel.val k).tU;rw[Rw] at q;rw[←q,←l];exact h _ (I.tok _)
theorem ZaY(hu:A.units+1<cLine)(I:Inv X pins σ H s)(g:eA H a y o)(ry:RelV y u)(h:∀s',Inv X pins σ H s'->Q (.bool (!o.isSome)) s'):
  wpAny X.md A (compareOp .NotIn u (.ref a)) Q E s:=by
 rcases g with⟨kvs,k,e,ey,l⟩|⟨kvs,k,b,e,ey,eb,l⟩
 ·subst ey;obtain⟨z,hd,vs,rel,dd⟩:=oC I.aw e;refine wpAny_notIn_of (lQ ry) hd dd.mapOf ?_;rw[←(rel.val k).tU,←l];exact h _ (I.tok _)
 ·subst ey;cases(show u=Value.ref b from ry);obtain⟨z,hd,xs,rel,dd⟩:=qh I.aw e;refine wpAny_notIn_heap (tupleKind_room_in1 hu) (qa I.aw eb) hd dd ?_;have q:=(rel.val k).tU;rw[Rw] at q;rw[←q,←l];exact h _ (I.tok _)
theorem rh(I:Inv X pins σ H s)(mu:xq (H a))(hs:Heap.SameBut a s.heap h')(he:∃q,h'.get? a=some q)(new:cB X.prog X.w (upd H a ob) h' a ob):
  Inv X pins σ (upd H a ob) {s with heap:=h',toks:=t'}:=
 I.write (x:=a) (e:=a) mu (.inl rfl) (λb q hb z=>(hs.2 b hb).trans z) he new
theorem wF(z:kvs.length<=sizeLine)(hd:(a==sysModules)=false)(rel:KV kvs vs)(dd:h'.DictOf (dv P w) a vs):
  cB P w H' h' a (.dK kvs):=⟨z,hd,vs,rel,dd⟩
theorem Lb(hu:A.units+1<cLine)(I:Inv X pins σ H s)(g:rY H a y v H')(ry:RelV y u)(rv:RelV v r)(h:∀s',Inv X pins σ H' s'->Q () s'):
  wpAny X.md A (setItem (.ref a) u r) Q E s:=by
 rcases g with⟨kvs,k,e,ey,l,eH⟩|⟨kvs,k,b,e,ey,eb,l,eH⟩
 ·subst ey eH;obtain⟨z,hd,vs,rel,dd⟩:=mX I.aw e;have hz:vs.length<=sizeLine:=by rw[←rel.length];exact z
  have hl:(putK kvs k v).length<=sizeLine:=by have:=yD kvs k v;omega
  refine wpAny_setItem_pairs (hsz:=hz) (lQ ry) dd λh' iz hs=>h _ ?_;have he:∃q,h'.get? a=some q:=let⟨q,_,_,hq,_⟩:=iz;⟨q,hq⟩;exact rh I (by rw[e];exact True.intro) hs he (wF hl hd (rel.put k rv) iz)
 ·subst ey eH;cases(show u=Value.ref b from ry);obtain⟨z,hd,xs,rel,dd⟩:=Pm I.aw e;have hz:xs.length<=sizeLine:=by rw[←Paired.length rel];exact z
  have hl:(putK kvs k v).length<=sizeLine:=by have:=yD kvs k v;omega
  refine wpAny_setItem_heap (hsz:=hz) (tupleKind_room_in1 hu) (qa I.aw eb) dd λh' iz hs=>h _ ?_;obtain⟨q,es,ep,hq,h2,h3,h4,_,h5⟩:=iz;refine rh I (by rw[e];exact True.intro) hs ⟨q,hq⟩ ⟨hl,hd,_,(rel.put k eb rv).keeps λc ys ec=>?_,q,es,ep,hq,h2,h3,h4,h5⟩;rw[aC (O5 ec e (λz=>nomatch z))];exact ec
end
section
variable {X:Cx}{pins:aZ}{σ:St}{H:Hp}{s:Shared}{a:Addr}{kvs:List (Key×V)}{k:Key}{u:Value}{A:Around}{E:bb}
theorem YS(I:Inv X pins σ H s)(e:H a=some (.dK kvs))(ry:RelV (kV k) u)(l:(aS kvs k).isSome=true)(h:∀s',Inv X pins σ (upd H a (.dK (gk kvs k))) s'->Q () s'):
  wpAny X.md A (delItem (.ref a) u) Q E s:=by
 obtain⟨z,hd,vs,rel,dd⟩:=mX I.aw e;refine wpAny_delItem_slot dd.typeIs (by decide) slot_dict_delitem
  (call_meetsIn slot_dict_delitem dd.typeIs PySem.F.entry_dict_delitem (PySem.F.args_dict_delitem_2 _ _) (meets_dict_delitem_pairs (dv X.prog X.w) a (lQ ry)) ⟨vs,dd,by rw[←rel.length];exact z,by rw[←(rel.val k).tU];exact l,λh' iz hs=>h _ ?_⟩)
 have he:∃q,h'.get? a=some q:=let⟨q,_,_,hq,_⟩:=iz;⟨q,hq⟩;exact rh I (by rw[e];exact True.intro) hs he (wF (Y6 (LV kvs k) z) hd (rel.drop k) iz)
theorem ZdB(I:Inv X pins σ H s)(e:H a=some (.dK kvs))(ry:RelV (kV k) u)(l:aS kvs k=some v)(hm:more=[]\/∃x,more=[x])
  (h:∀w' s',Inv X pins σ (upd H a (.dK (gk kvs k))) s'->RelV v w'->Q w' s'):wpAny X.md A (call (.builtin "dict.pop") (.ref a::u::more)) Q E s:=by
 obtain⟨z,hd,vs,rel,dd⟩:=mX I.aw e;obtain⟨w',hw,fS⟩:=fQ.some_of (v:=v) (o:=valueAt vs k) (by rw[←l];exact rel.val k);have hp:(keyPart u).isSome=true:=by
  cases k with
  |inl i=>obtain⟨t,q⟩:=(show ∃t,u=Value.int i t from ry);subst q;rfl
  |inr x=>obtain⟨t,q⟩:=(show ∃t,u=Value.str x t from ry);subst q;rfl
 have ha:argsOk "dict.pop" ⟨.ref a::u::more,[]⟩:=by
  rcases hm with q|⟨x,q⟩;·subst q;exact PySem.F.args_dict_pop_2 _ _
  ·subst q;exact PySem.F.args_dict_pop_3 _ _ _
 refine call_meetsIn slot_dict_pop dd.typeIs PySem.F.entry_dict_pop ha (meets_dict_pop_there (dv X.prog X.w) a (lQ ry) more hm hp)
  ⟨vs,w',dd,by rw[←rel.length];exact z,hw,λh' iz hs=>h w' _ ?_ fS⟩
 have he:∃q,h'.get? a=some q:=let⟨q,_,_,hq,_⟩:=iz;⟨q,hq⟩;exact rh I (by rw[e];exact True.intro) hs he (wF (Y6 (LV kvs k) z) hd (rel.drop k) iz)
theorem ZdC(I:Inv X pins σ H s)(e:Rd H a (.dK kvs))(h:∀t s',Inv X pins σ H s'->Q (.int kvs.length t) s'):wpAny X.md A (call (.builtin "len") [.ref a]) Q E s:=by
 obtain⟨z,hd,vs,rel,dd⟩:=oC I.aw e;refine call_len_dict hd dd (by rw[←rel.length];rw[sizeLine_eq] at z;omega) ?_;rw[←rel.length];exact h _ _ (I.tok _)
end
def Qi(i:Expr):Prop:=∀ov iv,subscripted i false ov iv=operate [ov,iv] (getItem ov iv)
theorem ZaZ{prog:Program}{w:World}{A:Around}{E:bb}{s:Shared}{env:Env}{value slice:Expr}{pos:Pos}{T id:String}{Q:bb}
  (hl:typeLookup (.type T) "__getitem__"=pure (some (.builtin id)))(hs:Qi slice)
  (h:wpAny (model prog w) A (eval value env) (λo bG=>wpAny (model prog w) A (eval slice env) (λi d_=>d_.TypeIs o T/\wpAny (model prog w) A (getItem o i) Q E d_) E bG) E s):
  wpAny (model prog w) A (eval (.Subscript value slice pos) env) Q E s:=by
 refine Subscript_ (wpAny_mono h (λo bG gq=>wpAny_mono gq (λi d_ oM=>?_) λ_ _ x=>x) λ_ _ x=>x);obtain⟨hT,oM⟩:=oM;refine wpAny_bind (wpAny_bind (wpAny_specialOf hT hl ?_));have fin:wpAny (model prog w) A (subscripted slice false o i) (λr dX=>wpAny (model prog w) A (letTemporaryGo value o r>>=λ_=>pure r) Q E dX) E d_:=by
  rw[hs o i];exact wpAny_operating (wpAny_mono oM (λr dX uA=>wpAny_bind (wpAny_letTemporaryGo (wpAny_pure uA))) λ_ _ x=>x)
 first
  |exact wpAny_pure (wpAny_bind fin)
  |exact wpAny_bind (wpAny_pure (wpAny_bind fin))
  |exact wpAny_bind fin
theorem WE(I:Inv X pins σ H s)(g:eA H a y o):s.TypeIs (.ref a) "dict":=by
 rcases g with⟨kvs,k,e,_,_⟩|⟨kvs,k,b,e,_,_,_⟩
 ·obtain⟨_,_,vs,_,dd⟩:=oC I.aw e;exact dd.typeIs
 ·obtain⟨_,_,xs,_,dd⟩:=qh I.aw e;exact dd.typeIs
inductive M0(Q:VK)(x:V)(y:V)(H2:Hp):Prop
 |mk (a v) (aE:x=.ref a) (aU:eA H2 a y (some v)) (bc:Q v H2):M0 Q x y H2
def ZdD(td ty:TE):TE:=λσ H Q=>td σ H λx H1=>ty σ H1 λy H2=>M0 Q x y H2
inductive Oo(Q:VK)(y:V)(x:V)(H2:Hp):Prop
 |mk (a o) (aE:x=.ref a) (aU:eA H2 a y o) (bc:Q (.bl o.isSome) H2):Oo Q y x H2
def Zep(ty td:TE):TE:=λσ H Q=>ty σ H λy H1=>td σ H1 λx H2=>Oo Q y x H2
inductive Lc(Q:VK)(y:V)(x:V)(H2:Hp):Prop
 |mk (a o) (aE:x=.ref a) (aU:eA H2 a y o) (bc:Q (.bl (!o.isSome)) H2):Lc Q y x H2
def Za0(ty td:TE):TE:=λσ H Q=>ty σ H λy H1=>td σ H1 λx H2=>Lc Q y x H2
section
variable {X:Cx}{o i e value:Expr}{pos pos' Aa:Pos}{td ty tv:TE}
theorem cY(hu:X.A.units+1<cLine)(ho:PE X o td)(hi:PE X i ty)(hs:Qi i):PE X (.Subscript o i pos) (ZdD td ty):=by
 intro pins s σ H Q I h;refine ZaZ PySem.F.slot_dict_getitem.lookup hs (aB (ho pins s σ H _ I h) λu s1 zq=>?_);obtain⟨x,H1,I1,rx,q1⟩:=zq;refine aB (hi pins s1 σ H1 _ I1 q1) λiv s2 zq=>?_;obtain⟨y,H2,I2,ry,a,v,ex,g,q2⟩:=zq;subst ex;obtain rfl:u=Value.ref a:=rx;exact⟨WE I2 g,YR hu I2 g ry λw' s3 I3 fS=>⟨v,H2,I3,fS,q2⟩⟩
theorem zN(hu:X.A.units+1<cLine)(hi:PE X i ty)(ho:PE X o td):PC X .In i o (Zep ty td):=by
 intro pins s σ H Q I h;refine aB (hi pins s σ H _ I h) λiv s1 zq=>?_;obtain⟨y,H1,I1,ry,q1⟩:=zq;refine aB (ho pins s1 σ H1 _ I1 q1) λu s2 zq=>?_;obtain⟨x,H2,I2,rx,a,ov,ex,g,q2⟩:=zq;subst ex;obtain rfl:u=Value.ref a:=rx;exact Zeo hu I2 g ry λs3 I3=>⟨.bl ov.isSome,H2,I3,rfl,q2⟩
theorem mF(hu:X.A.units+1<cLine)(hi:PE X i ty)(ho:PE X o td):PC X .NotIn i o (Za0 ty td):=by
 intro pins s σ H Q I h;refine aB (hi pins s σ H _ I h) λiv s1 zq=>?_;obtain⟨y,H1,I1,ry,q1⟩:=zq;refine aB (ho pins s1 σ H1 _ I1 q1) λu s2 zq=>?_;obtain⟨x,H2,I2,rx,a,ov,ex,g,q2⟩:=zq;subst ex;obtain rfl:u=Value.ref a:=rx;exact ZaY hu I2 g ry λs3 I3=>⟨.bl (!ov.isSome),H2,I3,rfl,q2⟩
end
theorem LW(h:Heap)(hb:sysModules<h.objs.size):cB P w H (h.push {cls:=.type "dict",data:=.dict #[]}) h.objs.size (.dK []):=
 ⟨Yw _,beq_eq_false_iff_ne.mpr (Ne.symm (Yz hb)),[],.nil,Heap.DictOf.new h⟩
theorem ZO(h:Heap)(hb:sysModules<h.objs.size):cB P w H (h.push {cls:=.type "dict",data:=.dict #[]}) h.objs.size (.dT []):=
 ⟨Yw _,beq_eq_false_iff_ne.mpr (Ne.symm (Yz hb)),[],.nil,_,#[],0,Yr _ rfl,⟨rfl,rfl,rfl⟩,rfl,rfl,W4⟩
def Zcw:TE:=λ_ H Q=>∀p,H p=none->Q (.ref p) (upd H p (.dK []))
def Zcx:TE:=λ_ H Q=>∀p,H p=none->Q (.ref p) (upd H p (.dT []))
section
variable {X:Cx}{pos:Pos}
theorem LX:PE X (.Dict [] [] pos) Zcw:=λpins s σ H Q I h=>
 wpAny_Dict_empty ⟨.ref s.heap.objs.size,_,I.laid (a:=s.heap.objs.size) (o:=.dK []) (t':=s.toks) (λ_ _ q=>Yc _ q) (Ye _) (LW s.heap I.big),rfl,h _ (I.aw.fresh (Ye _))⟩
theorem ZP:PE X (.Dict [] [] pos) Zcx:=λpins s σ H Q I h=>
 wpAny_Dict_empty ⟨.ref s.heap.objs.size,_,I.laid (a:=s.heap.objs.size) (o:=.dT []) (t':=s.toks) (λ_ _ q=>Yc _ q) (Ye _) (ZO s.heap I.big),rfl,h _ (I.aw.fresh (Ye _))⟩
end
def Fv:List (TE×TE)->St->Hp->(List (V×V)->Hp->Prop)->Prop
 |[],_,H,Q=>Q [] H
 |(tk,tv)::r,σ,H,Q=>tk σ H λx H1=>tv σ H1 λy H2=>Fv r σ H2 λps H3=>Q ((x,y)::ps) H3
abbrev VV:List (V×V)->List (Value×Value)->Prop:=Paired λp q=>RelV p.1 q.1/\RelV p.2 q.2
def AY(X:Cx)(pos:Pos)(keys:List (Option Expr))(values:List Expr)(sC:List (TE×TE)):Prop:=
 ∀(pins:aZ) (s:Shared) (σ:St) (H:Hp) (Q:List (V×V)->Hp->Prop),Inv X pins σ H s->Fv sC σ H Q->
  wpAny X.md X.A (evalPairs (pairTrees keys values X.env pos)) (λvs s'=>∃ps H',Inv X pins σ H' s'/\VV ps vs/\Q ps H') X.xe s
theorem zu:AY X pos [] [] []:=λpins s σ H Q I h=>pairTrees_nil_walk ⟨[],H,I,.nil,h⟩
theorem jE(hk:PE X k tk)(hv:PE X v tv)(hr:AY X pos ks vs sC):
  AY X pos (some k::ks) (v::vs) ((tk,tv)::sC):=λpins s σ H Q I h=>
 pairTrees_cons_walk (aB (hk pins s σ H _ I h) λu s1 ⟨x,H1,I1,rx,q1⟩=>aB (hv pins s1 σ H1 _ I1 q1) λw2 s2 ⟨y,H2,I2,ry,q2⟩=>
  aB (hr pins s2 σ H2 _ I2 q2) λws s3 ⟨ps,H3,I3,rel,q3⟩=>⟨(x,y)::ps,H3,I3,.cons ⟨rx,ry⟩ rel,q3⟩)
def oz(kvs more:List (Key×V)):List (Key×V):=more.foldl (λacc kv=>putK acc kv.1 kv.2) kvs
theorem KV.merge:∀{more:List (Key×V)} {rs:List (Key×Value)} {kvs:List (Key×V)} {vs:List (Key×Value)},KV more rs->KV kvs vs->KV (oz kvs more) (merged vs rs):=by
 intro more rs kvs vs r;induction r generalizing kvs vs with
 |nil=>intro q;exact q
 |@cons p q ps qs h t ih=>
  intro r0;have e:KV (putK kvs p.1 p.2) (stored vs q.1 q.2):=by
   have:=r0.put p.1 h.2
   grind
  exact ih e
theorem Kc:∀(more kvs:List (Key×V)),(oz kvs more).length<=kvs.length+more.length
 |[],kvs=>by show kvs.length<=kvs.length+0;omega
 |p::r,kvs=>by
  have h1:=Kc r (putK kvs p.1 p.2);have h2:=yD kvs p.1 p.2;show(oz (putK kvs p.1 p.2) r).length<=_
  grind
theorem KH:∀{kvs:List (Key×V)} {ws:List (Value×Value)},VV (kvs.map λkv=>(kV kv.1,kv.2)) ws->∃rs,Carries (dv P w) ws rs/\KV kvs rs
 |[],_,r=>by rw[List.map_nil] at r;cases r;exact⟨[],True.intro,.nil⟩
 |p::kvs,_,r=>by
  cases r with
  |@cons a b as bs h t=>
   obtain⟨rs,c,q⟩:=KH t;obtain⟨b1,b2⟩:=b;exact⟨(p.1,b2)::rs,⟨lQ h.1,rfl,c⟩,.cons ⟨rfl,h.2⟩ q⟩
def ZdE(sC:List (TE×TE)):TE:=λσ H Q=>∀p,H p=none->Fv sC σ (upd H p (.dK [])) λps H2=>H2 p=some (.dK [])/\∃kvs:List (Key×V),ps=kvs.map (λkv=>(kV kv.1,kv.2))/\kvs.length<=15/\Q (.ref p) (upd H2 p (.dK (oz [] kvs)))
theorem zw(h:AY X pos keys values sC)(Gg:keys.all (·.isSome)=true)(hl:keys.length=values.length)(h0:keys≠[])
  (h15:keys.length<=15):PE X (.Dict keys values pos) (ZdE sC):=by
 intro pins s σ H Q I q;refine wpAny_Dict_walk (knd:=dv X.prog X.w) Gg hl h0 h15 (aB (h pins _ σ _ _ (I.laid (λ_ _ q=>Yc _ q) (Ye _) (LW s.heap I.big)) (q _ (I.aw.fresh (Ye s.heap.objs.size)))) λws s2 ⟨ps,H2,I2,rel,e,kvs,ep,lk,q2⟩=>?_);subst ep;obtain⟨rs,c,rk⟩:=KH rel;obtain⟨z,hd,vs0,r0,dd⟩:=mX I2.aw e;cases r0;refine⟨rs,c,dd,λh' iz hs=>⟨.ref s.heap.objs.size,_,?_,rfl,q2⟩⟩;have hz:(oz [] kvs).length<=sizeLine:=by
  have h1:=Kc kvs [];rw[List.length_nil] at h1;rw[sizeLine_eq];omega
 exact rh I2 (by rw[e];exact True.intro) hs (let⟨q,_,_,hq,_⟩:=iz;⟨q,hq⟩) (wF hz hd (rk.merge .nil) iz)
structure M1(X:Cx)(o:Expr)(m:Str)(apos:Pos)(e:Expr)(cJ:Pos):Prop where
 base:attributeBase o m X.env (eval o X.env)=eval o X.env
 iC:((backTo cJ (starEach [e] X.env)).all (λx=>!x.1)&&(backToKw cJ (keywordEach [] X.env)).all (λx=>x.1.isSome)
  &&decide (([e]:List Expr).length+([]:List Keyword).length+(if([]:List Keyword).isEmpty then 0 else 1)<30))=true
 line:(apos.endLine==cJ.line)=true
 trees:backTo cJ (starEach [e] X.env)=[(false,eval e X.env)]
structure M2(X:Cx)(o:Expr)(m:Str)(apos:Pos)(e f:Expr)(cJ:Pos):Prop where
 base:attributeBase o m X.env (eval o X.env)=eval o X.env
 iC:((backTo cJ (starEach [e,f] X.env)).all (λx=>!x.1)&&(backToKw cJ (keywordEach [] X.env)).all (λx=>x.1.isSome)
  &&decide (([e,f]:List Expr).length+([]:List Keyword).length+(if([]:List Keyword).isEmpty then 0 else 1)<30))=true
 line:(apos.endLine==cJ.line)=true
 trees:backTo cJ (starEach [e,f] X.env)=[(false,eval e X.env),(false,eval f X.env)]
def xJ(H:Hp)(a:Addr):Prop:=(∃kvs,Rd H a (.dK kvs))\/∃kvs,Rd H a (.dT kvs)
theorem wG(I:Inv X pins σ H s)(d:xJ H a):
  s.TypeIs (.ref a) "dict"/\(∀b,Value.ref a=.ref b->∃ob,s.heap.get? b=some ob/\ob.dict=none)/\(a==sysModules)=false:=by
 rcases d with⟨kvs,e⟩|⟨kvs,e⟩
 ·obtain⟨_,hd,vs,_,dd⟩:=oC I.aw e;refine⟨dd.typeIs,λb q=>?_,hd⟩;cases q;obtain⟨ob,_,_,h1,h2,_⟩:=dd;exact⟨ob,h1,h2.2.1⟩
 ·obtain⟨_,hd,xs,_,dd⟩:=qh I.aw e;refine⟨dd.typeIs,λb q=>?_,hd⟩;cases q;obtain⟨ob,_,_,h1,h2,_⟩:=dd;exact⟨ob,h1,h2.2.1⟩
section
variable {X:Cx}{pins:aZ}{σ:St}{H:Hp}{s:Shared}{a:Addr}{y d:V}{u r:Value}{o:Option V}{A:Around}{E:bb}
theorem Zcy(hu:A.units+1<cLine)(I:Inv X pins σ H s)(g:eA H a y o)(ry:RelV y u)(h:∀w' s',Inv X pins σ H s'->RelV (o.getD .az) w'->Q w' s'):
  wpAny X.md A (call (.builtin "dict.get") [.ref a,u]) Q E s:=by
 rcases g with⟨kvs,k,e,ey,l⟩|⟨kvs,k,b,e,ey,eb,l⟩
 ·subst ey;obtain⟨z,hd,vs,rel,dd⟩:=oC I.aw e;refine call_meetsIn slot_dict_get dd.typeIs entry_dict_get (PySem.F.args_dict_get_2 _ _) (meets_dict_get (dv X.prog X.w) a (lQ ry) hd) ⟨_,dd.mapOf,h _ _ (I.tok _) ?_⟩;rw[l];exact(rel.val k).getD rfl
 ·subst ey;cases(show u=Value.ref b from ry);obtain⟨z,hd,xs,rel,dd⟩:=qh I.aw e;refine call_meetsIn slot_dict_get dd.typeIs entry_dict_get (PySem.F.args_dict_get_2 _ _) (meetsH_dict_get (tupleKind (dv X.prog X.w)) a b hd) ⟨tupleKind_room_in1 hu,k,xs,qa I.aw eb,dd,h _ _ (I.tok _) ?_⟩;rw[l];exact(rel.val k).getD rfl
theorem Zcz(hu:A.units+1<cLine)(I:Inv X pins σ H s)(g:eA H a y o)(ry:RelV y u)(rd:RelV d r)(h:∀w' s',Inv X pins σ H s'->RelV (o.getD d) w'->Q w' s'):
  wpAny X.md A (call (.builtin "dict.get") [.ref a,u,r]) Q E s:=by
 rcases g with⟨kvs,k,e,ey,l⟩|⟨kvs,k,b,e,ey,eb,l⟩
 ·subst ey;obtain⟨z,hd,vs,rel,dd⟩:=oC I.aw e;refine call_meetsIn slot_dict_get dd.typeIs entry_dict_get (PySem.F.args_dict_get_3 _ _ _) (meets_dict_get_default (dv X.prog X.w) a (lQ ry) hd r) ⟨_,dd.mapOf,h _ _ (I.tok _) ?_⟩;rw[l];exact(rel.val k).getD rd
 ·subst ey;cases(show u=Value.ref b from ry);obtain⟨z,hd,xs,rel,dd⟩:=qh I.aw e;refine call_meetsIn slot_dict_get dd.typeIs entry_dict_get (PySem.F.args_dict_get_3 _ _ _) (meetsH_dict_get_default (tupleKind (dv X.prog X.w)) a b hd r) ⟨tupleKind_room_in1 hu,k,xs,qa I.aw eb,dd,h _ _ (I.tok _) ?_⟩;rw[l];exact(rel.val k).getD rd
end
def ZcA(td ty:TE):TE:=λσ H Q=>td σ H λx H1=>∃a,x=.ref a/\xJ H1 a/\ty σ H1 λy H2=>∃o,eA H2 a y o/\Q (o.getD .az) H2
def ZcB(td ty tx:TE):TE:=λσ H Q=>td σ H λx H1=>∃a,x=.ref a/\xJ H1 a/\ty σ H1 λy H2=>tx σ H2 λz H3=>∃o,eA H3 a y o/\Q (o.getD z) H3
section
variable {X:Cx}{o e f:Expr}{apos cJ:Pos}{td ty tx:TE}
theorem ZQ(hu:X.A.units+1<cLine)(ho:PE X o td)(he:PE X e ty)(m:M1 X o "get" apos e cJ):PE X (.Call (.Attribute o "get" apos) [e] [] cJ) (ZcA td ty):=by
 intro pins s σ H Q I h;refine wpAny_Call_method m.base m.iC m.line plainAttrs_dict slot_dict_get type_dict_get (aB (ho pins s σ H _ I h) λu s1 zq=>?_);obtain⟨x,H1,I1,rx,a,ex,d,q1⟩:=zq;subst ex;obtain rfl:u=Value.ref a:=rx;obtain⟨t1,t2,_⟩:=wG I1 d;refine⟨t1,t2,?_⟩;rw[m.trees];exact Calls.callWith_builtin rfl (Calls.evalArgs_plain (Calls.spliced_cons (aB (he pins s1 σ H1 _ I1 q1) λiv s2 ⟨y,H2,I2,ry,ov,g,q2⟩=>Calls.spliced_nil (Zcy hu I2 g ry λw' s3 I3 fS=>⟨_,H2,I3,fS,q2⟩))))
theorem ZR(hu:X.A.units+1<cLine)(ho:PE X o td)(he:PE X e ty)(hf:PE X f tx)(m:M2 X o "get" apos e f cJ):PE X (.Call (.Attribute o "get" apos) [e,f] [] cJ) (ZcB td ty tx):=by
 intro pins s σ H Q I h;refine wpAny_Call_method m.base m.iC m.line plainAttrs_dict slot_dict_get type_dict_get (aB (ho pins s σ H _ I h) λu s1 zq=>?_);obtain⟨x,H1,I1,rx,a,ex,d,q1⟩:=zq;subst ex;obtain rfl:u=Value.ref a:=rx;obtain⟨t1,t2,_⟩:=wG I1 d;refine⟨t1,t2,?_⟩;rw[m.trees];refine Calls.callWith_builtin rfl (Calls.evalArgs_plain (Calls.spliced_cons (aB (he pins s1 σ H1 _ I1 q1) λiv s2 ⟨y,H2,I2,ry,q2⟩=>
  Calls.spliced_cons (aB (hf pins s2 σ H2 _ I2 q2) λfv s3 ⟨z,H3,I3,rz,ov,g,q3⟩=>Calls.spliced_nil ?_))))
 exact Zcz hu I3 g ry rz λw' s4 I4 fS=>⟨_,H3,I4,fS,q3⟩
end
section
variable {X:Cx}{pins:aZ}{σ:St}{H:Hp}{s:Shared}{a:Addr}{kvs:List (Key×V)}{A:Around}{E:bb}
end
section
variable {X:Cx}{pins:aZ}{σ:St}{H:Hp}{s:Shared}{a:Addr}{y:V}{u:Value}{A:Around}{E:bb}
end
def oE(P:Program)(w:World)(K:ai)(mg:aX)(base:Heap)(k:Nat)(x:Str)(C:Addr)(ps:List Str)(sp:Sp):Prop:=
 ∃f fd,Mk K C f/\aH P w K mg base aM k f fd ps sp/\Binds K fd ps []/\mg x=some (.ref C)
def bT(P:Program)(w:World)(K:ai)(mg:aX)(base:Heap)(k:Nat)(m:Str)(C:Addr)(ps:List Str)(sp:Sp):Prop:=
 ∃f fd,iu K C/\Meth K C m f/\aH P w K mg base aM k f fd ps sp/\Binds K fd ps []
section
variable {X:Cx}{k j:Nat}{x m:Str}{C:Addr}{ps:List Str}{sp:Sp}{p pos apos:Pos}{o e:Expr}{es:List Expr}{t:TA}{ta:TE}
theorem FR(h:oE X.prog X.w X.K X.mg X.base k x C ps sp)(hr:c7 j X.A)(hj:k+1<=j)(hg:Gl X x)(ha:PA X (e::es) t)(jQ:(x==("__debug__":Str))=false:=by decide)
  (he:l3 X e es:=by rfl)(cE:ni X pos es:=by rfl):PE X (.Call (.Name x p) (e::es) [] pos) (Pc C sp [] E0 t):=by
 obtain⟨f,fd,M,F,b,hm⟩:=h;exact ZaN M F (hr.mono hj) hg hm b .nil zX ha jQ he cE
theorem cH(h:bT X.prog X.w X.K X.mg X.base k m C ps sp)(hr:c7 j X.A)(hj:k<=j)(ho:PE X o ta)(ha:PA X (e::es) t)
  (dZ:l3 X e es:=by rfl)(cE:ni X pos es:=by rfl)
  (ht:eval (.Call (.Attribute o m apos) (e::es) [] pos) X.env=(do
   let ov←eval o X.env
   standAt apos.atName
   let(f,first)←holding [ov] (getMethod ov m pl)
   callWith pos f first (backTo pos (starEach (e::es) X.env)) (backToKw pos (keywordEach [] X.env))):=by rfl):
  PE X (.Call (.Attribute o m apos) (e::es) [] pos) (zW C m sp [] E0 ta t):=by
 obtain⟨f,fd,c,hm,F,b⟩:=h;exact ZaM ho c hm F (hr.mono hj) b .nil zX ha dZ cE ht
end
theorem uc{X:Cx}{K:ai}{e:Expr}{ta:TE}{f:Str}{pos:Pos}(h:X.K=K)(he:PE X e ta)(hb:attributeBase e f X.env (eval e X.env)=eval e X.env):PE X (.Attribute e f pos) (Gd K ta f):=h▸Zb3 he hb
section
open PySem.AutoSeq1 (wpAny_loadPart')
theorem YT(lo hi x:Int):(Builtin.Range.rangePlace? lo hi 1 x).isSome=decide (lo<=x/\x<hi):=by
 unfold Builtin.Range.rangePlace?
 grind
theorem Uq(p:Addr)(lo hi x:Int)(a b c t:Tok):
  Meets (Builtin.«range.__contains__» ⟨[.ref p,.int x t],[]⟩)
   (λ_ R s=>s.heap.get? p=some {cls:=.type "range",data:=.fields #[.int lo a,.int hi b,.int 1 c]}/\R (.ok (.ret (.bool (decide (lo<=x/\x<hi))))) s):=
 .of_wp λprog w A R s h=>by
  obtain⟨hp,g,d,tk,os⟩:=s;obtain⟨hl,h⟩:=h;rw[←YT] at h
  wp_walk using wpAny_loadPart' hl
  grind
end
def ZcC(neg:Bool):R2:=λx y H Q=>∃(i lo hi:Int) (p:Addr),x=.int i/\y=.ref p/\H p=some (.ir lo hi)/\Q (.bl (if neg=true then !decide (lo<=i/\i<hi) else decide (lo<=i/\i<hi))) H
theorem VC:cD X (compareOp .NotIn) (ZcC true):=by
 rintro pins s σ H x y v u Q I rx ry ⟨i,lo,hi,p,rfl,rfl,hp,q⟩;obtain⟨t,rfl⟩:=rx;cases ry;obtain⟨a,b,c,g⟩:=(show cB X.prog X.w H s.heap p (.ir lo hi) from I.aw p _ hp);exact SeqRoads2.notIn_meets ⟨_,g,rfl⟩ F.slot_range_contains F.entry_range_contains (F.args_range_contains_2 _ _) (Uq p lo hi i a b c t) ⟨g,_,rfl,.bl _,H,I,rfl,q⟩
theorem tL(p:Nat->Bool)(n:Nat):(List.range (n+1)).filter p=(List.range n).filter p++(if p n=true then[n] else[]):=by
 rw[Rx,Wt]
 grind
theorem jB{α β:Type}{F:α->β->Prop}:∀{xs:List α} {ys:List β} {x:α} {y:β},Paired F xs ys->F x y->Paired F (xs++[x]) (ys++[y]):=by
 intro xs ys x y h f;induction h with
 |nil=>exact .cons f .nil
 |cons r t ih=>exact .cons r ih
theorem Dm:∀{xs:List α} {ys:List β},Paired F xs ys->xs.length=ys.length:=by
 intro xs ys h;induction h with
 |nil=>rfl
 |cons _ _ ih=>rw[Wn,Wn,ih]
theorem CI:∀{xs:List V} {ys:List β},Paired (λx y=>x=f y) xs ys->xs=ys.map f:=by
 intro xs ys h;induction h with
 |nil=>rfl
 |cons r t ih=>rw[Wq,←r,←ih]
theorem DQ(n:Nat):(List.range n).filter (λ_=>true)=List.range n:=by simp
theorem Vc(xs:List α)(f:Nat->β)(g:α->β)(h:∀(i:Nat) (v:α),xs[i]?=some v->f i=g v):(List.range xs.length).map f=xs.map g:=by
 refine Wj λi=>?_
 grind
def ay(D:Addr)(H H':Hp):Prop:=∀b o,H b=some o->b≠D->H' b=some o
theorem ay.of(g:aj H H'):ay D H H':=λb o e _=>g b o e
theorem ay.put(g:ay D H H'):ay D H (upd H' D o):=λb u e n=>by rw[aC n];exact g b u e n
def uu(tt:TT)(te:TE)(fv:St)(D:Addr)(H:Hp)(v:V)(b:Bool)(Pe:V->Hp->Prop):Prop:=
 ∀H1,aj H H1->(∃ys,H1 D=some (.lst ys))->∀(Kt:VK) (Kf:Hp->Prop),(∀y H3,b=true->aj H1 H3->Pe y H3->Kt y H3)->(∀H3,b=false->aj H1 H3->Kf H3)->tt (some v::fv) H1 λc H2=>if c=true then te (some v::fv) H2 Kt else Kf H2
theorem yH{K:ai}{a:Addr}{xs:List V}{tt:TT}{te:TE}{fv:St}{D:Addr}{H:Hp}{Q:VK}(hs:ak K H a xs)(hn:xs.length<=1000)(hD:H D=none)(p:Nat->Bool)(Pe:Nat->V->Hp->Prop)(mono:∀i y H1 H2,ay D H1 H2->Pe i y H1->Pe i y H2)
  (turn:∀(i:Nat) (v:V),xs[i]?=some v->uu tt te fv D H v (p i) (Pe i))(fin:∀ys H',aj H H'->H' D=some (.lst ys)->Paired (λy i=>Pe i y H') ys ((List.range xs.length).filter p)->Q (.ref D) H'):iS (jt K a) tt te fv D H Q:=by
 refine Eg (λi ys H1=>i<=xs.length/\aj H H1/\H1 D=some (.lst ys)/\Paired (λy j=>Pe j y H1) ys ((List.range i).filter p)) ⟨Yw _,cz hD _,aI,.nil⟩ (λi ys H1 _ ⟨_,g,_,_⟩=>g.seq hs) ?_ ?_
 ·rintro i v ys H1 hi ⟨_,g,h1,pr⟩;have dG:=(Yi.mp hi).1;have ll:=Dm pr;have fl:=Wi p (List.range i);rw[We] at fl;refine turn i v hi H1 g ⟨_,h1⟩ _ _ (λy H3 pi g3 py=>⟨g3 _ _ h1,by rw[sizeLine_eq];omega,dG,?_,aI,?_⟩) (λH3 pi g3=>⟨dG,g.trans g3,g3 _ _ h1,?_⟩)
  ·intro b o e;rw[aC (bO e hD)];exact g3 _ _ (g _ _ e)
  ·rw[tL,if_pos pi];exact jB (Paired.bB pr λz j q=>mono _ _ _ _ (ay.put (ay.of g3)) q) (mono _ _ _ _ (ay.put (ay.of (aj.refl _))) py)
  ·rw[tL,if_neg (by rw[pi];exact Yk),Wh];exact Paired.bB pr λz j q=>mono _ _ _ _ (ay.of g3) q
 ·grind
theorem Xp{K:ai}{a:Addr}{xs:List V}{tt:TT}{te:TE}{fv:St}{D:Addr}{H:Hp}{Q:VK}(hs:ak K H a xs)(hn:xs.length<=1000)(hD:H D=none)(p:Nat->Bool)(f:Nat->V)
  (turn:∀(i:Nat) (v:V),xs[i]?=some v->uu tt te fv D H v (p i) (λy _=>y=f i))(fin:∀H',aj H H'->H' D=some (.lst (((List.range xs.length).filter p).map f))->Q (.ref D) H'):iS (jt K a) tt te fv D H Q:=
 yH hs hn hD p (λi y _=>y=f i) (λ_ _ _ _ _ e=>e) turn λys H' g h1 pr=>fin H' g (by rw[←CI pr];exact h1)
theorem Xq{K:ai}{a:Addr}{xs:List V}{te:TE}{fv:St}{D:Addr}{H:Hp}{Q:VK}(hs:ak K H a xs)(hn:xs.length<=1000)(hD:H D=none)(f:V->V)
  (turn:∀(i:Nat) (v:V),xs[i]?=some v->∀H1,aj H H1->∀Kt:VK,(∀H3,aj H1 H3->Kt (f v) H3)->te (some v::fv) H1 Kt)(fin:∀H',aj H H'->H' D=some (.lst (xs.map f))->Q (.ref D) H'):iS (jt K a) Ae te fv D H Q:=by
 refine Xp hs hn hD (λ_=>true) (λi=>f (xs.getD i .az)) (λi v hi H1 g _ Kt Kf kt _=>kT (cW ?_)) λH' g h1=>fin H' g ?_;·grind
 ·rw[h1,DQ,Vc xs (λi=>f (xs.getD i .az)) f λi v hi=>by rw[Yj,hi];rfl]
theorem YU{K:ai}{a:Addr}{xs:List V}{tt:TT}{te:TE}{fv:St}{D:Addr}{H:Hp}{Q:VK}(hs:aA K H a xs)(hn:xs.length<=1000)(hD:H D=none)(p:Nat->Bool)(Pe:Nat->V->Hp->Prop)(mono:∀i y H1 H2,ay D H1 H2->Pe i y H1->Pe i y H2)
  (turn:∀(i:Nat) (v:V),xs[i]?=some v->uu tt te fv D H v (p i) (Pe i))(fin:∀ys H',aj H H'->H' D=some (.lst ys)->Paired (λy i=>Pe i y H') ys ((List.range xs.length).filter p)->Q (.ref D) H'):iS (uP K a) tt te fv D H Q:=by
 refine y8 (λi ys H1=>i<=xs.length/\aj H H1/\H1 D=some (.lst ys)/\Paired (λy j=>Pe j y H1) ys ((List.range i).filter p)) ⟨Yw _,cz hD _,aI,.nil⟩ (λi ys H1 _ ⟨_,g,_,_⟩=>g.jb hs) ?_ ?_
 ·rintro i v ys H1 hi ⟨_,g,h1,pr⟩;have dG:=(Yi.mp hi).1;have ll:=Dm pr;have fl:=Wi p (List.range i);rw[We] at fl;refine turn i v hi H1 g ⟨_,h1⟩ _ _ (λy H3 pi g3 py=>⟨g3 _ _ h1,by rw[sizeLine_eq];omega,dG,?_,aI,?_⟩) (λH3 pi g3=>⟨dG,g.trans g3,g3 _ _ h1,?_⟩)
  ·intro b o e;rw[aC (bO e hD)];exact g3 _ _ (g _ _ e)
  ·rw[tL,if_pos pi];exact jB (Paired.bB pr λz j q=>mono _ _ _ _ (ay.put (ay.of g3)) q) (mono _ _ _ _ (ay.put (ay.of (aj.refl _))) py)
  ·rw[tL,if_neg (by rw[pi];exact Yk),Wh];exact Paired.bB pr λz j q=>mono _ _ _ _ (ay.of g3) q
 ·grind
theorem YV{K:ai}{a:Addr}{xs:List V}{tt:TT}{te:TE}{fv:St}{D:Addr}{H:Hp}{Q:VK}(hs:aA K H a xs)(hn:xs.length<=1000)(hD:H D=none)(p:Nat->Bool)(f:Nat->V)
  (turn:∀(i:Nat) (v:V),xs[i]?=some v->uu tt te fv D H v (p i) (λy _=>y=f i))(fin:∀H',aj H H'->H' D=some (.lst (((List.range xs.length).filter p).map f))->Q (.ref D) H'):iS (uP K a) tt te fv D H Q:=
 YU hs hn hD p (λi y _=>y=f i) (λ_ _ _ _ _ e=>e) turn λys H' g h1 pr=>fin H' g (by rw[←CI pr];exact h1)
theorem WG{lo:Int}{n:Nat}{tt:TT}{te:TE}{fv:St}{D:Addr}{H:Hp}{Q:VK}(hn:n<=1000)(hD:H D=none)(p:Nat->Bool)(Pe:Nat->V->Hp->Prop)(mono:∀i y H1 H2,ay D H1 H2->Pe i y H1->Pe i y H2)
  (turn:∀i,i<n->uu tt te fv D H (.int (lo+i)) (p i) (Pe i))(fin:∀ys H',aj H H'->H' D=some (.lst ys)->Paired (λy i=>Pe i y H') ys ((List.range n).filter p)->Q (.ref D) H'):iS (oR lo n) tt te fv D H Q:=by
 refine vZ (λi ys H1=>i<=n/\aj H H1/\H1 D=some (.lst ys)/\Paired (λy j=>Pe j y H1) ys ((List.range i).filter p)) ⟨Yw _,cz hD _,aI,.nil⟩ ?_ ?_
 ·rintro i ys H1 hi ⟨_,g,h1,pr⟩;have dG:=hi;have ll:=Dm pr;have fl:=Wi p (List.range i);rw[We] at fl;refine turn i hi H1 g ⟨_,h1⟩ _ _ (λy H3 pi g3 py=>⟨g3 _ _ h1,by rw[sizeLine_eq];omega,dG,?_,aI,?_⟩) (λH3 pi g3=>⟨dG,g.trans g3,g3 _ _ h1,?_⟩)
  ·intro b o e;rw[aC (bO e hD)];exact g3 _ _ (g _ _ e)
  ·rw[tL,if_pos pi];exact jB (Paired.bB pr λz j q=>mono _ _ _ _ (ay.put (ay.of g3)) q) (mono _ _ _ _ (ay.put (ay.of (aj.refl _))) py)
  ·rw[tL,if_neg (by rw[pi];exact Yk),Wh];exact Paired.bB pr λz j q=>mono _ _ _ _ (ay.of g3) q
 ·grind
theorem WH{lo:Int}{n:Nat}{tt:TT}{te:TE}{fv:St}{D:Addr}{H:Hp}{Q:VK}(hn:n<=1000)(hD:H D=none)(p:Nat->Bool)(f:Nat->V)
  (turn:∀i,i<n->uu tt te fv D H (.int (lo+i)) (p i) (λy _=>y=f i))(fin:∀H',aj H H'->H' D=some (.lst (((List.range n).filter p).map f))->Q (.ref D) H'):iS (oR lo n) tt te fv D H Q:=
 WG hn hD p (λi y _=>y=f i) (λ_ _ _ _ _ e=>e) turn λys H' g h1 pr=>fin H' g (by rw[←CI pr];exact h1)
abbrev Nw(H:Hp)(o:HO)(Q:VK):Prop:=∀(p:Addr) (H':Hp),H p=none->aj H H'->H' p=some o->Q (.ref p) H'
theorem Nw.at(h:Nw H o Q):∀p,H p=none->Q (.ref p) (upd H p o):=λp np=>h p _ np (cz np o) aI
def wO(t:TA):TE:=λσ H Q=>t σ H λxs H1=>xs.length<=sizeLine/\Nw H1 (.tup xs) Q
def Pn(t:TA):TE:=λσ H Q=>t σ H λxs H1=>xs.length<=sizeLine/\Nw H1 (.lst xs) Q
section
variable {X:Cx}{es:List Expr}{t:TA}{pos:Pos}{K:ai}
theorem dM{x1}(h:PA X es t):PE X (.Tuple es x1 pos) (wO t):=by
 intro pins s σ H Q I hq;refine wpAny_Tuple_spliced (aB (h pos pins s σ H _ I hq) λus s1 ⟨xs,H1,I1,r,z,q⟩=>⟨by rw[←r.length];exact z,⟨.ref s1.heap.objs.size,upd H1 s1.heap.objs.size (.tup xs),I1.laid (λb u e=>Yc _ e) (Ye _) ?_,rfl,q.at _ (I1.aw.fresh (Ye _))⟩⟩);exact⟨z,us,r,⟨_,Yr _ rfl,rfl,_,rfl,rfl⟩⟩
theorem dR(h:PA X es t):PE X (.List es pos) (Pn t):=by
 intro pins s σ H Q I hq;refine wpAny_List_spliced (aB (h pos pins s σ H _ I hq) λus s1 ⟨xs,H1,I1,r,z,q⟩=>⟨by rw[←r.length];exact z,⟨.ref s1.heap.objs.size,upd H1 s1.heap.objs.size (.lst xs),I1.laid (λb u e=>Yc _ e) (Ye _) ?_,rfl,q.at _ (I1.aw.fresh (Ye _))⟩⟩);exact⟨z,us,0,r,Yr _ rfl⟩
theorem cZ.mono(h:cZ X f r)(m:∀xs H Q,r' xs H Q->r xs H Q):cZ X f r':=λpins s σ H xs us Q I v q=>h pins s σ H xs us Q I v (m xs H Q q)
theorem cD.mono(h:cD X f r)(m:∀x y H Q,r' x y H Q->r x y H Q):cD X f r':=λpins s σ H x y v u Q I rx ry q=>h pins s σ H x y v u Q I rx ry (m x y H Q q)
inductive KI(xs:List V)(H:Hp)(Q:VK):Prop
 |mk (j:Int) (aE:xs=[.int j]) (aU:Nw H (.ir 0 j) Q):KI xs H Q
def ZS:List V->Hp->VK->Prop:=λxs H Q=>KI xs H Q
theorem C2:cZ X (.type "range") ZS:=yC.mono λ_ _ _ zq=>by obtain⟨j,e,q⟩:=zq;exact⟨j,e,q.at⟩
inductive Km(xs:List V)(H:Hp)(Q:VK):Prop
 |mk (p:Addr) (n:Nat) (aE:xs=[.ref p]) (aU:H p=some (.ir 0 (n:Int))) (bc:n<=1000) (bL:Nw H (.lst ((bh n).map V.int)) Q):Km xs H Q
def YW:List V->Hp->VK->Prop:=λxs H Q=>Km xs H Q
theorem UQ(hc:X.calm=true):cZ X (.type "list") YW:=(CH hc).mono λ_ _ _ zq=>by obtain⟨p,n,e,h,l,q⟩:=zq;exact⟨p,n,e,h,l,q.at⟩
inductive KJ(xs:List V)(H:Hp)(Q:VK):Prop
 |mk (p:Addr) (n:Nat) (aE:xs=[.ref p]) (aU:H p=some (.ir 0 (n:Int))) (bc:n<=1000) (bL:Nw H (.tup ((bh n).map V.int)) Q):KJ xs H Q
def ZT:List V->Hp->VK->Prop:=λxs H Q=>KJ xs H Q
theorem UA(hc:X.calm=true):cZ X (.type "tuple") ZT:=(Ka hc).mono λ_ _ _ zq=>by obtain⟨p,n,e,h,l,q⟩:=zq;exact⟨p,n,e,h,l,q.at⟩
def ZU(K:ai):List V->Hp->VK->Prop:=λxs H Q=>∃(p:Addr) (ns:List Int),xs=[.ref p]/\(ak K H p (ns.map V.int)\/aA K H p (ns.map V.int))/\ns.length<64/\
  ∀cv:List Int,cv.Perm ns->cv.Pairwise (·<=·)->Nw H (.lst (cv.map V.int)) Q
theorem ZV(h:X.K=K):cZ X (.builtin "sorted") (ZU K):=h▸Kk.mono λ_ _ _ zq=>by obtain⟨p,ns,e,s,l,q⟩:=zq;exact⟨p,ns,e,s,l,λa cv na pm so=>(q cv pm so).at a na⟩
def ZdF:R2:=λx y H Q=>∃l b xs zs,x=.ref l/\y=.ref b/\H l=some (.lst xs)/\H b=some (.lst zs)/\xs.length+zs.length<=sizeLine/\Nw H (.lst (xs++zs)) Q
theorem zx:cD X (binaryOp .Add) ZdF:=Zcb.mono λ_ _ _ _ zq=>by obtain⟨l,b,xs,zs,e1,e2,h1,h2,z,q⟩:=zq;exact⟨l,b,xs,zs,e1,e2,h1,h2,z,q.at⟩
def Za1:TE:=λ_ H Q=>Nw H (.dK []) Q
theorem tV:PE X (.Dict [] [] pos) Za1:=λpins s σ H Q I q=>LX pins s σ H Q I q.at
def Za2:TE:=λ_ H Q=>Nw H (.dT []) Q
theorem Le:PE X (.Dict [] [] pos) Za2:=λpins s σ H Q I q=>ZP pins s σ H Q I q.at
end
abbrev Ch(H:Hp)(a:Addr)(o:HO)(R:Hp->Prop):Prop:=∀H',ay a H H'->H' a=some o->R H'
theorem Ch.at(h:Ch H a o R):R (upd H a o):=h _ (ay.put (ay.of (aj.refl _))) aI
section
variable {X:Cx}
theorem nC.mono{id:String}{r r':V->List V->Hp->VK->Prop}(h:nC X id r)(m:∀x xs H Q,r' x xs H Q->r x xs H Q):nC X id r':=λpins s σ H x xs v us Q I rx rv q=>h pins s σ H x xs v us Q I rx rv (m x xs H Q q)
inductive KL(x:V)(vs:List V)(H:Hp)(Q:VK):Prop
 |mk (l xs y) (aE:x=.ref l) (aU:vs=[y]) (bc:H l=some (.lst xs)) (bL:xs.length<sizeLine) (cL:Ch H l (.lst (xs++[y])) (Q .az)):KL x vs H Q
def LY:V->List V->Hp->VK->Prop:=λx vs H Q=>KL x vs H Q
theorem pM:nC X "list.append" LY:=n5.mono λ_ _ _ _ zq=>by obtain⟨l,xs,y,e1,e2,h,z,q⟩:=zq;exact⟨l,xs,y,e1,e2,h,z,q.at⟩
def ZW:V->List V->Hp->VK->Prop:=λx vs H Q=>∃l b xs zs,x=.ref l/\vs=[.ref b]/\H l=some (.lst xs)/\H b=some (.lst zs)/\xs.length+zs.length<=sizeLine/\Ch H l (.lst (xs++zs)) (Q .az)
theorem Xr:nC X "list.extend" ZW:=YK.mono λ_ _ _ _ zq=>by obtain⟨l,b,xs,zs,e1,e2,h1,h2,z,q⟩:=zq;exact⟨l,b,xs,zs,e1,e2,h1,h2,z,q.at⟩
def Za3:V->List V->Hp->VK->Prop:=λx vs H Q=>∃l xs,x=.ref l/\vs=[]/\H l=some (.lst xs)/\Ch H l (.lst []) (Q .az)
theorem YX:nC X "list.clear" Za3:=ZH.mono λ_ _ _ _ zq=>by obtain⟨l,xs,e1,e2,h,q⟩:=zq;exact⟨l,xs,e1,e2,h,q.at⟩
theorem rU.mono(h:rU X t)(m:∀o i v H Q,t' o i v H Q->t o i v H Q):rU X t':=by
 intro pins s σ H o i x ov iv v Q I r1 r2 r3 q;exact h pins s σ H o i x ov iv v Q I r1 r2 r3 (m _ _ _ _ _ q)
def ZcD:V->V->V->Hp->(Hp->Prop)->Prop:=λo i v H Q=>∃p xs k j,o=.ref p/\i=.int k/\H p=some (.lst xs)/\kX xs.length k=some j/\Ch H p (.lst (xs.set j v)) Q
theorem Lf:rU X ZcD:=set_list.mono λ_ _ _ _ _ zq=>by obtain⟨p,xs,k,j,e1,e2,h,z,q⟩:=zq;exact⟨p,xs,k,j,e1,e2,h,z,q.at⟩
variable {o i value:Expr}{td ty tv ta:TE}{pos pos':Pos}{f:Str}
inductive LZ(D:Ends)(σ:St)(v:V)(x:V)(y:V)(H3:Hp):Prop
 |mk (a kvs k) (aE:x=.ref a) (aU:H3 a=some (.dK kvs)) (bc:y=kV k) (bL:kvs.length<sizeLine) (cL:Ch H3 a (.dK (putK kvs k v)) (D.nx σ)):LZ D σ v x y H3
def ZcE(td ty tv:TE):TS:=λD σ H=>tv σ H λv H1=>td σ H1 λx H2=>ty σ H2 λy H3=>LZ D σ v x y H3
inductive Lg(D:Ends)(σ:St)(v:V)(x:V)(y:V)(H3:Hp):Prop
 |mk (a b kvs k) (aE:x=.ref a) (aU:H3 a=some (.dT kvs)) (bc:y=.ref b) (bL:H3 b=some (.tup (k.map kV))) (cL:kvs.length<sizeLine) (d5:Ch H3 a (.dT (putK kvs k v)) (D.nx σ)):Lg D σ v x y H3
def Za4(td ty tv:TE):TS:=λD σ H=>tv σ H λv H1=>td σ H1 λx H2=>ty σ H2 λy H3=>Lg D σ v x y H3
theorem oh(hu:X.A.units+1<cLine)(ho:PE X o td)(hi:PE X i ty)(hv:PE X value tv)(hs:swapsWith value (some (.Subscript o i pos')) pos.line X.env=pure false:=by rfl):
  PS X (.Assign [.Subscript o i pos'] value pos) (ZcE td ty tv):=by
 intro pins s σ H D I h;refine wpAny_Assign_Subscript (aB (hv pins s σ H _ I h) λr s1 zq=>?_) hs;obtain⟨v,H1,I1,rv,q1⟩:=zq;refine aB (ho pins s1 σ H1 _ I1 q1) λu s2 zq=>?_;obtain⟨x,H2,I2,rx,q2⟩:=zq;refine aB (hi pins s2 σ H2 _ I2 q2) λiv s3 zq=>?_;obtain⟨y,H3,I3,ry,a,kvs,k,ex,ha,ey,l,q3⟩:=zq;subst ex;subst ey;obtain rfl:u=Value.ref a:=rx;exact Lb hu I3 (rY.k ha l) ry rv λs4 I4=>⟨σ,_,I4,q3.at⟩
theorem Lh(hu:X.A.units+1<cLine)(ho:PE X o td)(hi:PE X i ty)(hv:PE X value tv)(hs:swapsWith value (some (.Subscript o i pos')) pos.line X.env=pure false:=by rfl):
  PS X (.Assign [.Subscript o i pos'] value pos) (Za4 td ty tv):=by
 intro pins s σ H D I h;refine wpAny_Assign_Subscript (aB (hv pins s σ H _ I h) λr s1 zq=>?_) hs;obtain⟨v,H1,I1,rv,q1⟩:=zq;refine aB (ho pins s1 σ H1 _ I1 q1) λu s2 zq=>?_;obtain⟨x,H2,I2,rx,q2⟩:=zq;refine aB (hi pins s2 σ H2 _ I2 q2) λiv s3 zq=>?_;obtain⟨y,H3,I3,ry,a,b,kvs,k,ex,ha,ey,hb,l,q3⟩:=zq;subst ex;subst ey;obtain rfl:u=Value.ref a:=rx;exact Lb hu I3 (rY.t ha hb l) ry rv λs4 I4=>⟨σ,_,I4,q3.at⟩
def ZdG(K:ai)(ta tv:TE)(f:Str):TS:=λD σ H=>tv σ H λy H1=>ta σ H1 λx H2=>∃a C dx fs,x=.ref a/\H2 a=some (.ins C dx fs)/\iu K C/\dB K C f/\fs.length<1000/\Ch H2 a (.ins C dx (cP f y fs)) (D.nx σ)
theorem fZ{K:ai}(hK:X.K=K)(ha:PE X o ta)(hv:PE X value tv)(hs:swapsWith value (some (.Attribute o f pos')) pos.line X.env=pure false:=by rfl):PS X (.Assign [.Attribute o f pos'] value pos) (ZdG K ta tv f):=by
 subst hK;intro pins s σ H D I h;refine plainObj_wpAny_Assign_Attribute (aB (hv pins s σ H _ I h) λu s1 zq=>?_) hs;obtain⟨y,H1,I1,ry,q⟩:=zq;refine aB (ha pins s1 σ H1 _ I1 q) λov s2 zq=>?_;obtain⟨x,H2,I2,rx,a,C,dx,fs,ex,ea,c,n,l,q2⟩:=zq;subst ex;obtain rfl:ov=Value.ref a:=rx;exact Ky I2 ea c n l ry λs3 I3=>⟨σ,_,I3,q2.at⟩
end
def xK(x:Str):It:=⟨λi _=>i<x.length,λi H v H'=>H'=H/\∃c,x.cps[i]?=some c/\v=.str ⟨#[c]⟩,λi _=>x.length<=i⟩
theorem UR{P:Program}{w:World}{K:ai}{tg:Expr}(it:Addr)(x:Str)(t:Tok):Turn P w K tg (xK x) [it] it (λi h=>h.IsStrIter it "str_ascii_iterator" x t i) where
 mem:=by simp
 obj:=λi h st b hb=>by
  have e:b=it:=by simpa using hb
  obtain⟨o,e,c,d⟩:=st
  grind
 keep:=λi h h' st k=>let⟨o,e,r⟩:=st;⟨o,k it (by simp) o e,r⟩
 item:=by
  intro X hP hw hK hc i pins s σ H E I hf st hg;obtain⟨f0,f1,f2,f3,f4,f5⟩:=hf it (by simp);have hx:=Je hg;refine wpAny_pyNext_ascii_item st hx λh' aN sb=>?_;obtain⟨o,e,c,d⟩:=id aN;exact⟨_,rfl,rJ e c d (by decide) ⟨.str ⟨#[x.cps[i]]⟩,H,(I.turned (λb o hb e=>(sb.2 b hb).trans e) f0 f1 f3 f4 f5),⟨_,rfl⟩,⟨rfl,_,hx,rfl⟩,aN,λb hb=>(hf b hb).1⟩⟩
 done:=by
  intro X hP hw hK hc i pins s σ H E I hf st hg;obtain⟨f0,f1,f2,f3,f4,f5⟩:=hf it (by simp);exact wpAny_pyNext_ascii_end (I.ok.hd hc) st (J0 hg) λh' eb=>⟨rfl,I.turned (λb o hb e=>eb b o hb e) f0 f1 f3 f4 f5⟩
 self:=λ_ _ _ _ _ st h=>wpAny_pyIter_striter_ascii st h
theorem Vd{P:Program}{w:World}{K:ai}{tg:Expr}(it:Addr)(x:Str)(t:Tok):Turn P w K tg (xK x) [it] it (λi h=>h.IsStrIter it "str_iterator" x t i) where
 mem:=by simp
 obj:=λi h st b hb=>by
  have e:b=it:=by simpa using hb
  obtain⟨o,e,c,d⟩:=st
  grind
 keep:=λi h h' st k=>let⟨o,e,r⟩:=st;⟨o,k it (by simp) o e,r⟩
 item:=by
  intro X hP hw hK hc i pins s σ H E I hf st hg;obtain⟨f0,f1,f2,f3,f4,f5⟩:=hf it (by simp);have hx:=Je hg;refine wpAny_pyNext_wide_item st hx λh' aN sb=>?_;obtain⟨o,e,c,d⟩:=id aN;exact⟨_,rfl,rJ e c d (by decide) ⟨.str ⟨#[x.cps[i]]⟩,H,(I.turned (λb o hb e=>(sb.2 b hb).trans e) f0 f1 f3 f4 f5),⟨_,rfl⟩,⟨rfl,_,hx,rfl⟩,aN,λb hb=>(hf b hb).1⟩⟩
 done:=by
  intro X hP hw hK hc i pins s σ H E I hf st hg;obtain⟨f0,f1,f2,f3,f4,f5⟩:=hf it (by simp);exact wpAny_pyNext_wide_end (I.ok.hd hc) st (J0 hg) λh' eb=>⟨rfl,I.turned (λb o hb e=>eb b o hb e) f0 f1 f3 f4 f5⟩
 self:=λ_ _ _ _ _ st h=>wpAny_pyIter_striter_wide st h
inductive Oq(R:It->Hp->Prop)(v:V)(H1:Hp):Prop
 |mk (x) (aE:v=.str x) (aU:R (xK x) H1):Oq R v H1
def Zeq(te:TE):TI:=λσ H R=>te σ H λv H1=>Oq R v H1
theorem ZcF{X:Cx}{tg l:Expr}{tl:TE}(hl:PE X l tl):PI X tg l (Zeq tl):=by
 intro pins s σ H R I h;refine aB (hl pins s σ H _ I h) λv s1 zq=>?_;obtain⟨x,H1,I1,r1,q1⟩:=zq;obtain⟨z,e,q⟩:=q1;subst e;obtain⟨t,rfl⟩:=r1;have fin:∀b∈[s1.heap.objs.size],ig X pins H1 b:=λb hb=>by
  have e:b=s1.heap.objs.size:=by simpa using hb
  subst e;exact I1.qj (Ye _) (I1.aw.fresh (Ye _))
 cases ha:z.cps.all (·<128) with
 |true=>exact wpAny_pyIter_ascii ha ⟨s1.heap.objs.size,[s1.heap.objs.size],_,_,H1,rfl,I1.kept λb o e=>Yc _ e,UR _ z t,⟨_,Yr _ rfl,rfl,rfl⟩,fin,q⟩
 |false=>exact wpAny_pyIter_wide ha ⟨s1.heap.objs.size,[s1.heap.objs.size],_,_,H1,rfl,I1.kept λb o e=>Yc _ e,Vd _ z t,⟨_,Yr _ rfl,rfl,rfl⟩,fin,q⟩
abbrev sg(c:Nat):V:=.str ⟨#[c]⟩
theorem ZX(Pv:Nat->List V->Hp->Prop)(h0:Pv 0 [] (upd H D (.lst [])))
  (hs:∀(i c:Nat) (ys:List V) (H:Hp),x.cps[i]?=some c->Pv i ys H->tt (some (sg c)::fv) H λb H1=>if b=true then te (some (sg c)::fv) H1 λy H3=>H3 D=some (.lst ys)/\ys.length<sizeLine/\Pv (i+1) (ys++[y]) (upd H3 D (.lst (ys++[y]))) else Pv (i+1) ys H1)
  (hd:∀ys H,Pv x.length ys H->Q (.ref D) H):iS (xK x) tt te fv D H Q:=by
 refine⟨λi m ys H=>m=x.length-i/\i<=x.length/\Pv i ys H,⟨x.length,by simp,Yw _,h0⟩,?_⟩;rintro i m ys H ⟨rfl,hi,p⟩;by_cases bJ:i<x.length
 ·refine .inr ⟨bJ,Pv (i+1),λgw H' p'=>⟨x.length-(i+1),by omega,rfl,bJ,p'⟩,λv H' y=>?_⟩;obtain⟨e,c,hc,rfl⟩:=y
  grind
 ·have e:i=x.length:=by omega
  subst e;exact .inl ⟨Ye _,hd ys H p⟩
theorem YY(hn:x.length<=100000)(hD:H D=none)(f:Nat->V)
  (turn:∀(i c:Nat),x.cps[i]?=some c->∀H1,aj H H1->∀Kt:VK,(∀H3,aj H1 H3->Kt (f c) H3)->te (some (sg c)::fv) H1 Kt)(fin:∀H',aj H H'->H' D=some (.lst (x.cps.toList.map f))->Q (.ref D) H'):iS (xK x) Ae te fv D H Q:=by
 refine ZX (λi ys H1=>i<=x.length/\aj H H1/\H1 D=some (.lst ys)/\ys=(x.cps.toList.take i).map f) ⟨Yw _,cz hD _,aI,rfl⟩ ?_ ?_
 ·rintro i c ys H1 hi ⟨_,g,h1,e⟩;have dG:i<x.length:=(Array.getElem?_eq_some_iff.mp hi).1;refine kT (cW (turn i c hi H1 g _ λH3 g3=>⟨g3 _ _ h1,?_,dG,?_,aI,?_⟩))
  ·rw[e,Ya,Wa,sizeLine_eq];omega
  ·intro b o q;rw[aC (bO q hD)];exact g3 _ _ (g _ _ q)
  ·have iD:x.cps.toList[i]?=some c:=by rw[Jm];exact hi
   rw[e,Y1,iD,Yq];rfl
 ·rintro ys H1 ⟨_,g,h1,e⟩;refine fin H1 g ?_;rw[h1,e,Wk (by show x.cps.toList.length<=x.cps.size;simp)]
end L2
namespace L2
open PySem PySem.W PySem.Spec PyProof.Rows
def ZcG:List V->Hp->VK->Prop:=λxs H Q=>∃(p:Addr) (kvs:List (Key×V)),xs=[.ref p]/\H p=some (.dK kvs)/\Nw H (.lst (kvs.map λkv=>kV kv.1)) Q
theorem Ei:∀{ks:List Key} {us:List Value},us.length=ks.length->(∀(j:Nat) (v:Value),us[j]?=some v->∃k,ks[j]?=some k/\(dv P w).is k v=true)->Vals (ks.map kV) us
 |[],[],_,_=>.nil
 |k::ks,u::us,hl,h=>by
  obtain⟨k',e,hk⟩:=h 0 u rfl;have e':k=k':=by simpa using e
  subst e';refine .cons ?_ (Ei (by simpa using hl) λj v hj=>by simpa using h (j+1) v (by simpa using hj));rcases lG (show rG k u=true from hk) with⟨i,t,rfl,rfl⟩|⟨x,t,rfl,rfl⟩;·exact⟨t,rfl⟩
  ·exact⟨t,rfl⟩
 |[],_::_,hl,_=>by simp at hl
 |_::_,[],hl,_=>by simp at hl
theorem WI(hc:X.calm=true):cZ X (.type "list") ZcG:=by
 rintro pins s σ H xs us Q I r ⟨p,kvs,rfl,hp,q⟩;obtain⟨u,rfl,ru⟩:=vals1 r;obtain rfl:u=Value.ref p:=ru;obtain⟨lim,xf,vs,kv,dd⟩:=mX I.aw hp;obtain⟨ep,da⟩:=dd.dictAt;have kl:=kv.length;refine kdl_call (kdl_dict xf) (I.ok.hd hc) da (by omega) λh' tk acc c kp hD it=>?_;have vals:Vals (kvs.map λkv=>kV kv.1) acc.toList:=by
  have e:(kvs.map λkv=>kV kv.1)=(vs.map (·.1)).map kV:=by rw[←kv.keys,Y9];rfl
  rw[e];refine Ei (P:=X.prog) (w:=X.w) (by rw[Wr,Ya];exact it.1) λj v hj=>?_;obtain⟨k,x,hx,hk⟩:=it.2 j v (by rw[←Jm];exact hj)
  grind
 exact⟨.ref s.heap.objs.size,_,(I.laid (o:=.lst (kvs.map λkv=>kV kv.1)) kp (Ye _) ⟨by rw[Ya];exact lim,acc.toList,c,vals,by rw[Array.toArray_toList];exact hD⟩),rfl,q.at _ (I.aw.fresh (Ye _))⟩
end L2
namespace L2
open PySem PySem.Spec PyProof.Rows
abbrev z4(D:List (Str×Str)):List (Str×PyData):=D.map λp=>(p.1,PyData.str p.2)
def uB(K:ai)(a:Addr)(D:List (Str×Str)):Prop:=KTD.tabLook KTD.flatLooks (λb=>K.lookup b) a (z4 D)=true
theorem wb(f:δ->ε)(k:Str):∀D:List (Str×δ),KTD.datumAt k (D.map λp=>(p.1,f p.2))=(KTD.datumAt k D).map f
 |[]=>rfl
 |p::D=>by
  rw[Wq];unfold KTD.datumAt;by_cases e:k=p.1;·simp[e]
  ·simp only[e];exact wb f k D
theorem uB.here{K:ai}{a:Addr}{D:List (Str×Str)}{h:Heap}(t:uB K a D)(sr:K.In h):KTD.Here h h a ((z4 D).map λp=>(p.1,KTD.Dat.flat p.2)):=
 ⟨KTD.TabOf.text (KTD.tab_of_look (λ_ _=>KTD.flat_of_looks) (λa o e=>sr a o e) t),λ_ _ e=>e⟩
def m7(D:List (Str×Str))(z:Str):Bool:=(KTD.datumAt z D).isSome
theorem keys_has(D:List (Str×Str))(z:Str):KTD.inKeys z ((z4 D).map λp=>(p.1,KTD.Dat.flat p.2))=m7 D z:=by
 rw[←KTD.isSome_datumAt,wb KTD.Dat.flat,wb PyData.str];unfold m7
 grind
def ZcH(K:ai)(neg:Bool):R2:=λx y H Q=>∃(z:Str) (a:Addr) (D:List (Str×Str)),x=.str z/\y=.ref a/\uB K a D/\Q (.bl (if neg=true then !m7 D z else m7 D z)) H
theorem ZcI{X:Cx}{K:ai}(hK:X.K=K):cD X (compareOp .In) (ZcH K false):=by
 subst hK;rintro pins s σ H x y v u Q I rx ry ⟨z,a,D,rfl,rfl,t,q⟩;obtain⟨tk,rfl⟩:=rx;obtain rfl:u=Value.ref a:=ry;refine KTD.in_text (t.here I.dE) ?_;rw[keys_has];exact⟨.bl (m7 D z),H,I.tok _,rfl,q⟩
def ZcJ(K:ai):R2:=λx y H Q=>∃(a:Addr) (z r:Str) (D:List (Str×Str)),x=.ref a/\y=.str z/\uB K a D/\KTD.datumAt z D=some r/\Q (.str r) H
theorem Za5{X:Cx}{K:ai}(hK:X.K=K):iy X (ZcJ K):=by
 subst hK;intro value slice pins s σ H x y v u Q I rx ry h hs;obtain⟨a,z,r,D,rfl,rfl,t,e,q⟩:=h;obtain⟨tk,rfl⟩:=ry;obtain rfl:v=Value.ref a:=rx;have T:=t.here I.dE;refine tail_any T.typeIs slot_dict_getitem.lookup ?_ hs;unfold getItem;try with_reducible refine wpAny_holding ?_
 refine wpAny_bind (wpAny_sequenceKey T.typeIs (by decide) ?_);refine wpAny_bind (wpAny_callSpecial?_slot T.typeIs slot_dict_getitem
  (wpAny_call_entry slot_dict_getitem T.typeIs entry_dict_getitem ?_ (args_dict_getitem _ _)))
 show wpAny _ _ (dictGet a (.str z tk)>>=_) _ _ s;have ed:KTD.datumAt z ((z4 D).map λp=>(p.1,KTD.Dat.flat p.2))=some (.flat (.str r)):=by rw[wb KTD.Dat.flat,wb PyData.str,e];rfl
 refine wpAny_bind (KTD.dictGet_text T (λd v ha hv=>wpAny_pure ⟨v,rfl,wpAny_pure ?_⟩) λhn=>by rw[ed] at hn;cases hn);rw[ed] at ha;cases ha;cases hv s.heap with
 |str x t'=>exact⟨.str r,H,I.tok _,⟨t',rfl⟩,q⟩
theorem qb(h:bT X.prog X.w X.K X.mg X.base k m C ps sp)(hr:c7 j X.A)(hj:k<=j)(ho:PE X o ta)
  (ht:eval (.Call (.Attribute o m apos) [] [] pos) X.env=(do
   let ov←eval o X.env
   standAt apos.atName
   let(f,first)←holding [ov] (getMethod ov m pl)
   callWith pos f first (backTo pos (starEach [] X.env)) (backToKw pos (keywordEach [] X.env))):=by rfl):
  PE X (.Call (.Attribute o m apos) [] [] pos) (zW C m sp [] E0 ta iY):=by
 obtain⟨f,fd,c,hm,F,b⟩:=h;exact ZD ho c hm F (hr.mono hj) b .nil zX ht
def Ag(K:ai)(neg:Bool):R2:=λx y H Q=>∃(p q:Addr) (xs:List V),x=.ref p/\y=.ref q/\ak K H p xs/\ak K H q []/\Q (.bl (if neg=true then !xs.isEmpty else xs.isEmpty)) H
theorem ZcK(hu:X.A.units<cLine):cD X (compareOp .Eq) (Ag X.K false):=by
 rintro pins s σ H x y v u Q I rx ry ⟨p,q,xs,rfl,rfl,h1,h2,k⟩;cases rx;cases ry;obtain⟨ah,r1,p1,z1⟩:=I.list h1;obtain⟨ij,r2,p2,z2⟩:=I.list h2;cases r2;have l1:=r1.length;cases xs with
 |nil=>
  cases r1;exact SeqAt.eq_listAt (e:=λ_=>true) p1.isList p2.isList rfl hu (λj h1 _=>absurd h1 (by simp)) (cF I k (by simp))
 |cons a r=>exact SeqAt.eq_list_lengthsAt p1.isList p2.isList (by simp;intro z;subst z;simp at l1) hu (cF I k (by simp))
theorem ZcL(hu:X.A.units<cLine):cD X (compareOp .NotEq) (Ag X.K true):=by
 rintro pins s σ H x y v u Q I rx ry ⟨p,q,xs,rfl,rfl,h1,h2,k⟩;cases rx;cases ry;obtain⟨ah,r1,p1,z1⟩:=I.list h1;obtain⟨ij,r2,p2,z2⟩:=I.list h2;cases r2;have l1:=r1.length;cases xs with
 |nil=>
  cases r1;exact SeqAt.RcNeAt.lists (e:=λ_=>true) p1.isList p2.isList rfl hu (λj h1 _=>absurd h1 (by simp)) _ _ _ _ (cF I k (by simp))
 |cons a r=>exact SeqAt.RcNeAt.lists_lengths p1.isList p2.isList (by simp;intro z;subst z;simp at l1) hu _ _ _ _ (cF I k (by simp))
theorem Xs:cZ X (.builtin "len") (λxs H Q=>∃p kvs,xs=[.ref p]/\H p=some (.dK kvs)/\Q (.int (kvs.length:Int)) H):=by
 rintro pins s σ H xs us Q I r ⟨p,kvs,rfl,hp,q⟩;obtain⟨u,rfl,ru⟩:=vals1 r;obtain rfl:u=Value.ref p:=ru;exact ZdC I (.inl hp) λt s' I'=>⟨.int (kvs.length:Int),H,I',⟨t,rfl⟩,q⟩
theorem ay.trans(g:ay D H H')(g':ay D H' Hy):ay D H Hy:=λb o e n=>g' b o (g b o e n) n
def Out(fp:List Addr)(H H':Hp):Prop:=∀b o,H b=some o->b∉fp->H' b=some o
theorem Out.of(g:aj H H'):Out fp H H':=λb o e _=>g b o e
theorem Out.trans(g:Out fp H H')(g':Out fp H' Hy):Out fp H Hy:=λb o e n=>g' b o (g b o e n) n
theorem Out.bar(g:ay a H H')(m:a∈fp):Out fp H H':=λb o e n=>g b o e λz=>n (by rw[z];exact m)
theorem setC(h:u D (σ.set i (some v)) H):wW (uy (tC v) (rH i)) u D σ H:=h
theorem cq(h:te σ H λx H1=>u D (σ.set i (some x)) H1):wW (uy te (rH i)) u D σ H:=h
theorem cU(h:H a=some (.dK kvs))(e:aS kvs (.inr z)=o):eA H a (.str z) o:=.inl ⟨kvs,.inr z,.inl h,rfl,e.symm⟩
section
variable {X:Cx}{elt iter tgt:Expr}{xs:List Str}{pos:Pos}{ifs:List Expr}{scope:Scope}{cl:List (Str×Addr)}{fr:List (Str×Nat)}{tg:TG}{tt:TT}{te:TE}{pins:aZ}{σ:St}
def ZcM(n:Nat)(wi:TI)(fr:List (Str×Nat))(tg:TG)(tt:TT)(te:TE):TE:=λσ H Q=>wi σ H λJ H1=>∀D,H1 D=none->Fp n J tg tt te (gh σ fr) D H1 Q
theorem ZY(hc:X.calm=true)(S:pL X scope cl xs fr)(hg:∀C s H fp,PG (cO X xs fr scope cl C s H fp) tgt tg)(hi:PI X tgt iter wi)
  (ht:∀C s H fp,uT (cO X xs fr scope cl C s H fp) ifs tt)(he:∀C s H fp,PE (cO X xs fr scope cl C s H fp) elt te)
  (hs:∀x,foldedSetIterable iter X.env x=pure x:=by intro _;rfl):PE X (.ListComp elt [⟨tgt,iter,ifs,0⟩] scope pos) (ZcM xs.length wi fr tg tt te):=by
 intro pins s σ H Q I h;refine wpAny_comprehension_free rfl hs S.wZ S.kind S.names (aB (hi pins s σ H _ I h) λv s1 h1=>aB h1 λuO s2 h2=>?_);obtain⟨it,fp,tn,J,H2,e,I2,T,eZ,f2,hw⟩:=h2;subst e;refine Kz (RR:=λacc C=>compPost X.md X.A X.xe none (EP X pins σ Q) acc C) hc S hg ht he I2 T eZ f2 hw ?_;intro D C s1 H1 m I1 hn f0 f1 f3 f4 f5 q;exact⟨m,hn,λh' pd=>⟨.ref D,H1,I1.turned (λb o hb e=>pd.extBut b o hb e) f0 f1 (.inr f3) f4 f5,rfl,q⟩⟩
end
theorem Xt{K:ai}{a:Addr}{xs:List V}{n:Nat}{tg:TG}{tt:TT}{te:TE}{fv:St}{D:Addr}{H:Hp}{Q:VK}(Pv:Nat->List V->Hp->Prop)(h0:Pv 0 [] (upd H D (.lst [])))(hl:∀i ys H,i<=xs.length->Pv i ys H->ak K H a xs)
  (hs:∀i v ys H,xs[i]?=some v->Pv i ys H->∀os:St,os.length=n->tg v (os++fv) H λdq H2=>(∃jR:St,jR.length=n/\dq=jR++fv)/\tt dq H2 λc H1=>if c=true then te dq H1 λy H3=>H3 D=some (.lst ys)/\ys.length<sizeLine/\Pv (i+1) (ys++[y]) (upd H3 D (.lst (ys++[y]))) else Pv (i+1) ys H1)
  (hd:∀ys H,Pv xs.length ys H->Q (.ref D) H):Fp n (jt K a) tg tt te fv D H Q:=by
 refine⟨λi m ys H=>m=xs.length-i/\i<=xs.length/\Pv i ys H,⟨xs.length,by simp,Yw _,h0⟩,?_⟩;rintro i m ys H ⟨rfl,hi,p⟩;have q:=hl i ys H hi p;by_cases bJ:i<xs.length
 ·refine .inr ⟨⟨xs,xs[i],q,by simp[bJ]⟩,Pv (i+1),λgw H' p'=>⟨xs.length-(i+1),by omega,rfl,bJ,p'⟩,λx H' y=>?_⟩;obtain⟨e,y⟩:=y
  grind
 ·have e:i=xs.length:=by omega
  subst e;exact .inl ⟨⟨xs,q,Ye _⟩,hd ys H p⟩
abbrev qB(elt t1 i1 t2 i2:Expr)(scope:Scope)(pos:Pos):Expr:=.ListComp elt [⟨t1,i1,[],0⟩,⟨t2,i2,[],0⟩] scope pos
section
variable {prog:Program}{w:World}{A:Around}{R:Result->Shared->Prop}{s:Shared}{elt t1 i1 t2 i2:Expr}{scope:Scope}{pos:Pos}{it acc:Value}{env:Env}
theorem YZ(I:Nat->Shared->Prop)
  (turn:∀n s,I n s->wpAny (model prog w) A (pyNext it) (λr bG=>match r with
   |none=>R (.ok .next) bG
   |some v=>wpAny (model prog w) A (letOwnedTupleGo t2 it v) (λ_ cT=>wpAny (model prog w) A (assign t2 env v) (λ_ d_=>
     wpAny (model prog w) A (eval elt env) (λx ik=>
       wpAny (model prog w) A (call (.builtin "list.append") [acc,x]) (λ_ lW=>∃m,m<n/\I m lW) (notedBy (model prog w) A env λe s'=>R (.error e) s') ik) (notedBy (model prog w) A env λe s'=>R (.error e) s') d_) (notedBy (model prog w) A env λe s'=>R (.error e) s') cT) (notedBy (model prog w) A env λe s'=>R (.error e) s') bG) (notedBy (model prog w) A env λe s'=>R (.error e) s') s)
  (n:Nat)(h:I n s):codeAny (model prog w) A (.compLoop (qB elt t1 i1 t2 i2 scope pos) 1 it acc env) R s:=by
 refine codeAny_loop rfl I (λn s hI=>wpAny_noted (wpAny_bind (wpAny_standAt (wpAny_bind (wpAny_mono (turn n s hI) (λr bG gq=>?_) λ_ _ h'=>h'))))) n h;cases r with
 |none=>exact wpAny_pure gq
 |some v=>
  exact wpAny_bind (wpAny_mono gq (λ_ cT h₀=>wpAny_bind (wpAny_mono h₀ (λ_ d_ oM=>wpAny_bind (wpAny_tests_nil (wpAny_bind (wpAny_bind (wpAny_mono oM (λx ik w8=>wpAny_bind (wpAny_mono w8 (λ_ lW w_=>wpAny_pure (wpAny_pure ⟨rfl,w_⟩)) λ_ _ h'=>h')) λ_ _ h'=>h'))))) λ_ _ h'=>h')) λ_ _ h'=>h')
theorem Y_(hs:∀x,foldedSetIterable i2 env x=pure x)(I:Nat->Shared->Prop)
  (turn:∀n s,I n s->wpAny (model prog w) A (pyNext it) (λr bG=>match r with
   |none=>R (.ok .next) bG
   |some v=>wpAny (model prog w) A (letOwnedTupleGo t1 it v) (λ_ cT=>wpAny (model prog w) A (assign t1 env v) (λ_ d_=>
     wpAny (model prog w) A (eval i2 env) (λx dX=>wpAny (model prog w) A (pyIter x) (λAZ ik=>
      codeAny (model prog w) A (.compStart (qB elt t1 i1 t2 i2 scope pos) 1 AZ acc env) (λr lW=>match r with|.ok _=>∃m,m<n/\I m lW|.error _=>False) ik)
      (notedBy (model prog w) A env λe s'=>R (.error e) s') dX) (notedBy (model prog w) A env λe s'=>R (.error e) s') d_) (notedBy (model prog w) A env λe s'=>R (.error e) s') cT) (notedBy (model prog w) A env λe s'=>R (.error e) s') bG) (notedBy (model prog w) A env λe s'=>R (.error e) s') s)
  (n:Nat)(h:I n s):codeAny (model prog w) A (.compLoop (qB elt t1 i1 t2 i2 scope pos) 0 it acc env) R s:=by
 refine codeAny_loop rfl I (λn s hI=>wpAny_noted (wpAny_bind (wpAny_standAt (wpAny_bind (wpAny_mono (turn n s hI) (λr bG gq=>?_) λ_ _ h'=>h'))))) n h;cases r with
 |none=>exact wpAny_pure gq
 |some v=>
  refine wpAny_bind (wpAny_mono gq (λ_ cT h₀=>wpAny_bind (wpAny_mono h₀ (λ_ d_ oM=>wpAny_bind (wpAny_tests_nil (wpAny_bind (wpAny_mono oM (λx dX uA=>wpAny_bind (wpAny_standAt ?_)) λ_ _ h'=>h')))) λ_ _ h'=>h')) λ_ _ h'=>h');rw[hs];refine wpAny_bind (wpAny_pure (wpAny_bind (wpAny_holding (wpAny_mono uA (λAZ ik w8=>wpAny_bind (wpAny_runOwn (codeAny_mono w8 λr lW w_=>?_))) λ_ _ h'=>h'))));cases r with
  |error e=>grind
  |ok f=>exact wpAny_pure ⟨rfl,w_⟩
theorem VD
  (h0:codeAny (model prog w) A (.compLoop (qB elt t1 i1 t2 i2 scope pos) 1 it acc env) R s)
  (h:wpAny (model prog w) A (pyIter it) (λHz s'=>codeAny (model prog w) A (.compLoop (qB elt t1 i1 t2 i2 scope pos) 1 Hz acc env) R s') (notedBy (model prog w) A env λx s'=>R (.error x) s') s):
  codeAny (model prog w) A (.compStart (qB elt t1 i1 t2 i2 scope pos) 1 it acc env) R s:=by
 refine codeAny_of_tree (wpAny_notedAt (wpAny_bind (wpAny_askSetting (wpAny_ite ?_))));split
 ·first
   |exact wpAny_bind (wpAny_pure (wpAny_pure (And.intro rfl h0)))
   |exact wpAny_pure (And.intro rfl h0)
 ·first
   |exact wpAny_bind (wpAny_rule (wpAny_bind (wpAny_standAt (wpAny_bind (wpAny_mono h (λHz s' h'=>wpAny_pure (And.intro rfl h')) λ_ _ x=>x)))))
   |(refine wpAny_bind (wpAny_rule ?_);show wpAny _ _ (standAt i2.pos>>=_) _ _ s;exact wpAny_bind (wpAny_standAt (wpAny_bind (wpAny_mono h (λHz s' h'=>wpAny_pure (And.intro rfl h')) λ_ _ x=>x))))
end
def Fw(n:Nat)(J:It)(jS:TG)(jT:TI)(l9:TG)(te:TE)(fv:St)(D:Addr)(H:Hp)(Q:VK):Prop:=
 ∃W:Nat->Nat->List V->Hp->Prop,(∃m,W 0 m [] (upd H D (.lst [])))/\∀i m ys H,W i m ys H->
  (J.stop i H/\Q (.ref D) H)\/(J.go i H/\∃N:List V->Hp->Prop,(∀gw H',N gw H'->∃m',m'<m/\W (i+1) m' gw H')/\
   ∀v H',J.qx i H v H'->∀os:St,os.length=n->jS v (os++fv) H' λdq H2=>(∃jR:St,jR.length=n/\dq=jR++fv)/\jT dq H2 λJ2 H3=>
    ∃W2:Nat->Nat->List V->St->Hp->Prop,(∃m2,W2 0 m2 ys dq H3)/\∀i2 m2 fT cK H4,W2 i2 m2 fT cK H4->
     (J2.stop i2 H4/\(∃uV:St,uV.length=n/\cK=uV++fv)/\N fT H4)\/(J2.go i2 H4/\∃N2:List V->St->Hp->Prop,(∀gw aO H',N2 gw aO H'->∃m',m'<m2/\W2 (i2+1) m' gw aO H')/\
      ∀v2 H5,J2.qx i2 H4 v2 H5->l9 v2 cK H5 λxM H6=>te xM H6 λy H7=>H7 D=some (.lst fT)/\fT.length<sizeLine/\N2 (fT++[y]) xM (upd H7 D (.lst (fT++[y])))))
section
variable {X:Cx}{elt t1 i1 t2 i2:Expr}{xs:List Str}{pos:Pos}{scope:Scope}{cl:List (Str×Addr)}{fr:List (Str×Nat)}{jS l9:TG}{jT:TI}{te:TE}{pins:aZ}{σ:St}
theorem Xu{H2:Hp}{s2:Shared}{it:Addr}{fp:List Addr}{tn:Nat->Heap->Prop}{J:It}{Q:VK}{RR:Value->Addr->Result->Shared->Prop}{E:bb}
  (hc:X.calm=true)(S:pL X scope cl xs fr)(hg:∀C s H fp,PG (cO X xs fr scope cl C s H fp) t1 jS)(HI:∀C s H fp,PI (cO X xs fr scope cl C s H fp) t2 i2 jT)(HJ:∀C s H fp,PG (cO X xs fr scope cl C s H fp) t2 l9)(he:∀C s H fp,PE (cO X xs fr scope cl C s H fp) elt te)
  (qz:∀C x,foldedSetIterable i2 (compEnvC scope cl C X.env) x=pure x)
  (I2:Inv X pins σ H2 s2)(T:Turn X.prog X.w X.K t1 J fp it tn)(eZ:tn 0 s2.heap)(f2:∀b∈fp,ig X pins H2 b)
  (hw:∀D,H2 D=none->Fw xs.length J jS jT l9 te (gh σ fr) D H2 Q)
  (hR:∀D C s1 H1 m,Inv X pins σ H1 s1->s1.heap.Ns C m->H1 C=none->C≠X.env.locals->X.cT.heap.objs.size<=C->(∀y c,X.env.cells.lookup y=some c->c≠C)->(∀p∈X.pn++pins,p.1≠C)->Q (.ref D) H1->RR (.ref D) C (.ok .next) s1):
  wpAny X.md X.A (newList []) (λacc dX=>wpAny X.md X.A (newFunctionEnv scope X.env.globals cl [] X.env.qual none .none (some X.env)) (λlX ik=>
   codeAny X.md X.A (.compStart (qB elt t1 i1 t2 i2 scope pos) 0 (.ref it) acc {lX with scope:=relabel scope X.env}) (RR acc lX.locals) ik) E dX) E s2:=by
 refine LM (tgt:=t1) (iter:=i1) (ifs:=[]) (rest:=[⟨t2,i2,[],0⟩]) S I2 T eZ f2 hR λD C s H3 dX hD e3 I4 uU uQ fin=>?_;obtain⟨W,⟨m0,w0⟩,turn⟩:=hw D hD;rw[←e3] at w0;refine Y_ (qz _) (λk s'=>∃i ys H' os,os.length=xs.length/\Inv (cO X xs fr scope cl C s H3 fp) [] (os++gh σ fr) H' s'/\tn i s'.heap/\(∀b∈fp,H' b=none)/\W i k ys H') ?_ m0
  ⟨0,[],_,List.replicate xs.length none,W0,I4,uU,uQ,w0⟩
 rintro n s5 ⟨i,ys,H5,os,oW,I5,oS,oU,w5⟩;have lU:∀{H':Hp},(∀b∈fp,H' b=none)->∀b∈fp,ig (cO X xs fr scope cl C s H3 fp) [] H' b:=λ{H'} hn b hb=>
  ⟨hn b hb,(I5.ok.uK b hb).1,I5.ok.ux b hb,.inl hb,(I5.ok.uK b hb).2,λp hp=>absurd (show p∈([]:aZ) from hp) (by simp)⟩
 rcases turn i n ys H5 w5 with⟨stop,qn⟩|⟨go,N,hN,step⟩
 ·refine aB (T.done (cO X xs fr scope cl C s H3 fp) rfl rfl rfl hc i [] s5 _ H5 _ I5 (lU oU) oS stop) λr s6 zq=>?_;obtain⟨hr,I6⟩:=zq;subst hr;exact fin _ _ _ I6 qn
 ·refine aB (T.item (cO X xs fr scope cl C s H3 fp) rfl rfl rfl hc i [] s5 _ H5 _ I5 (lU oU) oS go) λr s6 zq=>?_;obtain⟨u,hr,h6⟩:=zq;subst hr;refine aB h6 λ_ s7 zq=>?_;obtain⟨v,H7,I7,r7,y7,sy,xF⟩:=zq;have G_:=I7.pinned (lU xF) (T.obj _ _ sy);refine wpAny_mono (hg _ _ _ _ _ s7 _ H7 v u _ G_ r7 (step v H7 y7 os oW)) (λ_ s8 zq=>?_) λ_ _ z=>False.elim z;obtain⟨σ8,H8,I8,⟨jR,Gj,e8⟩,q8⟩:=zq;subst e8;have again:∀{oX:St} {H9:Hp} {s9:Shared} {oY:List V},oX.length=xs.length->Inv (cO X xs fr scope cl C s H3 fp) ([]++p_ fp s7.heap) (oX++gh σ fr) H9 s9->N oY H9->
    ∃m,m<n/\∃i ys H' os,os.length=xs.length/\Inv (cO X xs fr scope cl C s H3 fp) [] (os++gh σ fr) H' s9/\tn i s9.heap/\(∀b∈fp,H' b=none)/\W i m ys H':=λ{oX H9 s9 oY} l1 I9 n9=>by
   obtain⟨m',hm,w9⟩:=hN oY H9 n9;refine⟨m',hm,i+1,oY,H9,oX,l1,I9.t6,T.keep _ _ _ sy λb hb o e=>(I9.pin (b,o) (Yp _ (Yp _ (pK hb e)))).1,λb hb=>?_,w9⟩;obtain⟨o,e,d⟩:=T.obj _ _ sy b hb;exact(I9.pin (b,o) (Yp _ (Yp _ (pK hb e)))).2.1
  refine wpAny_mono (HI _ _ _ _ _ s8 _ H8 _ I8 q8) (λx s9 h9=>wpAny_mono h9 (λuO Hq h10=>?_) λ_ _ z=>False.elim z) λ_ _ z=>False.elim z;obtain⟨AZ,HK,tn2,J2,oZ,pj,Hs,T2,Qj,HL,W2,⟨m2,w2⟩,ZdH⟩:=h10;subst pj;have FT:∀{H':Hp},(∀b∈HK,H' b=none)->∀b∈HK,ig (cO X xs fr scope cl C s H3 fp) ([]++p_ fp s7.heap) H' b:=λhn b hb=>⟨hn b hb,(HL b hb).2⟩;have Po:codeAny X.md X.A (.compLoop (qB elt t1 i1 t2 i2 scope pos) 1 (.ref AZ) (.ref D) (compEnvC scope cl C X.env)) (λr lW=>match r with|.ok _=>∃m,m<n/\∃i ys H' os,os.length=xs.length/\Inv (cO X xs fr scope cl C s H3 fp) [] (os++gh σ fr) H' lW/\tn i lW.heap/\(∀b∈fp,H' b=none)/\W i m ys H'|.error _=>False) Hq:=by
   refine YZ (λk s'=>∃j zs aO H',Inv (cO X xs fr scope cl C s H3 fp) ([]++p_ fp s7.heap) aO H' s'/\tn2 j s'.heap/\(∀b∈HK,H' b=none)/\W2 j k zs aO H') ?_ m2 ⟨0,ys,_,oZ,Hs,Qj,λb hb=>(HL b hb).1,w2⟩;rintro k Hu ⟨j,zs,Zer,xG,AW,Qk,Ql,w11⟩;rcases ZdH j k zs Zer xG w11 with⟨stop,⟨uV,Zes,e3⟩,qn⟩|⟨go,N2,hN2,ZdI⟩
   ·refine aB (T2.done (cO X xs fr scope cl C s H3 fp) rfl rfl rfl hc j _ Hu _ xG _ AW (FT Ql) Qk stop) λr s12 zq=>?_;obtain⟨hr,I12⟩:=zq;subst hr;subst e3;exact again Zes I12 qn
   ·refine aB (T2.item (cO X xs fr scope cl C s H3 fp) rfl rfl rfl hc j _ Hu _ xG _ AW (FT Ql) Qk go) λr s12 zq=>?_;obtain⟨u2,hr,A0⟩:=zq;subst hr;refine aB A0 λ_ s13 zq=>?_;obtain⟨v2,A1,I13,r13,y13,Gm,Zet⟩:=zq;have Zeu:=I13.pinned (FT Zet) (T2.obj _ _ Gm);refine wpAny_mono (HJ _ _ _ _ _ s13 _ A1 v2 u2 _ Zeu r13 (ZdI v2 A1 y13)) (λ_ s14 zq=>?_) λ_ _ z=>False.elim z;obtain⟨Zev,qC,I14,q14⟩:=zq;refine wpAny_mono (he _ _ _ _ _ s14 _ qC _ I14 q14) (λu1 s15 zq=>?_) λ_ _ z=>False.elim z;obtain⟨y,HM,I15,r15,hD,hz,l_⟩:=zq;refine wpAny_mono (n5 (X:=cO X xs fr scope cl C s H3 fp) _ s15 _ HM (.ref D) [y] _ [u1] (λ_ H'=>N2 (zs++[y]) Zev H') I15 rfl (.cons r15 .nil) ⟨_,zs,y,rfl,rfl,hD,hz,l_⟩) (λ_ s16 zq=>?_) λ_ _ z=>False.elim z;obtain⟨_,Ry,HN,_,q16⟩:=zq;obtain⟨m',hm,w16⟩:=hN2 _ _ _ q16;refine⟨m',hm,j+1,_,_,Ry,HN.t6,T2.keep _ _ _ Gm λb hb o e=>(HN.pin (b,o) (Yp _ (Yp _ (pK hb e)))).1,λb hb=>?_,w16⟩;obtain⟨o,e,d⟩:=T2.obj _ _ Gm b hb;exact(HN.pin (b,o) (Yp _ (Yp _ (pK hb e)))).2.1
  exact VD Po (T2.self _ 0 _ _ _ Qj Po)
def ZcN(n:Nat)(wi:TI)(fr:List (Str×Nat))(jS:TG)(jT:TI)(l9:TG)(te:TE):TE:=λσ H Q=>wi σ H λJ H1=>∀D,H1 D=none->Fw n J jS jT l9 te (gh σ fr) D H1 Q
theorem ZZ(hc:X.calm=true)(S:pL X scope cl xs fr)(hg:∀C s H fp,PG (cO X xs fr scope cl C s H fp) t1 jS)(hi:PI X t1 i1 wi)(HI:∀C s H fp,PI (cO X xs fr scope cl C s H fp) t2 i2 jT)(HJ:∀C s H fp,PG (cO X xs fr scope cl C s H fp) t2 l9)
  (he:∀C s H fp,PE (cO X xs fr scope cl C s H fp) elt te)(hs:∀x,foldedSetIterable i1 X.env x=pure x:=by intro _;rfl)(qz:∀C x,foldedSetIterable i2 (compEnvC scope cl C X.env) x=pure x:=by intro _ _;rfl):
  PE X (.ListComp elt [⟨t1,i1,[],0⟩,⟨t2,i2,[],0⟩] scope pos) (ZcN xs.length wi fr jS jT l9 te):=by
 intro pins s σ H Q I h;refine wpAny_comprehension_free rfl hs S.wZ S.kind S.names (aB (hi pins s σ H _ I h) λv s1 h1=>aB h1 λuO s2 h2=>?_);obtain⟨it,fp,tn,J,H2,e,I2,T,eZ,f2,hw⟩:=h2;subst e;refine Xu (RR:=λacc C=>compPost X.md X.A X.xe none (EP X pins σ Q) acc C) hc S hg HI HJ he qz I2 T eZ f2 hw ?_;intro D C s1 H1 m I1 hn f0 f1 f3 f4 f5 q;exact⟨m,hn,λh' pd=>⟨.ref D,H1,I1.turned (λb o hb e=>pd.extBut b o hb e) f0 f1 (.inr f3) f4 f5,rfl,q⟩⟩
end
theorem fO{X:Cx}{K:ai}{tg l:Expr}{tl:TE}(h:X.K=K)(hl:PE X l tl):PI X tg l (Pa K tl):=h▸MK hl
theorem iO{X:Cx}{K:ai}{pos:Pos}{es:List Expr}{k:Nat}{t:ny}{n:Nat}(h:X.K=K)(hc:X.calm=true)(hg:xw X es t)
  (hn:(assignEach es X.env).length=n:=by rfl)(dZ:(assignEach es X.env).findIdx? (·.1)=none:=by rfl):PG X (.Tuple es k pos) (P5 K n t):=h▸Zb0 hc hg hn dZ
theorem Za6{K:ai}{a:Addr}{xs:List V}{n:Nat}{jS:TG}{jT:TI}{l9:TG}{te:TE}{fv:St}{D:Addr}{H:Hp}{Q:VK}(Pv:Nat->List V->Hp->Prop)(h0:Pv 0 [] (upd H D (.lst [])))(hl:∀i ys H,i<=xs.length->Pv i ys H->ak K H a xs)
  (hs:∀i v ys H,xs[i]?=some v->Pv i ys H->∀os:St,os.length=n->jS v (os++fv) H λdq H2=>(∃jR:St,jR.length=n/\dq=jR++fv)/\jT dq H2 λJ2 H3=>∃(b:Addr) (zs:List V) (Pw:Nat->List V->St->Hp->Prop),J2=jt K b/\Pw 0 ys dq H3/\
   (∀k ys σ H,k<=zs.length->Pw k ys σ H->ak K H b zs)/\
   (∀k v2 ys σ H,zs[k]?=some v2->Pw k ys σ H->l9 v2 σ H λxM H6=>te xM H6 λy H7=>H7 D=some (.lst ys)/\ys.length<sizeLine/\Pw (k+1) (ys++[y]) xM (upd H7 D (.lst (ys++[y]))))/\
   ∀ys σ H,Pw zs.length ys σ H->(∃uV:St,uV.length=n/\σ=uV++fv)/\Pv (i+1) ys H)
  (hd:∀ys H,Pv xs.length ys H->Q (.ref D) H)(ZdJ:∀σ H (R R':It->Hp->Prop),(∀J H,R J H->R' J H)->jT σ H R->jT σ H R')(ZdK:∀v σ H (R R':St->Hp->Prop),(∀σ H,R σ H->R' σ H)->jS v σ H R->jS v σ H R'):Fw n (jt K a) jS jT l9 te fv D H Q:=by
 refine⟨λi m ys H=>m=xs.length-i/\i<=xs.length/\Pv i ys H,⟨xs.length,by simp,Yw _,h0⟩,?_⟩;rintro i m ys H ⟨rfl,hi,p⟩;have q:=hl i ys H hi p;by_cases bJ:i<xs.length
 ·refine .inr ⟨⟨xs,xs[i],q,by simp[bJ]⟩,Pv (i+1),λgw H' p'=>⟨xs.length-(i+1),by omega,rfl,bJ,p'⟩,λx H' y os oW=>?_⟩;obtain⟨e,y⟩:=y;subst e;refine ZdK _ _ _ _ _ (λdq H2 ⟨h1,h2⟩=>⟨h1,ZdJ _ _ _ _ (λJ2 H3 h3=>?_) h2⟩) (hs i x ys _ (y xs q) p os oW);obtain⟨b,zs,Pw,rfl,w0,wl,ws,wd⟩:=h3;refine⟨λk m2 fT cK H4=>m2=zs.length-k/\k<=zs.length/\Pw k fT cK H4,⟨zs.length,by simp,Yw _,w0⟩,?_⟩;rintro k m2 fT cK H4 ⟨rfl,hk,w⟩;have q2:=wl k fT cK H4 hk w;by_cases A2:k<zs.length
  ·refine .inr ⟨⟨zs,zs[k],q2,by simp[A2]⟩,Pw (k+1),λgw aO H' p'=>⟨zs.length-(k+1),by omega,rfl,A2,p'⟩,λv2 H5 y2=>?_⟩;obtain⟨e2,y2⟩:=y2;subst e2;exact ws k v2 fT cK _ (y2 zs q2) w
  ·have e:k=zs.length:=by omega
   subst e;exact .inl ⟨⟨zs,q2,Ye _⟩,(wd fT cK H4 w).1,(wd fT cK H4 w).2⟩
 ·have e:i=xs.length:=by omega
  subst e;exact .inl ⟨⟨xs,q,Ye _⟩,hd ys H p⟩
section
variable {prog:Program}{w:World}{κ:Type}[DecidableEq κ]{knd:PySem.KeyKind prog w κ}{A:Around}{E:bb}{s:Shared}
theorem TU{d:Addr}{kvs:List (κ×Value)}{k:κ}{key dflt:Value}{Q:bb}(m6:knd.is k key=true)(hm:s.heap.DictOf knd d kvs)
  (ZcO:∀v,valueAt kvs k=some v->Q v {s with toks:=s.toks+1})
  (Zew:valueAt kvs k=none->∀h',h'.DictOf knd d (stored kvs k dflt)->Heap.SameBut d s.heap h'->Q dflt {s with heap:=h',toks:=s.toks+1})
  (hsz:kvs.length<=sizeLine):wpAny (model prog w) A (dictSetDefault d key dflt) Q E s:=by
 obtain⟨o,es,ep,ho,hc,hd,hk,hp,hn⟩:=hm;have hes:es.size<=sizeLine:=by
  have e1:=hp.length
  grind
 have hf:∀x,findBy knd.is es x=valueAt kvs x:=λx=>by
  rw[←hp.find x];simp[findBy]
 unfold dictSetDefault;try with_reducible refine wpAny_holding ?_
 refine wpAny_bind (knd.pyHash m6 (wpAny_bind (wpAny_dictFind_of m6 ho hd hk ?_)));have Zgp:(es.findIdx? λe=>knd.is k e.key)=kvs.findIdx? λkv=>decide (kv.1=k):=by
  rw[←hp.findIdx k];obtain⟨l⟩:=es;simp
 cases hi:es.findIdx? λe=>knd.is k e.key with
 |some i=>
  have A3:valueAt kvs k=(es[i]?).map (·.val):=by rw[←hf k,findBy_of_findIdx?,hi]
  refine wpAny_bind (wpAny_dictEntries ho hd ?_);cases he:es[i]? with
  |none=>
   have:=Array.findIdx?_eq_some_iff_findIdx_eq.mp hi
   grind
  |some e=>
   rw[he] at A3;exact wpAny_bind (wpAny_rule (wpAny_pure (ZcO e.val A3)))
 |none=>
  have A3:valueAt kvs k=none:=by rw[←hf k,findBy_of_findIdx?,hi]
  have Qm:¬(kvs.any λkv=>decide (kv.1=k))=true:=by
   grind
  refine wpAny_bind (wpAny_rule (wpAny_bind (wpAny_updateDictKeys ho hd (wpAny_pure (Zew A3 _ ⟨_,_,ep+1,J3 _ ho (Obj.isFreed_of_dict (Obj.data_mapDictKeys hd _)),
   hc.mapDictKeys _,Obj.data_mapDictKeys hd _,hk.push m6 _,?_,?_⟩ (Heap.SameBut.update ..))))))
  ·rw[stored,if_neg Qm];have:=hp.append m6 (knd.hash k) dflt
   grind
  ·rw[stored,if_neg Qm,Yq,Ww]
   grind
theorem Ur{d:Addr}{k:κ}{key:Value}(m6:knd.is k key=true)(hd:(d==sysModules)=false)(dflt:Value):
  MeetsIn prog w (Builtin.«dict.setdefault» ⟨[.ref d,key,dflt],[]⟩) (λ_ R s=>∃kvs,s.heap.DictOf knd d kvs/\kvs.length<=sizeLine/\
   (∀v,valueAt kvs k=some v->R (.ok (.ret v)) {s with toks:=s.toks+1})/\
   (valueAt kvs k=none->∀h',h'.DictOf knd d (stored kvs k dflt)->Heap.SameBut d s.heap h'->R (.ok (.ret dflt)) {s with heap:=h',toks:=s.toks+1})):=
 .of_wp λA R s ⟨kvs,hm,hz,h1,h2⟩=>by
  refine wpAny_bind (wpAny_bind (wpAny_notOrdered_dict hm.typeIs (wpAny_pure ?_)));show wpAny _ _ (if(d==sysModules)=true then _ else(dictSetDefault d key dflt>>=_)) _ _ s;rw[if_neg (by rw[hd];exact Yk)];exact wpAny_bind (TU m6 hm (λv hv=>wpAny_pure ⟨v,rfl,h1 v hv⟩) (λhn h' hm' pd=>wpAny_pure ⟨dflt,rfl,h2 hn h' hm' pd⟩) hz)
end
section
variable {X:Cx}{pins:aZ}{σ:St}{H:Hp}{s:Shared}{a:Addr}{kvs:List (Key×V)}{k:Key}{z:V}{u r:Value}{A:Around}{E:bb}
theorem Z0(I:Inv X pins σ H s)(e:H a=some (.dK kvs))(ry:RelV (kV k) u)(rz:RelV z r)(l:kvs.length<sizeLine)
  (h1:∀v w' s',aS kvs k=some v->Inv X pins σ H s'->RelV v w'->Q w' s')(h2:∀s',aS kvs k=none->Inv X pins σ (upd H a (.dK (putK kvs k z))) s'->Q r s'):
  wpAny X.md A (call (.builtin "dict.setdefault") [.ref a,u,r]) Q E s:=by
 obtain⟨zz,hd,vs,rel,dd⟩:=mX I.aw e;have hz:vs.length<=sizeLine:=by rw[←rel.length];exact zz
 have rv:=rel.val k;refine call_meetsIn PySem.F.slot_dict_setdefault dd.typeIs PySem.F.entry_dict_setdefault (PySem.F.args_dict_setdefault_3 _ _ _) (Ur (lQ ry) hd r) ⟨vs,dd,hz,λv hv=>?_,λhn h' iz hs=>?_⟩
 ·cases ev:aS kvs k with
  |none=>rw[ev,hv] at rv;cases rv
  |some x=>
   rw[ev,hv] at rv;exact h1 x v _ ev (I.tok _) rv
 ·have ev:aS kvs k=none:=by
   cases ev:aS kvs k with
   |none=>rfl
   |some x=>rw[ev,hn] at rv;cases rv
  have hl:(putK kvs k z).length<=sizeLine:=by have:=yD kvs k z;omega
  exact h2 _ ev (rh I (by rw[e];exact True.intro) hs (let⟨q,_,_,hq,_⟩:=iz;⟨q,hq⟩) (wF hl hd (rel.put k rz) iz))
end
def EE(td ty tx:TE):TE:=λσ H Q=>td σ H λx H1=>∃a,x=.ref a/\xJ H1 a/\ty σ H1 λy H2=>tx σ H2 λz H3=>∃kvs k,H3 a=some (.dK kvs)/\y=kV k/\kvs.length<sizeLine/\
 (∀v,aS kvs k=some v->Q v H3)/\(aS kvs k=none->Ch H3 a (.dK (kvs++[(k,z)])) (Q z))
def Za7(td ty:TE):TE:=λσ H Q=>td σ H λx H1=>∃a,x=.ref a/\xJ H1 a/\ty σ H1 λy H2=>∃kvs k v,H2 a=some (.dK kvs)/\y=kV k/\aS kvs k=some v/\Ch H2 a (.dK (gk kvs k)) (Q v)
section
variable {X:Cx}{o e f:Expr}{apos cJ:Pos}{td ty tx:TE}
theorem KN(ho:PE X o td)(he:PE X e ty)(hf:PE X f tx)(m:M2 X o "setdefault" apos e f cJ):PE X (.Call (.Attribute o "setdefault" apos) [e,f] [] cJ) (EE td ty tx):=by
 intro pins s σ H Q I h;refine wpAny_Call_method m.base m.iC m.line plainAttrs_dict PySem.F.slot_dict_setdefault PySem.F.type_dict_setdefault (aB (ho pins s σ H _ I h) λu s1 zq=>?_);obtain⟨x,H1,I1,rx,a,ex,d,q1⟩:=zq;subst ex;obtain rfl:u=Value.ref a:=rx;obtain⟨t1,t2,_⟩:=wG I1 d;refine⟨t1,t2,?_⟩;rw[m.trees];refine Calls.callWith_builtin rfl (Calls.evalArgs_plain (Calls.spliced_cons (aB (he pins s1 σ H1 _ I1 q1) λiv s2 ⟨y,H2,I2,ry,q2⟩=>
  Calls.spliced_cons (aB (hf pins s2 σ H2 _ I2 q2) λfv s3 ⟨z,H3,I3,rz,kvs,k,ea,ey,lz,q3,q4⟩=>Calls.spliced_nil ?_))))
 subst ey;refine Z0 I3 ea ry rz lz (λv w' s4 ev I4 rv=>⟨v,H3,I4,rv,q3 v ev⟩) λs4 ev I4=>?_;rw[kG _ ev] at I4;exact⟨z,_,I4,rz,(q4 ev).at⟩
theorem Li(ho:PE X o td)(he:PE X e ty)(m:M1 X o "pop" apos e cJ):PE X (.Call (.Attribute o "pop" apos) [e] [] cJ) (Za7 td ty):=by
 intro pins s σ H Q I h;refine wpAny_Call_method m.base m.iC m.line plainAttrs_dict slot_dict_pop PySem.F.type_dict_pop (aB (ho pins s σ H _ I h) λu s1 zq=>?_);obtain⟨x,H1,I1,rx,a,ex,d,q1⟩:=zq;subst ex;obtain rfl:u=Value.ref a:=rx;obtain⟨t1,t2,_⟩:=wG I1 d;refine⟨t1,t2,?_⟩;rw[m.trees];refine Calls.callWith_builtin rfl (Calls.evalArgs_plain (Calls.spliced_cons (aB (he pins s1 σ H1 _ I1 q1) λiv s2 ⟨y,H2,I2,ry,kvs,k,v,ea,ey,l,q2⟩=>Calls.spliced_nil ?_)));subst ey;exact ZdB I2 ea ry l (.inl rfl) λw' s3 I3 fS=>⟨v,_,I3,fS,q2.at⟩
end
end L2
namespace L2
open PySem PySem.W PySem.Calls PySem.Spec PyProof.Rows
def eB{α:Type}(n:Nat)(P:α->Prop):KasT α->Prop
 |.ret a=>P a
 |.ask i j k=>i<n/\j<n/\∀b,eB n P (k b)
theorem eB.bind{α β:Type}{n:Nat}{P:α->Prop}{Q:β->Prop}{f:α->KasT β}(hf:∀a,P a->eB n Q (f a)):∀{t:KasT α},eB n P t->eB n Q (t.bind f)
 |.ret a,h=>hf a h
 |.ask _ _ _,h=>⟨h.1,h.2.1,λb=>eB.bind hf (h.2.2 b)⟩
def Good(n:Nat)(p:Array Nat):Prop:=0<n/\p.Perm (List.range n).toArray
theorem Good.get(g:Good n p)(m:Nat):p.getD m 0<n:=by
 by_cases h:m<p.size
 ·have e:p.getD m 0=p[m]:=by rw[Y7,Je h];rfl
  rw[e];have:=g.2.mem_iff.mp (Array.getElem_mem h);simpa using this
 ·have e:p.getD m 0=0:=by rw[Y7,J0 (by omega)];rfl
  rw[e];exact g.1
theorem Good.rev(g:Good n p)(i j:Nat):Good n (kas_rev p i j):=⟨g.1,(mirror_perm p i j _).trans g.2⟩
theorem EF(g:Good n p):∀f m,eB n (λ_=>True) (kas_asc p f m)
 |0,_=>trivial
 |f+1,m=>⟨g.get m,g.get (m-1),λb=>by
  cases b with
  |true=>(dsimp only;rw[if_pos rfl]);exact trivial
  |false=>(dsimp only;rw[if_neg Yk]);exact EF g f (m+1)⟩
theorem yT:∀f (p:Array Nat) m q,Good n p->eB n (λr=>Good n r.1) (kas_desc f p m q)
 |0,_,_,_,g=>g
 |f+1,p,m,q,g=>⟨g.get m,g.get (m-1),λb=>by
  cases b with
  |true=>
   split;·exact yT f _ _ _ (g.rev _ _)
   ·exact yT f _ _ _ g
  |false=>
   refine⟨g.get (m-1),g.get m,λd=>?_⟩;cases d with
   |true=>(dsimp only;rw[if_pos rfl]);exact g
   |false=>(dsimp only;rw[if_neg Yk]);exact yT f _ _ _ g⟩
theorem KO{n m k:Nat}{p:Array Nat}(g:Good n p):eB n (λr=>Good n r.2) (kas_tail3 m k p):=by
 refine eB.bind (λa _=>?_) (EF (g.rev 0 m) _ _);exact g.rev 0 m
theorem Kd{n m k:Nat}{p:Array Nat}(g:Good n p):eB n (λr=>Good n r.2) (kas_descPart m k p):=by
 refine eB.bind (λr hr=>?_) (yT _ p _ _ g);split;·exact KO (Good.rev hr _ _)
 ·exact KO hr
theorem KP{n k:Nat}{p:Array Nat}(g:Good n p):eB n (λr=>Good n r.2) (kas_count k p):=by
 refine eB.bind (λm _=>?_) (EF g _ _);split;·exact g
 ·split
  ·refine⟨g.get _,g.get _,λb=>?_⟩;cases b with
   |true=>(dsimp only;rw[if_pos rfl]);exact g
   |false=>(dsimp only;rw[if_neg Yk]);exact Kd (g.rev _ _)
  ·exact Kd g
theorem DR(g:Good n p):∀f l r,eB n (λ_=>True) (kas_place p k f l r)
 |0,_,_=>trivial
 |f+1,l,r=>by
  unfold kas_place;split;·exact trivial
  ·refine⟨g.get _,g.get _,λb=>?_⟩;cases b with
   |true=>(dsimp only;rw[if_pos rfl]);exact DR g f _ _
   |false=>(dsimp only;rw[if_neg Yk]);exact DR g f _ _
theorem L0{n:Nat}:∀f (p:Array Nat) k,Good n p->eB n (Good n) (kas_bin f p k)
 |0,_,_,g=>g
 |f+1,p,k,g=>eB.bind (λl _=>L0 f _ _ ⟨g.1,(bubble_perm p k _).trans g.2⟩) (DR g _ _ _)
theorem Za{n:Nat}(h:0<n):eB n (Good n) (kas_sort n):=by
 refine eB.bind (λr hr=>?_) (KP ⟨h,Array.Perm.refl _⟩);split;·exact L0 _ _ _ hr
 ·exact hr
theorem range_getD(vs:List α)(d:α):(List.range vs.length).map (λi=>vs.getD i d)=vs:=by
 refine Wj λi=>?_
 grind
section
variable {prog:Program}{w:World}{A:Around}{E:bb}{s:Shared}
end
def zO(h:Heap)(vs:List Value):Prop:=∀v∈vs,∃(a:Addr) (o:Obj) (n:Nat) (x y:Int) (t u:Tok),v=.ref a/\h.get? a=some o/\o.cls=.type "tuple"/\o.data=.seq #[.int x t,.int y u] n
theorem zO.Rz:∀{vs:List Value},zO h vs->∃fs:List Value,KatTups h vs fs/\fs.length=vs.length/\∀v∈fs,∃x t,v=Value.int x t
 |[],_=>⟨[],KatTups.nil,rfl,λ_ h=>by cases h⟩
 |v::vs,hv=>by
  obtain⟨a,o,n,x,y,t,u,rfl,h1,h2,h3⟩:=hv v Yg;obtain⟨fs,k1,k2,k3⟩:=zO.Rz λz hz=>hv z (Ys _ hz);refine⟨.int x t::fs,KatTups.cons h1 h2 h3 rfl k1,by rw[Wn,Wn,k2],λv hv=>?_⟩
  grind
section
variable {prog:Program}{w:World}{A:Around}{E:bb}{s:Shared}
end
section
variable {prog:Program}{w:World}{A:Around}{E:bb}{s:Shared}
end
theorem Lj:∀{as:List Addr} {us:List Value},Vals (as.map V.ref) us->us=as.map Value.ref
 |[],_,.nil=>rfl
 |a::as,u::us,.cons r t=>by
  rw[r,Lj t,Wq]
theorem Lk:∀as:List Addr,Vals (as.map V.ref) (as.map Value.ref)
 |[]=>.nil
 |_::as=>.cons rfl (Lk as)
def Run{α:Type}(lt:Nat->Nat->Bool):KasT α->α
 |.ret a=>a
 |.ask i j k=>Run lt (k (lt i j))
theorem Run.bind:∀t:KasT α,Run lt (t.bind f)=Run lt (f (Run lt t))
 |.ret _=>rfl
 |.ask i j k=>Run.bind (k (lt i j))
theorem eB.run(hc:∀i j (C:Bool->Shared->Prop),i<n->j<n->C (lt i j) s->cmp i j C s):∀{t:KasT α},eB n P t->G (Run lt t) s->t.kasWp cmp G s
 |.ret _,_,hG=>hG
 |.ask i j k,h,hG=>hc i j _ h.1 h.2.1 (eB.run hc (h.2.2 _) hG)
structure jU(n:Nat)(lt:Nat->Nat->Bool):Prop where
 trans:∀i j k,i<n->j<n->k<n->lt i j=true->lt j k=true->lt i k=true
 A4:∀i j,i<n->j<n->i≠j->lt i j=false->lt j i=true
 Zex:∀i j,i<n->j<n->lt i j=true->lt j i=false
def Sd(lt:Nat->Nat->Bool)(p:Array Nat)(m:Nat):Prop:=∀i j,i<j->j<m->lt (p.getD i 0) (p.getD j 0)=true
def Ds(lt:Nat->Nat->Bool)(p:Array Nat)(m:Nat):Prop:=∀i j,i<j->j<m->lt (p.getD j 0) (p.getD i 0)=true
theorem Good.size(g:Good n p):p.size=n:=by
 have:=g.2.size_eq
 grind
theorem Good.ne(g:Good n p)(hi:i<n)(hj:j<n)(ne:i≠j):p.getD i 0≠p.getD j 0:=by
 have nd:p.toList.Nodup:=by
  have:=(Jt.mp g.2).nodup_iff.mpr (by simpa using List.nodup_range);exact this
 have sz:=g.size;have e:∀k (hk:k<n),p.getD k 0=p.toList[k]'(by rw[Wr];omega):=λk hk=>by
  simp_all
 have pw:=Wz.mp nd
 grind
section
variable {n:Nat}{lt:Nat->Nat->Bool}
theorem M3(L:jU n lt)(g:Good n p)(h1:1<=m)(sd:Sd lt p m)(h:lt (p.getD (m-1) 0) (p.getD m 0)=true):Sd lt p (m+1):=by
 intro i j jV hj;by_cases e:j=m
 ·subst e;by_cases e2:i=j-1;·rw[e2];exact h
  ·exact L.trans _ _ _ (g.get _) (g.get _) (g.get _) (sd i (j-1) (by omega) (by omega)) h
 ·exact sd i j jV (by omega)
theorem Za8(L:jU n lt)(g:Good n p)(h1:1<=m)(ds:Ds lt p m)(h:lt (p.getD m 0) (p.getD (m-1) 0)=true):Ds lt p (m+1):=by
 intro i j jV hj;by_cases e:j=m
 ·subst e;by_cases e2:i=j-1;·rw[e2];exact h
  ·exact L.trans _ _ _ (g.get _) (g.get _) (g.get _) h (ds i (j-1) (by omega) (by omega))
 ·exact ds i j jV (by omega)
theorem zy(L:jU n lt)(g:Good n p):∀f m,1<=m->m+f<=n->Sd lt p m->Sd lt p (Run lt (kas_asc p f m))/\m<=Run lt (kas_asc p f m)/\Run lt (kas_asc p f m)<=m+f
 |0,m,_,_,sd=>⟨sd,Ye _,Ye _⟩
 |f+1,m,h1,h2,sd=>by
  have e:Run lt (kas_asc p (f+1) m)=Run lt (if lt (p.getD m 0) (p.getD (m-1) 0)=true then KasT.ret m else kas_asc p f (m+1)):=rfl;rw[e];by_cases c:lt (p.getD m 0) (p.getD (m-1) 0)=true
  ·rw[if_pos c];exact⟨sd,Ye _,by show m<=_;omega⟩
  ·rw[if_neg c];have c':lt (p.getD m 0) (p.getD (m-1) 0)=false:=by cases z:lt (p.getD m 0) (p.getD (m-1) 0) with|true=>exact absurd z c|false=>rfl
   obtain⟨a,b,d⟩:=zy L g f (m+1) (by omega) (by omega) (M3 L g h1 sd (L.A4 _ _ (g.get _) (g.get _) (g.ne (by omega) (by omega) (by omega)) c'))
   grind
theorem L1(L:jU n lt)(g:Good n p):∀f m,1<=m->m+f<=n->Ds lt p m->∃m',Run lt (kas_desc f p m 0)=(p,m',0)/\Ds lt p m'/\m<=m'/\m'<=m+f
 |0,m,_,_,ds=>⟨m,rfl,ds,Ye _,Ye _⟩
 |f+1,m,h1,h2,ds=>by
  have e:Run lt (kas_desc (f+1) p m 0)=Run lt (if lt (p.getD m 0) (p.getD (m-1) 0)=true then(if 0>0 then kas_desc f (kas_rev p (m-(0+1)) m) (m+1) 0 else kas_desc f p (m+1) 0) else KasT.ask (p.getD (m-1) 0) (p.getD m 0) λd=>if d=true then KasT.ret (p,m,0) else kas_desc f p (m+1) (0+1)):=rfl;rw[e];by_cases c:lt (p.getD m 0) (p.getD (m-1) 0)=true
  ·rw[if_pos c,if_neg (by omega)];obtain⟨m',a,b,d,d'⟩:=L1 L g f (m+1) (by omega) (by omega) (Za8 L g h1 ds c)
   grind
  ·rw[if_neg c];have c':lt (p.getD m 0) (p.getD (m-1) 0)=false:=by cases z:lt (p.getD m 0) (p.getD (m-1) 0) with|true=>exact absurd z c|false=>rfl
   have e2:Run lt (KasT.ask (p.getD (m-1) 0) (p.getD m 0) λd=>if d=true then KasT.ret (p,m,0) else kas_desc f p (m+1) (0+1))=Run lt (if lt (p.getD (m-1) 0) (p.getD m 0)=true then KasT.ret (p,m,0) else kas_desc f p (m+1) (0+1)):=rfl;rw[e2,if_pos (L.A4 _ _ (g.get m) (g.get (m-1)) (g.ne (by omega) (by omega) (by omega)) c')];exact⟨m,rfl,ds,Ye _,by omega⟩
theorem M4(hm:m<=p.size)(hi:i<m):(kas_rev p 0 m).getD i 0=p.getD (m-1-i) 0:=by
 unfold kas_rev;rw[Y7,getElem?_mirror_all hm,if_pos ⟨Yw _,hi⟩,←Y7]
 congr 1
 omega
theorem Zb(L:jU n lt)(g:Good n p)(h1:1<=m)(hm:m<=n)(ds:Ds lt p m):Good n (Run lt (kas_tail3 m n p)).2/\Sd lt (Run lt (kas_tail3 m n p)).2 (Run lt (kas_tail3 m n p)).1/\m<=(Run lt (kas_tail3 m n p)).1/\(Run lt (kas_tail3 m n p)).1<=n:=by
 have sd:Sd lt (kas_rev p 0 m) m:=λi j jV hj=>by
  rw[M4 (by rw[g.size];exact hm) (by omega),M4 (by rw[g.size];exact hm) hj];exact ds _ _ (by omega) (by omega)
 have e:Run lt (kas_tail3 m n p)=(Run lt (kas_asc (kas_rev p 0 m) (n-m) m),kas_rev p 0 m):=by
  unfold kas_tail3;rw[Run.bind];rfl
 obtain⟨a,b,c⟩:=zy L (g.rev 0 m) (n-m) m h1 (by omega) sd;rw[e];exact⟨g.rev 0 m,a,b,by show Run lt _<=n;omega⟩
theorem Zc(L:jU n lt)(g:Good n p):Good n (Run lt (kas_count n p)).2/\Sd lt (Run lt (kas_count n p)).2 (Run lt (kas_count n p)).1/\1<=(Run lt (kas_count n p)).1/\(Run lt (kas_count n p)).1<=n:=by
 have n0:=g.1;obtain⟨sd,h1,h2⟩:=zy L g (n-1) 1 (Ye _) (by omega) (λi j jV hj=>by omega);have e:Run lt (kas_count n p)=Run lt (if(Run lt (kas_asc p (n-1) 1)==n)=true then KasT.ret (Run lt (kas_asc p (n-1) 1),p) else if Run lt (kas_asc p (n-1) 1)>1 then KasT.ask (p.getD 0 0) (p.getD (Run lt (kas_asc p (n-1) 1)-1) 0) λc=>if c=true then KasT.ret (Run lt (kas_asc p (n-1) 1),p) else kas_descPart (Run lt (kas_asc p (n-1) 1)) n (kas_rev p 0 (Run lt (kas_asc p (n-1) 1))) else kas_descPart (Run lt (kas_asc p (n-1) 1)) n p):=by
  unfold kas_count;rw[Run.bind]
 rw[e];generalize er:Run lt (kas_asc p (n-1) 1)=r at sd h1 h2;by_cases c1:(r==n)=true
 ·rw[if_pos c1];exact⟨g,sd,h1,by show r<=n;omega⟩
 ·rw[if_neg c1];have rn:r≠n:=λz=>c1 (beq_iff_eq.mpr z);by_cases c2:r>1
  ·rw[if_pos c2];have e2:Run lt (KasT.ask (p.getD 0 0) (p.getD (r-1) 0) λc=>if c=true then KasT.ret (r,p) else kas_descPart r n (kas_rev p 0 r))=Run lt (if lt (p.getD 0 0) (p.getD (r-1) 0)=true then KasT.ret (r,p) else kas_descPart r n (kas_rev p 0 r)):=rfl;rw[e2,if_pos (sd 0 (r-1) (by omega) (by omega))];exact⟨g,sd,h1,by show r<=n;omega⟩
  ·rw[if_neg c2];have r1:r=1:=by omega
   subst r1;have hd:lt (p.getD 1 0) (p.getD 0 0)=true:=by
    have:n-1=(n-2)+1:=by omega
    rw[this] at er;have e3:Run lt (kas_asc p (n-2+1) 1)=Run lt (if lt (p.getD 1 0) (p.getD (1-1) 0)=true then KasT.ret 1 else kas_asc p (n-2) (1+1)):=rfl;rw[e3] at er;by_cases c:lt (p.getD 1 0) (p.getD (1-1) 0)=true;·exact c
    ·rw[if_neg c] at er;have c':lt (p.getD 1 0) (p.getD (1-1) 0)=false:=by cases z:lt (p.getD 1 0) (p.getD (1-1) 0) with|true=>exact absurd z c|false=>rfl
     have sd2:Sd lt p 2:=M3 L g (m:=1) (Ye _) (λi j jV hj=>by omega) (L.A4 _ _ (g.get _) (g.get _) (g.ne (by omega) (by omega) (by omega)) c');obtain⟨_,b,_⟩:=zy L g (n-2) 2 (by omega) (by omega) sd2;rw[show 1+1=2 from rfl] at er;omega
   have ds2:Ds lt p 2:=λi j jV hj=>by
    grind
   obtain⟨m',a,b,c,d⟩:=L1 L g (n-(1+1)) (1+1) (by omega) (by omega) ds2;have e4:Run lt (kas_descPart 1 n p)=Run lt (kas_tail3 m' n p):=by
    unfold kas_descPart;rw[Run.bind,a];dsimp only;rw[if_neg (by omega)]
   rw[e4];obtain⟨x1,x2,x3,x4⟩:=Zb L g (m:=m') (by omega) (by omega) b;exact⟨x1,x2,by omega,x4⟩
theorem M5(L:jU n lt)(g:Good n p)(sd:Sd lt p n):∀f m,1<=m->m+f<=n->Run lt (kas_asc p f m)=m+f
 |0,_,_,_=>rfl
 |f+1,m,h1,h2=>by
  have e:Run lt (kas_asc p (f+1) m)=Run lt (if lt (p.getD m 0) (p.getD (m-1) 0)=true then KasT.ret m else kas_asc p f (m+1)):=rfl;rw[e,if_neg (by rw[L.Zex _ _ (g.get _) (g.get _) (sd (m-1) m (by omega) (by omega))];exact Yk),M5 L g sd f (m+1) (by omega) (by omega)];omega
theorem Zd(L:jU n lt)(g:Good n p)(sd:Sd lt p n):Run lt (kas_count n p)=(n,p):=by
 have n0:=g.1;unfold kas_count;rw[Run.bind,(M5 L g sd (n-1) 1 (Ye _) (by omega)),if_pos (beq_iff_eq.mpr (by omega))];show(1+(n-1),p)=(n,p)
 grind
theorem Ej(L:jU n lt)(g:Good n p)(hk:k<n)(sd:Sd lt p k):∀f l r,l<=r->r<=k->r-l<=f->(∀i,i<l->lt (p.getD i 0) (p.getD k 0)=true)->(∀i,r<=i->i<k->lt (p.getD k 0) (p.getD i 0)=true)->
  Run lt (kas_place p k f l r)<=k/\(∀i,i<Run lt (kas_place p k f l r)->lt (p.getD i 0) (p.getD k 0)=true)/\∀i,Run lt (kas_place p k f l r)<=i->i<k->lt (p.getD k 0) (p.getD i 0)=true
 |0,l,r,h1,h2,h3,hl,hr=>⟨by show l<=k;omega,hl,λi (hi:l<=i) xN=>hr i (by omega) xN⟩
 |f+1,l,r,h1,h2,h3,hl,hr=>by
  rw[kas_place];by_cases c:l≥r
  ·rw[if_pos c];exact⟨by show l<=k;omega,hl,λi (hi:l<=i) xN=>hr i (by omega) xN⟩
  ·rw[if_neg c];have m1:l<=(l+r)/2:=by omega
   have m2:(l+r)/2<r:=by omega
   generalize(l+r)/2=m at m1 m2;have e2:Run lt (KasT.ask (p.getD k 0) (p.getD m 0) λc=>if c=true then kas_place p k f l m else kas_place p k f (m+1) r)=Run lt (if lt (p.getD k 0) (p.getD m 0)=true then kas_place p k f l m else kas_place p k f (m+1) r):=rfl;rw[e2];by_cases c2:lt (p.getD k 0) (p.getD m 0)=true
   ·rw[if_pos c2];refine Ej L g hk sd f l m m1 (by omega) (by omega) hl λi hi xN=>?_;by_cases e:i=m;·rw[e];exact c2
    ·exact L.trans _ _ _ (g.get _) (g.get _) (g.get _) c2 (sd m i (by omega) xN)
   ·rw[if_neg c2];have c':lt (p.getD k 0) (p.getD m 0)=false:=by cases z:lt (p.getD k 0) (p.getD m 0) with|true=>exact absurd z c2|false=>rfl
    have t:=L.A4 _ _ (g.get k) (g.get m) (g.ne hk (by omega) (by omega)) c';refine Ej L g hk sd f (m+1) r (by omega) h2 (by omega) (λi hi=>?_) hr;by_cases e:i=m;·rw[e];exact t
    ·exact L.trans _ _ _ (g.get _) (g.get _) (g.get _) (sd i m (by omega) (by omega)) t
theorem M6(L:jU n lt):∀f (p:Array Nat) k,Good n p->k+f=n->Sd lt p k->Good n (Run lt (kas_bin f p k))/\Sd lt (Run lt (kas_bin f p k)) n
 |0,p,k,g,e,sd=>by
  have e':k=n:=by omega
  refine⟨g,?_⟩;rw[←e'];exact sd
 |f+1,p,k,g,e,sd=>by
  have hk:k<n:=by omega
  obtain⟨a,b,c⟩:=Ej L g hk sd k 0 k (Yw _) (Ye _) (by omega) (λi hi=>absurd hi (Wd _)) (λi h1 h2=>by omega);have e2:Run lt (kas_bin (f+1) p k)=Run lt (kas_bin f (bubble p k (k-Run lt (kas_place p k k 0 k))) (k+1)):=by
   rw[kas_bin,Run.bind]
  rw[e2];generalize Run lt (kas_place p k k 0 k)=l at a b c;have gb:Good n (bubble p k (k-l)):=⟨g.1,(bubble_perm p k _).trans g.2⟩;have sz:=g.size;have get:∀i,(bubble p k (k-l)).getD i 0=if i=l then p.getD k 0 else if l<i/\i<=k then p.getD (i-1) 0 else p.getD i 0:=λi=>by
   have h:=getElem?_bubble (xs:=p) (src:=k) (by omega) (k-l) (by omega) i;rw[show k-(k-l)=l by omega] at h;rw[Y7,h];by_cases z:i=l;·rw[if_pos z,if_pos z,←Y7]
   ·rw[if_neg z,if_neg z];by_cases z2:l<i/\i<=k;·rw[if_pos z2,if_pos z2,←Y7]
    ·rw[if_neg z2,if_neg z2,←Y7]
  refine M6 L f _ (k+1) gb (by omega) λi j jV hj=>?_;rw[get i,get j];by_cases i1:i=l
  ·rw[if_pos i1,if_neg (by omega),if_pos (by omega)];exact c (j-1) (by omega) (by omega)
  ·rw[if_neg i1];by_cases i2:l<i/\i<=k
   ·rw[if_pos i2,if_neg (by omega),if_pos (by omega)];exact sd (i-1) (j-1) (by omega) (by omega)
   ·rw[if_neg i2];have il:i<l:=by omega
    by_cases j1:j=l;·rw[if_pos j1];exact b i il
    ·rw[if_neg j1];by_cases j2:l<j/\j<=k
     ·rw[if_pos j2];exact sd i (j-1) (by omega) (by omega)
     ·rw[if_neg j2];exact sd i j jV (by omega)
theorem Z1(L:jU n lt)(h:0<n):Good n (Run lt (kas_sort n))/\Sd lt (Run lt (kas_sort n)) n:=by
 obtain⟨a,b,c,d⟩:=Zc L ⟨h,Array.Perm.refl _⟩;have e:Run lt (kas_sort n)=Run lt (if(Run lt (kas_count n (List.toArray (List.range n)))).1<n then kas_bin (n-max (Run lt (kas_count n (List.toArray (List.range n)))).1 1) (Run lt (kas_count n (List.toArray (List.range n)))).2 (max (Run lt (kas_count n (List.toArray (List.range n)))).1 1) else KasT.ret (Run lt (kas_count n (List.toArray (List.range n)))).2):=by
  unfold kas_sort;rw[Run.bind]
 rw[e];generalize Run lt (kas_count n (List.toArray (List.range n)))=r at a b c d;have mx:max r.1 1=r.1:=by omega
 by_cases z:r.1<n
 ·rw[if_pos z,mx];exact M6 L _ _ _ a (by omega) b
 ·rw[if_neg z];have:r.1=n:=by omega
  refine⟨a,?_⟩;rw[this] at b;exact b
end
def iU(p q:Int×Int):Prop:=p.1<q.1\/(p.1=q.1/\p.2<q.2)
def ltB(p q:Int×Int):Bool:=if p.1=q.1 then decide (p.2<q.2) else decide (p.1<q.1)
theorem ltB_iff:ltB p q=true↔iU p q:=by
 unfold ltB iU
 grind
def jW(ps:List (Int×Int))(i j:Nat):Bool:=ltB (ps.getD i (0,0)) (ps.getD j (0,0))
theorem ZcP(nd:ps.Nodup):jU ps.length (jW ps):=by
 have fl:∀{p q:Int×Int},ltB p q=false->¬iU p q:=λ{p q} h z=>by rw[ltB_iff.mpr z] at h;cases h
 refine⟨λi j k _ _ _ h1 h2=>?_,λi j hi hj ne h=>?_,λi j _ _ h=>?_⟩
 ·have a:=ltB_iff.mp h1;have b:=ltB_iff.mp h2;refine ltB_iff.mpr ?_;unfold iU at*;omega
 ·refine ltB_iff.mpr ?_;have a:=fl h;have e:ps.getD i (0,0)≠ps.getD j (0,0):=by
   rw[Yj,Yj,Yb hi,Yb hj];have pw:=Wz.mp nd
   grind
  have e':¬((ps.getD i (0,0)).1=(ps.getD j (0,0)).1/\(ps.getD i (0,0)).2=(ps.getD j (0,0)).2):=λz=>e (Prod.ext z.1 z.2);unfold iU at*;omega
 ·cases z:jW ps j i with
  |false=>rfl
  |true=>
   have a:=ltB_iff.mp h;have b:=ltB_iff.mp z;unfold iU at a b;omega
def rN(h:Heap)(vs:List Value)(ps:List (Int×Int)):Prop:=Paired (λv (p:Int×Int)=>∃(a:Addr) (o:Obj) (n:Nat) (t u:Tok),v=.ref a/\h.get? a=some o/\o.cls=.type "tuple"/\o.data=.seq #[.int p.1 t,.int p.2 u] n) vs ps
theorem rN.jM(q:rN h vs ps):zO h vs:=by
 intro v hv;induction q with
 |nil=>cases hv
 |cons f _ ih=>grind
theorem Dn{α β:Type}{F:α->β->Prop}{xs:List α}{ys:List β}(h:Paired F xs ys){i:Nat}(hi:i<xs.length)(x:α)(y:β):F (xs.getD i x) (ys.getD i y):=by
 obtain⟨b,e,f⟩:=fX h (Yb hi)
 grind
section
variable {prog:Program}{w:World}{A:Around}{E:bb}{s:Shared}
theorem Z2{vs:List Value}{ps:List (Int×Int)}(tv:rN s.heap vs ps){i j:Nat}{C:Bool->Shared->Prop}(hi:i<vs.length)(hj:j<vs.length)(hC:C (jW ps i j) s):kas_ask prog w A (tuples' true) vs i j C s:=by
 unfold kas_ask;obtain⟨a,o,n,t,u,e1,h1,h2,h3⟩:=Dn tv hi Value.none (0,0);obtain⟨a',o',n',t',u',sA,kZ,k9,RA⟩:=Dn tv hj Value.none (0,0);unfold jW at hC;rw[e1,sA];generalize ps.getD i (0,0)=p at hC h3;generalize ps.getD j (0,0)=q at hC RA;refine kat_lt h1 h3 kZ RA ?_;unfold ltB at hC;refine kat_cons (SeqAt.EqAt.int_int p.1 t q.1 t' prog w _ _ (kat_go (λb1=>kat_yes (kat_cons (SeqAt.EqAt.int_int p.2 u q.2 u' prog w _ _ (kat_go (λb2=>kat_yes (kat_nil ?_)) λb2=>kat_no ?_)))) λb1=>kat_no ?_));·grind
 ·rw[if_pos (beq_iff_eq.mp b1)] at hC;exact kat_one _ _ (lt_int hC)
 ·rw[if_neg (λz=>by rw[beq_iff_eq.mpr z] at b1;cases b1)] at hC;show wpAny _ _ (oneLt' true _ _) _ _ _;exact kat_lt_int hC
theorem ZcQ
  (hQ:∀aN:SortSt,arrOf aN=(List.toArray (List.range 64)).map (kas_item it)->failedOf aN=none->Q () aN s)
  (h:(kas_count 64 (List.toArray (List.range 64))).kasWp (kas_cmp prog w A κ it) (λr s'=>r=(64,List.toArray (List.range 64))/\s'=s) s):kasC (model prog w) A E sortRuns' Q (kas_st κ it (List.toArray (List.range 64))) s:=by
 have Qn:(List.toArray (List.range 64)).size=64:=rfl;have szA:(arrOf (kas_st κ it (List.toArray (List.range 64)))).size=64:=(Array.size_map (f:=kas_item it)).trans Qn;have mr:minRun' 64 64 0=32:=by decide+kernel
 rw[sortRuns'_eq];refine kasC_bind (kasC_get ?_);(try dsimp only);simp only[szA,mr];refine kasC_bind (kasC_range ?_);show kasC _ _ _ (forIn (0::1::List.range' 2 62) _ _) _ _ _;refine kasC_cons ?_;(try dsimp only);rw[if_neg (show ¬(0:Nat)≥64 by omega)];simp only[Nat.sub_zero];refine kasC_bind (kas_count_ (show 1<=64 by omega) (Nat.le_of_eq Qn.symm) (λm p' s' _ _ _ hg=>?_) h);obtain⟨e,rfl⟩:=hg;cases e;(try dsimp only);rw[if_neg (show ¬(64:Nat)<32 by omega)];refine kasC_bind (kasC_get ?_);rw[show(pendingOf (kas_st κ it (List.toArray (List.range 64)))).back?=none from rfl];(try dsimp only);refine kasC_bind (kasC_modify (kasC_pure ?_));show kasC _ _ _ (forIn (1::List.range' 2 62) _ _) _ _ _;refine kasC_cons ?_;(try dsimp only);rw[if_pos (show(0:Nat)+64≥64 by omega)];refine kasC_pure ?_;(try dsimp only);refine kasC_bind (kasC_range ?_);show kasC _ _ _ (forIn (0::1::List.range' 2 62) _ _) _ _ _;refine kasC_cons ?_;refine kasC_bind (kasC_get ?_);(try dsimp only);rw[if_pos (show(pendingOf (setPending (kas_st κ it (List.toArray (List.range 64))) ((pendingOf (kas_st κ it (List.toArray (List.range 64)))).push (0,64,0)))).size<=1 from Ye 1)];refine kasC_pure ?_;(try dsimp only);exact kasC_pure (hQ _ rfl rfl)
theorem Ve{R:Array Nat->Prop}{a:Addr}{vs:List Value}{n:Nat}{P:PySem.Fin->Shared->Prop}(ho:s.heap.get? a=some (seqObj "list" vs.toArray n))(gD:vs.length<=64)
  (hk:2<=vs.length->∀h':Heap,(∀b o,b≠a->s.heap.get? b=some o->h'.get? b=some o)->∃κ:SortKind,(∀(Q:SortKind->Shared->Prop),Q κ {s with heap:=h'}->wpAny (model prog w) A (keyKind' vs.toArray) Q E {s with heap:=h'})/\
   ∀Q':SortSt->Shared->Prop,(∀(p:Array Nat) (aN:SortSt),p.size=vs.length->arrOf aN=p.map (kas_item (vs.toArray.zip vs.toArray))->failedOf aN=none->Good vs.length p->R p->Q' aN {s with heap:=h'})->wpAny (model prog w) A (sortRuns'.run (SortSt.mk' κ (vs.toArray.zip vs.toArray) #[] 7 none)) (λr s'=>Q' r.2 s') E {s with heap:=h'})
  (h:∀out:List Value,out.Perm vs->(2<=vs.length->∃p:Array Nat,Good vs.length p/\R p/\out=p.toList.map λi=>vs.getD i Value.none)->P (.done (.ret .none)) {s with heap:=sortedHeap s.heap a vs out.toArray}):
  wpAny (model prog w) A (Builtin.«list.sort» ⟨[.ref a],[]⟩) P E s:=by
 rw[list_sort_plain];have ha:a<s.heap.objs.size:=Yx ho;refine wpAny_bind (listItems_at ho rfl ?_);refine wpAny_bind (listUpdate_at ho rfl ?_);obtain⟨e1,sD⟩:∃e1,(s.heap.update a (Obj.mapSeq λ_=>#[])).get? a=some (seqObj "list" #[] e1):=⟨_,get?_update_seq ho (λ_=>#[])⟩;refine wpAny_bind (seqEpoch_at sD rfl ?_);refine wpAny_bind (wpAny_newTuple ?_);refine wpAny_bind (wpAny_newList ?_);refine wpAny_holding ?_;have A5:(((s.heap.update a (Obj.mapSeq λ_=>#[])).push (seqObj "tuple" vs.toArray 0)).push (seqObj "list" #[] 0)).get? a=some (seqObj "list" #[] e1):=by
  rw[Jq _ _ _ (by rw[size_push',Heap.size_update];exact Yz (Wv ha)),Jq _ _ _ (by rw[Heap.size_update];exact Yz ha)];exact sD
 have keep:∀b o,b≠a->s.heap.get? b=some o->(((s.heap.update a (Obj.mapSeq λ_=>#[])).push (seqObj "tuple" vs.toArray 0)).push (seqObj "list" #[] 0)).get? b=some o:=λb o nb e=>
  Yc _ (Yc _ (by rw[Heap.get?_update_ne _ _ _ _ nb];exact e))
 dsimp only;have hsz:vs.toArray.size=vs.length:=by simp
 by_cases h2:vs.toArray.size<2
 ·rw[if_pos h2,if_pos h2];refine wpAny_bind (wpAny_pure ?_);rw[StateT.run_pure];refine wpAny_bind (wpAny_pure ?_);dsimp only;refine wpAny_bind (seqEpoch_at A5 rfl ?_);refine wpAny_bind (listUpdate_at A5 rfl ?_ (hsz2:=by rw[Array.size_map];show(pairsOf vs).size<=_;rw[pairsOf_size,sizeLine_eq];omega));simp only[bne_self_eq_false,Bool.false_eq_true,if_false];have e:(arrOf (SortSt.mk' general' (vs.toArray.zip vs.toArray) #[] 7 none)).map (·.2)=vs.toArray:=by
   grind
  have:=h vs (List.Perm.refl _) (λz=>by omega);rw[←e] at this;exact wpAny_pure this
 ·rw[if_neg h2,if_neg h2];have k9:2<=vs.length:=by omega
  obtain⟨κ,kk,cmp⟩:=hk k9 _ keep;refine wpAny_bind (kk _ ?_);refine wpAny_bind (wpAny_mono (cmp (λaN s'=>s'={s with heap:=((s.heap.update a (Obj.mapSeq λ_=>#[])).push (seqObj "tuple" vs.toArray 0)).push (seqObj "list" #[] 0)}/\∃p:Array Nat,p.size=vs.length/\arrOf aN=p.map (kas_item (vs.toArray.zip vs.toArray))/\failedOf aN=none/\R p/\Good vs.length p) λp aN a1 a2 a3 a4 a5=>⟨rfl,p,a1,a2,a3,a5,a4⟩) ?_ λ_ _ e=>e);rintro⟨⟨⟩,aN⟩ s' ⟨rfl,p,hp,har,hf,ep,g⟩;dsimp only;have Qo:=kat_snds rfl har;have perm:(p.toList.map λi=>vs.getD i Value.none).Perm vs:=by
   have e1:p.toList.Perm (List.range vs.length):=by
    have:=Jt.mp g.2;simpa using this
   have e2:=e1.map λi=>vs.getD i Value.none;rw[range_getD] at e2;exact e2
  refine wpAny_bind (seqEpoch_at A5 rfl ?_);refine wpAny_bind (listUpdate_at A5 rfl ?_ (hsz2:=by rw[Qo,Yu,perm.length_eq,sizeLine_eq];omega));rw[hf];simp only[bne_self_eq_false,Bool.false_eq_true,if_false];have:=h _ perm (λ_=>⟨p,g,ep,rfl⟩);rw[←Qo] at this;exact wpAny_pure this
theorem Z3(h:ps.Pairwise iU):Sd (jW ps) (List.toArray (List.range ps.length)) ps.length:=λi j jV hj=>by
 have e:∀k,k<ps.length->(List.toArray (List.range ps.length)).getD k 0=k:=λk hk=>by
  simp_all
 rw[e i (by omega),e j hj];refine ltB_iff.mpr ?_;rw[Yj,Yj,Yb (by omega),Yb hj];exact Wz.mp h i j (by omega) hj jV
theorem ZdL{κ:SortKind}{ah:List Value}{ps:List (Int×Int)}{Q':SortSt->Shared->Prop}(HP:ah.length=64)(lp:ah.length=ps.length)(L:jU ah.length (jW ps))(pw:ps.Pairwise iU)(ask:∀i j (C:Bool->Shared->Prop),i<ah.length->j<ah.length->C (jW ps i j) s->kas_ask prog w A κ ah i j C s)
  (HQ:∀(p:Array Nat) (aN:SortSt),p.size=ah.length->arrOf aN=p.map (kas_item (ah.toArray.zip ah.toArray))->failedOf aN=none->Good ah.length p->Sd (jW ps) p ah.length->Q' aN s):wpAny (model prog w) A (sortRuns'.run (SortSt.mk' κ (ah.toArray.zip ah.toArray) #[] 7 none)) (λr s'=>Q' r.2 s') E s:=by
 have gR:Good ah.length (List.toArray (List.range ah.length)):=⟨by omega,Array.Perm.refl _⟩;have RB:Sd (jW ps) (List.toArray (List.range ah.length)) ah.length:=by rw[lp];exact Z3 pw
 rw[kat_ask_eq (vs:=ah) rfl] at ask;have sz0:(ah.toArray.zip ah.toArray).size=ah.length:=by simp
 have HR:SortSt.mk' κ (ah.toArray.zip ah.toArray) #[] 7 none=kas_st κ (ah.toArray.zip ah.toArray) (List.toArray (List.range ah.length)):=by
  unfold kas_st;rw[←sz0,kas_range]
 rw[HR];have wp:=eB.run (G:=λr s'=>r=(ah.length,List.toArray (List.range ah.length))/\s'=s) ask (KP gR) ⟨(Zd L gR RB),rfl⟩;have RC:=λaN a b=>HQ _ aN (by simp) a b gR RB;rw[HP] at wp RC⊢;exact ZcQ (Q:=λ_ aN s'=>Q' aN s') RC wp
theorem VE(ho:s.heap.get? l=some o)(hc:o.cls=.type "list")(hd:o.data=.seq ah.toArray n)(tv:rN s.heap ah ps)(nd:ps.Nodup)(gD:ah.length<64\/(ah.length=64/\ps.Pairwise iU))(hsz:ah.toArray.size<=sizeLine)
  (h:∀(h1 h':Heap) (out:List Value) (e:Nat),(∀b o,s.heap.get? b=some o->h1.get? b=some o)->(∀b o,h1.get? b=some o->h'.get? b=some o)->h'.get? h1.objs.size=some (seqObj "list" out.toArray e)->out.Perm ah->(2<=ah.length->∃p:Array Nat,Good ah.length p/\Sd (jW ps) p ah.length/\out=p.toList.map λi=>ah.getD i Value.none)->Q (.ref h1.objs.size) {s with heap:=h'}):
  wpAny (model prog w) A (call (.builtin "sorted") [.ref l]) Q E s:=by
 refine Calls.call_function_entry kind_sorted plain_sorted entry_sorted (args_sorted1 _) ?_;unfold Builtin.«sorted»;refine wpAny_bind (m:=checkCount "sorted" 1 1 _) (wpAny_pure ?_);refine wpAny_bind (wpAny_collect_seq l (.inl rfl) ho hc hd (λh1 kp=>?_) hsz);refine wpAny_bind (wpAny_newList ?_);have e1:ah.toArray.toList=ah:=by simp
 rw[e1];have oQ:(h1.push (seqObj "list" ah.toArray 0)).get? h1.objs.size=some (seqObj "list" ah.toArray 0):=Yr _ rfl;refine wpAny_bind (wpAny_holding (wpAny_call_entry slot_list_sort ⟨_,oQ,rfl⟩ entry_list_sort (Ve (R:=λp=>Sd (jW ps) p ah.length) oQ (by omega) (λh2 h' kp'=>?_) λout pm eo=>⟨_,rfl,?_⟩) (args_list_sort _)))
 ·have HS:rN h' ah ps:=L2.Paired.bB tv λv p ⟨a,o,n,t,u,e,q1,q2,q3⟩=>by
   have RD:=kp _ _ q1;exact⟨a,o,n,t,u,e,kp' _ _ (Yz (Yx RD)) (Yc _ RD),q2,q3⟩
  obtain⟨fs,k1,k2,k3⟩:=HS.jM.Rz;have lp:=cX HS;have ask:∀(B:Around) i j (C:Bool->Shared->Prop),i<ah.length->j<ah.length->C (jW ps i j) {s with heap:=h'}->kas_ask prog w B (tuples' true) ah i j C {s with heap:=h'}:=λB i j C hi hj hC=>Z2 (s:={s with heap:=h'}) HS hi hj hC;have L:=ZcP nd;rw[←lp] at L;refine⟨tuples' true,λQ hQ=>?_,λQ' HQ=>?_⟩
  rotate_left
  ·rcases gD with lt|⟨HP,pw⟩
   ·obtain⟨g,sd⟩:=Z1 L (by omega);refine kat_run (ks:=ah) (vs:=ah) (G:=λp s'=>s'={s with heap:=h'}/\p=Run (jW ps) (kas_sort ah.length)) rfl h2 lt (λp aN s' a1 a2 a3 a4=>?_) (eB.run (ask _) (Za (by omega)) ⟨rfl,rfl⟩)
    grind
   ·exact ZdL (s:={s with heap:=h'}) HP lp L pw (ask _) HQ
  refine kat_kind (s:={s with heap:=h'}) (T:=.type "int") k1 (by omega) (λv hv=>?_) (by decide) hQ;obtain⟨x,t,rfl⟩:=k3 v hv;exact .now
 ·obtain⟨e,he⟩:=sortedHeap_at (out:=out.toArray) oQ;exact wpAny_pure ⟨_,rfl,h h1 _ out e kp (λb ob hb=>by
   have bJ:=Yx hb;rw[sortedHeap_old (Yz bJ) (by rw[size_push'];exact Wv bJ),Jq _ _ _ (Yz bJ)];exact hb) he pm eo⟩
end
def Z4(K:ai):List V->Hp->VK->Prop:=λxs H Q=>∃(p:Addr) (as:List Addr) (bN:List (Int×Int)),xs=[.ref p]/\ak K H p (as.map V.ref)/\Paired (λa (p:Int×Int)=>H a=some (.tup [.int p.1,.int p.2])) as bN/\bN.Nodup/\(as.length<64\/(as.length=64/\bN.Pairwise iU))/\
 ∀(gF:List Addr) (lY:List (Int×Int)),Paired (λa (p:Int×Int)=>H a=some (.tup [.int p.1,.int p.2])) gF lY->lY.Perm bN->lY.Pairwise iU->Nw H (.lst (gF.map V.ref)) Q
theorem Kn:∀{zs:List γ},(∀z∈zs,F (f z) (g z))->Paired F (zs.map f) (zs.map g)
 |[],_=>.nil
 |z::zs,h=>.cons (h z Yg) (Kn λz hz=>h z (Ys _ hz))
theorem Z5{X:Cx}{K:ai}(hK:X.K=K):cZ X (.builtin "sorted") (Z4 K):=by
 subst hK;intro pins s σ H xs us Q I r h;obtain⟨p,as,bN,rfl,hq,ht,nd,gD,q⟩:=h;obtain⟨u,rfl,rx⟩:=vals1 r;cases rx;obtain⟨ah,r',pl,hz⟩:=I.list hq;obtain⟨o,n,ho,hc,_,hd⟩:=pl;have ei:=Lj r';subst ei;rw[Ya] at hz;have lp:=cX ht;have tq:rN s.heap (as.map Value.ref) bN:=by
  have aux:∀{as:List Addr} {bN:List (Int×Int)},Paired (λa (p:Int×Int)=>H a=some (.tup [.int p.1,.int p.2])) as bN->rN s.heap (as.map Value.ref) bN:=λ{as bN} h=>by
   induction h with
   |nil=>exact .nil
   |cons h1 _ ih=>
    refine .cons ?_ ih;obtain⟨ij,r2,⟨o2,g1,g2,n2,g3⟩,_⟩:=I.tuple (aA.of h1);obtain⟨u1,u2,rfl,⟨t1,rfl⟩,⟨t2,rfl⟩⟩:=vals2 r2
    grind
  exact aux ht
 refine VE (ps:=bN) ho hc hd tq nd (by rw[Ya];exact gD) (by rw[Yu,Ya];exact hz) λh1 h' out e kp xH he pm eo=>?_;have I1:Inv X pins σ H {s with heap:=h1}:=I.kept (t':=s.toks) kp;obtain⟨gF,lY,Zey,pa,pr,pw⟩:∃(gF:List Addr) (lY:List (Int×Int)),out=gF.map Value.ref/\Paired (λa (p:Int×Int)=>H a=some (.tup [.int p.1,.int p.2])) gF lY/\lY.Perm bN/\lY.Pairwise iU:=by
  by_cases z:2<=(as.map Value.ref).length
  ·have eo:=eo z;rw[Ya] at eo z;obtain⟨P,g,sd,eo⟩:=eo;rw[lp] at g sd;have e1:P.toList.Perm (List.range bN.length):=by
    have:=Jt.mp g.2;simpa using this
   have fh:∀i∈P.toList,i<bN.length:=λi hi=>Wl.mp (e1.subset hi);refine⟨P.toList.map λi=>as.getD i 0,P.toList.map λi=>bN.getD i (0,0),?_,Kn λi hi=>Dn ht (by rw[lp];exact fh i hi) 0 (0,0),?_,?_⟩
   ·rw[eo,Y9];refine Wx λi hi=>?_;have:=fh i hi;show(as.map Value.ref).getD i Value.none=Value.ref (as.getD i 0);rw[Yj,Yd,Yb (by omega),Yj,Yb (by omega)];rfl
   ·have:=e1.map λi=>bN.getD i (0,0);rw[range_getD] at this;exact this
   ·rw[Ws,Wz];intro i j hi hj jV;have sz:=g.size;have gi:P.toList[i]=P.getD i 0:=by
     rw[Wr] at hi;simp_all
    have gj:P.toList[j]=P.getD j 0:=by
     rw[Wr] at hj;simp_all
    rw[gi,gj];rw[Wr] at hj;exact ltB_iff.mp (sd i j jV (by omega))
  ·rw[Ya] at z;have eq:out=as.map Value.ref:=by
    match as,out,z,pm with
    |[],out,_,pm=>exact List.Perm.eq_nil pm
    |[a],out,_,pm=>exact List.Perm.eq_singleton pm
    |_::_::_,_,z,_=>exact absurd (by simp) z
   refine⟨as,bN,eq,ht,List.Perm.refl _,?_⟩;match bN,lp with
   |[],_=>exact .nil
   |[a],_=>exact List.pairwise_singleton _ _
   |_::_::_,lp=>exact absurd lp (by simp;omega)
 refine⟨.ref h1.objs.size,_,I1.laid (t':=s.toks) (o:=.lst (gF.map V.ref)) xH (Ye _) ⟨?_,out,e,by rw[Zey];exact Lk gF,by simpa[seqObj] using he⟩,rfl,(q gF lY pa pr pw).at _ (I1.aw.fresh (Ye _))⟩;rw[Ya,cX pa,pr.length_eq];exact Jw (jD (by omega))
end L2
namespace L2
open PySem PySem.Spec PyProof.Rows
theorem jJ{X:Cx}{K:ai}{ex:Expr}{T:String}{r:V->List V->Hp->VK->Prop}{to:TE}{t:TA}(h:X.K=K)(p:PE X ex (xB X.K T r to t)):PE X ex (xB K T r to t):=h▸p
theorem Za9{X:Cx}{K:ai}{ex:Expr}{T:String}{r:V->List V->Hp->VK->Prop}{to:TE}(h:X.K=K)(p:PE X ex (Ge X.K T r to)):PE X ex (Ge K T r to):=h▸p
theorem Ll{X:Cx}{K:ai}{a:Expr}{ta:TE}(h:X.K=K)(p:PT X a (λσ H Q=>ta σ H λx H'=>∃k,z_ X.K x H' k/\Q k H')):PT X a (λσ H Q=>ta σ H λx H'=>∃k,z_ K x H' k/\Q k H'):=h▸p
theorem M7{X:Cx}{K:ai}{f:Value->Value->Sem Value}{b:Bool}(h:X.K=K)(p:cD X f (Ag X.K b)):cD X f (Ag K b):=h▸p
def oF(H0:Hp)(d:Addr):Prop:=(∀xs,H0 d≠some (.tup xs))/\(∀o u,H0 d≠some (.bX o u))/\∀ps,H0 d≠some (.ng ps)
section
variable {X:Cx}{pins:aZ}{σ:St}{H:Hp}{s:Shared}{d:Addr}{kvs:List (Key×V)}
theorem Inv.Pp(I:Inv X pins σ H s)(e:H d=some (.dK kvs)):oF X.kR d:=
 ⟨(λxs z=>by have:=I.base.jM d xs z;rw[e] at this;cases this),(λo u z=>by have:=I.base.kQ d o u z;rw[e] at this;cases this),(λps z=>by obtain⟨m,h⟩:=I.base.lT d ps z;rw[e] at h;cases h)⟩
theorem Inv.swap(I:Inv X pins σ H s)(e:H d=some o)(nf:oF X.kR d)(no:∀a,o≠.own a)(nt:∀xs,o≠.tup xs)(ok:cB X.prog X.w H s.heap d o'):Inv X pins σ (upd H d o') s:=by
 have jL:∀{a:Addr} {o1:HO},cB X.prog X.w H s.heap a o1->cB X.prog X.w (upd H d o') s.heap a o1:=λ{a o1} x=>x.jL (λ_ _ _ z=>z)
  (λb z=>by rw[aC (λq=>no a (Ym (e.symm.trans (by rw[←q];exact z))))];exact z)
  (λb xs z=>by rw[aC (λq=>nt xs (Ym (e.symm.trans (by rw[←q];exact z))))];exact z)
 have ne:∀{b:Addr},H b=none->b≠d:=λ{b} hb z=>by rw[z,e] at hb;cases hb
 refine⟨I.ok,I.os,I.bare,⟨I.base.keep,I.base.slot,λb ob q n hx=>?_,I.base.there,λb xs q=>?_,λb ob u q=>?_,λb ps q=>?_⟩,I.loc,I.cell,?_,λx c ec=>?_,λp hp=>?_,λa o1 e1=>?_,I.len⟩
 ·have h:=I.base.free b ob q n hx;rw[aC (ne h)];exact h
 ·rw[aC (λz=>nf.1 xs (by rw[←z];exact q))];exact I.base.jM b xs q
 ·rw[aC (λz=>nf.2.1 ob u (by rw[←z];exact q))];exact I.base.kQ b ob u q
 ·rw[aC (λz=>nf.2.2 ps (by rw[←z];exact q))];exact I.base.lT b ps q
 ·rw[aC (ne I.free)];exact I.free
 ·rw[aC (ne (I.kM x c ec))];exact I.kM x c ec
 ·obtain⟨p1,p2,p3⟩:=I.pin p hp;exact⟨p1,by rw[aC (ne p2)];exact p2,p3⟩
 ·by_cases z:a=d
  ·subst z;rw[aI] at e1
   grind
  ·rw[aC z] at e1;exact jL (I.aw a o1 e1)
end
theorem ZdM(h:(dv P w).is k u=true):RelV (kV k) u:=by
 rcases lG h with⟨i,t,rfl,rfl⟩|⟨x,t,rfl,rfl⟩;·exact⟨t,rfl⟩
 ·exact⟨t,rfl⟩
theorem Ot:∀{kvs:List (Key×V)} {vs:List (Key×Value)} {i:Nat} {k:Key} {y:V},KV kvs vs->kvs[i]?=some (k,y)->∃v,vs[i]?=some (k,v)/\RelV y v:=λ{kvs vs i k y} r h=>by
 obtain⟨q,e,h1,h2⟩:=fX (F:=λ(p:Key×V) (q:Key×Value)=>p.1=q.1/\RelV p.2 q.2) r h
 grind
theorem zP(I:Inv X pins σ H s)(e:H d=some (.bX od (.dK kvs)))(jv:od.data=.dict es ep):∃vs,KV kvs vs/\s.heap.DictAt (dv X.prog X.w) d vs ep:=by
 obtain⟨g,_,_,vs,rel,o,AN,AO,h1,h2,h3,h4⟩:=(show cB X.prog X.w H s.heap d (.bX od (.dK kvs)) from I.aw d _ e);rw[g] at h1;cases h1;rw[jv] at h3;cases h3;exact⟨vs,rel,od,es,g,h2,jv,h4⟩
theorem Inv.Ah(I:Inv X pins σ H s)(nf:oF X.kR d)(e:H d=some (.bX od (.dK kvs))):Inv X pins σ (upd H d (.dK kvs)) s:=
 I.swap e nf (λa z=>by cases z) (λxs z=>by cases z) (show cB X.prog X.w H s.heap d (.bX od (.dK kvs)) from I.aw d _ e).2
def HU(d:Addr)(od:Obj)(kvs:List (Key×V)):It:=⟨λi H=>H d=some (.bX od (.dK kvs))/\i<kvs.length,λi H v H'=>H'=H/\∃k y,kvs[i]?=some (k,y)/\v=kV k,λi H=>H d=some (.bX od (.dK kvs))/\kvs.length<=i⟩
theorem Ze{P:Program}{w:World}{K:ai}{tg:Expr}(it d:Addr)(od:Obj)(es:Array DictEntry)(ep:Nat)(jv:od.data=.dict es ep)(kvs:List (Key×V)):Turn P w K tg (HU d od kvs) [it] it (λi h=>h.IsKeyIter it d i kvs.length ep) where
 mem:=by simp
 obj:=λi h st b hb=>by
  have e:b=it:=by simpa using hb
  obtain⟨o,e,c,dd⟩:=st
  grind
 keep:=λi h h' st k=>let⟨o,e,r⟩:=st;⟨o,k it (by simp) o e,r⟩
 item:=by
  intro X hP hw hK hc i pins s σ H E I hf st hg;subst hP hw hK;obtain⟨f0,f1,f2,f3,f4,f5⟩:=hf it (by simp);obtain⟨hz,bJ⟩:=hg;obtain⟨vs,rel,da⟩:=zP I hz jv;have ll:=rel.length;obtain⟨k,y,hk⟩:∃k y,kvs[i]?=some (k,y):=⟨kvs[i].1,kvs[i].2,Yb bJ⟩;obtain⟨v,hv,ry⟩:=Ot rel hk;rw[ll] at st;refine wpAny_pyNext_dict_item st da hv λkey h' m6 aN sb=>?_;obtain⟨o,e,c,dd⟩:=id aN;exact⟨_,rfl,rJ e c dd (by decide) ⟨kV k,H,(I.turned (λb o hb e=>sb.extBut b o hb e) f0 f1 f3 f4 f5),ZdM m6,⟨rfl,k,y,hk,rfl⟩,by rw[ll];exact aN,λb hb=>(hf b hb).1⟩⟩
 done:=by
  intro X hP hw hK hc i pins s σ H E I hf st hg;subst hP hw hK;obtain⟨f0,f1,f2,f3,f4,f5⟩:=hf it (by simp);obtain⟨hz,hle⟩:=hg;obtain⟨vs,rel,da⟩:=zP I hz jv;have ll:=rel.length;rw[ll] at st;exact wpAny_pyNext_dict_end (I.ok.hd hc) st da (Y3 (by omega)) λh' eb=>⟨rfl,I.turned (λb o hb e=>eb b o hb e) f0 f1 f3 f4 f5⟩
 self:=λA i s Q E st h=>wpAny_pyIter_keyiter st h
def FU(H0:Hp)(td:TE):TI:=λσ H R=>td σ H λx H1=>∃d kvs,x=.ref d/\H1 d=some (.dK kvs)/\∀od,oF H0 d->R (HU d od kvs) (upd H1 d (.bX od (.dK kvs)))
theorem Za_{X:Cx}{H0:Hp}{tg l:Expr}{td:TE}(h0:X.kR=H0)(hl:PE X l td):PI X tg l (FU H0 td):=by
 subst h0;intro pins s σ H R I h;refine aB (hl pins s σ H _ I h) λv s1 zq=>?_;obtain⟨x,H1,I1,r1,d,kvs,ex,hd,q⟩:=zq;subst ex;obtain rfl:v=Value.ref d:=r1;obtain⟨zz,xO,vs,rel,dd⟩:=mX I1.aw hd;obtain⟨od,es,ep,sE,hx,jv,wN⟩:=id dd;have nf:=I1.Pp hd;refine wpAny_pyIter_dict xO ⟨od,es,sE,hx,jv,wN⟩ ?_;have I2:Inv X pins σ H1 {s1 with heap:=s1.heap.push {cls:=.type "dict_keyiterator",data:=.fields #[.ref d,.int 0 0,.int vs.length 0,.int ep 0]},toks:=s1.toks}:=I1.kept λb o e=>Yc _ e;refine⟨s1.heap.objs.size,[s1.heap.objs.size],_,HU d od kvs,_,rfl,(I2.swap (o':=.bX od (.dK kvs)) hd nf (λa z=>by cases z) (λxs z=>by cases z) ⟨Yc _ sE,(I2.aw d _ hd)⟩),Ze _ d od es ep jv kvs,⟨_,Yr _ rfl,rfl,by rw[rel.length];rfl⟩,λb hb=>?_,q od nf⟩;have e:b=s1.heap.objs.size:=by simpa using hb
 subst e;exact I1.qj (Ye _) (by rw[aC (G5 (Yx sE))];exact I1.aw.fresh (Ye _))
def Pq(H0:Hp)(td:TE)(g:TG)(tb:TS):TS:=λD σ H=>F9 (FU H0 td) g tb ⟨λaO H'=>∃d od kvs,oF H0 d/\H' d=some (.bX od (.dK kvs))/\D.nx aO (upd H' d (.dK kvs)),λv H'=>∃d od kvs,oF H0 d/\H' d=some (.bX od (.dK kvs))/\D.rt v (upd H' d (.dK kvs)),λ_ _=>False,λ_ _=>False⟩ σ H
theorem Xv(h0:X.kR=H0)(hp:PassesOwn X.md X.A X.env X.xe)(hc:X.calm=true)(hi:PI X tg l (FU H0 td))(hg:PG X tg g)(hb:gv X body tb)(hs:∀x,foldedSetIterable l X.env x=pure x:=by intro _;rfl):PS X (.For tg l body [] pos) (Pq H0 td g tb):=by
 subst h0;intro pins s σ H D I h;refine aB (gc hp hc hi hg hb hs pins s σ H _ I h) λf s1 q=>?_;cases f with
 |next=>obtain⟨aO,H',I',d,od,kvs,nf,e,q⟩:=q;exact⟨aO,_,I'.Ah nf e,q⟩
 |brk=>obtain⟨_,_,_,q⟩:=q;exact False.elim q
 |cont=>obtain⟨_,_,_,q⟩:=q;exact False.elim q
 |ret u=>obtain⟨v,aO,H',I',r,d,od,kvs,nf,e,q⟩:=q;exact⟨v,aO,_,I'.Ah nf e,r,q⟩
theorem Z6(gG:∀R:VK,R (.ref d) H1->td σ H R)(hd:H1 d=some (.dK kvs))(Pv:Nat->St->Hp->Prop)
  (p0:∀od,Pv 0 σ (upd H1 d (.bX od (.dK kvs))))
  (hs:∀od i k y aO H' (N:St->Hp->Prop) (rt:VK) (bk:St->Hp->Prop),kvs[i]?=some (k,y)->Pv i aO H'->H' d=some (.bX od (.dK kvs))->(∀cK H3,Pv (i+1) cK H3->H3 d=some (.bX od (.dK kvs))->N cK H3)->g (kV k) aO H' λdq H2=>tb ⟨N,rt,bk,N⟩ dq H2)
  (Gn:∀od aO H',Pv kvs.length aO H'->H' d=some (.bX od (.dK kvs))->D.nx aO (upd H' d (.dK kvs))):Pq H0 td g tb D σ H:=by
 refine gG _ ⟨d,kvs,rfl,hd,λod nf=>⟨λi m aO H'=>m=kvs.length-i/\i<=kvs.length/\Pv i aO H'/\H' d=some (.bX od (.dK kvs)),⟨kvs.length,by omega,Yw _,p0 od,aI⟩,?_⟩⟩;rintro i m aO H' ⟨rfl,hi,p,fz⟩;by_cases bJ:i<kvs.length
 ·refine .inr ⟨⟨fz,bJ⟩,λcK H3=>Pv (i+1) cK H3/\H3 d=some (.bX od (.dK kvs)),λcK H3 ⟨a,c⟩=>⟨kvs.length-(i+1),by omega,rfl,bJ,a,c⟩,?_⟩;rintro x H4 ⟨rfl,k,y,hk,rfl⟩;exact hs od i k y aO H4 (λcK H3=>Pv (i+1) cK H3/\H3 d=some (.bX od (.dK kvs))) _ _ hk p fz λcK H3 p3 f3=>⟨p3,f3⟩
 ·have e:i=kvs.length:=by omega
  subst e;exact .inl ⟨⟨fz,Ye _⟩,d,od,kvs,nf,fz,Gn od _ _ p fz⟩
section
variable {P:Program}{w:World}{A:Around}{E:bb}{s:Shared}{it d:Addr}{i n ep:Nat}{ok ov:Value}{o:Obj}{es:Array DictEntry}{e:DictEntry}
end
section
variable {P:Program}{w:World}{A:Around}{E:bb}{s:Shared}{d o:Addr}{knd:HeapKind P w (List Key)}{xs ms:List (List Key×Addr×Value)}
end
section
variable {X:Cx}
theorem Zba{H:Hp}{kvs:List (List Key×V)}{xs:List (List Key×Addr×Value)}(r:KT H kvs xs):xs.map (·.1)=kvs.map (·.1):=by
 induction r with
 |nil=>rfl
 |cons f _ ih=>grind
end
section
variable {X:Cx}{pins:aZ}{σ:St}{H:Hp}{s:Shared}{d:Addr}{kvs:List (List Key×V)}
end
theorem Zbb:bootBuiltins "dict"=some (.type "dict"):=by decide+kernel
def HV(d:Addr)(od:Obj)(kvs:List (Key×V)):It:=⟨λi H=>H d=some (.bX od (.dK kvs))/\i<kvs.length,λi H v H'=>H'=H/\∃k,kvs[i]?=some (k,v),λi H=>H d=some (.bX od (.dK kvs))/\kvs.length<=i⟩
theorem Zf{P:Program}{w:World}{K:ai}{tg:Expr}(it d:Addr)(od:Obj)(es:Array DictEntry)(ep:Nat)(jv:od.data=.dict es ep)(kvs:List (Key×V)):Turn P w K tg (HV d od kvs) [it] it (λi h=>h.IsValIter it d i kvs.length ep) where
 mem:=by simp
 obj:=λi h st b hb=>by
  have e:b=it:=by simpa using hb
  obtain⟨o,e,c,dd⟩:=st
  grind
 keep:=λi h h' st k=>let⟨o,e,r⟩:=st;⟨o,k it (by simp) o e,r⟩
 item:=by
  intro X hP hw hK hc i pins s σ H E I hf st hg;subst hP hw hK;obtain⟨f0,f1,f2,f3,f4,f5⟩:=hf it (by simp);obtain⟨hz,bJ⟩:=hg;obtain⟨vs,rel,da⟩:=zP I hz jv;have ll:=rel.length;obtain⟨k,y,hk⟩:∃k y,kvs[i]?=some (k,y):=⟨kvs[i].1,kvs[i].2,Yb bJ⟩;obtain⟨v,hv,ry⟩:=Ot rel hk;rw[ll] at st;refine wpAny_pyNext_values_item st da hv λh' aN sb=>?_;obtain⟨o,e,c,dd⟩:=id aN;exact⟨_,rfl,rJ e c dd (by decide) ⟨y,H,(I.turned (λb o hb e=>sb.extBut b o hb e) f0 f1 f3 f4 f5),ry,⟨rfl,k,hk⟩,by rw[ll];exact aN,λb hb=>(hf b hb).1⟩⟩
 done:=by
  intro X hP hw hK hc i pins s σ H E I hf st hg;subst hP hw hK;obtain⟨f0,f1,f2,f3,f4,f5⟩:=hf it (by simp);obtain⟨hz,hle⟩:=hg;obtain⟨vs,rel,da⟩:=zP I hz jv;have ll:=rel.length;rw[ll] at st;exact wpAny_pyNext_values_end (I.ok.hd hc) st da (Y3 (by omega)) λh' eb=>⟨rfl,I.turned (λb o hb e=>eb b o hb e) f0 f1 f3 f4 f5⟩
 self:=λA i s Q E st h=>wpAny_pyIter_valiter st h
def FV(H0:Hp)(td:TE):TI:=λσ H R=>td σ H λx H1=>∃d kvs,x=.ref d/\H1 d=some (.dK kvs)/\∀od,oF H0 d->R (HV d od kvs) (upd H1 d (.bX od (.dK kvs)))
theorem Zbc{X:Cx}{H0:Hp}{tg:Expr}{apos cJ:Pos}{o:Expr}{td:TE}(h0:X.kR=H0)(ho:PE X o td)(rL:attributeBase o "values" X.env (eval o X.env)=eval o X.env:=by rfl)(rM:(apos.endLine==cJ.line)=true:=by rfl):PI X tg (.Call (.Attribute o "values" apos) [] [] cJ) (FV H0 td):=by
 subst h0;intro pins s σ H R I h;refine wpAny_Call_method0_late rL rM (aB (ho pins s σ H _ I h) λv s1 zq=>?_);obtain⟨x,H1,I1,r1,d,kvs,ex,hd,q⟩:=zq;subst ex;obtain rfl:v=Value.ref d:=r1;obtain⟨t1,t2,xO⟩:=wG I1 (.inl ⟨kvs,.inl hd⟩);refine⟨"dict","dict.values",plainAttrs_dict,PySem.F.slot_dict_values,PySem.F.type_dict_values,t1,t2,Calls.callWith_builtin rfl (PySem.evalArgs_none ?_)⟩;obtain⟨zz,_,vs,rel,dd⟩:=mX I1.aw hd;refine call_meetsIn PySem.F.slot_dict_values dd.typeIs PySem.F.entry_dict_values (PySem.F.args_dict_values_1 _) (meets_dict_values (dv X.prog X.w) d xO) ⟨⟨vs,dd⟩,?_⟩;obtain⟨od,es,ep,sE,hx,jv,wN⟩:=id dd;have nf:=I1.Pp hd;have up:∀b o,s1.heap.get? b=some o->(s1.heap.push {cls:=.type "dict_values",data:=.fields #[.ref d]}).get? b=some o:=λb o e=>Yc _ e;refine wpAny_pyIter_values (knd:=dv X.prog X.w) (d:=d) (kvs:=vs) (ep:=ep) ⟨_,Yr _ rfl,rfl,rfl⟩ ⟨od,es,up _ _ sE,hx,jv,wN⟩ ?_;generalize hG:s1.heap.push {cls:=.type "dict_values",data:=.fields #[.ref d]}=G at up⊢;have I2:Inv X pins σ H1 {s1 with heap:=G.push {cls:=.type "dict_valueiterator",data:=.fields #[.ref d,.int 0 0,.int vs.length 0,.int ep 0]},toks:=s1.toks}:=I1.kept (t':=s1.toks) λb o e=>Yc _ (up b o e);have hdk:cB X.prog X.w H1 _ d (.dK kvs):=I2.aw d _ hd;have I3:=I2.swap (o':=.bX od (.dK kvs)) hd nf (λa z=>by cases z) (λxs z=>by cases z) ⟨Yc _ (up _ _ sE),hdk⟩;have HW:s1.heap.objs.size<=G.objs.size:=by rw[←hG,Ju];omega
 refine⟨G.objs.size,[G.objs.size],_,HV d od kvs,_,rfl,I3,Zf _ d od es ep jv kvs,⟨_,Yr _ rfl,rfl,by rw[rel.length];rfl⟩,λb hb=>?_,q od nf⟩;have e:b=G.objs.size:=by simpa using hb
 subst e;have dlt:d<s1.heap.objs.size:=Yx sE;exact I1.qj HW (by rw[aC (G5 (Y0 dlt HW))];exact I1.aw.fresh HW)
def Pr(H0:Hp)(td:TE)(g:TG)(tb:TS):TS:=λD σ H=>F9 (FV H0 td) g tb ⟨λaO H'=>∃d od kvs,oF H0 d/\H' d=some (.bX od (.dK kvs))/\D.nx aO (upd H' d (.dK kvs)),λv H'=>∃d od kvs,oF H0 d/\H' d=some (.bX od (.dK kvs))/\D.rt v (upd H' d (.dK kvs)),λ_ _=>False,λ_ _=>False⟩ σ H
theorem Xw(h0:X.kR=H0)(hp:PassesOwn X.md X.A X.env X.xe)(hc:X.calm=true)(hi:PI X tg (.Call (.Attribute o "values" apos) [] [] cJ) (FV H0 td))(hg:PG X tg g)(hb:gv X body tb):
  PS X (.For tg (.Call (.Attribute o "values" apos) [] [] cJ) body [] pos) (Pr H0 td g tb):=by
 subst h0;intro pins s σ H D I h;refine aB (gc hp hc hi hg hb (λ_=>rfl) pins s σ H _ I h) λf s1 q=>?_;cases f with
 |next=>obtain⟨aO,H',I',d,od,kvs,nf,e,q⟩:=q;exact⟨aO,_,I'.Ah nf e,q⟩
 |brk=>obtain⟨_,_,_,q⟩:=q;exact False.elim q
 |cont=>obtain⟨_,_,_,q⟩:=q;exact False.elim q
 |ret u=>obtain⟨v,aO,H',I',r,d,od,kvs,nf,e,q⟩:=q;exact⟨v,aO,_,I'.Ah nf e,r,q⟩
theorem Z7(gG:∀R:VK,R (.ref d) H1->td σ H R)(hd:H1 d=some (.dK kvs))(Pv:Nat->St->Hp->Prop)
  (p0:∀od,Pv 0 σ (upd H1 d (.bX od (.dK kvs))))
  (hs:∀od i k y aO H' (N:St->Hp->Prop) (rt:VK) (bk:St->Hp->Prop),kvs[i]?=some (k,y)->Pv i aO H'->H' d=some (.bX od (.dK kvs))->(∀cK H3,Pv (i+1) cK H3->H3 d=some (.bX od (.dK kvs))->N cK H3)->g y aO H' λdq H2=>tb ⟨N,rt,bk,N⟩ dq H2)
  (Gn:∀od aO H',Pv kvs.length aO H'->H' d=some (.bX od (.dK kvs))->D.nx aO (upd H' d (.dK kvs))):Pr H0 td g tb D σ H:=by
 refine gG _ ⟨d,kvs,rfl,hd,λod nf=>⟨λi m aO H'=>m=kvs.length-i/\i<=kvs.length/\Pv i aO H'/\H' d=some (.bX od (.dK kvs)),⟨kvs.length,by omega,Yw _,p0 od,aI⟩,?_⟩⟩;rintro i m aO H' ⟨rfl,hi,p,fz⟩;by_cases bJ:i<kvs.length
 ·refine .inr ⟨⟨fz,bJ⟩,λcK H3=>Pv (i+1) cK H3/\H3 d=some (.bX od (.dK kvs)),λcK H3 ⟨a,c⟩=>⟨kvs.length-(i+1),by omega,rfl,bJ,a,c⟩,?_⟩;rintro x H4 ⟨rfl,k,hk⟩;exact hs od i k x aO H4 (λcK H3=>Pv (i+1) cK H3/\H3 d=some (.bX od (.dK kvs))) _ _ hk p fz λcK H3 p3 f3=>⟨p3,f3⟩
 ·have e:i=kvs.length:=by omega
  subst e;exact .inl ⟨⟨fz,Ye _⟩,d,od,kvs,nf,fz,Gn od _ _ p fz⟩
section
variable {X:Cx}{o i:Expr}{td ty:TE}{Aa pos:Pos}
def ZcR(td ty:TE):TS:=λD σ H=>td σ H λx H1=>ty σ H1 λy H2=>∃a kvs k,x=.ref a/\H2 a=some (.dK kvs)/\y=kV k/\(aS kvs k).isSome=true/\Ch H2 a (.dK (gk kvs k)) (D.nx σ)
theorem Z8(ho:PE X o td)(hi:PE X i ty):PS X (.Delete [.Subscript o i Aa] pos) (ZcR td ty):=by
 intro pins s σ H D I h;refine wpAny_Delete (wpAny_deleteEach_cons (wpAny_delete_Subscript (aB (ho pins s σ H _ I h) λu s1 zq=>?_)));obtain⟨x,H1,I1,rx,q1⟩:=zq;refine aB (hi pins s1 σ H1 _ I1 q1) λiv s2 zq=>?_;obtain⟨y,H2,I2,ry,a,kvs,k,ex,e,ey,l,q2⟩:=zq;subst ex ey;obtain rfl:u=Value.ref a:=rx;exact YS I2 e ry l λs3 I3=>wpAny_deleteEach_nil ⟨σ,_,I3,q2.at⟩
theorem L3[DecidableEq α]:∀{xs:List (α×β)} {j:Nat} {k:α} {p:β},(xs.map (·.1)).Nodup->xs[j]?=some (k,p)->xs.eraseIdx j=xs.filter λx=>decide (x.1≠k)
 |[],_,_,_,_,h=>rfl
 |x::xs,0,k,p,nd,h=>by
  have e:x=(k,p):=by simpa using h
  subst e;rw[List.eraseIdx_cons_zero,List.filter_cons_of_neg (by simp)];refine(List.filter_eq_self.mpr λy hy=>?_).symm
  grind
 |x::xs,j+1,k,p,nd,h=>by
  obtain⟨n1,n2⟩:=Yy.mp (show(x.1::xs.map (·.1)).Nodup from nd);have h':xs[j]?=some (k,p):=by simpa using h
  rw[List.eraseIdx_cons_succ,L3 n2 h',Jx (by simpa using(λz=>n1 (by rw[z];exact Yf.mpr ⟨_,Yh h',rfl⟩)))]
theorem L4(f:α->β):∀(xs:List α) (j:Nat),(xs.map f).eraseIdx j=(xs.eraseIdx j).map f
 |[],_=>rfl
 |_::_,0=>rfl
 |x::xs,j+1=>by
  show f x::(xs.map f).eraseIdx j=f x::(xs.eraseIdx j).map f;rw[L4 f xs j]
theorem Zbd(k:List Key)(r:KT H kvs xs):KT H (gk kvs k) (xs.filter λx=>decide (x.1≠k)):=by
 unfold gk;induction r with
 |nil=>exact .nil
 |@cons p x ps xs f t ih=>
  by_cases e:p.1=k;·grind
  ·rw[Jx (by simpa using e),Jx (by rw[←f.1];simpa using e)];exact .cons f ih
theorem Z9{P:Program}{w:World}{A:Around}{E:bb}{s:Shared}{d a:Addr}{knd:HeapKind P w (List Key)}{xs:List (List Key×Addr×Value)}{k:List Key}{Q:Option DictEntry->Shared->Prop}(room:knd.room A)(is:knd.is s.heap k a)(D:s.heap.DictOfH knd d xs)(there:k∈xs.map (·.1))(hz:xs.length<=sizeLine)
  (hQ:∀e h' t',h'.DictOfH knd d (xs.filter λx=>decide (x.1≠k))->Heap.SameBut d s.heap h'->Q (some e) {s with heap:=h',toks:=t'}):wpAny (model P w) A (Builtin.Dict.takeOut d (.ref a)) Q E s:=by
 obtain⟨ob,es,ep,g,ex,hd,he,RE,nd⟩:=D;refine wpAny_holding (wpAny_bind (knd.pyHash room is (wpAny_bind (wpAny_dictFind_heap room is g hd he RE nd (λno=>?_) λj p e=>?_))))
 ·obtain⟨x,hx,e⟩:=Yf.mp there;obtain⟨j,hj,ej⟩:=Wu.mp hx;exact absurd (show xs[j]?=some (k,x.2) by rw[Yb hj,ej,←e]) (no j x.2)
 ·have sz:es.size=xs.length:=by rw[←Wr,he,Ya]
  refine wpAny_bind (wpAny_dictEntries g hd ?_);rw[entry_at he j,e];have sb:=Heap.SameBut.update s.heap d (Obj.mapDictKeys λx=>x.eraseIdxIfInBounds j);refine wpAny_bind (wpAny_updateDictKeys g hd (wpAny_pure (hQ _ _ _ ⟨_,_,ep+1,J3 _ g (Obj.isFreed_of_dict (Obj.data_mapDictKeys hd _)),ex.mapDictKeys _,Obj.data_mapDictKeys hd _,?_,λx hx=>?_,?_⟩ sb)) (by rw[sz];exact hz))
  ·have hj:j<xs.length:=(Yi.mp e).1;rw[←L3 nd e];have e1:(es.eraseIdxIfInBounds j).toList=es.toList.eraseIdx j:=by
    simp_all
   rw[e1,he,L4]
  ·exact knd.keeps (RE x (Y5.mp hx).1) g hd sb
  ·grind
theorem Xx{pins:aZ}{σ:St}{H:Hp}{s:Shared}{a b:Addr}{kvs:List (List Key×V)}{k:List Key}{A:Around}{E:bb}{Q:Unit->Shared->Prop}(hu:A.units+1<cLine)(I:Inv X pins σ H s)(e:H a=some (.dT kvs))(eb:H b=some (.tup (k.map kV)))(l:(aS kvs k).isSome=true)(h:∀s',Inv X pins σ (upd H a (.dT (gk kvs k))) s'->Q () s'):
  wpAny X.md A (delItem (.ref a) (.ref b)) Q E s:=by
 obtain⟨z,sm,xs,rel,dd⟩:=Pm I.aw e;have l1:kvs.length=xs.length:=Paired.length rel;have there:k∈xs.map (·.1):=by
  rw[Zba rel];cases ev:aS kvs k with
  |none=>rw[ev] at l;cases l
  |some v=>
   unfold aS at ev;cases ef:kvs.find? λkv=>decide (kv.1=k) with
   |none=>rw[ef] at ev;cases ev
   |some p=>exact Yf.mpr ⟨p,List.mem_of_find?_eq_some ef,of_decide_eq_true (by simpa using List.find?_some ef)⟩
 refine wpAny_delItem_slot dd.typeIs (by decide) slot_dict_delitem (wpAny_call_entry slot_dict_delitem dd.typeIs PySem.F.entry_dict_delitem ?_ (PySem.F.args_dict_delitem_2 _ _));unfold Builtin.«dict.__delitem__»;refine wpAny_bind ?_;unfold Builtin.Dict.dictSlotArgs;refine wpAny_bind (wpAny_notOrdered_dict dd.typeIs ?_);show wpAny _ _ (pure (Value.ref a,Value.ref b)) _ _ s;refine wpAny_pure ?_;show wpAny _ _ (Builtin.Dict.takeOut a (.ref b)>>=_) _ _ s;refine wpAny_bind (Z9 (tupleKind_room_in1 hu) (qa I.aw eb) dd there (by omega) λen h' t' d' sb=>?_);refine wpAny_bind (wpAny_letGo (wpAny_pure ⟨.none,rfl,?_⟩));obtain⟨q',es,ep,hq,h2,h3,h4,_,h5⟩:=d';refine h _ (rh (t':=t') (ob:=.dT (gk kvs k)) I (by rw[e];exact True.intro) sb ⟨q',hq⟩ ⟨Y6 (Wi _ _) z,sm,_,(Zbd k rel).keeps λc ys ec=>by
   rw[aC (O5 ec e (λz=>nomatch z))];exact ec,q',es,ep,hq,h2,h3,h4,h5⟩)
def ZcS(td ty:TE):TS:=λD σ H=>td σ H λx H1=>ty σ H1 λy H2=>∃a b kvs k,x=.ref a/\H2 a=some (.dT kvs)/\y=.ref b/\H2 b=some (.tup (k.map kV))/\(aS kvs k).isSome=true/\Ch H2 a (.dT (gk kvs k)) (D.nx σ)
theorem L5(hu:X.A.units+1<cLine)(ho:PE X o td)(hi:PE X i ty):PS X (.Delete [.Subscript o i Aa] pos) (ZcS td ty):=by
 intro pins s σ H D I h;refine wpAny_Delete (wpAny_deleteEach_cons (wpAny_delete_Subscript (aB (ho pins s σ H _ I h) λu s1 zq=>?_)));obtain⟨x,H1,I1,rx,q1⟩:=zq;refine aB (hi pins s1 σ H1 _ I1 q1) λiv s2 zq=>?_;obtain⟨y,H2,I2,ry,a,b,kvs,k,ex,e,ey,eb,l,q2⟩:=zq;subst ex ey;obtain rfl:u=Value.ref a:=rx;obtain rfl:iv=Value.ref b:=ry;exact Xx hu I2 e eb l λs3 I3=>wpAny_deleteEach_nil ⟨σ,_,I3,q2.at⟩
end
end L2
namespace L2
open PySem PySem.W PySem.Spec PyProof.Rows
def ZcT:List V->Hp->VK->Prop:=λxs H Q=>∃(p:Addr) (kvs:List (Key×V)) (ns:List Int),xs=[.ref p]/\H p=some (.dK kvs)/\kvs.map (·.1)=ns.map Sum.inl/\ns.length<64/\∀cv:List Int,cv.Perm ns->cv.Pairwise (·<=·)->Nw H (.lst (cv.map V.int)) Q
theorem WJ(xO:(d==sysModules)=false)(hh:A.handled=none)
  (da:s.heap.DictAt (dv prog w) d vs ep)(hk:vs.map (·.1)=ns.map Sum.inl)(gD:vs.length<64)
  (h:∀(h1 h':Heap) (tk:Nat) (out:Array Value) (cv:List Int) (e:Nat),(∀b o,s.heap.get? b=some o->h1.get? b=some o)->(∀b o,h1.get? b=some o->h'.get? b=some o)->h'.get? h1.objs.size=some (seqObj "list" out e)->IntsAre out.toList cv->cv.Perm ns->cv.Pairwise (·<=·)->Q (.ref h1.objs.size) {s with heap:=h',toks:=tk}):
  wpAny (model prog w) A (call (.builtin "sorted") [.ref d]) Q E s:=by
 refine Calls.call_function_entry kind_sorted plain_sorted entry_sorted (args_sorted1 _) ?_;refine wpAny_bind (wpAny_pure ?_);have small:vs.length<=sizeLine:=by rw[sizeLine_eq];omega
 refine wpAny_bind (kdu_collect (kdl_dict (kvs:=vs) (ep:=ep) xO) hh da small λh1 tk acc kp it=>?_);have vals:Vals ((vs.map (·.1)).map kV) acc.toList:=by
  refine Ei (P:=prog) (w:=w) (by rw[Wr,Ya];exact it.1) λj v hj=>?_;obtain⟨k,x,hx,xP⟩:=it.2 j v (by rw[←Jm];exact hj)
  grind
 have e0:(vs.map (·.1)).map kV=ns.map V.int:=by rw[hk,Y9];rfl
 rw[e0] at vals;have hl:acc.toList.length<64:=by rw[Wr,it.1];exact gD
 refine wpAny_bind (wpAny_newList ?_);have Gp:(h1.push (seqObj "list" acc.toList.toArray 0)).get? h1.objs.size=some (seqObj "list" acc.toList.toArray 0):=by rw[Array.toArray_toList];exact(Yr _ rfl)
 refine wpAny_bind (wpAny_holding (wpAny_call_entry slot_list_sort ⟨_,Gp,rfl⟩ entry_list_sort (list_sort_tree Gp (intsAre_of vals) hl λout cv a1 a2 a3=>⟨_,rfl,?_⟩) (args_list_sort _)));obtain⟨e,he⟩:=sortedHeap_at (out:=out) Gp;exact wpAny_pure ⟨_,rfl,h h1 _ tk out cv e kp (λb ob hb=>by
  have bJ:=Yx hb;rw[sortedHeap_old (Yz bJ) (by rw[size_push'];exact Wv bJ),Jq _ _ _ (Yz bJ)];exact hb) he a1 a2 a3⟩
theorem Vf(hc:X.calm=true):cZ X (.builtin "sorted") ZcT:=by
 rintro pins s σ H xs us Q I r ⟨p,kvs,ns,rfl,hp,hk,gD,q⟩;obtain⟨u,rfl,ru⟩:=vals1 r;obtain rfl:u=Value.ref p:=ru;obtain⟨lim,xf,vs,kv,dd⟩:=mX I.aw hp;obtain⟨ep,da⟩:=dd.dictAt;have kl:=kv.length;have nl:kvs.length=ns.length:=by have:=congrArg List.length hk;rwa [Ya,Ya] at this
 refine WJ xf (I.ok.hd hc) da (by rw[←kv.keys];exact hk) (by omega) λh1 h' tk out cv e kp xH he a1 a2 a3=>?_;have I1:=I.kept (t':=s.toks) kp;refine⟨.ref h1.objs.size,_,I1.laid (o:=.lst (cv.map V.int)) xH (Ye _) ⟨?_,out.toList,e,Ef a1,by simpa[seqObj] using he⟩,rfl,(q cv a2 a3).at _ (I1.aw.fresh (Ye _))⟩;rw[Ya,a2.length_eq]
 grind
def Zbe:List V->Hp->VK->Prop:=λxs H Q=>∃(p:Addr) (kvs:List (Key×V)),xs=[.ref p]/\H p=some (.dK kvs)/\Nw H (.dK kvs) Q
theorem WK:cZ X (.type "dict") Zbe:=by
 rintro pins s σ H xs us Q I r ⟨p,kvs,rfl,hp,q⟩;obtain⟨u,rfl,ru⟩:=vals1 r;obtain rfl:u=Value.ref p:=ru;obtain⟨lim,xf,vs,kv,dd⟩:=mX I.aw hp;have kl:=kv.length;exact PySem.kt_call_dict xf dd (by omega) λh' d' sb=>⟨.ref s.heap.objs.size,_,I.laid (o:=.dK kvs) (λb o e=>(sb.2 b (Yz (Yx e))).trans (Yc _ e)) (Ye _) ⟨lim,beq_eq_false_iff_ne.mpr (Ne.symm (Yz I.big)),vs,kv,d'⟩,rfl,q.at _ (I.aw.fresh (Ye _))⟩
theorem Xy(val:Nat->Str)(xg:∀i v,P i v->∃t,v=.str (val i) t):CmpOf prog w A .Lt P (λi j=>decide ((val i).cps.toList<(val j).cps.toList)):=λi j vi vj s Q E hi hj h=>by
 obtain⟨t,rfl⟩:=xg i vi hi;obtain⟨u,rfl⟩:=xg j vj hj;exact richCompare_gives (op:=.Lt) (typeIs_str s _ t) (typeIs_str s _ u) F.slot_str_lt F.entry_str_lt (F.args_str_lt_2 _ _) (gives_str_lt _ _ t u) (λx=>nomatch x) h
theorem Xz(val:Nat->Str)(xg:∀i v,P i v->∃t,v=.str (val i) t):CmpOf prog w A .Gt P (λi j=>decide ((val j).cps.toList<(val i).cps.toList)):=λi j vi vj s Q E hi hj h=>by
 obtain⟨t,rfl⟩:=xg i vi hi;obtain⟨u,rfl⟩:=xg j vj hj;exact richCompare_gives (op:=.Gt) (typeIs_str s _ t) (typeIs_str s _ u) F.slot_str_gt F.entry_str_gt (F.args_str_gt_2 _ _) (gives_str_gt _ _ t u) (λx=>nomatch x) h
def ql(a b:Str):Str:=if b.cps.toList<a.cps.toList then b else a
def qm(a b:Str):Str:=if a.cps.toList<b.cps.toList then b else a
theorem ZcU{a b:Value}{s:Shared}:(s.heap.push {cls:=.type "tuple",data:=.seq #[a,b]}).IsTuple s.heap.objs.size #[a,b]:=⟨_,Yr _ rfl,rfl,0,rfl⟩
section
variable {prog:Program}{w:World}{A:Around}{E:bb}{s:Shared}
theorem M8(i:Nat)(v:Value)(h:(#[Value.str a t,Value.str b u]:Array Value)[i]?=some v):∃t',v=.str (([a,b]:List Str).getD i "") t':=by
 match i,h with
 |0,h=>grind
 |1,h=>grind
 |i+2,h=>simp at h
theorem L6{a b:Str}{t u:Tok}{Q:bb}{op:CmpOp}(f:Str->Str->Bool)(hh:A.handled=none)
  (cmp:CmpOf prog w A.in1 op (λi v=>(#[Value.str a t,Value.str b u]:Array Value)[i]?=some v) λi j=>f (([a,b]:List Str).getD i "") (([a,b]:List Str).getD j ""))
  (h:∀h' tk t',(∀c o,s.heap.get? c=some o->h'.get? c=some o)->Q (.str (if f b a=true then b else a) t') {s with heap:=h',toks:=tk}):
  wpAny (model prog w) A.in1 (pyIter (.ref s.heap.objs.size)) (λit d_=>∃I fp wr n P St bt,it=.ref I/\Walks prog w A.in1 I fp wr n P St/\St 0 d_.heap/\(∀b∈fp,b<d_.heap.objs.size)/\0<n/\CmpOf prog w A.in1 op P bt/\
   ∀v h' tk,P (argBest bt (n-1)) v->(∀b o,b∉wr->d_.heap.get? b=some o->h'.get? b=some o)->Q v {d_ with heap:=h',toks:=tk}) E
   {s with heap:=s.heap.push {cls:=.type "tuple",data:=.seq #[.str a t,.str b u]}}:=by
 have hT:=ZcU (a:=.str a t) (b:=.str b u) (s:=s);refine wpAny_pyIter_tuple hT ?_;have hsz:(s.heap.push {cls:=.type "tuple",data:=.seq #[.str a t,.str b u]}).objs.size=s.heap.objs.size+1:=Ju ..;refine⟨_,[_,s.heap.objs.size],[_],_,_,_,_,rfl,Walks.tuple (A:=A.in1) hh _ s.heap.objs.size (by rw[hsz];exact Yz (Wg _)) #[.str a t,.str b u],
  ⟨⟨_,Yr _ rfl,rfl,rfl⟩,hT.push _⟩,λc hc=>?_,by simp,cmp,λv h' tk hP hk=>?_⟩
 ·show c<((s.heap.push _).push _).objs.size;rw[Ju,hsz];rcases Yn.mp hc with rfl|hc;·rw[hsz];exact Wg _
  ·rw[Yo.mp hc];exact Wv (Wg _)
 ·have hold:∀c o,s.heap.get? c=some o->h'.get? c=some o:=λc o e=>by
   refine hk c o (λhm=>?_) (Yc _ (Yc _ e));have:=Yx e;rw[Yo.mp hm,hsz] at this;exact Y8 _ (Nat.lt_of_succ_lt this)
  have kY:(#[Value.str a t,Value.str b u]:Array Value)[if f b a=true then 1 else 0]?=some v:=hP;obtain⟨t',ev⟩:∃t',v=.str (if f b a=true then b else a) t':=by
   by_cases c:f b a=true
   ·rw[if_pos c] at kY⊢;exact⟨u,by simpa using kY.symm⟩
   ·rw[if_neg c] at kY⊢;exact⟨t,by simpa using kY.symm⟩
  subst ev;exact h h' tk t' hold
end
theorem XA(hc:X.calm=true):cZ X (.builtin "min") (λxs H Q=>∃i j:Str,xs=[.str i,.str j]/\Q (.str (ql i j)) H):=by
 intro pins s σ H xs us Q I r h;obtain⟨i,j,rfl,q⟩:=h;obtain⟨u,w',rfl,⟨t,rfl⟩,⟨t',rfl⟩⟩:=vals2 r;exact call_min_two (L6 (λx y=>decide (x.cps.toList<y.cps.toList)) (I.ok.hd hc) (Xy _ λi v=>M8 i v) λh' tk t2 k=>⟨.str (ql i j),H,I.kept k,⟨t2,by unfold ql;simp only[decide_eq_true_eq]⟩,q⟩)
theorem XB(hc:X.calm=true):cZ X (.builtin "max") (λxs H Q=>∃i j:Str,xs=[.str i,.str j]/\Q (.str (qm i j)) H):=by
 intro pins s σ H xs us Q I r h;obtain⟨i,j,rfl,q⟩:=h;obtain⟨u,w',rfl,⟨t,rfl⟩,⟨t',rfl⟩⟩:=vals2 r;exact call_max_two (L6 (λx y=>decide (y.cps.toList<x.cps.toList)) (I.ok.hd hc) (Xz _ λi v=>M8 i v) λh' tk t2 k=>⟨.str (qm i j),H,I.kept k,⟨t2,by unfold qm;simp only[decide_eq_true_eq]⟩,q⟩)
theorem ZcV:bootBuiltins "max"=some (.builtin "max"):=by decide+kernel
theorem M9:cD X (binaryOp .Mult) (λx y H Q=>∃(z:Str) (n:Nat),x=.str z/\y=.int (n:Int)/\z.length<=100/\n<=100/\Q (.str (Txt.mul z (n:Int))) H):=by
 intro pins s σ H x y v u Q I rx ry h;obtain⟨z,n,rfl,rfl,lz,ln,q⟩:=h;obtain⟨t,rfl⟩:=rx;obtain⟨t',rfl⟩:=ry;have lm:z.length*n<=10000:=Y6 (Nat.mul_le_mul lz ln) (by omega);refine PySem.SB.mul ⟨?_,λh1 _=>?_,λ_ _=>?_⟩ λt2 k=>⟨.str (Txt.mul z (n:Int)),H,I.tok k,⟨t2,rfl⟩,q⟩;·rw[decide_eq_false (by omega),decide_eq_false (by omega)];rfl
 ·have hn:(1:Int)<=(n:Int):=by omega
  intro hgt;have h3:((2:Int)^63-1)/(n:Int)≥(2^63-1)/100:=by
   refine Int.le_ediv_of_mul_le (by omega) ?_
   grind
  have h4:((2:Int)^63-1)/100>100:=by decide
  omega
 ·rw[Y4];exact decide_eq_false (by rw[sizeLine_eq];omega)
def nF:V->Bool
 |.int _=>true
 |.str _=>true
 |_=>false
theorem M_(h:nF x=true):iR x=true:=by cases x<;>first|rfl|cases h
theorem ZcW(hx:nF x=true)(hy:nF y=true):ju x y=decide (x=y):=by
 cases x with
 |int a=>
  cases y with
  |int b=>
   show(a==b)=_
   grind
  |str b=>rfl
  |_=>cases hy
 |str a=>
  cases y with
  |int b=>rfl
  |str b=>
   show(a==b)=_
   grind
  |_=>cases hy
 |_=>cases hx
theorem Lm:∀{xs ys:List V},xs.length=ys.length->xs.all nF=true->ys.all nF=true->((List.range xs.length).all λj=>ju (xs.getD j .az) (ys.getD j .az))=decide (xs=ys)
 |[],[],_,_,_=>rfl
 |[],_::_,h,_,_=>by simp at h
 |_::_,[],h,_,_=>by simp at h
 |x::xs,y::ys,h,fx,fy=>by
  rw[Ji,Wo] at fx fy;rw[Wn,List.range_succ_eq_map,Ji,HX];have e:((λj=>ju ((x::xs).getD j .az) ((y::ys).getD j .az))∘Nat.succ)=λj=>ju (xs.getD j .az) (ys.getD j .az):=rfl;rw[e,(Lm (by simpa using h) fx.2 fy.2)];show(ju x y&&_)=_;rw[ZcW fx.1 fy.1,Wm,Wo,decide_eq_true_iff,decide_eq_true_iff,decide_eq_true_iff,List.cons.injEq]
def Zez(K:ai)(neg:Bool):R2:=λx y H Q=>∃(p q:Addr) (xs ys:List V),x=.ref p/\y=.ref q/\aA K H p xs/\aA K H q ys/\xs.all nF=true/\ys.all nF=true/\Q (.bl (if neg=true then !decide (xs=ys) else decide (xs=ys))) H
theorem Na(r:Vals xs us):∀{j:Nat} (h:j<us.length),RelV (xs.getD j .az) us[j]:=by
 induction r with
 |nil=>grind
 |cons f _ ih=>grind
theorem Nb{xs:List V}{j:Nat}(f:xs.all nF=true)(h:j<xs.length):nF (xs.getD j .az)=true:=by
 grind
theorem ZcX{X:Cx}{K:ai}(hK:X.K=K)(hu:X.A.units<cLine):cD X (compareOp .NotEq) (Zez K true):=by
 subst hK;intro pins s σ H x y v u Q I rx ry h;obtain⟨p,q,xs,ys,rfl,rfl,h1,h2,f1,f2,k⟩:=h;cases rx;cases ry;obtain⟨ah,r1,p1,z1⟩:=I.tuple h1;obtain⟨ij,r2,p2,z2⟩:=I.tuple h2;have l1:=r1.length;have l2:=r2.length;show wpAny _ _ (richCompare .NotEq _ _) _ _ _;refine SeqAt.RcNeAt.tuples (e:=λj=>ju (xs.getD j .az) (ys.getD j .az)) p1 p2 hu (λj h1 h2=>?_) _ _ _ _ (cF I k ?_)
 ·have j1:j<ah.length:=by simpa using h1
  have j2:j<ij.length:=by simpa using h2
  have e1:=Na r1 j1;have e2:=Na r2 j2;have a1:ah.toArray[j]=ah[j]:=by simp
  have a2:ij.toArray[j]=ij[j]:=by simp
  rw[a1,a2];exact N8 e1 e2 (M_ (Nb f1 (by omega))) (M_ (Nb f2 (by omega)))
 ·rw[if_pos rfl,Yu,Yu,←l1,←l2];by_cases hl:xs.length=ys.length
  ·rw[←hl,Nat.min_self,Lm hl f1 f2];simp
  ·grind
section
variable {X:Cx}
end
def A6(g:Nat->Value):Nat->Nat->List Value
 |0,_=>[]
 |n+1,i=>g i::A6 g n (i+1)
theorem Ou(g:Nat->Value):∀(us:List Value) (i:Nat),(∀k,us[k]?=some (g (i+k))\/us.length<=k)->us=A6 g us.length i
 |[],_,_=>rfl
 |a::r,i,h=>by
  have e:a=g i:=by
   rcases h 0 with z|z;·grind
   ·cases z
  refine congr (congrArg _ e) (Ou g r (i+1) λk=>?_);have:=h (k+1)
  grind
inductive bU(K:ai)(x:Str)(st:Stmt)(f:Addr):Prop
 |mk {od an:Option Addr} {sl:Array (Option Value)} {oc kV dc pm cd ct:Value} (a:nsIn K mainGlobals x=some (some (.ref f))) (l:K.lookup f=some ⟨oc,od,.func (fnOf x x (oq st) (kJ st) (aK st) .none kV dc pm an cd ct),sl⟩) (c:codeIn K cd x=true) (k:keepIn K (.ref f)=true):bU K x st f
inductive cQ(K:ai)(C:Addr)(x q:Str)(st:Stmt)(f:Addr):Prop
 |mk {od an:Option Addr} {sl:Array (Option Value)} {oc kV dc pm cd ct:Value} (a:PySem.W.findIn K (.ref C) x=some (some (.ref f))) (b:isFn K (.ref f)=true) (l:K.lookup f=some ⟨oc,od,.func (fnOf x q (oq st) (kJ st) (aK st) .none kV dc pm an cd ct),sl⟩) (c:codeIn K cd q=true) (k:keepIn K (.ref f)=true):cQ K C x q st f
inductive k_(P:Program)(w:World)(K:ai)(mg:aX)(base:Heap):Prop
 |mk {h:Heap} (X:K.In h) (G:h.Ns mainGlobals mg):k_ P w K mg base
abbrev nG(x q:Str)(st:Stmt)(ps:List Str):Prop:=∀(kV doc pm:Value) (an:Option Addr) (b_ ct:Value) (g:Nat->Value),bindArgs (fnOf x q (oq st) (kJ st) (aK st) .none kV doc pm an b_ ct) ⟨A6 g ps.length 0,[]⟩=pure (ps.zip (A6 g ps.length 0))
theorem nG.at{x q:Str}{st:Stmt}{ps:List Str}(b:nG x q st ps)(kV doc pm:Value)(an:Option Addr)(b_ ct:Value)(us:List Value)(hl:us.length=ps.length):bindArgs (fnOf x q (oq st) (kJ st) (aK st) .none kV doc pm an b_ ct) ⟨us,[]⟩=pure (ps.zip us):=by
 have e:=Ou (λk=>us.getD k .none) us 0 λk=>by
  grind
 grind
section
variable {P:Program}{w:World}{K:ai}{mg:aX}{base:Heap}{C f:Addr}{x q:Str}{st:Stmt}{ps:List Str}{n:Nat}{sp:Sp}
theorem k_.p(D:k_ P w K mg base)(p:bU K x st f)(b:nG x x st ps:=by intro _ _ _ _ _ _ _;rfl):∃fd,aL K x x st f fd/\Binds K fd ps []/\keepIn K (.ref f)=true/\mg x=some (.ref f):=by
 obtain⟨X,G⟩:=D;obtain⟨a,l,c,k⟩:=p;exact⟨_,wC l c k,(wC l c k).binds (nG.at b),k,mg_of X G a⟩
theorem k_.d(D:k_ P w K mg base)(p:bU K x st f)(o:∀fd,aL K x x st f fd->aH P w K mg base aM n f fd ps sp)(b:nG x x st ps:=by intro _ _ _ _ _ _ _;rfl):HasFn P w K mg base n x ps sp:=by
 obtain⟨fd,F,b,k,m⟩:=D.p p b;exact⟨f,fd,o _ F,b,k,m⟩
theorem cQ.p(p:cQ K C x q st f)(b:nG x q st ps):∃fd,aL K x q st f fd/\Binds K fd ps []/\Meth K C x f/\PySem.W.findIn K (.ref C) x=some (some (.ref f))/\isFn K (.ref f)=true:=by
 obtain⟨a,e,l,c,k⟩:=p;exact⟨_,wC l c k,(wC l c k).binds (nG.at b),⟨a,e,k⟩,a,e⟩
theorem k_.m(_:k_ P w K mg base)(kc:iu K C)(p:cQ K C x q st f)(o:∀fd,aL K x q st f fd->aH P w K mg base aM n f fd ps sp)(b:nG x q st ps:=by intro _ _ _ _ _ _ _;rfl):bT P w K mg base n x C ps sp:=by
 obtain⟨fd,F,b,m,_,_⟩:=p.p b;exact⟨f,fd,kc,m,o _ F,b⟩
theorem k_.i(_:k_ P w K mg base){y:Str}(m:mg y=some (.ref C))(cb:makesIn K C=true)(cc:keepIn K (.ref C)=true)(p:cQ K C "__init__" q st f)(o:∀fd,aL K "__init__" q st f fd->aH P w K mg base aM n f fd ps sp)(b:nG "__init__" q st ps:=by intro _ _ _ _ _ _ _;rfl):oE P w K mg base n y C ps sp:=by
 obtain⟨fd,F,b,_,a,e⟩:=p.p b;exact⟨f,fd,⟨cb,a,e,cc⟩,o _ F,b,m⟩
end
end L2
namespace L2
open PySem PySem.Spec PyProof.Rows
section
variable {X:Cx}{K:ai}
theorem bY(i:Nat){x:Str}{e:Expr}{te:TE}{pos pos':Pos}(hN:X.N.Nodup)(he:PE X e te)(hi:X.N[i]?=some x:=by rfl)(hx:Loc X.env.scope x:=by exact Or.inl rfl)(hs:swapsWith e (some (.Name x pos')) pos.line X.env=pure false:=by rfl)
  (hf:X.fn x=true\/X.env.scope.names.lookup x=some .local:=by first|exact .inl rfl|exact .inr rfl|assumption):PS X (.Assign [.Name x pos'] e pos) (uy te (rH i)):=f_ hN hi hx he hs hf
theorem bA(i:Nat){x:Str}{pos:Pos}(hN:X.N.Nodup)(hi:X.N[i]?=some x:=by rfl)(hx:Loc X.env.scope x:=by exact Or.inl rfl)
  (hf:X.fn x=true\/X.env.scope.names.lookup x=some .local:=by first|exact .inl rfl|exact .inr rfl|assumption):PG X (.Name x pos) (rH i):=pU hN hi hx hf
theorem pF(K:ai)(i:Nat){x f:Str}{p pos:Pos}(h:X.K=K:=by rfl)(hN:X.N[i]?=some x:=by rfl)(hv:uJ X.env.scope x:=by first|exact Or.inl rfl|exact Or.inr (Or.inl rfl)|exact Or.inr (Or.inr rfl))(hd:(x==("__debug__":Str))=false:=by decide)
  (i6:(x==("__classdict__":Str))=false:=by decide)(hb:attributeBase (.Name x p) f X.env (eval (.Name x p) X.env)=eval (.Name x p) X.env:=by rfl):PE X (.Attribute (.Name x p) f pos) (Gd K (gn i) f):=uc h (pv i hN hv hd i6) hb
theorem aT{k j:Nat}{x:Str}{ps:List Str}{sp:Sp}{p pos:Pos}{e:Expr}{es:List Expr}{t:TA}(h:HasFn X.prog X.w X.K X.mg X.base k x ps sp)(hr:c7 j X.A)(ha:PA X (e::es) t)(hj:k<=j:=by omega)(hg:Gl X x:=by rfl)
  (jQ:(x==("__debug__":Str))=false:=by decide)(he:l3 X e es:=by rfl)(cE:ni X pos es:=by rfl):
  PE X (.Call (.Name x p) (e::es) [] pos) (FP sp [] E0 t):=FQ h hr hj hg ha jQ he cE
theorem aP{r:R2}{a b:Expr}{ta tb:TE}{pos:Pos}(hr:iy X r)(ha:PE X a ta)(hb:PE X b tb)(hs:MT b:=by exact λ_ _=>rfl):PE X (.Subscript a b pos) (i8 r ta tb):=Pf hr ha hb hs
end
section
variable {P:Program}{w:World}{K:ai}{mg:aX}{base:Heap}
theorem aL.o{x qual:Str}{st:Stmt}{f:Addr}{fd:FuncData}{N ps:List Str}{k:Nat}{sp:Sp}(F:aL K x qual st f fd)(S:aQ N ps (aK st))
  (rK:∀{b_:Value} {A:Around} {outer:List Env} {vs:List V} {Q:VK} {E:XK} (s:Shared) (H:Hp),c7 k (A.deeper (envOfC qual (aK st) s.heap.objs.size f b_))->sp vs H Q E->
   ∃t,gv (lV aM P w K mg base N qual (aK st) f b_ A outer s H E).xv (kJ st) t/\t {nx:=λ_ H'=>Q .az H',rt:=Q} (start N vs) H)
  (len:∀vs H Q E,sp vs H Q E->vs.length=ps.length:=by intro vs H Q E h;first|(cases h;subst_vars;rfl)|((repeat obtain⟨_,h⟩:=h);subst_vars;rfl)):aH P w K mg base aM (k+1) f fd ps sp:=F.ok S len λ_ _ _ s H _ _ _=>rK s H
end
theorem aQ.a8{N P:List Str}{sc:Scope}(a:sc.kind=.function:=by rfl)(b:sc.isCoroutine=false:=by rfl)(c:sc.isGenerator=false:=by rfl)(d:N.Nodup:=by decide+kernel)(e:N.take P.length=P:=by rfl)(f:∀x∈P,sc.names.lookup x=some .local\/sc.names.lookup x=some .cell:=by decide+kernel)(g:∀y∈sc.names,y.2≠.free:=by decide+kernel):aQ N P sc:=⟨a,b,c,d,e,f,g⟩
theorem yR.gH{X:Cx}{scope:Scope}{cl:List (Str×Addr)}{x:Str}{fr:List (Str×Nat)}(sub:pV X.env.cells cl)(eY:pW X scope cl fr)(a:closureFor scope X.env=pure cl:=by with_unfolding_all rfl)(b:scope.kind=.function:=by rfl)(c:∀y∈scope.names,y.2=.local->scope.names.lookup y.1=some .local:=by decide+kernel)(d:scope.names.lookup x=some .local:=by rfl)
  (e:∀y∈scope.names,y.2≠.cell:=by decide+kernel)(f:(scope.names.all λy=>!(y.2==.free)||(cl.lookup y.1).isSome)=true:=by rfl)(g:(x::fr.map (·.1)).Nodup:=by decide+kernel):yR X scope cl x fr:=⟨a,sub,b,c,d,e,f,eY,g⟩
theorem pL.gH{X:Cx}{scope:Scope}{cl:List (Str×Addr)}{xs:List Str}{fr:List (Str×Nat)}(sub:pV X.env.cells cl)(eY:pW X scope cl fr)(a:closureFor scope X.env=pure cl:=by with_unfolding_all rfl)(b:scope.kind=.function:=by rfl)(c:∀y∈scope.names,y.2=.local->scope.names.lookup y.1=some .local:=by decide+kernel)
  (e:∀y∈scope.names,y.2≠.cell:=by decide+kernel)(f:(scope.names.all λy=>!(y.2==.free)||(cl.lookup y.1).isSome)=true:=by rfl)(g:(xs++fr.map (·.1)).Nodup:=by decide+kernel):pL X scope cl xs fr:=⟨a,sub,b,c,e,f,eY,g⟩
end L2
namespace L2
open PySem PySem.W PySem.Spec PyProof.Rows
inductive qD(K:ai):List Str->Prop
 |nil:qD K []
 |cons {x:Str} {l:List Str} (h:nsIn K mainGlobals x=some none) (t:qD K l):qD K (x::l)
theorem qD.at{K:ai}{x:Str}:∀{l:List Str},qD K l->x∈l->nsIn K mainGlobals x=some none
 |_,.cons h t,m=>by
  cases m with
  |head=>exact h
  |tail _ m=>exact t.at m
theorem qD.bl{K:ai}{h:Heap}{mg:aX}(z:qD K ["len","abs","list","range","tuple","any","all","isinstance","bool","int","str","sorted","min","max","sum","dict","reversed","ValueError"])(X:K.In h)(G:h.Ns mainGlobals mg):Bl mg:=by
 constructor<;>exact PySem.W.mg_none_of X G (z.at (by decide))
inductive xQ(K:ai)(x:Str)(C:Addr):Prop
 |mk (a:nsIn K mainGlobals x=some (some (.ref C))) (b:makesIn K C=true) (c:keepIn K (.ref C)=true):xQ K x C
theorem k_.j{P:Program}{w:World}{K:ai}{mg:aX}{base:Heap}{C f:Addr}{y q:Str}{st:Stmt}{ps:List Str}{n:Nat}{sp:Sp}(D:k_ P w K mg base)(g:xQ K y C)(p:cQ K C "__init__" q st f)(o:∀fd,aL K "__init__" q st f fd->aH P w K mg base aM n f fd ps sp)(b:nG "__init__" q st ps:=by intro _ _ _ _ _ _ _;rfl):oE P w K mg base n y C ps sp:=by
 obtain⟨a,m,k⟩:=g;exact D.i (let⟨X,G⟩:=D;mg_of X G a) m k p o b
end L2
namespace L2
open PySem PySem.Spec PyProof.Rows
section
variable {X:Cx}{a b e e2:Expr}{ta tb te RF:TE}{p pos:Pos}
theorem df(K:ai)(bl:Bl X.mg)(he:PE X e te)(h:X.K=K:=by rfl)(hg:Gl X "len":=by rfl)(dZ:starEach [e] X.env=(false,eval e X.env)::starEach [] X.env:=by rfl)(cE:(backTo pos (starEach [] X.env)).any (·.1)=false:=by rfl):PE X (.Call (.Name "len" p) [e] [] pos) (nB (xc K) (gf te iY)):=hJ (Zem h) hg bl.zZ zL (aa he ag dZ) (by decide) (by decide) dZ cE
theorem lq(K:ai)(bl:Bl X.mg)(he:PE X e te)(h2:PE X e2 RF)(h:X.K=K:=by rfl)(hg:Gl X "isinstance":=by rfl)(qz:starEach [e2] X.env=(false,eval e2 X.env)::starEach [] X.env:=by rfl)(dZ:starEach [e,e2] X.env=(false,eval e X.env)::starEach [e2] X.env:=by rfl)(cE:(backTo pos (starEach [e2] X.env)).any (·.1)=false:=by rfl):PE X (.Call (.Name "isinstance" p) [e,e2] [] pos) (nB (Af K) (gf te (gf RF iY))):=hJ (ZaV h) hg bl.VB U_ (aa he (aa h2 ag qz) dZ) (by decide) (by decide) dZ cE
theorem iL(K:ai)(h:X.K=K:=by rfl):iy X (uz K):=ZL h
theorem iT(K:ai)(h:X.K=K:=by rfl):iy X (Ab K):=ZaU h
theorem bC{op:CmpOp}{r:R2}(ho:cD X (compareOp op) r)(ha:PE X a ta)(hb:PE X b tb)(hm:behindInMarks op b=false:=by exact N1 _):PT X (.Compare a [op] [b] pos) (FO (i8 r ta tb)):=hU ho ha hb hm
theorem eN{op:CmpOp}{r:R2}(ho:cD X (compareOp op) r)(ha:PE X a ta)(hb:PE X b tb)(hm:behindInMarks op b=false:=by exact N1 _):PE X (.Compare a [op] [b] pos) (i8 r ta tb):=zo ho ha hb hm
end
def gO:HO->Option Addr
 |.ins _ dx _=>some dx
 |.bX _ u=>gO u
 |_=>none
theorem cB.FW{P:Program}{w:World}{H H':Hp}{h h':Heap}{a:Addr}{o:HO}(x:cB P w H h a o)(k:∀b u,(b=a\/gO o=some b)->h.get? b=some u->h'.get? b=some u)
  (ho:∀b,gO o=some b->H b=some (.own a)->H' b=some (.own a))(ht:∀b xs,H b=some (.tup xs)->H' b=some (.tup xs)):cB P w H' h' a o:=by
 induction o with
 |ins C dx fs=>
  obtain⟨d,z,ne,e,mA,⟨od,es,ep,e2,c⟩,r⟩:=x;exact⟨ho _ rfl d,z,ne,k _ _ (.inl rfl) e,mA,⟨od,es,ep,k _ _ (.inr rfl) e2,c⟩,r⟩
 |bX ob u ih=>exact⟨k _ _ (.inl rfl) x.1,ih x.2 k ho⟩
 |lst xs=>obtain⟨z,ah,n,r,e⟩:=x;exact⟨z,ah,n,r,k _ _ (.inl rfl) e⟩
 |tup xs=>obtain⟨z,ah,r,ob,e,c⟩:=x;exact⟨z,ah,r,ob,k _ _ (.inl rfl) e,c⟩
 |dK kvs=>obtain⟨z,y,vs,r,ob,es,ep,e,c⟩:=x;exact⟨z,y,vs,r,ob,es,ep,k _ _ (.inl rfl) e,c⟩
 |dT kvs=>
  obtain⟨z,y,xs,r,ob,es,ep,e,c⟩:=x;exact⟨z,y,xs,Paired.bB r λp q z=>⟨z.1,ht _ _ z.2.1,z.2.2⟩,ob,es,ep,k _ _ (.inl rfl) e,c⟩
 |set S n=>obtain⟨ob,es,ep,t,e,c⟩:=x;exact⟨ob,es,ep,t,k _ _ (.inl rfl) e,c⟩
 |own y=>obtain⟨ob,e⟩:=x;exact⟨ob,k _ _ (.inl rfl) e⟩
 |xd fs=>obtain⟨mA,⟨od,es,ep,e,c⟩,r⟩:=x;exact⟨mA,⟨od,es,ep,k _ _ (.inl rfl) e,c⟩,r⟩
 |ir lo hi=>obtain⟨t,u,v,e⟩:=x;exact⟨t,u,v,k _ _ (.inl rfl) e⟩
 |ng ps=>exact k a _ (.inl rfl) x
 |met f y=>exact k a _ (.inl rfl) x
 |ext φ=>obtain⟨p,⟨o,e⟩,st⟩:=x;exact⟨st _ _ p λo q=>k _ _ (.inl rfl) q,⟨o,k _ _ (.inl rfl) e⟩,st⟩
theorem cB.dict{P:Program}{w:World}{H:Hp}{h:Heap}{a d:Addr}{o:HO}(x:cB P w H h a o)(e:gO o=some d):H d=some (.own a):=by
 induction o with
 |ins C dx fs=>cases e;exact x.1
 |bX ob u ih=>exact ih x.2 e
 |_=>cases e
theorem cB.get{P:Program}{w:World}{H:Hp}{h:Heap}{a:Addr}{o:HO}(x:cB P w H h a o):∃ob,h.get? a=some ob:=by
 cases o with
 |ins C dx fs=>exact⟨_,x.2.2.2.1⟩
 |bX ob u=>exact⟨_,x.1⟩
 |lst xs=>obtain⟨_,_,_,_,e⟩:=x;exact⟨_,e⟩
 |tup xs=>obtain⟨_,_,_,_,e,_⟩:=x;exact⟨_,e⟩
 |dK kvs=>obtain⟨_,_,_,_,_,_,_,e,_⟩:=x;exact⟨_,e⟩
 |dT kvs=>obtain⟨_,_,_,_,_,_,_,e,_⟩:=x;exact⟨_,e⟩
 |set S n=>obtain⟨_,_,_,_,e,_⟩:=x;exact⟨_,e⟩
 |own y=>exact x
 |xd fs=>obtain⟨_,⟨_,_,_,e,_⟩,_⟩:=x;exact⟨_,e⟩
 |ir lo hi=>obtain⟨_,_,_,e⟩:=x;exact⟨_,e⟩
 |ng ps=>exact⟨_,x⟩
 |met f y=>exact⟨_,x⟩
 |ext φ=>exact x.2.1
def Own(H:Hp):Prop:=∀x o d,H x=some o->gO o=some d->H d=some (.own x)
structure dz(V H:Hp):Prop where
 sub:aj V H
 i_:Own V
 off:∀x o d,H x=some o->gO o=some d->V x=none->V d=none
def m8(V H:Hp):Hp:=λa=>(V a).or (match H a with|some (.tup xs)=>some (.tup xs)|_=>none)
theorem eK{V H:Hp}:aj V (m8 V H):=λa o e=>by unfold m8;rw[e];rfl
theorem L7{V H:Hp}(s:aj V H){a:Addr}{xs:List L2.V}(e:H a=some (.tup xs)):m8 V H a=some (.tup xs):=by
 unfold m8;cases n:V a with
 |none=>rw[e];rfl
 |some o=>exact(s a o n).symm.trans e
theorem yU{V H:Hp}{a:Addr}{o:HO}(e:m8 V H a=some o):V a=some o\/(V a=none/\H a=some o/\∃xs,o=.tup xs):=by
 unfold m8 at e;cases n:V a with
 |some o'=>rw[n] at e;exact .inl e
 |none=>
  rw[n] at e;cases m:H a with
  |none=>rw[m] at e;cases e
  |some u=>cases u<;>rw[m] at e<;>cases e;exact .inr ⟨rfl,rfl,_,rfl⟩
theorem Ln{V H:Hp}{a:Addr}(e:m8 V H a=none):V a=none:=by
 cases n:V a with
 |none=>rfl
 |some o=>rw[eK a o n] at e;cases e
structure Framed(V V' H H':Hp):Prop where
 own:Own H'
 bV:dz V' H'
 tup:∀a xs,H a=some (.tup xs)->H' a=some (.tup xs)
 rest:∀a o,V a=none->H a=some o->(V' a=none\/∃xs,o=.tup xs)/\H' a=some o
 frm:∀a o,H' a=some o->V' a=some o\/(V a=none/\H a=some o)
def Ai(sp:Sp):Sp:=λvs H Q E=>∃V,dz V H/\sp vs (m8 V H) (λv V'=>∀H',Framed V V' H H'->Q v H') E
theorem aH.frame{P:Program}{w:World}{K:ai}{mg:aX}{base:Heap}{k:Nat}{f:Addr}{fd:FuncData}{ps:List Str}{sp:Sp}(F:aH P w K mg base aM k f fd ps sp):aH P w K mg base aM k f fd ps (Ai sp):=by
 refine⟨λvs H Q E ⟨V,_,h⟩=>F.len vs _ _ E h,λA outer s H args us vs Q E hr e0 hb hv zq=>?_⟩;obtain⟨V,pt,hs⟩:=zq;have own:Own H:=λx o d e z=>(e0.aw x o e).dict z;obtain⟨W,eW⟩:∃W,W=m8 V H:=⟨_,rfl⟩;have sub:aj W H:=λa o e=>by
  rw[eW] at e;rcases yU e with e|⟨_,e,_⟩;·exact pt.sub a o e
  ·exact e
 have tup:∀a xs,H a=some (.tup xs)->W a=some (.tup xs):=λa xs e=>by rw[eW];exact L7 pt.sub e
 have off:∀x o d,H x=some o->gO o=some d->W x=none->W d=none:=λx o d e z n=>by
  cases m:W d with
  |none=>rfl
  |some u=>
   rw[eW] at n m;have q:=pt.off x o d e z (Ln n);have r:=own x o d e z;rcases yU m with m|⟨_,m,xs,m2⟩;·rw[q] at m;cases m
   ·rw[r,m2] at m;cases m
 have none_:∀{a:Addr},H a=none->W a=none:=λh=>sub.free h;rw[←eW] at hs;have ok:c_ P w W s.heap:=λa o e=>(e0.aw a o (sub a o e)).FW (λ_ _ _ q=>q) (λb z _=>by
  rw[eW] at e⊢;rcases yU e with e|⟨_,_,xs,rfl⟩;·exact eK _ _ (pt.i_ a o b e z)
  ·cases z) tup
 refine codeAny_mono (F.run A outer s W args us vs _ E hr ⟨e0.frames,e0.mod,λb o e=>⟨(e0.bs b o e).1,none_ (e0.bs b o e).2⟩,e0.nj,e0.jN,λb m=>none_ (e0.oP b m),ok,e0.bare⟩ hb hv hs) λr s' h=>?_;match r,h with
 |.ok (.ret u),⟨v,V',os,ba,un,RG,rv,q⟩=>
  have rest:∀{a:Addr} {o:HO},W a=none->H a=some o->V' a=none:=λ{a o} n e=>let⟨ob,g⟩:=(e0.aw a o e).get;un.free a ob g n (λz=>nomatch z);obtain⟨H',eH⟩:∃H':Hp,H'=λa=>(V' a).or (if(W a).isNone then H a else none):=⟨_,rfl⟩;have h1:∀{a:Addr} {o:HO},V' a=some o->H' a=some o:=λ{a o} e=>by rw[eH];simp only[e,Option.some_or]
  have h2:∀{a:Addr} {o:HO},W a=none->H a=some o->H' a=some o:=λ{a o} n e=>by rw[eH];simp[rest n e,n,e]
  have h3:∀{a:Addr} {o:HO},H' a=some o->V' a=some o\/(V' a=none/\W a=none/\H a=some o):=λ{a o} e=>by
   rw[eH] at e;simp only at e;cases e1:V' a with
   |some o'=>rw[e1] at e;exact .inl e
   |none=>
    rw[e1] at e;cases e2:W a with
    |some _=>rw[e2] at e;simp at e
    |none=>rw[e2] at e;exact .inr ⟨rfl,rfl,by simpa using e⟩
  have ht:∀a xs,H a=some (.tup xs)->H' a=some (.tup xs):=λa xs e=>h1 (un.jM a xs (tup a xs e));have nfr:∀{a:Addr} {o:HO},H a=some o->a∉eY outer:=λ{a o} e z=>by rw[e0.oP a z] at e;cases e
  have aw:c_ P w H' s'.heap:=λa o e=>by
   rcases h3 e with q|⟨_,n,q⟩;·exact(RG a o q).FW (λ_ _ _ q=>q) (λb z r=>h1 r) λb xs z=>h1 z
   ·have k:∀{b:Addr} {u:Obj} {y:HO},W b=none->H b=some y->s.heap.get? b=some u->s'.heap.get? b=some u:=λ{b u y} n e g=>un.keep b u g n (nfr e) (λz=>nomatch z);refine(e0.aw a o q).FW (λb u c g=>?_) (λb z r=>h2 (off a o b q z n) r) ht;rcases c with rfl|c;·exact k n q g
    ·exact k (off a o b q c n) (own a o b q c) g
  have fr:Framed V V' H H':=by
   refine⟨λx o d e z=>(aw x o e).dict z,⟨λa o e=>h1 e,λx o d e z=>(RG x o e).dict z,λx o d e z n=>?_⟩,ht,λa o n e=>?_,λa o e=>(h3 e).imp id λ⟨_,n,q⟩=>⟨Ln (eW▸n),q⟩⟩
   ·rcases h3 e with q|⟨_,n',q⟩;·rw[q] at n;cases n
    ·exact rest (off x o d q z n') (own x o d q z)
   ·cases m:W a with
    |none=>exact⟨.inl (rest m e),h2 m e⟩
    |some u=>
     rw[eW] at m;rcases yU m with m|⟨_,m,xs,rfl⟩;·rw[n] at m;cases m
     ·rw[e] at m;cases m;exact⟨.inr ⟨xs,rfl⟩,ht a xs e⟩
  refine⟨v,H',os,ba,⟨λb o e n=>un.keep b o e (none_ n),λb o e n=>un.slot b o e (none_ n),λb o e n nx=>by rw[eH];simp[un.free b o e (none_ n) nx,n],un.there,ht,λb o u e=>?_,λb ps e=>?_⟩,aw,rv,q H' fr⟩
  ·cases n:W b with
   |none=>exact h2 n e
   |some q=>exact h1 (un.kQ b o u (n.trans ((sub b q n).symm.trans e)))
  ·cases n:W b with
   |none=>exact⟨#[],by rw[Array.append_empty];exact h2 n e⟩
   |some q=>
    obtain⟨m,hm⟩:=un.lT b ps (n.trans ((sub b q n).symm.trans e));exact⟨m,h1 hm⟩
theorem HasFn.frame{P:Program}{w:World}{K:ai}{mg:aX}{base:Heap}{k:Nat}{x:Str}{ps:List Str}{sp:Sp}(h:HasFn P w K mg base k x ps sp):HasFn P w K mg base k x ps (Ai sp):=let⟨f,fd,F,r⟩:=h;⟨f,fd,F.frame,r⟩
theorem bT.frame{P:Program}{w:World}{K:ai}{mg:aX}{base:Heap}{k:Nat}{x:Str}{C:Addr}{ps:List Str}{sp:Sp}(h:bT P w K mg base k x C ps sp):bT P w K mg base k x C ps (Ai sp):=let⟨f,fd,c,m,F,r⟩:=h;⟨f,fd,c,m,F.frame,r⟩
theorem oE.frame{P:Program}{w:World}{K:ai}{mg:aX}{base:Heap}{k:Nat}{x:Str}{C:Addr}{ps:List Str}{sp:Sp}(h:oE P w K mg base k x C ps sp):oE P w K mg base k x C ps (Ai sp):=let⟨f,fd,c,F,r⟩:=h;⟨f,fd,c,F.frame,r⟩
def Dj(V W:Hp):Prop:=∀a o u,V a=some o->W a=some u->∃xs,o=.tup xs/\u=.tup xs
theorem Dj.symm{V W:Hp}(d:Dj V W):Dj W V:=λa o u e e2=>let⟨xs,h1,h2⟩:=d a u o e2 e;⟨xs,h2,h1⟩
section
variable {V V' W H H':Hp}{a x d C:Addr}{o:HO}
theorem Framed.other(f:Framed V V' H H')(pv:dz V H)(pw:dz W H)(dj:Dj V W):dz W H'/\Dj V' W:=by
 have sub:aj W H':=λa o e=>by
  cases n:V a with
  |none=>exact(f.rest a o n (pw.sub a o e)).2
  |some u=>
   obtain⟨xs,_,rfl⟩:=dj a u o n e;exact f.tup a xs (pw.sub _ _ e)
 have RH:Dj V' W:=λa o u e e2=>by
  have q:=pw.sub a u e2;have eo:o=u:=Ym ((f.bV.sub a o e).symm.trans (sub a u e2));cases n:V a with
  |none=>
   rcases(f.rest a u n q).1 with z|⟨xs,z⟩;·rw[z] at e;cases e
   ·exact⟨xs,eo.trans z,z⟩
  |some v=>
   obtain⟨xs,_,z⟩:=dj a v u n e2;exact⟨xs,eo.trans z,z⟩
 refine⟨⟨sub,pw.i_,λx o d e z n=>?_⟩,RH⟩;rcases f.frm x o e with q|⟨_,q⟩
 ·cases m:W d with
  |none=>rfl
  |some u=>
   obtain⟨xs,h,_⟩:=RH d _ u (f.bV.i_ x o d q z) m;cases h
 ·exact pw.off x o d q z n
theorem Framed.keep(f:Framed V V' H H')(n:V a=none)(e:H a=some o)(nt:∀xs,o≠.tup xs):V' a=none/\H' a=some o:=let⟨h1,h2⟩:=f.rest a o n e;⟨h1.elim id λ⟨xs,z⟩=>absurd z (nt xs),h2⟩
theorem Own.upd(h:Own H)(z:gO o=none)(n:∀x,H a≠some (.own x)):Own (L2.upd H a o):=λx u d e q=>by
 by_cases c:x=a;·rw[c,aI] at e;cases e;rw[z] at q;cases q
 ·rw[aC c] at e;have r:=h x u d e q;rw[aC (λy=>n x (by rw[←y];exact r))];exact r
theorem dz.upd(p:dz V H)(n:V a=none)(z:gO o=none):dz V (L2.upd H a o):=⟨λb u e=>by rw[aC (λy=>by rw[y,n] at e;cases e)];exact p.sub b u e,p.i_,λx u d e q m=>by
 by_cases c:x=a;·rw[c,aI] at e;cases e;rw[z] at q;cases q
 ·rw[aC c] at e;exact p.off x u d e q m⟩
theorem dz.add(p:dz V H)(own:Own H)(n:H a=none)(z:gO o=none):dz (L2.upd V a o) (L2.upd H a o):=by
 refine⟨λb u e=>?_,p.i_.upd z (λx e=>by rw[p.sub.free n] at e;cases e),λx u d e q m=>?_⟩
 ·by_cases c:b=a;·rw[c,aI] at e⊢;exact e
  ·rw[aC c] at e⊢;exact p.sub b u e
 ·by_cases c:x=a;·rw[c,aI] at m;cases m
  ·rw[aC c] at e m;rw[aC (λy=>by have:=own x u d e q;rw[y,n] at this;cases this)];exact p.off x u d e q m
theorem Dj.upd(d:Dj V W)(n:W a=none):Dj (L2.upd V a o) W:=λb u v e e2=>by
 by_cases c:b=a;·rw[c,n] at e2;cases e2
 ·rw[aC c] at e;exact d b u v e e2
theorem Own.make(h:Own H)(nx:H x=none)(nd:H d=none)(ne:x≠d)(fs:List (Str×L2.V)):Own (L2.upd (L2.upd H d (.own x)) x (.ins C d fs)):=λy u b e q=>by
 by_cases c:y=x
 ·rw[c,aI] at e;cases e;cases q;rw[aC (λz=>ne z.symm),aI,c]
 ·rw[aC c] at e;by_cases c2:y=d;·rw[c2,aI] at e;cases e;cases q
  ·rw[aC c2] at e;have r:=h y u b e q;rw[aC (λz=>by rw[z,nx] at r;cases r),aC (λz=>by rw[z,nd] at r;cases r)];exact r
theorem dz.made(p:dz V H)(nx:H x=none)(nd:H d=none)(fs:List (Str×L2.V)):dz V (L2.upd (L2.upd H d (.own x)) x (.ins C d fs)):=by
 have vx:=p.sub.free nx;have vd:=p.sub.free nd;refine⟨λb u e=>?_,p.i_,λy u b e q m=>?_⟩
 ·rw[aC (λz=>by rw[z,vx] at e;cases e),aC (λz=>by rw[z,vd] at e;cases e)];exact p.sub b u e
 ·by_cases c:y=x;·rw[c,aI] at e;cases e;cases q;exact vd
  ·rw[aC c] at e;by_cases c2:y=d;·rw[c2,aI] at e;cases e;cases q
   ·rw[aC c2] at e;exact p.off y u b e q m
theorem dz.make(p:dz V H)(own:Own H)(nx:H x=none)(nd:H d=none)(ne:x≠d)(fs:List (Str×L2.V)):dz (L2.upd (L2.upd V d (.own x)) x (.ins C d fs)) (L2.upd (L2.upd H d (.own x)) x (.ins C d fs)):=by
 refine⟨λb u e=>?_,p.i_.make (p.sub.free nx) (p.sub.free nd) ne fs,λy u b e q m=>?_⟩
 ·by_cases c:b=x;·rw[c,aI] at e⊢;exact e
  ·rw[aC c] at e⊢;by_cases c2:b=d;·rw[c2,aI] at e⊢;exact e
   ·rw[aC c2] at e⊢;exact p.sub b u e
 ·by_cases c:y=x;·rw[c,aI] at m;cases m
  ·rw[aC c] at e m;by_cases c2:y=d;·rw[c2,aI] at m;cases m
   ·rw[aC c2] at e m;have r:=own y u b e q;rw[aC (λz=>by rw[z,nx] at r;cases r),aC (λz=>by rw[z,nd] at r;cases r)];exact p.off y u b e q m
def only(a:Addr)(o:HO):Hp:=L2.upd (λ_=>none) a o
theorem dz.only(own:Own H)(e:H a=some o)(z:gO o=none)(no:∀x,o≠.own x):dz (L2.only a o) H:=by
 have h:∀{b:Addr} {u:HO},L2.only a o b=some u->b=a/\u=o:=λ{b u} q=>by
  by_cases c:b=a;·rw[c,L2.only,aI] at q;exact⟨c,(Ym q).symm⟩
  ·rw[L2.only,aC c] at q;cases q
 refine⟨(λb u q=>by obtain⟨rfl,rfl⟩:=h q;exact e),(λx u d q y=>by obtain⟨_,rfl⟩:=h q;rw[z] at y;cases y),λx u d q y n=>?_⟩;cases m:L2.only a o d with
 |none=>rfl
 |some v=>
  obtain⟨rfl,rfl⟩:=h m;exact absurd (Ym (e.symm.trans (own x u d q y))) (no x)
theorem Dj.only(n:W a=none):Dj (L2.only a o) W:=Dj.upd (λ_ _ _ e=>by cases e) n
theorem dz.nil:dz (λ_=>none) H:=⟨λ_ _ e=>(nomatch e),λ_ _ _ e=>(nomatch e),λ_ _ _ _ _ _=>rfl⟩
theorem Dj.nil:Dj (λ_=>none) W:=λ_ _ _ e=>(nomatch e)
end
def fU(V:Nat->Hp)(k:Nat)(W:Hp):Nat->Hp:=λi=>if i=k then W else V i
structure Vw(n:Nat)(V:Nat->Hp)(ks:List (Addr×HO))(H:Hp):Prop where
 bV:∀i,i<n->dz (V i) H
 dj:∀i k,i<n->k<n->i≠k->Dj (V i) (V k)
 kp:∀p∈ks,H p.1=some p.2/\(∀xs,p.2≠.tup xs)/\∀i,i<n->V i p.1=none
 nd:(ks.map (·.1)).Nodup
section
variable {n k:Nat}{V:Nat->Hp}{ks RI:List (Addr×HO)}{H H' W:Hp}{a p x d C:Addr}{o o':HO}
theorem kH:fU V k W k=W:=if_pos rfl
theorem jk{i:Nat}(h:i≠k):fU V k W i=V i:=if_neg h
theorem Vw.set(bV:∀i,i<n->i≠k->dz (V i) H)(pk:dz W H)(dj:∀i j,i<n->j<n->i≠k->j≠k->i≠j->Dj (V i) (V j))(dk:∀i,i<n->i≠k->Dj W (V i))(h:∀p∈ks,H p.1=some p.2/\(∀xs,p.2≠.tup xs)/\W p.1=none/\∀i,i<n->i≠k->V i p.1=none)(nd:(ks.map (·.1)).Nodup):Vw n (fU V k W) ks H:=by
 refine⟨λi hi=>?_,λi j hi hj ne=>?_,λp hp=>?_,nd⟩
 ·by_cases c:i=k;·rw[c,kH];exact pk
  ·rw[jk c];exact bV i hi c
 ·by_cases c:i=k
  ·have cj:j≠k:=λz=>ne (c.trans z.symm);rw[c,kH,jk cj];exact dk j hj cj
  ·rw[jk c];by_cases cj:j=k;·rw[cj,kH];exact(dk i hi c).symm
   ·rw[jk cj];exact dj i j hi hj c cj ne
 ·obtain⟨h1,h2,h3,h4⟩:=h p hp;refine⟨h1,h2,λi hi=>?_⟩;by_cases c:i=k;·rw[c,kH];exact h3
  ·rw[jk c];exact h4 i hi c
theorem Vw.call(v:Vw n V ks H)(hk:k<n)(f:Framed (V k) W H H'):Vw n (fU V k W) ks H':=by
 have ot:∀i,i<n->i≠k->dz (V i) H'/\Dj W (V i):=λi hi ne=>f.other (v.bV k hk) (v.bV i hi) (v.dj k i hk hi (λz=>ne z.symm));refine Vw.set (λi hi ne=>(ot i hi ne).1) f.bV (λi j hi hj _ _ ne=>v.dj i j hi hj ne) (λi hi ne=>(ot i hi ne).2) (λp hp=>?_) v.nd;obtain⟨h1,h2,h3⟩:=v.kp p hp;obtain⟨q1,q2⟩:=f.keep (h3 k hk) h1 h2;exact⟨q2,h2,q1,λi hi _=>h3 i hi⟩
theorem Vw.free(v:Vw n V ks H)(e:H p=none){i:Nat}(hi:i<n):V i p=none:=(v.bV i hi).sub.free e
theorem Vw.ne(v:Vw n V ks H)(e:H p=none):p∉ks.map (·.1):=λm=>by
 obtain⟨q,hq,rfl⟩:=Yf.mp m;rw[(v.kp q hq).1] at e;cases e
theorem Vw.lay(v:Vw n V ks H)(e:H p=none)(z:gO o=none)(nt:∀xs,o≠.tup xs):Vw n V ((p,o)::ks) (upd H p o):=by
 refine⟨λi hi=>(v.bV i hi).upd (v.free e hi) z,v.dj,λq hq=>?_,Yy.mpr ⟨v.ne e,v.nd⟩⟩;rcases Yn.mp hq with rfl|hq;·exact⟨aI,nt,λi hi=>v.free e hi⟩
 ·obtain⟨h1,h2,h3⟩:=v.kp q hq;exact⟨by rw[aC (bO h1 e)];exact h1,h2,h3⟩
theorem Vw.write(v:Vw n V ((a,o)::ks) H)(z:gO o'=none)(nt:∀xs,o'≠.tup xs):Vw n V ((a,o')::ks) (upd H a o'):=by
 obtain⟨h1,h2,h3⟩:=v.kp (a,o) Yg;refine⟨λi hi=>(v.bV i hi).upd (h3 i hi) z,v.dj,λq hq=>?_,v.nd⟩;rcases Yn.mp hq with rfl|hq;·exact⟨aI,nt,h3⟩
 ·obtain⟨q1,q2⟩:=v.kp q (Ys _ hq);exact⟨by rw[aC (λy=>(Yy.mp v.nd).1 (Yf.mpr ⟨q,hq,y⟩))];exact q1,q2⟩
theorem Vw.add(v:Vw n V ks H)(hk:k<n)(own:Own H)(e:H p=none)(z:gO o=none):Vw n (fU V k (upd (V k) p o)) ks (upd H p o):=by
 refine Vw.set (λi hi _=>(v.bV i hi).upd (v.free e hi) z) ((v.bV k hk).add own e z) (λi j hi hj _ _ ne=>v.dj i j hi hj ne) (λi hi ne=>(v.dj k i hk hi λy=>ne y.symm).upd (v.free e hi)) (λq hq=>?_) v.nd;obtain⟨h1,h2,h3⟩:=v.kp q hq;have ne:=bO h1 e;exact⟨by rw[aC ne];exact h1,h2,by rw[aC ne];exact h3 k hk,λi hi _=>h3 i hi⟩
theorem Vw.make(v:Vw n V ks H)(hk:k<n)(own:Own H)(nx:H x=none)(nd:H d=none)(ne:x≠d)(fs:List (Str×L2.V)):Vw n (fU V k (upd (upd (V k) d (.own x)) x (.ins C d fs))) ks (upd (upd H d (.own x)) x (.ins C d fs)):=by
 refine Vw.set (λi hi _=>(v.bV i hi).made nx nd fs) ((v.bV k hk).make own nx nd ne fs) (λi j hi hj _ _ ne=>v.dj i j hi hj ne) (λi hi c=>((v.dj k i hk hi λy=>c y.symm).upd (v.free nd hi)).upd (v.free nx hi)) (λq hq=>?_) v.nd;obtain⟨h1,h2,h3⟩:=v.kp q hq;have n1:=bO h1 nx;have n2:=bO h1 nd;exact⟨by rw[aC n1,aC n2];exact h1,h2,by rw[aC n1,aC n2];exact h3 k hk,λi hi _=>h3 i hi⟩
theorem Vw.more(v:Vw n V ks H)(pk:dz W H)(dk:∀i,i<n->Dj W (V i))(h:∀p∈ks,W p.1=none):Vw (n+1) (fU V n W) ks H:=
 Vw.set (λi hi ne=>v.bV i (by omega)) pk (λi j hi hj c1 c2 ne=>v.dj i j (by omega) (by omega) ne) (λi hi ne=>dk i (by omega)) (λp hp=>let⟨h1,h2,h3⟩:=v.kp p hp;⟨h1,h2,h p hp,λi hi ne=>h3 i (by omega)⟩) v.nd
theorem Vw.nil(v:Vw n V ks H):Vw (n+1) (fU V n λ_=>none) ks H:=v.more dz.nil (λ_ _=>Dj.nil) λ_ _=>rfl
theorem Vw.one(v:Vw n V ((a,o)::ks) H)(own:Own H)(z:gO o=none)(no:∀x,o≠.own x):Vw (n+1) (fU V n (only a o)) ks H:=by
 obtain⟨h1,h2,h3⟩:=v.kp (a,o) Yg;refine Vw.more ⟨v.bV,v.dj,λp hp=>v.kp p (Ys _ hp),(Yy.mp v.nd).2⟩ (dz.only own h1 z no) (λi hi=>Dj.only (h3 i hi)) λp hp=>?_;rw[only,aC (λy=>(Yy.mp v.nd).1 (Yf.mpr ⟨p,hp,y⟩))]
theorem Vw.cut(v:Vw (n+1) V ks H):Vw n V ks H:=⟨λi hi=>v.bV i (by omega),λi j hi hj=>v.dj i j (by omega) (by omega),λp hp=>let⟨h1,h2,h3⟩:=v.kp p hp;⟨h1,h2,λi hi=>h3 i (by omega)⟩,v.nd⟩
theorem Vw.perm(v:Vw n V ks H)(h:ks.Perm RI):Vw n V RI H:=⟨v.bV,v.dj,λp hp=>v.kp p (h.mem_iff.mpr hp),(h.map _).nodup_iff.mp v.nd⟩
theorem Vw.tail(v:Vw n V ((a,o)::ks) H):Vw n V ks H:=⟨v.bV,v.dj,λp hp=>v.kp p (Ys _ hp),(Yy.mp v.nd).2⟩
theorem Vw.at(v:Vw n V ks H)(h:(a,o)∈ks):H a=some o:=(v.kp _ h).1
theorem Vw.put{l₁ l₂:List (Addr×HO)}(v:Vw n V (l₁++(a,o)::l₂) H)(z:gO o'=none)(nt:∀xs,o'≠.tup xs):Vw n V (l₁++(a,o')::l₂) (upd H a o'):=((v.perm J6).write z nt).perm J6.symm
theorem Vw.keep(v:Vw (n+1) V ks H)(e:V n a=some o)(nt:∀xs,o≠.tup xs):Vw n V ((a,o)::ks) H:=by
 refine⟨v.cut.bV,v.cut.dj,λp hp=>?_,Yy.mpr ⟨λm=>?_,v.nd⟩⟩
 ·rcases Yn.mp hp with rfl|hp
  ·refine⟨(v.bV n (Wg _)).sub _ _ e,nt,λi hi=>?_⟩;cases q:V i a with
   |none=>rfl
   |some u=>
    obtain⟨xs,h,_⟩:=v.dj n i (Wg _) (by omega) (by omega) a o u e q;exact absurd h (nt xs)
  ·exact v.cut.kp p hp
 ·obtain⟨p,hp,rfl⟩:=Yf.mp m;rw[(v.kp p hp).2.2 n (Wg _)] at e;cases e
theorem Vw.calls(v:Vw n V ks H)(hk:k<n)(f:Framed (V k) W H H'):∃V':Nat->Hp,V' k=W/\(∀i,i≠k->V' i=V i)/\Vw n V' ks H':=⟨_,kH,λ_=>jk,v.call hk f⟩
theorem Vw.adds(v:Vw n V ks H)(hk:k<n)(own:Own H)(e:H p=none)(z:gO o=none):∃V':Nat->Hp,V' k=upd (V k) p o/\(∀i,i≠k->V' i=V i)/\Vw n V' ks (upd H p o):=⟨_,kH,λ_=>jk,v.add hk own e z⟩
end
end L2
namespace HY
open PySem L2
variable {P:Program}{w:World}{K:PySem.W.Frag}{mg:Str->Option Value}{base:Heap}{f C CL CJ:Addr}{fd:FuncData}
def top(i:Nat):Stmt:=PySem.Challenge.pw_kinhearth_k56_two_books_in_turn.main.body.getD i (.Pass ⟨0,0,0,0⟩)
abbrev Ek:Stmt:=top 19
abbrev E4:Stmt:=top 20
abbrev EG:Stmt:=top 21
abbrev Fx:Stmt:=top 23
abbrev C3:Stmt:=top 25
abbrev C4:Stmt:=top 75
abbrev Cd:Stmt:=top 76
abbrev El:Stmt:=top 77
abbrev DS:Stmt:=top 22
abbrev CK:Stmt:=top 24
abbrev DT:Stmt:=top 2
abbrev EH:Stmt:=top 34
abbrev DU:Stmt:=top 35
abbrev DV:Stmt:=top 38
abbrev Dp:Stmt:=top 39
abbrev Dq:Stmt:=top 40
abbrev Em:Stmt:=top 47
abbrev Cr:Stmt:=top 48
abbrev Dr:Stmt:=top 49
abbrev Du:Stmt:=top 50
abbrev Cs:Stmt:=top 51
abbrev Ct:Stmt:=top 52
abbrev Cu:Stmt:=top 53
abbrev Ce:Stmt:=top 54
abbrev Dv:Stmt:=top 68
abbrev En:Stmt:=top 70
abbrev KQ:Stmt:=top 79
abbrev Ko:Stmt:=top 80
abbrev KR:Stmt:=top 81
abbrev Eo:Stmt:=top 82
abbrev CM:Stmt:=top 83
abbrev Dw:Stmt:=top 84
abbrev Dx:Stmt:=top 85
abbrev yI:Stmt:=top 86
abbrev DW:Stmt:=top 87
abbrev CN:Stmt:=top 88
abbrev DX:Stmt:=top 89
abbrev DY:Stmt:=top 90
abbrev EI:Stmt:=top 91
abbrev DZ:Stmt:=top 92
abbrev Dy:Stmt:=top 93
abbrev D0:Stmt:=top 94
abbrev D1:Stmt:=top 95
abbrev D2:Stmt:=top 96
abbrev Ep:Stmt:=top 97
abbrev D3:Stmt:=top 98
abbrev C5:Stmt:=top 99
abbrev rO:Stmt:=top 100
abbrev Dz:Stmt:=inClass (top 74) 0
abbrev DA:Stmt:=inClass (top 74) 1
abbrev C6:Stmt:=inClass (top 56) 0
abbrev DB:Stmt:=inClass (top 56) 1
abbrev DC:Stmt:=inClass (top 56) 2
abbrev DD:Stmt:=inClass (top 56) 3
abbrev Cf:Stmt:=inClass (top 56) 4
abbrev C7:Stmt:=inClass (top 56) 5
abbrev B8:Stmt:=inClass (top 56) 6
abbrev CO:Stmt:=inClass (top 56) 8
abbrev Cv:Stmt:=inClass (top 56) 12
abbrev BR:Stmt:=inClass (top 56) 13
abbrev C8:Stmt:=inClass (top 56) 14
abbrev CP:Stmt:=inClass (top 67) 0
abbrev Cg:Stmt:=inClass (top 67) 1
abbrev C9:Stmt:=inClass (top 67) 2
abbrev C_:Stmt:=inClass (top 67) 3
abbrev CQ:Stmt:=inClass (top 67) 4
abbrev CS:Stmt:=inClass (top 67) 5
abbrev Ci:Stmt:=inClass (top 67) 10
abbrev B9:Stmt:=inClass (top 67) 11
abbrev CT:Stmt:=inClass (top 67) 12
abbrev Dc:Stmt:=inClass (top 67) 13
abbrev BX:Stmt:=inClass (top 67) 17
abbrev BV:Stmt:=inClass (top 67) 18
abbrev Cw:Stmt:=inClass (top 67) 19
abbrev B_:Stmt:=inClass (top 67) 20
abbrev Cy:Stmt:=inClass (top 67) 21
abbrev Cj:Stmt:=inClass (top 67) 22
abbrev BY:Stmt:=inClass (top 67) 23
abbrev B4:Stmt:=inClass (top 67) 24
abbrev B5:Stmt:=inClass (top 67) 16
abbrev Pt:Stmt:=KQ
abbrev Ov:Stmt:=Ko
abbrev Pu:Stmt:=KR
section
variable {K:ai}{mg:aX}
abbrev A7:List Str:=["_law_script","_law_k"]
theorem ZcY:aQ A7 A7 (aK Pt):=⟨rfl,rfl,rfl,by decide+kernel,rfl,by decide+kernel,by decide+kernel⟩
theorem Zbf(F:aL K "_law_cell" "_law_cell" Pt f fd)(ml:mg "len"=none):aH P w K mg base aM 1 f fd A7 (Og K):=by
 refine F.ok ZcY (λvs H Q E h=>?_) (λb_ A outer s H vs Q E hr h=>?_)
 ·obtain⟨a,ns,k,rfl,_⟩:=h;rfl
 obtain⟨a,ns,k,rfl,hS,h0,q⟩:=h;refine⟨_,aq (aR (bC mW (pv 1) (hJ Ke rfl ml zL (aa (pv 0) ag))) (au (aG (Pf E1 (pv 0) (pv 1) (λ_ _=>rfl)))) aY)
  (au (aG aF)),?_⟩
 refine⟨_,rfl,_,rfl,a,_,rfl,.inl hS,_,_,rfl,rfl,_,rfl,?_⟩;refine bI (λc=>?_) (λc=>?_)
 ·have c':k<(((ns.map V.int).length:Nat):Int):=of_decide_eq_true c;rw[(Ya _)] at c';exact⟨_,rfl,_,rfl,a,_,_,_,rfl,rfl,hS,mQ h0 c',q _⟩
 ·exact q _
abbrev xR:List Str:=["_law_cell_here","_law_parts"]
theorem ou:aQ ["_law_cell_here","_law_parts","_law_one","_law_two","_law_six","_law_found","_law_part"] xR (aK Ov):=⟨rfl,rfl,rfl,by decide+kernel,rfl,by decide+kernel,by decide+kernel⟩
theorem Z_(F:aL K "_law_draws" "_law_draws" Ov f fd)(ma:mg "abs"=none):aH P w K mg base aM 1 f fd xR (zt K):=by
 refine F.ok ou (λvs H Q E h=>?_) (λb_ A outer s H vs Q E hr h=>?_)
 ·obtain⟨c,a,ps,rfl,_⟩:=h;rfl
 obtain⟨c,a,ps,rfl,hS,hps,hlen,q⟩:=h;refine⟨_,aq (aR (bC mW (hJ LJ rfl ma Od (aa (pv 0) ag)) (aV NZ aF aF))
   (aq (f_ (i:=2) ou.nd rfl (Or.inl rfl) (aV dW (aV fP (aV lN (pv 0) aF) aF) aF))
   (aq (f_ (i:=3) ou.nd rfl (Or.inl rfl) (aV dW (aV fP (aV fP (aV lN (pv 2) (pv 2)) (aV lN aF (pv 2))) (pv 0)) aF))
   (aq (f_ (i:=4) ou.nd rfl (Or.inl rfl) (aV dW (aV fP (aV lN (pv 3) aF) (pv 2)) aF))
   (au (f_ (i:=0) ou.nd rfl (Or.inl rfl) (aV fP (pv 3) (aV lN aF (aV fP (pv 4) (aV lN aF (pv 2))))))))))
   (au (f_ (i:=0) ou.nd rfl (Or.inl rfl) (aV uh (hJ LJ rfl ma Od (aa (pv 0) ag)) (aV NZ aF aF)))))
  (aq (f_ (i:=5) ou.nd rfl (Or.inl rfl) (jI ag))
  (aq (gc PassesOwn.never rfl (MK (pv 1)) (pU (i:=6) ou.nd rfl (Or.inl rfl))
   (aq (bZ (ic plainAttrs_list PySem.F.slot_list_append PySem.F.type_list_append n5 (pv 5) (aa (aV dW (pv 0) (pv 6)) ag)))
   (au (f_ (i:=0) ou.nd rfl (Or.inl rfl) (aV wo (pv 0) (pv 6))))))
  (au (aG (pv 5))))),?_⟩
 refine hV (λσ H'=>H'=H/\∃c' o2 o3 o4,σ=[some (.int c'),some (.ref a),o2,o3,o4,none,none]) (λnx k=>?_) ?_
 ·refine⟨_,rfl,c,rfl,_,_,rfl,rfl,⟨by decide,by decide,by decide⟩,_,_,rfl,rfl,_,rfl,?_⟩;refine bI (λ_=>?_) (λ_=>?_)
  ·refine⟨_,rfl,_,_,rfl,rfl,.inr ⟨by decide,by decide⟩,_,_,rfl,rfl,_,_,rfl,rfl,(by show(0:Int)<2147483647;decide),?_⟩;refine⟨_,rfl,_,rfl,_,_,rfl,rfl,.inl (Zcd _ (by decide) (by decide)),_,rfl,_,_,rfl,rfl,.inl ⟨by decide,by decide⟩,_,_,rfl,rfl,_,rfl,_,_,rfl,rfl,_,_,rfl,rfl,(by show(0:Int)<2147483399;decide),?_⟩;refine⟨_,rfl,_,_,rfl,rfl,.inr ⟨by decide,by decide⟩,_,rfl,_,_,rfl,rfl,_,_,rfl,rfl,(by show(0:Int)<1000000007;decide),?_⟩;refine⟨_,rfl,_,rfl,_,rfl,_,_,rfl,rfl,.inl ⟨by decide,by decide⟩,_,_,rfl,rfl,_,_,rfl,rfl,.inl ⟨by decide,by decide⟩,_,_,rfl,rfl,k _ _ ⟨rfl,_,_,_,_,rfl⟩⟩
  ·exact⟨_,rfl,c,rfl,_,_,rfl,rfl,⟨by decide,by decide,by decide⟩,_,_,rfl,rfl,k _ _ ⟨rfl,_,_,_,_,rfl⟩⟩
 ·rintro σ H0 ⟨rfl,c',o2,o3,o4,rfl⟩;refine⟨(by show 0<=sizeLine;decide),λl hl=>?_⟩;have s1:aj H0 (upd H0 l (.lst [])):=cz hl _;refine⟨_,rfl,a,rfl,⟨_,s1.seq hS⟩,kF (K:=K) (a:=a) (xs:=ps.map V.int) (λi σ H2=>∃c o2 o3 o4 o6 ds,σ=[some (.int c),some (.ref a),o2,o3,o4,some (.ref l),o6]/\aj H0 H2/\H2 l=some (.lst (ds.map V.int))/\Paired Bd ds (ps.take i))
   ⟨c',o2,o3,o4,none,[],rfl,s1,aI,by rw[List.take_zero];exact .nil⟩ (λi σ H2 _ ⟨_,_,_,_,_,_,_,s2,_⟩=>s2.seq hS) ?_ ?_⟩
  ·rintro i y σ H2 hi ⟨c,o2,o3,o4,o6,ds,rfl,s2,h2,b2⟩;obtain⟨p,rfl,hp⟩:=mJ hi;have dG:i<ps.length:=(Yi.mp hp).1;obtain⟨p0,p1⟩:=hps p (Yh hp);have dl:=b2.length;rw[Wa] at dl;refine⟨_,rfl,.inl ⟨rfl,_,ak.of h2⟩,_,rfl,_,rfl,_,_,rfl,rfl,p0,l,_,_,rfl,rfl,h2,(by rw[Ya];exact jD (by omega)),?_⟩;refine⟨_,rfl,_,rfl,_,_,rfl,rfl,⟨p0,p1⟩,?_⟩;refine⟨_,o2,o3,o4,_,ds++[c % p],rfl,λb o e=>?_,?_,?_⟩
   ·rw[aC (bO e hl)];exact s2 b o e
   ·rw[aI,LO]
   ·rw[Y1,hp];exact b2.snoc ⟨Jn _ (Hv p0),Jd _ p0⟩
  ·rintro σ H2 ⟨c,o2,o3,o4,o6,ds,rfl,s2,h2,b2⟩;rw[Ya,Wc] at b2;exact⟨_,rfl,q l ds H2 hl s2 h2 b2⟩
abbrev HZ:List Str:=["_law_code","_law_size"]
theorem wH:aQ ["_law_code","_law_size","_law_free","_law_found","_law_k"] HZ (aK Pu):=⟨rfl,rfl,rfl,by decide+kernel,rfl,by decide+kernel,by decide+kernel⟩
theorem Zbg(F:aL K "_law_turn" "_law_turn" Pu f fd)(mL:mg "list"=none)(mR:mg "range"=none)(mT:mg "tuple"=none):aH P w K mg base aM 1 f fd HZ Oh:=by
 refine F.ok wH (λvs H Q E h=>?_) (λb_ A outer s H vs Q E hr h=>?_)
 ·obtain⟨c,n,rfl,_⟩:=h;rfl
 obtain⟨c,n,rfl,hn,q⟩:=h;refine⟨_,aq (f_ (i:=2) wH.nd rfl (Or.inl rfl) (eR (CH rfl) rfl mL ub (aa (eR yC rfl mR t8 (aa (pv 1) ag)) ag)))
  (aq (f_ (i:=3) wH.nd rfl (Or.inl rfl) (jI ag))
  (aq (gc PassesOwn.never rfl (nZ rfl mR (aa (pv 1) ag)) (pU (i:=4) wH.nd rfl (Or.inl rfl))
   (aq (bZ (ic plainAttrs_list PySem.F.slot_list_append PySem.F.type_list_append n5 (pv 3) (aa (ic plainAttrs_list PySem.F.slot_list_pop PySem.F.type_list_pop ZG (pv 2) (aa (aV dW (pv 0) (aV uh (pv 1) (pv 4))) ag)) ag)))
   (au (f_ (i:=0) wH.nd rfl (Or.inl rfl) (aV wo (pv 0) (aV uh (pv 1) (pv 4)))))))
  (au (aG (eR tD rfl mT mH (aa (pv 3) ag)))))),?_⟩
 refine⟨_,rfl,_,rfl,λr uW=>?_⟩;refine⟨r,n,rfl,aI,by omega,λu hu=>?_⟩;refine⟨(by show 0<=sizeLine;decide),λl hl=>?_⟩;have g1:aj H (upd H r (.ir 0 (n:Int))):=cz uW _;have g2:=g1.trans (cz hu (.lst ((bh n).map V.int)));have g3:=g2.trans (cz hl (.lst []));have H_:u≠l:=bO aI hl;refine⟨_,rfl,(n:Int),rfl,by omega,by omega,yQ (lo:=0) (n:=n) (λi σ H2=>∃c o4 ds fs,σ=[some (.int c),some (.int (n:Int)),some (.ref u),some (.ref l),o4]/\aj H H2/\H2 u=some (.lst (fs.map V.int))/\H2 l=some (.lst (ds.map V.int))/\(ds++fs).Perm (bh n)/\ds.length=i)
  ⟨c,none,[],bh n,rfl,g3,by rw[aC H_];exact aI,aI,by rw[RJ],rfl⟩ ?_ ?_⟩
 ·rintro i σ H2 hi ⟨c,o4,ds,fs,rfl,s2,Ia,uS,pm,dl⟩;have pl:=pm.length_eq;rw[Yl,eQ,dl] at pl;have Aj:(0:Int)<(n:Int)-(0+(i:Int)):=by omega
  have m0:=Jn c (Hv Aj);have m1:=Jd c Aj;have hk:(c % ((n:Int)-(0+(i:Int)))).toNat<fs.length:=by omega
  refine⟨_,rfl,.inl ⟨rfl,_,ak.of uS⟩,_,rfl,.inl ⟨rfl,_,ak.of Ia⟩,_,rfl,_,rfl,_,rfl,_,_,rfl,rfl,_,_,rfl,rfl,Aj,u,_,_,_,.int fs[(c % ((n:Int)-(0+(i:Int)))).toNat],rfl,rfl,Ia,by omega,by omega,((EY (zK m0 (by rw[Ya];omega))).1),by rw[Yd,Yb hk];rfl,?_⟩;refine⟨l,_,_,rfl,rfl,by rw[aC H_.symm];exact uS,(by rw[Ya];exact jD (by omega)),?_⟩;refine⟨_,rfl,_,rfl,_,rfl,_,_,rfl,rfl,_,_,rfl,rfl,⟨Aj,by omega⟩,?_⟩;refine⟨_,_,ds++[fs[(c % ((n:Int)-(0+(i:Int)))).toNat]],fs.eraseIdx (c % ((n:Int)-(0+(i:Int)))).toNat,rfl,λb o e=>?_,?_,?_,?_,?_⟩
  ·have nl:b≠l:=bO (g2 b o e) hl;have nu:b≠u:=bO (g1 b o e) hu;rw[aC nl,aC nu];exact s2 b o e
  ·rw[aC H_,aI,K9]
  ·rw[aI,LO]
  ·refine List.Perm.trans ?_ pm;rw[Jr];refine List.Perm.append_left ds ?_;exact(KD fs _ hk).symm
  ·rw[Yl,List.length_singleton,dl]
 ·rintro σ H2 ⟨c,o4,ds,fs,rfl,s2,Ia,uS,pm,dl⟩;have pl:=pm.length_eq;rw[Yl,eQ,dl] at pl;have e:fs=[]:=List.eq_nil_of_length_eq_zero (by omega);rw[e,Wh] at pm;refine⟨_,rfl,l,_,rfl,.inl ⟨ak.of uS,λt ht=>?_⟩⟩;exact q t ds _ (s2.free ht) (s2.trans (cz ht _)) aI pm
end
theorem Zbh{ds:List Int}{a b c d e:Int}(h:Paired Bd ds [a,b,c,d,e]):∃v w x y z,ds=[v,w,x,y,z]/\Bd v a/\Bd w b/\Bd x c/\Bd y d/\Bd z e:=by
 cases h with|cons h1 h=>cases h with|cons h2 h=>cases h with|cons h3 h=>cases h with|cons h4 h=>cases h with|cons h5 h=>
  cases h
  grind
theorem bg{q:St->Hp->Prop}{i:Nat}{x:V}{σ:St}{H:Hp}(h:q (σ.set i (some x)) H):rH i x σ H q:=h
theorem Ow{K:ai}{H:Hp}{p:Addr}{xs:List V}{i:Nat}{x:V}{Q:VK}(hp:ak K H p xs\/aA K H p xs)(h:xs[i]?=some x)(q:Q x H):G6 K (.ref p) (.int (0+(i:Int))) H Q:=by
 rcases hp with hp|hp;·exact .inl ⟨p,_,_,_,rfl,rfl,hp,LS h,q⟩
 ·exact .inr (.inl ⟨p,_,_,_,rfl,rfl,hp,LS h,q⟩)
theorem y_(v:V):decide (v=v)=true:=decide_eq_true rfl
theorem all_true(n:Nat):(List.replicate n true).all id=true:=by
 induction n with
 |zero=>rfl
 |succ n ih=>rw[List.replicate_succ,Ji,ih];rfl
inductive L8(m:Nat)(vs:List V)(H:Hp)(Q:VK):Prop
 |mk (x y:V) (d:Dt) (k:Nat) (aE:vs=[x,y]) (aU:m=k+1) (bc:At H k x d) (bL:At H k y d) (cL:∀H',aj H H'->Q (.bl true) H'):L8 m vs H Q
def qc(m:Nat):Sp:=λvs H Q _=>L8 m vs H Q
section
variable {K:ai}{mg:aX}
abbrev mf:List Str:=["_law_found","_law_due"]
theorem WL:aQ mf mf (aK yI):=.a8
theorem Zaa{n:Nat}(F:aL K "_law_same" "_law_same" yI f fd)(jC:HasFn P w K mg base n "_law_same" mf (qc n))(bl:Bl mg):aH P w K mg base aM (n+1) f fd mf (qc (n+1)):=by
 refine F.o WL λs H hr h=>?_;obtain⟨x,y,d,k,rfl,ek,hx,hy,q⟩:=h;obtain rfl:k=n:=by omega
 have hu:=hr.ui;refine⟨_,(aq (aR (bC Fn (pv 1) lL) (au (aG (eN Fn (pv 0) lL))) aY) (aq (aR (d9 (lq K bl (pv 1) (kO rfl bl.zM zr))) (au (aG (oy (lq K bl (pv 0) (kO rfl bl.zM zr)) (lM (eN ck (pv 0) (pv 1)))))) aY) (aq (aR (d9 (lq K bl (pv 1) (kO rfl bl.Pj Of))) (au (aG (oy (lq K bl (pv 0) (kO rfl bl.Pj Of)) (oy (ZbY (lq K bl (pv 0) (kO rfl bl.zM zr))) (lM (eN ck (pv 0) (pv 1))))))) aY) (aq (aR (d9 (lq K bl (pv 1) (kO rfl bl.wM wD))) (au (aG (oy (lq K bl (pv 0) (kO rfl bl.wM wD)) (lM (eN ck (pv 0) (pv 1)))))) aY) (aq (aR (PW.pt (pw_or (bC kN (lq K bl (pv 1) (kO rfl bl.uj ub)) (lq K bl (pv 0) (kO rfl bl.uj ub))) (pw_or1 (bC kN (lq K bl (pv 1) (kO rfl bl.mK mH)) (lq K bl (pv 0) (kO rfl bl.mK mH)))))) (au (aG ib)) aY) (aq (aR (bC kN (df K bl (pv 0)) (df K bl (pv 1))) (au (aG ib)) aY) (au (aG (hJ (Qh (K:=K) rfl rfl) rfl bl.Ph Oe (aa (iN (x:="_law_k") (fr:=[("_law_found",0),("_law_due",1)]) (cl:=[("_law_found",s.heap.objs.size+1),("_law_due",s.heap.objs.size+1+1)]) rfl (.gH ⟨rfl,⟨rfl,trivial⟩⟩ ⟨⟨rfl,.inl rfl,.inl rfl,rfl⟩,⟨⟨rfl,.inl rfl,.inl rfl,rfl⟩,trivial⟩⟩) (nZ rfl bl.jj (aa (df K bl (pv 1)) ag)) (λ_ _ _ _=>lK) (λ_ _ _ _=>(FQ jC hr (by omega) rfl (aa (aP (MY (K:=K) rfl) (pv 1) (pv 0)) (aa (aP (MY (K:=K) rfl) (pv 2) (pv 0)) ag))))) ag)))))))))),?_⟩;have sq:(∃(p r:Addr) (xs ys:List V) (ds:List Dt) (t:Value) (b1 b2:Bool) (m:Nat),x=.ref p/\y=.ref r/\iX K H (.ref p) t/\iX K H (.ref r) t/\kitOne K t (.type "bool")=some false/\kitOne K t (.type "int")=some false/\kitOne K t (.type "str")=some false/\
   kitOne K t (.type "list")=some b1/\kitOne K t (.type "tuple")=some b2/\(ak K H p xs\/aA K H p xs)/\(ak K H r ys\/aA K H r ys)/\ds.length<=1000/\Paired (At H m) xs ds/\Paired (At H m) ys ds/\k=m+1)\/
   (x=.az/\y=.az)\/(∃b,x=.bl b/\y=.bl b)\/(∃i,x=.int i/\y=.int i)\/∃z,x=.str z/\y=.str z:=by
  cases d with
  |az=>unfold At at hx hy;exact .inr (.inl ⟨hx,hy⟩)
  |bl b=>unfold At at hx hy;exact .inr (.inr (.inl ⟨b,hx,hy⟩))
  |int i=>unfold At at hx hy;exact .inr (.inr (.inr (.inl ⟨i,hx,hy⟩)))
  |str z=>unfold At at hx hy;exact .inr (.inr (.inr (.inr ⟨z,hx,hy⟩)))
  |lst ds=>
   cases k with
   |zero=>unfold At at hx;exact hx.elim
   |succ m=>
    unfold At at hx hy;obtain⟨a,xs,e0,e1,lz,p1⟩:=hx;obtain⟨b,ys,Ib,e2,_,p2⟩:=hy;exact .inl ⟨a,b,xs,ys,ds,.type "list",true,false,m,e0,Ib,.lst e1,.lst e2,Zcj,Zck,Zcl,Zcm,Zcn,.inl (ak.of e1),.inl (ak.of e2),lz,p1,p2,rfl⟩
  |tup ds=>
   cases k with
   |zero=>unfold At at hx;exact hx.elim
   |succ m=>
    unfold At at hx hy;obtain⟨a,xs,e0,e1,lz,p1⟩:=hx;obtain⟨b,ys,Ib,e2,_,p2⟩:=hy;exact .inl ⟨a,b,xs,ys,ds,.type "tuple",false,true,m,e0,Ib,.tup e1,.tup e2,Zco,Zcp,Zcq,Zcr,Zcs,.inr (aA.of e1),.inr (aA.of e2),lz,p1,p2,rfl⟩
 clear hx hy;rcases sq with⟨p,r,xs,ys,ds,t,b1,b2,m,rfl,rfl,T1,T2,kb,ki,ksr,kl,kt,hp,hq,hz,p1,p2,ek⟩|⟨rfl,rfl⟩|⟨b,rfl,rfl⟩|⟨i,rfl,rfl⟩|⟨z,rfl,rfl⟩
 ·have l1:=cX p1;have l2:=cX p2;refine⟨_,rfl,rfl,_,rfl,?_⟩;refine bI (λc=>absurd (of_decide_eq_true c) (λz=>nomatch z)) (λ_=>aW ?_);refine⟨_,rfl,_,_,_,false,rfl,T2,kb,_,rfl,bR (aW ?_)⟩;refine⟨_,rfl,_,_,_,false,rfl,T2,ki,_,rfl,bR (aW ?_)⟩;refine⟨_,rfl,_,_,_,false,rfl,T2,ksr,_,rfl,bR (aW ?_)⟩;refine⟨_,rfl,_,_,_,b1,rfl,T2,kl,_,rfl,_,_,_,b1,rfl,T1,kl,rfl,_,rfl,ur rfl ?_⟩;refine⟨_,rfl,_,_,_,b2,rfl,T2,kt,_,rfl,_,_,_,b2,rfl,T1,kt,rfl,_,rfl,ur rfl (aW ?_)⟩;refine⟨_,rfl,p,_,rfl,hp,_,rfl,r,_,rfl,hq,rfl,_,rfl,ur (by rw[l1,l2]) (aW ?_)⟩;refine⟨_,rfl,r,_,rfl,hq,_,rfl,by omega,by omega,λD hD=>vZ (lo:=0) (n:=((ys.length:Nat):Int).toNat)
   (λi zs H1=>aj H H1/\H1 D=some (.lst zs)/\zs=(List.replicate i true).map V.bl) ⟨cz hD _,aI,rfl⟩ ?_ ?_⟩
  ·rintro i zs H1 hi ⟨g,h1,rfl⟩;rw[Y4] at hi;have sq:∀{a:Addr} {us:List V},(ak K H a us\/aA K H a us)->(ak K H1 a us\/aA K H1 a us):=λ{a us} z=>by
    rcases z with z|z;·exact .inl (g.seq z)
    ·exact .inr (g.jb z)
   have gx:xs[i]?=some xs[i]:=Yb (by omega);have gy:ys[i]?=some ys[i]:=Yb (by omega);obtain⟨d1,e1,a1⟩:=fX p1 gx;obtain⟨d2,e2,a2⟩:=fX p2 gy;rw[e1] at e2;cases e2;refine kT (cW ?_);refine⟨_,rfl,_,rfl,Ow (sq hp) gx ?_⟩;refine⟨_,rfl,_,rfl,Ow (sq hq) gy ?_⟩;refine⟨_,_,d1,m,rfl,ek,a1.same g,a2.same g,λH2 g2=>?_⟩;refine⟨g2 _ _ h1,by rw[Ya,W0];exact jD (by omega),λb o e=>?_,aI,?_⟩
   ·rw[aC (bO e hD)];exact g2 b o (g b o e)
   ·rw[List.replicate_succ',Yq];rfl
  ·rintro zs H1 ⟨g,h1,e⟩;refine⟨D,_,rfl,ak.of (by rw[h1,e]),?_⟩;rw[all_true];exact q H1 g
 ·refine⟨_,rfl,rfl,_,rfl,?_⟩;refine bI (λc=>?_) (λc=>absurd (y_ _) c);exact⟨_,rfl,rfl,q H (aj.refl H)⟩
 ·refine⟨_,rfl,rfl,_,rfl,?_⟩;refine bI (λc=>absurd (of_decide_eq_true c) (λz=>nomatch z)) (λ_=>aW ?_);refine⟨_,rfl,_,_,_,true,rfl,.bl b,Oj,_,rfl,cW ?_⟩;refine⟨_,rfl,_,_,_,true,rfl,.bl b,Oj,_,rfl,cW ?_⟩;refine⟨_,rfl,_,rfl,rfl,?_⟩;rw[y_];exact q H (aj.refl H)
 ·refine⟨_,rfl,rfl,_,rfl,?_⟩;refine bI (λc=>absurd (of_decide_eq_true c) (λz=>nomatch z)) (λ_=>aW ?_);refine⟨_,rfl,_,_,_,false,rfl,.int i,Fu,_,rfl,bR (aW ?_)⟩;refine⟨_,rfl,_,_,_,true,rfl,.int i,Oi,_,rfl,cW ?_⟩;refine⟨_,rfl,_,_,_,true,rfl,.int i,Oi,_,rfl,cW ?_⟩;refine⟨_,rfl,_,_,_,false,rfl,.int i,Fu,_,rfl,_,rfl,cW ?_⟩;refine⟨_,rfl,_,rfl,rfl,?_⟩;rw[y_];exact q H (aj.refl H)
 ·refine⟨_,rfl,rfl,_,rfl,?_⟩;refine bI (λc=>absurd (of_decide_eq_true c) (λz=>nomatch z)) (λ_=>aW ?_);refine⟨_,rfl,_,_,_,false,rfl,.str z,Zch,_,rfl,bR (aW ?_)⟩;refine⟨_,rfl,_,_,_,false,rfl,.str z,Zci,_,rfl,bR (aW ?_)⟩;refine⟨_,rfl,_,_,_,true,rfl,.str z,Ol,_,rfl,cW ?_⟩;refine⟨_,rfl,_,_,_,true,rfl,.str z,Ol,_,rfl,cW ?_⟩;refine⟨_,rfl,_,rfl,rfl,?_⟩;rw[y_];exact q H (aj.refl H)
theorem same_none:aH P w K mg base aM 0 f fd mf (qc 0):=by
 have no:∀vs H Q E,¬qc 0 vs H Q E:=λvs H Q E h=>by
  obtain⟨_,_,_,_,_,z,_⟩:=h;omega
 exact⟨λvs H Q E h=>absurd h (no vs H Q E),λA outer s H args us vs Q E _ _ _ _ h=>absurd h (no vs H Q E)⟩
theorem Nc(F:aL K "_law_same" "_law_same" yI f fd)(bS:Binds K fd mf [])(kS:keepIn K (.ref f)=true)(m:mg "_law_same"=some (.ref f))(bl:Bl mg):
  ∀n:Nat,aH P w K mg base aM n f fd mf (qc n)
 |0=>same_none
 |n+1=>Zaa F ⟨f,fd,Nc F bS kS m bl n,bS,kS,m⟩ bl
end
inductive Ox(K:ai)(vs:List V)(H:Hp)(Q:VK):Prop
 |mk (p:Addr) (ns:List Int) (aE:vs=[.ref p]) (aU:Row K H p ns) (bc:ns.length<64) (bL:∀H',aj H H'->Q (.bl (full ns)) H'):Ox K vs H Q
def Gq(K:ai):Sp:=λvs H Q _=>Ox K vs H Q
def bH(ys xs:List Int):List Int:=xs.map λx=>ys.getD x.toNat 0
theorem pX{ys:List Int}(h:full ys=true){x:Int}(hx:x∈ys):0<=x/\x<ys.length:=by
 have hm:=(pO h).subset hx;unfold bh at hm;obtain⟨i,hi,rfl⟩:=Yf.mp hm;have:=Wl.mp hi;omega
section
variable {K:ai}{mg:aX}{c:Addr}
abbrev je:List Str:=["row"]
theorem XC:aQ je je (aK Ek):=.a8
theorem XD(F:aL K "is_turn" "is_turn" Ek f fd)(bl:Bl mg):aH P w K mg base aM 1 f fd je (Gq K):=by
 refine F.o XC @λb_ A outer vs Q E s H hr h=>?_;obtain⟨p,ns,rfl,hR,gD,q⟩:=h;have hu:=hr.ui;refine⟨_,(aq (aR (d9 (hJ (Zen (K:=K) rfl rfl) rfl bl.Zdx Zce (aa (iN (x:="number") (fr:=[]) (cl:=[]) rfl (.gH trivial trivial) (Zcc (pv 0)) (λ_ _ _ _=>lK) (λ_ _ _ _=>(lq K bl (pv 0) (kO rfl bl.zM zr)))) ag))) (au (aG ib)) aY) (au (aG (eN (Oc hu) (hJ (sortedK (K:=K) rfl) rfl bl.y9 yS (aa (pv 0) ag)) (eR (CH rfl) rfl bl.uj ub (aa (eR yC rfl bl.jj t8 (aa (df K bl (pv 0)) ag)) ag)))))),?_⟩;have hl:(ns.map V.int).length=ns.length:=Ya _;have rest:∀(D:Addr) (H1:Hp),aj H H1->H1 D=some (.lst ((List.replicate ns.length false).map V.bl))->
   ∃(RK:Addr) (bs:List Bool),[V.ref D]=[V.ref RK]/\ak K H1 RK (bs.map V.bl)/\tB (tC (V.bl (bs.any id))) [] H1 (λc H2=>if c=true then Q (.bl false) H2 else
    (Pk K false (gn 0)) [some (.ref p)] H2 Q):=λD H1 g1 h1=>by
  refine⟨D,_,rfl,ak.of h1,_,rfl,?_⟩;rw[any_false];refine bR ?_;exact ZM rfl (Row.same g1 hR) gD λH' g=>q H' (g1.trans g)
 have turn:∀(D:Addr),H D=none->∀(i:Nat) (v:V) (ys:List V) (H1:Hp),(ns.map V.int)[i]?=some v->(aj H H1/\H1 D=some (.lst ys)/\ys=(List.replicate i false).map V.bl)->
   nB (Af K) (gf (gn 0) (gf (tC (V.ty "bool")) iY)) [some v] H1 λy H3=>H3 D=some (.lst ys)/\ys.length<sizeLine/\
    (aj H (upd H3 D (.lst (ys++[y])))/\upd H3 D (.lst (ys++[y])) D=some (.lst (ys++[y]))/\ys++[y]=(List.replicate (i+1) false).map V.bl):=λD hD i v ys H1 hi ⟨g,h1,e⟩=>by
  obtain⟨z,rfl,hz⟩:=mJ hi;have dG:i<ns.length:=(Yi.mp hz).1;refine⟨_,rfl,_,_,_,false,rfl,.int z,Fu,h1,?_,λb o q=>?_,aI,?_⟩
  ·rw[e,Ya,W0];exact jD (by omega)
  ·rw[aC (bO q hD)];exact g b o q
  ·rw[e,List.replicate_succ',Yq];rfl
 refine⟨_,rfl,p,rfl,?_⟩;rcases hR with xS|xS
 ·refine .inl ⟨⟨_,xS⟩,λD hD=>Eg (xs:=ns.map V.int) (λi ys H1=>aj H H1/\H1 D=some (.lst ys)/\ys=(List.replicate i false).map V.bl) ⟨cz hD _,aI,rfl⟩ (λi ys H1 _ ⟨g,_,_⟩=>g.seq xS) (λi v ys H1 hi h=>kT (cW (turn D hD i v ys H1 hi h))) ?_⟩;rintro ys H1 ⟨g,h1,e⟩;exact rest D H1 g (by rw[h1,e,hl])
 ·refine .inr ⟨⟨_,xS⟩,λD hD=>y8 (xs:=ns.map V.int) (λi ys H1=>aj H H1/\H1 D=some (.lst ys)/\ys=(List.replicate i false).map V.bl) ⟨cz hD _,aI,rfl⟩ (λi ys H1 _ ⟨g,_,_⟩=>g.jb xS) (λi v ys H1 hi h=>kT (cW (turn D hD i v ys H1 hi h))) ?_⟩;rintro ys H1 ⟨g,h1,e⟩;exact rest D H1 g (by rw[h1,e,hl])
end
inductive Nd(K:ai)(vs:List V)(H:Hp)(Q:VK):Prop
 |mk (a b:Addr) (xs ys:List Int) (aE:vs=[.ref a,.ref b]) (aU:aA K H a (xs.map V.int)) (bc:aA K H b (ys.map V.int)) (bL:(∀x∈xs,0<=x/\x<ys.length)) (cL:xs.length<64) (d5:∀(t:Addr) (H':Hp),H t=none->aj H H'->H' t=some (.tup ((bH ys xs).map V.int))->Q (.ref t) H'):Nd K vs H Q
def FX(K:ai):Sp:=λvs H Q _=>Nd K vs H Q
section
variable {K:ai}{mg:aX}
abbrev nH:List Str:=["first","then"]
theorem WM:aQ nH nH (aK DS):=.a8
theorem WN(F:aL K "followed" "followed" DS f fd)(bl:Bl mg):aH P w K mg base aM 1 f fd nH (FX K):=by
 refine F.o WM λs H hr h=>?_;obtain⟨a,b,xs,ys,rfl,hA,hB,qE,hl,q⟩:=h;have al:(bH ys xs).length=xs.length:=by unfold bH;rw[Ya]
 refine⟨_,(au (aG (eR (tD) rfl bl.mK mH (aa (iN (x:="section") (fr:=[("then",1)]) (cl:=[("then",s.heap.objs.size+1)]) rfl (.gH ⟨rfl,trivial⟩ ⟨⟨rfl,.inl rfl,.inl rfl,rfl⟩,trivial⟩) (Fm (pv 0)) (λ_ _ _ _=>lK) (λ_ _ _ _=>(aP (iT K) (pv 1) (pv 0)))) ag)))),?_⟩;refine⟨_,rfl,a,rfl,⟨_,hA⟩,λD hD=>y8 (xs:=xs.map V.int) (λi zs H3=>aj H H3/\H3 D=some (.lst zs)/\zs=((bH ys xs).take i).map V.int) ⟨cz hD _,aI,rfl⟩ (λi zs H3 _ ⟨g3,_,_⟩=>g3.jb hA) ?_ ?_⟩
 ·rintro i v zs H3 hi ⟨g3,h3,e3⟩;obtain⟨z,rfl,hz⟩:=mJ hi;have bz:=qE z (Yh hz);refine kT (cW ⟨_,rfl,_,rfl,b,_,_,_,rfl,rfl,g3.jb hB,mQ bz.1 bz.2,h3,?_,λd o qd=>?_,aI,?_⟩)
  ·rw[e3,Ya,Wa,al];exact jD (by omega)
  ·rw[aC (bO qd hD)];exact g3 d o qd
  ·rw[e3,Y1,Eh];unfold bH;rw[Yd,hz];rfl
 ·rintro zs H3 ⟨g3,h3,e3⟩;refine⟨D,_,rfl,.inl ⟨ak.of h3,λt ht=>q t _ (g3.free ht) (g3.trans (cz ht _)) ?_⟩⟩;show upd H3 t (.tup zs) t=_;rw[aI,e3,Ya,Wk (by rw[al];omega)]
end
def jO(x:Int):List Int->Nat
 |[]=>0
 |y::r=>if y=x then 0 else jO x r+1
theorem zb{x:Int}:∀{l:List Int},x∈l->l[jO x l]?=some x/\∀m,m<jO x l->l[m]?≠some x
 |[],h=>by cases h
 |y::r,h=>by
  unfold jO;by_cases e:y=x;·grind
  ·rw[if_neg e];obtain⟨h1,h2⟩:=zb ((Yn.mp h).resolve_left λz=>e z.symm);refine⟨by rw[List.getElem?_cons_succ];exact h1,λm hm=>?_⟩;cases m with
   |zero=>grind
   |succ m=>grind
theorem yV{l:List Int}(nd:l.Nodup){k:Nat}{x:Int}(h:l[k]?=some x):jO x l=k:=by
 obtain⟨h1,h2⟩:=zb (Yh h);exact(List.getElem?_inj (by rcases Yi.mp h1 with⟨z,_⟩;exact z) nd).mp (h1.trans h.symm)
def inv(xs:List Int):List Int:=(bh xs.length).map λi=>(jO i xs:Int)
theorem fF(xs:List Int):(inv xs).length=xs.length:=by unfold inv;rw[Ya,eQ]
theorem zA{xs:List Int}{i:Nat}(h:i<xs.length):(inv xs)[i]?=some (jO (i:Int) xs:Int):=by
 unfold inv;rw[Yd,lJ h];rfl
theorem yJ{xs:List Int}(h:full xs=true):xs.Nodup:=(pO h).nodup_iff.mpr (AX.DP _)
theorem L9{xs:List Int}(h:full xs=true){i:Nat}(hi:i<xs.length):(i:Int)∈xs:=(pO h).symm.subset (Yh (lJ hi))
theorem jF{xs:List Int}(h:full xs=true):full (inv xs)=true:=by
 have p:(xs.map λi=>(jO i xs:Int)).Perm (inv xs):=(pO h).map _;have e:xs.map (λi=>(jO i xs:Int))=bh xs.length:=by
  refine Wj λi=>?_;rw[Yd];by_cases hi:i<xs.length
  ·rw[lJ hi,Yb hi];show some (jO xs[i] xs:Int)=some (i:Int);rw[yV (yJ h) (Yb hi)]
  ·rw[Y3 (by omega),Y3 (by rw[eQ];omega)];rfl
 rw[e] at p;exact rf p.symm
theorem inv_inv{xs:List Int}(h:full xs=true):inv (inv xs)=xs:=by
 refine Wj λi=>?_;by_cases hi:i<xs.length
 ·rw[zA (by rw[fF];exact hi),Yb hi];have b:=pX h (Jv hi);have hk:(xs[i]).toNat<xs.length:=by omega
  have e:((xs[i].toNat:Nat):Int)=xs[i]:=by omega
  have g:(inv xs)[(xs[i]).toNat]?=some (i:Int):=by rw[zA hk,e,yV (yJ h) (Yb hi)]
  rw[yV (yJ (jF h)) g,e]
 ·rw[Y3 (by rw[fF,fF];omega),Y3 (by omega)]
theorem L_{xs:List Int}{i:Nat}(hi:i<xs.length):(inv xs).take (i+1)=(inv xs).take i++[(jO (i:Int) xs:Int)]:=by
 rw[Y1,zA hi];rfl
inductive Oy(vs:List V)(H:Hp)(Q:VK):Prop
 |mk (a:Addr) (xs:List Int) (aE:vs=[.ref a]) (aU:H a=some (.tup (xs.map V.int))) (bc:xs.length<64) (bL:full xs=true) (cL:∀(t:Addr) (H':Hp),H t=none->aj H H'->H' t=some (.tup ((inv xs).map V.int))->Q (.ref t) H'):Oy vs H Q
def Ak:Sp:=λvs H Q _=>Oy vs H Q
section
variable {K:ai}{mg:aX}
abbrev nI:List Str:=["turn"]
theorem US:aQ nI nI (aK CK):=.a8
theorem UT(F:aL K "turned_back" "turned_back" CK f fd)(bl:Bl mg):aH P w K mg base aM 1 f fd nI Ak:=by
 refine F.ok US (λvs H Q E h=>?_) (λb_ A outer s H1 vs Q E hr h=>?_)
 ·obtain⟨a,xs,rfl,_⟩:=h;rfl
 obtain⟨a,xs,rfl,hA,lx,fx,q⟩:=h;refine⟨_,(au (aG (eR (tD) rfl bl.mK mH (aa (iN (x:="section") (fr:=[("turn",0)]) (cl:=[("turn",s.heap.objs.size+1)]) rfl (.gH ⟨rfl,trivial⟩ ⟨⟨rfl,.inl rfl,.inl rfl,rfl⟩,trivial⟩) (nZ rfl bl.jj (aa (df K bl (pv 0)) ag)) (λ_ _ _ _=>lK) (λ_ _ _ _=>(Kl (pv 1) (aa (pv 0) ag)))) ag)))),?_⟩;have el:(xs.map V.int).length=xs.length:=Ya _;refine⟨_,rfl,a,_,rfl,.inr (aA.of hA),_,rfl,by rw[el];omega,by rw[el];omega,λD hD=>vZ (lo:=0) (n:=(((xs.map V.int).length:Nat):Int).toNat)
   (λi zs H2=>aj H1 H2/\H2 D=some (.lst zs)/\zs=((inv xs).take i).map V.int) ⟨cz hD _,aI,rfl⟩ ?_ ?_⟩
 ·rintro i zs H2 hi ⟨g2,h2,e2⟩;rw[Y4,el] at hi;rw[J4];have hx:=zb (L9 fx hi);have xT:=g2 _ _ hA;refine kT (cW ⟨_,rfl,a,xs,rfl,xT,_,rfl,(i:Int),jO (i:Int) xs,rfl,xT,hx.1,hx.2,h2,?_,λd o qd=>?_,aI,?_⟩)
  ·rw[e2,Ya,Wa,fF];exact jD (by omega)
  ·rw[aC (bO qd hD)];exact g2 d o qd
  ·rw[e2,L_ hi,Yq];rfl
 ·rintro zs H2 ⟨g2,h2,e2⟩;refine⟨D,_,rfl,.inl ⟨ak.of h2,λt ht=>q t _ (g2.free ht) (g2.trans (cz ht _)) ?_⟩⟩;rw[aI,e2,Y4,el,Wk (by rw[fF];omega)]
end
inductive Lo(vs:List V)(H:Hp)(Q:VK):Prop
 |mk (n:Nat) (aE:vs=[.int (n:Int)]) (aU:n<=1000) (bc:∀(t:Addr) (H':Hp),H t=none->aj H H'->H' t=some (.tup ((bh n).map V.int))->Q (.ref t) H'):Lo vs H Q
def E5:Sp:=λvs H Q _=>Lo vs H Q
section
variable {K:ai}{mg:aX}{c:Addr}
theorem Zab:aQ ["size"] ["size"] (aK E4):=.a8
theorem Zac(F:aL K "still" "still" E4 f fd)(bl:Bl mg):aH P w K mg base aM 1 f fd ["size"] E5:=by
 refine F.o Zab λs H hr h=>?_;obtain⟨n,rfl,hn,q⟩:=h;refine⟨_,(au (aG (eR (Ka rfl) rfl bl.mK mH (aa (eR yC rfl bl.jj t8 (aa (pv 0) ag)) ag)))),?_⟩;exact⟨_,rfl,_,rfl,λr uW=>⟨r,n,rfl,aI,hn,λt ht=>q t _ ((cz uW _).free ht) ((cz uW _).trans (cz ht _)) aI⟩⟩
end
inductive Nf(K:ai)(vs:List V)(H:Hp)(Q:VK):Prop
 |mk (p:Addr) (ns:List Int) (aE:vs=[.ref p]) (aU:aA K H p (ns.map V.int)) (bc:ns.length<64) (bL:full ns=true) (cL:∀H',aj H H'->Q .az H'):Nf K vs H Q
def FY(K:ai):Sp:=λvs H Q _=>Nf K vs H Q
inductive Oz(K:ai)(vs:List V)(H:Hp)(Q:VK):Prop
 |mk (a b:Addr) (xs ys:List Int) (aE:vs=[.ref a,.ref b]) (aU:aA K H a (xs.map V.int)) (bc:aA K H b (ys.map V.int)) (bL:xs.length<64) (cL:full xs=true) (d5:full ys=true) (gU:xs.length=ys.length) (jd:∀(t:Addr) (H':Hp),H t=none->aj H H'->H' t=some (.tup ((bH ys xs).map V.int))->Q (.ref t) H'):Oz K vs H Q
def Gr(K:ai):Sp:=λvs H Q _=>Oz K vs H Q
inductive OA(vs:List V)(H:Hp)(Q:VK):Prop
 |mk (a:Addr) (xs:List Int) (aE:vs=[.ref a]) (aU:H a=some (.tup (xs.map V.int))) (bc:xs.length<64) (bL:full xs=true) (cL:∀(t:Addr) (H':Hp),H t=none->aj H H'->H' t=some (.tup ((inv xs).map V.int))->Q (.ref t) H'):OA vs H Q
def Qp:Sp:=λvs H Q _=>OA vs H Q
inductive Ma(K:ai)(vs:List V)(H:Hp)(Q:VK):Prop
 |mk (l a0:Addr) (as:List Addr) (n:Nat) (aE:vs=[.ref l]) (aU:ak K H l ((a0::as).map V.ref)) (bc:2<=n) (bL:n<=8) (cL:(∀a∈a0::as,∃xs:List Int,aA K H a (xs.map V.int)/\xs.length=n/\full xs=true)) (d5:∀H',aj H H'->Q .az H'):Ma K vs H Q
def Fy(K:ai):Sp:=λvs H Q _=>Ma K vs H Q
inductive Kp(K:ai)(vs:List V)(H:Hp)(Q:VK):Prop
 |mk (m f w:Addr) (xs ys:List Int) (aE:vs=[.ref m,.ref f,.ref w]) (aU:aA K H m (xs.map V.int)) (bc:aA K H f ((bH xs ys).map V.int)) (bL:aA K H w (ys.map V.int)) (cL:full xs=true) (d5:full ys=true) (gU:xs.length=ys.length) (jd:xs.length<=8) (qA:∀H',aj H H'->Q .az H'):Kp K vs H Q
def Lp(K:ai):Sp:=λvs H Q _=>Kp K vs H Q
theorem q0(xs ys:List Int):(bH xs ys).length=ys.length:=by unfold bH;rw[Ya]
theorem EJ{xs ys:List Int}(fx:full xs=true)(fy:full ys=true)(e:xs.length=ys.length):full (bH xs ys)=true:=by
 have p1:(bH xs ys).Perm ((bh ys.length).map λx=>xs.getD x.toNat 0):=(pO fy).map _;have e2:((bh ys.length).map λx=>xs.getD x.toNat 0)=xs:=by
  refine Wj λi=>?_;rw[Yd];by_cases hi:i<ys.length
  ·rw[lJ hi]
   grind
  ·rw[Y3 (by rw[eQ];omega),Y3 (by omega)];rfl
 rw[e2] at p1;exact rf (p1.trans (pO fx))
abbrev ZdN(n:Nat)(m f w d:Addr):List (Str×V):=[("size",.int (n:Int)),("mother",.ref m),("father",.ref f),("wife",.ref w),("steps",.ref d)]
abbrev wI(m f w im jf iw st:Addr):List (Key×V):=[(.inr "c",.ref m),(.inr "k",.ref f),(.inr "w",.ref w),(.inr "m",.ref im),(.inr "f",.ref jf),(.inr "h",.ref iw),(.inr "s",.ref st)]
def bP(H:Hp)(a:Addr)(ns:List Int):Prop:=H a=some (.tup (ns.map V.int))
inductive Mb(H:Hp)(C L:Addr)(xs ys:List Int):Prop
 |mk (dx d m f w im jf iw st:Addr) (aE:H L=some (.ins C dx (ZdN xs.length m f w d))) (aU:H d=some (.dK (wI m f w im jf iw st))) (bc:bP H m xs) (bL:bP H f (bH xs ys)) (cL:bP H w ys) (d5:bP H im (inv xs)) (gU:bP H jf (inv (bH xs ys))) (jd:bP H iw (inv ys)) (qA:bP H st (bh xs.length)):Mb H C L xs ys
def hZ(H:Hp)(C L:Addr)(xs ys:List Int):Prop:=Mb H C L xs ys
theorem hZ.same{H H':Hp}{C L:Addr}{xs ys:List Int}(g:aj H H')(h:hZ H C L xs ys):hZ H' C L xs ys:=by
 obtain⟨dx,d,m,f,w,im,jf,iw,st,h1,h2,h3,h4,h5,h6,h7,h8,h9⟩:=h;exact⟨dx,d,m,f,w,im,jf,iw,st,g _ _ h1,g _ _ h2,g _ _ h3,g _ _ h4,g _ _ h5,g _ _ h6,g _ _ h7,g _ _ h8,g _ _ h9⟩
inductive Mc(C:Addr)(vs:List V)(H:Hp)(Q:VK):Prop
 |mk (x dx m f w:Addr) (xs ys:List Int) (aE:vs=[.ref x,.ref m,.ref f,.ref w]) (aU:H x=some (.ins C dx [])) (bc:bP H m xs) (bL:bP H f (bH xs ys)) (cL:bP H w ys) (d5:full xs=true) (gU:full ys=true) (jd:xs.length=ys.length) (qA:2<=xs.length) (xI:xs.length<=8) (Gs:∀H',(∀b o,H b=some o->b≠x->H' b=some o)->hZ H' C x xs ys->Q .az H'):Mc C vs H Q
def OB(C:Addr):Sp:=λvs H Q _=>Mc C vs H Q
inductive KU(C:Addr)(vs:List V)(H:Hp)(Q:VK):Prop
 |mk (m w:Addr) (xs ys:List Int) (aE:vs=[.ref m,.ref w]) (aU:bP H m xs) (bc:bP H w ys) (bL:full xs=true) (cL:full ys=true) (d5:xs.length=ys.length) (gU:2<=xs.length) (jd:xs.length<=8) (qA:∀(L:Addr) (H':Hp),aj H H'->hZ H' C L xs ys->Q (.ref L) H'):KU C vs H Q
def Md(C:Addr):Sp:=λvs H Q _=>KU C vs H Q
structure uv(K:ai)(C:Addr):Prop where
 cls:iu K C
 rD:dB K C "size"
 Zad:dB K C "mother"
 Zae:dB K C "father"
 ZcZ:dB K C "wife"
 E6:dB K C "steps"
section
variable {K:ai}{mg:aX}{c:Addr}
theorem Vg:aQ je je (aK C3):=.a8
theorem Zc0(F:aL K "check_turn" "check_turn" C3 f fd)(tW:HasFn P w K mg base 1 "is_turn" je (Gq K)):aH P w K mg base aM 2 f fd je (FY K):=by
 refine F.o Vg λs H hr h=>?_;obtain⟨p,ns,rfl,hT,gD,fl,q⟩:=h;refine⟨_,(au (aR (hX (d9 (aT tW hr (aa (pv 0) ag)))) fG aY)),?_⟩;refine⟨_,rfl,p,ns,rfl,.inr hT,gD,λH1 g=>⟨_,rfl,?_⟩⟩;rw[fl];exact bR (q H1 g)
theorem Zg:aQ nH nH (aK EG):=.a8
theorem ZdO(F:aL K "behind" "behind" EG f fd)(qW:HasFn P w K mg base 2 "check_turn" je (FY K))(pN:HasFn P w K mg base 1 "followed" nH (FX K))(bl:Bl mg):aH P w K mg base aM 3 f fd nH (Gr K):=by
 refine F.o Zg λs H hr h=>?_;obtain⟨a,b,xs,ys,rfl,hA,hB,lx,fx,fy,eq,q⟩:=h;refine⟨_,(aq (bZ (aT qW hr (aa (pv 0) ag))) (aq (bZ (aT qW hr (aa (pv 1) ag))) (aq (aR (bC kN (df K bl (pv 0)) (df K bl (pv 1))) fG aY) (au (aG (aT pN hr (aa (pv 0) (aa (pv 1) ag)))))))),?_⟩;refine⟨_,rfl,a,xs,rfl,hA,lx,fx,λH1 g1=>?_⟩;refine⟨_,rfl,b,ys,rfl,g1.jb hB,by omega,fy,λH2 g2=>?_⟩;have g:=g1.trans g2;have RL:=g.jb hA;have RM:=g.jb hB;have el:∀zs:List Int,(zs.map V.int).length=zs.length:=λzs=>Ya _;refine⟨_,rfl,a,_,rfl,.inr RL,_,rfl,b,_,rfl,.inr RM,rfl,_,rfl,ur (by rw[el,el,eq]) (aW ?_)⟩;exact⟨_,rfl,_,rfl,a,b,xs,ys,rfl,RL,RM,λz hz=>by rw[←eq];exact pX fx hz,lx,λt H3 nt g3 ht=>q t H3 (g.free nt) (g.trans g3) ht⟩
theorem Zbi:aQ nI nI (aK Fx):=.a8
theorem ZdP(F:aL K "back" "back" Fx f fd)(qW:HasFn P w K mg base 2 "check_turn" je (FY K))(nX:HasFn P w K mg base 1 "turned_back" nI Ak)(bl:Bl mg):aH P w K mg base aM 3 f fd nI Qp:=by
 refine F.o Zbi λs H hr h=>?_;obtain⟨a,xs,rfl,hA,lx,fx,q⟩:=h;refine⟨_,(aq (bZ (aT qW hr (aa (pv 0) ag))) (au (aG (aT nX hr (aa (pv 0) ag))))),?_⟩;refine⟨_,rfl,a,xs,rfl,aA.of hA,lx,fx,λH1 g1=>?_⟩;exact⟨_,rfl,a,xs,rfl,g1 _ _ hA,lx,fx,λt H2 nt g2 ht=>q t H2 (g1.free nt) (g1.trans g2) ht⟩
theorem CU:aQ ["rows","size","row"] ["rows"] (aK C4):=.a8
theorem Zbj(F:aL K "check_rows" "check_rows" C4 f fd)(tW:HasFn P w K mg base 1 "is_turn" je (Gq K)){t1 t2:Tok}(Dd:mg "LEAST_SIZE"=some (.int 2 t1))(DE:mg "MOST_SIZE"=some (.int 8 t2))(bl:Bl mg):aH P w K mg base aM 2 f fd ["rows"] (Fy K):=by
 refine F.o CU λs H hr h=>?_;obtain⟨l,a0,as,n,rfl,hL,n2,n8,rows,q⟩:=h;refine⟨_,(aq (bY 1 CU.nd (df K bl (aP (iL K) (pv 0) aF))) (aq (aR (PW.pt (pw_or (bC mW (pv 1) (du (v:=.int (2)) rfl Dd ⟨_,rfl⟩)) (pw_or1 (bC FN (pv 1) (du (v:=.int (8)) rfl DE ⟨_,rfl⟩))))) fG aY) (au (gc PassesOwn.never rfl (fO (K:=K) rfl (pv 0)) (bA 2 CU.nd) (au (aR (PW.pt (pw_or (bC kN (df K bl (pv 2)) (pv 1)) (pw_or1 (hX (d9 (aT tW hr (aa (pv 2) ag))))))) fG aY)))))),?_⟩;have el:∀zs:List Int,(zs.map V.int).length=zs.length:=λzs=>Ya _;obtain⟨x0,h0,l0,f0⟩:=rows a0 Yg;refine⟨_,rfl,l,_,0,.ref a0,rfl,rfl,hL,gM (j:=0) rfl,a0,_,rfl,.inr h0,?_⟩;rw[el,l0];refine⟨_,rfl,_,_,rfl,rfl,_,rfl,bI (λcc=>absurd (of_decide_eq_true cc) (by omega)) (λ_=>?_)⟩;refine⟨_,rfl,_,_,rfl,rfl,_,rfl,bI (λcc=>absurd (of_decide_eq_true cc) (by omega)) (λ_=>aW ?_)⟩;refine⟨_,rfl,l,rfl,⟨_,hL⟩,kF (xs:=(a0::as).map V.ref) (λi σ H1=>aj H H1/\∃o2:Option V,σ=[some (.ref l),some (.int (n:Int)),o2]) ⟨aj.refl _,none,rfl⟩ (λi σ H1 _ ⟨g,_⟩=>g.seq hL) ?_ ?_⟩
 ·rintro i v σ H1 hi ⟨g,o2,rfl⟩;rw[Yd] at hi;obtain⟨a,ha,rfl⟩:∃a,a∈a0::as/\V.ref a=v:=by
   cases e:(a0::as)[i]? with
   |none=>rw[e] at hi;cases hi
   |some a=>grind
  obtain⟨xs,hx,lx,fx⟩:=rows a ha;refine⟨_,rfl,a,_,rfl,.inr (g.jb hx),_,rfl,rfl,_,rfl,ur (by rw[el,lx]) ?_⟩;refine⟨_,rfl,a,xs,rfl,.inr (g.jb hx),by omega,λH2 g2=>⟨_,rfl,?_⟩⟩;rw[fx];exact bR (aW ⟨g.trans g2,_,rfl⟩)
 ·rintro σ H1 ⟨g,o2,rfl⟩;exact q H1 g
abbrev Ic:List Str:=["mother","father","wife"]
theorem Ca:aQ ["mother","father","wife","by_mothers","section"] Ic (aK Cd):=.a8
theorem XE(F:aL K "check_parents" "check_parents" Cd f fd)(t_:HasFn P w K mg base 3 "behind" nH (Gr K))(bl:Bl mg):aH P w K mg base aM 4 f fd Ic (Lp K):=by
 refine F.o Ca λs H hr h=>?_;obtain⟨m,fa,wi,xs,ys,rfl,hM,hF,hW,fx,fy,eq,l8,q⟩:=h;refine⟨_,(aq (bY 3 Ca.nd (aT t_ hr (aa (pv 2) (aa (pv 0) ag)))) (au (gc PassesOwn.never rfl (nZ rfl bl.jj (aa (df K bl (pv 1)) ag)) (bA 4 Ca.nd) (au (aR (bC kN (aP (iT K) (pv 3) (pv 4)) (aP (iT K) (pv 1) (pv 4))) fG aY))))),?_⟩;have el:∀zs:List Int,(zs.map V.int).length=zs.length:=λzs=>Ya _;refine⟨_,rfl,_,rfl,wi,m,ys,xs,rfl,hW,hM,by omega,fy,fx,eq.symm,λt H1 nt g ht=>?_⟩;have al:=q0 xs ys;refine⟨_,rfl,fa,_,rfl,.inr (g.jb hF),_,rfl,by rw[el];omega,by rw[el];omega,yQ (lo:=0) (n:=((((bH xs ys).map V.int).length:Nat):Int).toNat)
  (λi σ H2=>H2=H1/\∃o4:Option V,σ=[some (.ref m),some (.ref fa),some (.ref wi),some (.ref t),o4]) ⟨rfl,none,rfl⟩ ?_ ?_⟩
 ·rintro i σ H2 hi ⟨rfl,o4,rfl⟩;rw[Y4,el] at hi;have at_:dw ((bH xs ys).map V.int) (0+(i:Int))=some (.int ((bH xs ys).getD (0+(i:Int)).toNat 0)):=mQ (by omega) (by omega);refine⟨_,rfl,_,rfl,t,_,_,_,rfl,rfl,aA.of ht,at_,_,rfl,_,rfl,fa,_,_,_,rfl,rfl,g.jb hF,at_,rfl,_,rfl,ur rfl (aW ⟨rfl,_,rfl⟩)⟩
 ·rintro σ H2 ⟨rfl,o4,rfl⟩;exact q _ g
end
theorem uX{f:Str}{y:V}{fs:List (Str×V)}{n:Nat}(h:fs.length<=n):(cP f y fs).length<=n+1:=Y6 (Di f y fs) (Nat.succ_le_succ h)
theorem fs4(a b c d:V):cP "wife" d (cP "father" c (cP "mother" b (cP "size" a [])))=([("size",a),("mother",b),("father",c),("wife",d)]:List (Str×V)):=rfl
theorem fs5(a b c d e:V):cP "steps" e [("size",a),("mother",b),("father",c),("wife",d)]=([("size",a),("mother",b),("father",c),("wife",d),("steps",e)]:List (Str×V)):=rfl
theorem ds7(a b c d e f g:V):oz [] [(.inr "c",a),(.inr "k",b),(.inr "w",c),(.inr "m",d),(.inr "f",e),(.inr "h",f),(.inr "s",g)]=[(.inr "c",a),(.inr "k",b),(.inr "w",c),(.inr "m",d),(.inr "f",e),(.inr "h",f),(.inr "s",g)]:=rfl
section
variable {K:ai}{mg:aX}{c:Addr}
abbrev A8:List Str:=["self","mother","father","wife"]
theorem VF:aQ A8 A8 (aK Dz):=.a8
theorem Zbk(F:aL K "__init__" "Land.__init__" Dz f fd)(lc:uv K C)(tH:HasFn P w K mg base 2 "check_rows" ["rows"] (Fy K))(Ck:HasFn P w K mg base 4 "check_parents" Ic (Lp K))
  (wJ:HasFn P w K mg base 3 "back" nI Qp)(ud:HasFn P w K mg base 1 "still" ["size"] E5)(bl:Bl mg):aH P w K mg base aM 5 f fd A8 (OB C):=by
 refine F.o VF λs H hr h=>?_;obtain⟨x,dx,m,fa,wi,xs,ys,rfl,hx,hM,hF,hW,fx,fy,eq,l2,l8,q⟩:=h;refine⟨_,(aq (bZ (aT tH hr (aa (jI (aa (pv 1) (aa (pv 2) (aa (pv 3) ag)))) ag))) (aq (bZ (aT Ck hr (aa (pv 1) (aa (pv 2) (aa (pv 3) ag))))) (aq (wA (pv 0) (df K bl (pv 1)) rfl) (aq (wA (pv 0) (pv 1) rfl) (aq (wA (pv 0) (pv 2) rfl) (aq (wA (pv 0) (pv 3) rfl) (au (wA (pv 0) (zw (jE bu (pv 1) (jE bu (pv 2) (jE bu (pv 3) (jE bu (aT wJ hr (aa (pv 1) ag)) (jE bu (aT wJ hr (aa (pv 2) ag)) (jE bu (aT wJ hr (aa (pv 3) ag)) (jE bu (aT ud hr (aa (df K bl (pv 1)) ag)) zu))))))) rfl rfl (λz=>nomatch z) (Jo rfl)) rfl)))))))),?_⟩;have el:∀zs:List Int,(zs.map V.int).length=zs.length:=λzs=>Ya _;have RN:=EJ fx fy eq;have al:=q0 xs ys;refine⟨_,rfl,_,rfl,_,rfl,by show 3<=sizeLine;decide,λl nl=>?_⟩;have g1:=cz nl (.lst [.ref m,.ref fa,.ref wi]);refine⟨l,m,[fa,wi],xs.length,rfl,ak.of aI,l2,l8,λa ha=>?_,λH2 g2=>?_⟩
 ·rcases Yn.mp ha with rfl|ha;·exact⟨xs,aA.of (g1 _ _ hM),rfl,fx⟩
  ·rcases Yn.mp ha with rfl|ha;·exact⟨bH xs ys,aA.of (g1 _ _ hF),by rw[al,eq],RN⟩
   ·rw[Yo] at ha;subst ha;exact⟨ys,aA.of (g1 _ _ hW),eq.symm,fy⟩
 have mj:=g1.trans g2;refine⟨_,rfl,_,rfl,_,rfl,m,fa,wi,xs,ys,rfl,aA.of (mj _ _ hM),aA.of (mj _ _ hF),aA.of (mj _ _ hW),fx,fy,eq,l8,λH3 g3=>?_⟩;have g:=mj.trans g3;have A9:=g _ _ hx;have A_:=g _ _ hM;have Ie:=g _ _ hF;have Ig:=g _ _ hW;have nm:m≠x:=λe=>by rw[e,A9] at A_;cases A_
 have nf:fa≠x:=λe=>by rw[e,A9] at Ie;cases Ie
 have nw:wi≠x:=λe=>by rw[e,A9] at Ig;cases Ig
 refine⟨_,rfl,m,_,rfl,.inr (aA.of A_),_,rfl,x,C,dx,_,rfl,A9,lc.cls,lc.rD,by decide,?_⟩;refine⟨_,rfl,_,rfl,x,C,dx,_,rfl,aI,lc.cls,lc.Zad,Jc (uX (Ye 0)) (by decide),?_⟩;refine⟨_,rfl,_,rfl,x,C,dx,_,rfl,aI,lc.cls,lc.Zae,Jc (uX (uX (Ye 0))) (by decide),?_⟩;refine⟨_,rfl,_,rfl,x,C,dx,_,rfl,aI,lc.cls,lc.ZcZ,Jc (uX (uX (uX (Ye 0)))) (by decide),?_⟩;rw[EV,EV,EV,el,fs4];have Ih:upd H3 x (.ins C dx [("size",.int (xs.length:Int)),("mother",.ref m),("father",.ref fa),("wife",.ref wi)]) x=some (.ins C dx [("size",.int (xs.length:Int)),("mother",.ref m),("father",.ref fa),("wife",.ref wi)]):=aI;have o4:∀b o,H3 b=some o->b≠x->upd H3 x (.ins C dx [("size",.int (xs.length:Int)),("mother",.ref m),("father",.ref fa),("wife",.ref wi)]) b=some o:=λb o e n=>by rw[aC n];exact e
 generalize upd H3 x (.ins C dx [("size",.int (xs.length:Int)),("mother",.ref m),("father",.ref fa),("wife",.ref wi)])=H4 at Ih o4⊢;have Ii:=o4 _ _ A_ nm;have RO:=o4 _ _ Ie nf;have RP:=o4 _ _ Ig nw;intro d nd;have g5:=cz nd (.dK []);have Ij:upd H4 d (.dK []) d=some (.dK []):=aI;generalize upd H4 d (.dK [])=H5 at g5 Ij⊢;refine⟨_,rfl,_,rfl,_,rfl,?_⟩;refine⟨_,rfl,m,xs,rfl,g5 _ _ Ii,by omega,fx,λim H6 nim g6 Ik=>?_⟩;refine⟨_,rfl,fa,bH xs ys,rfl,g6 _ _ (g5 _ _ RO),by omega,RN,λjf H7 njf g7 Il=>?_⟩;refine⟨_,rfl,wi,ys,rfl,g7 _ _ (g6 _ _ (g5 _ _ RP)),by omega,fy,λiw H8 niw g8 hiw=>?_⟩;have RQ:=(g6.trans g7).trans g8;refine⟨_,rfl,m,_,rfl,.inr (aA.of (RQ _ _ (g5 _ _ Ii))),xs.length,by rw[el];rfl,by omega,λst H9 qF g9 dZ=>?_⟩;have sF:=RQ.trans g9;refine⟨sF _ _ Ij,wI m fa wi im jf iw st,rfl,by show 7<=15;decide,?_⟩;have jg:d≠x:=bO Ih nd |>.symm;have RS:=sF _ _ (g5 _ _ Ih);refine⟨_,rfl,x,C,dx,_,rfl,by rw[aC jg.symm];exact RS,lc.cls,lc.E6,by show 4<1000;decide,?_⟩;rw[fs5,ds7];have key:∀{b:Addr} {o:HO},H9 b=some o->b≠d->b≠x->upd (upd H9 d (.dK (wI m fa wi im jf iw st))) x (.ins C dx [("size",.int (xs.length:Int)),("mother",.ref m),("father",.ref fa),("wife",.ref wi),("steps",.ref d)]) b=some o:=λ{b o} e n1 n2=>by
  rw[aC n2,aC n1];exact e
 have rZ:∀{b:Addr} {zs:List Int},H9 b=some (.tup (zs.map V.int))->bP (upd (upd H9 d (.dK (wI m fa wi im jf iw st))) x (.ins C dx [("size",.int (xs.length:Int)),("mother",.ref m),("father",.ref fa),("wife",.ref wi),("steps",.ref d)])) b zs:=λ{b zs} e=>
  key e (λz=>by rw[z,sF _ _ Ij] at e;cases e) (λz=>by rw[z,RS] at e;cases e)
 refine q _ (λb o e n=>?_) ⟨dx,d,m,fa,wi,im,jf,iw,st,aI,by rw[aC jg];exact aI,rZ (sF _ _ (g5 _ _ Ii)),rZ (sF _ _ (g5 _ _ RO)),rZ (sF _ _ (g5 _ _ RP)),rZ (g9 _ _ (g8 _ _ (g7 _ _ Ik))),rZ (g9 _ _ (g8 _ _ Il)),rZ (g9 _ _ hiw),rZ dZ⟩;have e4:=o4 _ _ (g _ _ e) n;refine key (sF _ _ (g5 _ _ e4)) (bO e4 nd) n
abbrev Ba:List Str:=["mother","wife"]
theorem XF:aQ Ba Ba (aK El):=.a8
theorem XG(F:aL K "land_of" "land_of" El f fd)(tH:HasFn P w K mg base 2 "check_rows" ["rows"] (Fy K))(t_:HasFn P w K mg base 3 "behind" nH (Gr K))
  (Fz:oE P w K mg base 5 "Land" C A8 (OB C)):aH P w K mg base aM 7 f fd Ba (Md C):=by
 refine F.o XF λs H hr h=>?_;obtain⟨m,wi,xs,ys,rfl,hM,hW,fx,fy,eq,l2,l8,q⟩:=h;refine⟨_,(aq (bZ (aT tH hr (aa (jI (aa (pv 0) (aa (pv 1) ag))) ag))) (au (aG (FR Fz hr (by omega) rfl (aa (pv 0) (aa (aT t_ hr (aa (pv 1) (aa (pv 0) ag))) (aa (pv 1) ag))))))),?_⟩;refine⟨_,rfl,_,rfl,by show 2<=sizeLine;decide,λl nl=>?_⟩;have g1:=cz nl (.lst [.ref m,.ref wi]);refine⟨l,m,[wi],xs.length,rfl,ak.of aI,l2,l8,λa ha=>?_,λH2 g2=>?_⟩
 ·rcases Yn.mp ha with rfl|ha;·exact⟨xs,aA.of (g1 _ _ hM),rfl,fx⟩
  ·rw[Yo] at ha;subst ha;exact⟨ys,aA.of (g1 _ _ hW),eq.symm,fy⟩
 have g:=g1.trans g2;refine⟨_,rfl,_,rfl,_,rfl,wi,m,ys,xs,rfl,aA.of (g _ _ hW),aA.of (g _ _ hM),by omega,fy,fx,eq.symm,λfa H3 RT g3 c9=>?_⟩;have d7:=g.trans g3;refine⟨_,rfl,λx dx nx qG ne=>?_⟩;have Im:upd H3 dx (.own x) x=none:=by rw[aC (λz=>ne z.symm)];exact nx
 have g4:aj H3 (upd (upd H3 dx (.own x)) x (.ins C dx [])):=(cz qG _).trans (cz Im _);refine⟨x,dx,m,fa,wi,xs,ys,rfl,aI,g4 _ _ (d7 _ _ hM),g4 _ _ c9,g4 _ _ (d7 _ _ hW),fx,fy,eq,l2,l8,λH5 k5 la=>⟨rfl,q x H5 (λb o e=>?_) la⟩⟩;have e3:=d7 _ _ e;exact k5 b o (g4 _ _ e3) (bO e3 nx)
end
abbrev zQ(xs ys:List Int):List (Str×List Int):=[("c",xs),("k",bH xs ys),("w",ys),("m",inv xs),("f",inv (bH xs ys)),("h",inv ys),("s",bh xs.length)]
inductive Me(C:Addr)(vs:List V)(H:Hp)(Q:VK):Prop
 |mk (L:Addr) (z:Str) (xs ys ns:List Int) (aE:vs=[.ref L,.str z]) (aU:hZ H C L xs ys) (bc:(z,ns)∈zQ xs ys) (bL:∀t:Addr,bP H t ns->Q (.ref t) H):Me C vs H Q
def OC(C:Addr):Sp:=λvs H Q _=>Me C vs H Q
theorem step_at{H:Hp}{xs ys ns:List Int}{z:Str}{m f w im jf iw st:Addr}(h:(z,ns)∈zQ xs ys)(h3:bP H m xs)(h4:bP H f (bH xs ys))(h5:bP H w ys)(h6:bP H im (inv xs))(h7:bP H jf (inv (bH xs ys)))(h8:bP H iw (inv ys))(h9:bP H st (bh xs.length)):
  ∃t,aS (wI m f w im jf iw st) (.inr z)=some (.ref t)/\bP H t ns:=by
 simp only[Yn,Y2,or_false] at h;rcases h with⟨rfl,rfl⟩|⟨rfl,rfl⟩|⟨rfl,rfl⟩|⟨rfl,rfl⟩|⟨rfl,rfl⟩|⟨rfl,rfl⟩|⟨rfl,rfl⟩;·exact⟨m,rfl,h3⟩
 ·exact⟨f,rfl,h4⟩
 ·exact⟨w,rfl,h5⟩
 ·exact⟨im,rfl,h6⟩
 ·exact⟨jf,rfl,h7⟩
 ·exact⟨iw,rfl,h8⟩
 ·exact⟨st,rfl,h9⟩
section
variable {K:ai}{mg:aX}
abbrev Al:List Str:=["self","letter"]
theorem VG:aQ Al Al (aK DA):=.a8
theorem Zbl(F:aL K "step" "Land.step" DA f fd)(lc:uv K C):aH P w K mg base aM 1 f fd Al (OC C):=by
 refine F.o VG λs H hr h=>?_;obtain⟨L,z,xs,ys,ns,rfl,la,hz,q⟩:=h;refine⟨_,(aq (aR (jH (mF (bw hr) (pv 1) (pF K 0)) (by with_unfolding_all rfl)) fG aY) (au (aG (cY (bw hr) (pF K 0) (pv 1) (λ_ _=>rfl))))),?_⟩;obtain⟨dx,d,m,fa,wi,im,jf,iw,st,h1,h2,h3,h4,h5,h6,h7,h8,h9⟩:=la;obtain⟨t,hv,ht⟩:=step_at hz h3 h4 h5 h6 h7 h8 h9;have dg:=hv▸eA.k h2;exact⟨_,rfl,_,rfl,L,C,dx,_,.ref d,rfl,h1,lc.cls,lc.E6,rfl,d,_,rfl,dg,_,rfl,bR (aW ⟨_,rfl,L,C,dx,_,.ref d,rfl,h1,lc.cls,lc.E6,rfl,_,rfl,d,_,rfl,dg,q t ht⟩)⟩
end
structure JS where
 hd:List Nat
 ld:List (List Int)
 mem:List (Nat×List Nat)
 fr:List (Nat×List Int)
structure JL where
 J:Addr
 ha:Addr
 la:Addr
 md:Addr
 fd:Addr
 eO:List Addr
 fJ:List Addr
 bW:List Addr
def JL.fp(l:JL):List Addr:=l.J::l.ha::l.la::l.md::l.fd::l.fJ
abbrev JF(n:Nat)(ha la md fd:Addr):List (Str×V):=[("size",.int (n:Int)),("heads",.ref ha),("leads",.ref la),("members",.ref md),("free",.ref fd)]
theorem jf5(a b c d e:V):cP "free" e (cP "members" d (cP "leads" c (cP "heads" b (cP "size" a []))))=([("size",a),("heads",b),("leads",c),("members",d),("free",e)]:List (Str×V)):=rfl
abbrev dH(is:List Nat):List V:=is.map λi:Nat=>V.int (i:Int)
def bp(ks:List Nat)(as:List Addr):List (Key×V):=(ks.zip as).map λp=>(.inl (p.1:Int),.ref p.2)
structure cG(H:Hp)(C:Addr)(n:Nat)(l:JL)(st:JS):Prop where
 obj:∃dx,H l.J=some (.ins C dx (JF n l.ha l.la l.md l.fd))
 heads:H l.ha=some (.lst (dH st.hd))
 ie:H l.la=some (.lst (l.eO.map V.ref))
 lead:Paired (λa xs=>H a=some (.tup (xs.map V.int))) l.eO st.ld
 jq:H l.md=some (.dK (bp (st.mem.map (·.1)) l.fJ))
 mem:Paired (λa p=>H a=some (.lst (dH p.2))) l.fJ st.mem
 frees:H l.fd=some (.dK (bp (st.fr.map (·.1)) l.bW))
 free:Paired (λa p=>H a=some (.lst (p.2.map V.int))) l.bW st.fr
 nd:l.fp.Nodup
 out:∀a∈l.bW,a∉l.fp
theorem cG.same{H H':Hp}{C:Addr}{n:Nat}{l:JL}{st:JS}(g:aj H H')(a:cG H C n l st):cG H' C n l st:=
 ⟨let⟨dx,h⟩:=a.obj;⟨dx,g _ _ h⟩,g _ _ a.heads,g _ _ a.ie,L2.Paired.bB a.lead λ_ _ h=>g _ _ h,g _ _ a.jq,L2.Paired.bB a.mem λ_ _ h=>g _ _ h,g _ _ a.frees,L2.Paired.bB a.free λ_ _ h=>g _ _ h,a.nd,a.out⟩
theorem v_{α β:Type}{F:α->β->Prop}:∀{xs:List α} {ys:List β} {x:α},Paired F xs ys->x∈xs->∃y,F x y:=by
 intro xs ys x p;induction p with
 |nil=>grind
 |cons f t ih=>grind
theorem cG.ne{H:Hp}{C p:Addr}{n:Nat}{l:JL}{st:JS}(a:cG H C n l st)(h:H p=none):p∉l.fp:=by
 intro z;unfold JL.fp at z;simp only[Yn] at z;rcases z with rfl|rfl|rfl|rfl|rfl|z
 ·obtain⟨dx,e⟩:=a.obj
  grind
 ·rw[a.heads] at h;cases h
 ·rw[a.ie] at h;cases h
 ·rw[a.jq] at h;cases h
 ·rw[a.frees] at h;cases h
 ·obtain⟨y,e⟩:=v_ a.mem z
  grind
theorem n_{α:Type}{H:Hp}{f:α->HO}:∀{as:List Addr} {ps:List (Nat×α)} {k:Nat} {v:α},Paired (λa p=>H a=some (f p.2)) as ps->ps.lookup k=some v->∃a,a∈as/\aS (bp (ps.map (·.1)) as) (.inl (k:Int))=some (.ref a)/\H a=some (f v):=by
 intro as ps k v pr;induction pr with
 |nil=>grind
 |@cons a p as ps e t ih=>
  intro h;have e0:bp ((p::ps).map (·.1)) (a::as)=(Sum.inl (p.1:Int),V.ref a)::bp (ps.map (·.1)) as:=rfl;rw[W1] at h;by_cases ek:k=p.1
  ·have eb:(k==p.1)=true:=beq_iff_eq.mpr ek;rw[eb] at h;exact⟨a,Yg,fH (p:=((Sum.inl (p.1:Int):Key),V.ref a)) (by rw[ek]),by rw[←(Ym h)];exact e⟩
  ·have eb:(k==p.1)=false:=beq_eq_false_iff_ne.mpr ek;rw[eb] at h;obtain⟨b,hb,q,w⟩:=ih h;refine⟨b,Ys _ hb,?_,w⟩;rw[e0,eV (p:=((Sum.inl (p.1:Int):Key),V.ref a)) (λz=>ek (by have:=Bb z;omega))];exact q
theorem Zaf{q k:Nat}{ks:List Nat}{v:V}(z:((Sum.inl (q:Int):Key),v).1=.inl (k:Int)):k∈q::ks:=by
 grind
theorem yW:∀{as:List Addr} {ks:List Nat} {k:Nat},k∉ks->aS (bp ks as) (.inl (k:Int))=none
 |[],ks,k,_=>by unfold bp;rw[List.zip_nil_right];rfl
 |a::as,[],k,_=>rfl
 |a::as,q::ks,k,h=>by
  have e0:bp (q::ks) (a::as)=(Sum.inl (q:Int),V.ref a)::bp ks as:=rfl;rw[e0,eV (p:=((Sum.inl (q:Int):Key),V.ref a)) (λz=>h (Zaf z))];exact yW λz=>h (Ys _ z)
theorem yK:∀{ks:List Nat} {as:List Addr} (k:Nat) (a:Addr),ks.length=as.length->bp ks as++[(.inl (k:Int),.ref a)]=bp (ks++[k]) (as++[a])
 |[],[],_,_,_=>rfl
 |q::ks,b::as,k,a,h=>by
  have e0:bp (q::ks) (b::as)=(Sum.inl (q:Int),V.ref b)::bp ks as:=rfl;rw[e0,Rv,(yK (ks:=ks) (as:=as) k a (by simpa using h))];rfl
 |[],_::_,_,_,h=>by simp at h
 |_::_,[],_,_,h=>by simp at h
structure mS(K:ai)(C:Addr):Prop where
 cls:iu K C
 rD:dB K C "size"
 jG:dB K C "heads"
 mM:dB K C "leads"
 tX:dB K C "members"
 rE:dB K C "free"
def JS.more(n:Nat)(st:JS):JS:=⟨st.hd++[st.hd.length],st.ld++[bh n],st.mem++[(st.hd.length,[st.hd.length])],st.fr++[(st.hd.length,bh n)]⟩
inductive Ng(C:Addr)(vs:List V)(H:Hp)(Q:VK)(E:XK):Prop
 |mk (x dx:Addr) (n:Nat) (aE:vs=[.ref x,.int (n:Int)]) (aU:H x=some (.ins C dx [])) (bc:∀(l:JL) (H':Hp),l.J=x->l.fJ=[]->(∀b∈l.fp,b≠x->H b=none)->ay x H H'->cG H' C n l ⟨[],[],[],[]⟩->Q .az H')
inductive D4(C:Addr)(vs:List V)(H:Hp)(Q:VK)(E:XK):Prop
 |mk (l:JL) (st:JS) (n i j a b:Nat) (aE:vs=[.ref l.J,.int (i:Int),.int (j:Int)]) (aU:cG H C n l st) (bc:st.hd[i]?=some a) (bL:st.hd[j]?=some b) (cL:Q (.bl (decide (a=b))) H)
inductive wj(C:Addr)(vs:List V)(H:Hp)(Q:VK)(E:XK):Prop
 |mk (l:JL) (st:JS) (n i h:Nat) (t secs:List Int) (aE:vs=[.ref l.J,.int (i:Int)]) (aU:cG H C n l st) (bc:st.hd[i]?=some h) (bL:st.ld[i]?=some t) (cL:st.fr.lookup h=some secs) (d5:(∀z∈secs,0<=z/\z<t.length)) (gU:secs.length<64) (jd:∀(p:Addr) (ns:List Int) (H':Hp),H p=none->aj H H'->ns.Perm (secs.map λz=>t.getD z.toNat 0)->ns.Pairwise (·<=·)->H' p=some (.lst (ns.map V.int))->Q (.ref p) H')
inductive FZ(C:Addr)(vs:List V)(H:Hp)(Q:VK)(E:XK):Prop
 |mk (l:JL) (st:JS) (n:Nat) (aE:vs=[.ref l.J]) (aU:cG H C n l st) (bc:n<=1000) (bL:st.hd.length<1000) (cL:st.mem.length<=st.hd.length) (d5:st.fr.length<=st.hd.length) (gU:st.ld.length=st.hd.length) (jd:st.hd.length∉st.mem.map (·.1)) (qA:st.hd.length∉st.fr.map (·.1)) (xI:∀(l':JL) (H':Hp),l'.J=l.J->Out l.fp H H'->(∀b∈l'.fp,b∈l.fp\/H b=none)->cG H' C n l' (st.more n)->Q (.int (st.hd.length:Int)) H')
theorem ow{is:List Nat}{i h:Nat}(e:is[i]?=some h):dw (dH is) (i:Int)=some (.int (h:Int)):=gM (by rw[Yd,e];rfl)
section
variable {K:ai}{mg:aX}
abbrev Am:List Str:=["self","size"]
theorem Vh:aQ Am Am (aK C6):=.a8
theorem Zag(F:aL K "__init__" "Joins.__init__" C6 f fd)(jc:mS K C)(bl:Bl mg):aH P w K mg base aM 1 f fd Am (Ng C):=by
 refine F.o Vh λs H hr h=>?_;obtain⟨x,dx,n,rfl,hx,q⟩:=h;refine⟨_,(aq (fZ (K:=K) rfl (pv 0) (pv 1)) (aq (fZ (K:=K) rfl (pv 0) (dR ag)) (aq (fZ (K:=K) rfl (pv 0) (dR ag)) (aq (fZ (K:=K) rfl (pv 0) tV) (au (fZ (K:=K) rfl (pv 0) tV)))))),?_⟩;refine⟨_,rfl,_,rfl,x,C,dx,[],rfl,hx,jc.cls,jc.rD,by show 0<1000;omega,λH1 b1 h1=>?_⟩;refine⟨by show 0<=sizeLine;exact Yw _,λha H2 n2 g2 e2=>⟨_,rfl,x,C,dx,_,rfl,g2 _ _ h1,jc.cls,jc.jG,by show 1<1000;omega,λH3 b3 h3=>?_⟩⟩;refine⟨by show 0<=sizeLine;exact Yw _,λla H4 n4 g4 e4=>⟨_,rfl,x,C,dx,_,rfl,g4 _ _ h3,jc.cls,jc.mM,by show 2<1000;omega,λH5 b5 h5=>?_⟩⟩;refine λmd H6 n6 g6 e6=>⟨_,rfl,x,C,dx,_,rfl,g6 _ _ h5,jc.cls,jc.tX,by show 3<1000;omega,λH7 b7 h7=>?_⟩;refine λfe H8 n8 g8 e8=>⟨_,rfl,x,C,dx,_,rfl,g8 _ _ h7,jc.cls,jc.rE,by show 4<1000;omega,λH9 b9 h9=>?_⟩;rw[jf5] at h9;have k8:ay x H8 H9:=b9;have k6:ay x H6 H9:=b7.trans ((ay.of g8).trans k8);have k4:ay x H4 H9:=b5.trans ((ay.of g6).trans k6);have k2:ay x H2 H9:=b3.trans ((ay.of g4).trans k4);have k0:ay x H H9:=b1.trans ((ay.of g2).trans k2);have d2:ha≠x:=λz=>by rw[z,h1] at n2;cases n2
 have d4:la≠x:=λz=>by rw[z,h3] at n4;cases n4
 have d6:md≠x:=λz=>by rw[z,h5] at n6;cases n6
 have d8:fe≠x:=λz=>by rw[z,h7] at n8;cases n8
 have i3:=b3 _ _ e2 d2;have i5:=b5 _ _ (g4 _ _ i3) d2;have i7:=b7 _ _ (g6 _ _ i5) d2;have j5:=b5 _ _ e4 d4;have j7:=b7 _ _ (g6 _ _ j5) d4;have l7:=b7 _ _ e6 d6;have a1:ha≠la:=λz=>by rw[←z,i3] at n4;cases n4
 have a2:ha≠md:=λz=>by rw[←z,i5] at n6;cases n6
 have a3:ha≠fe:=λz=>by rw[←z,i7] at n8;cases n8
 have a4:la≠md:=λz=>by rw[←z,j5] at n6;cases n6
 have a5:la≠fe:=λz=>by rw[←z,j7] at n8;cases n8
 have a6:md≠fe:=λz=>by rw[←z,l7] at n8;cases n8
 have Bc:∀{b:Addr} {H':Hp},ay x H H'->b≠x->H' b=none->H b=none:=λ{b H'} k d n=>by
  cases e:H b with
  |none=>rfl
  |some o=>rw[k b o e d] at n;cases n
 have t3:ay x H H3:=b1.trans ((ay.of g2).trans b3);have t5:ay x H H5:=t3.trans ((ay.of g4).trans b5);have t7:ay x H H7:=t5.trans ((ay.of g6).trans b7);refine q ⟨x,ha,la,md,fe,[],[],[]⟩ H9 rfl rfl (λb hb nb=>?_) k0 ⟨⟨dx,h9⟩,k2 _ _ e2 d2,k4 _ _ e4 d4,.nil,k6 _ _ e6 d6,.nil,k8 _ _ e8 d8,.nil,?_,λa qH=>by cases qH⟩
 ·simp only[JL.fp,Yn,Y2,or_false] at hb;rcases hb with rfl|rfl|rfl|rfl|rfl;·exact absurd rfl nb
  ·exact Bc b1 d2 n2
  ·exact Bc t3 d4 n4
  ·exact Bc t5 d6 n6
  ·exact Bc t7 d8 n8
 ·simp only[JL.fp,Yy,Yn,Y2,or_false,not_or,not_false_eq_true,W4,and_true];exact⟨⟨λz=>d2 z.symm,λz=>d4 z.symm,λz=>d6 z.symm,λz=>d8 z.symm⟩,⟨a1,a2,a3⟩,⟨a4,a5⟩,a6⟩
abbrev qo:List Str:=["self","one","other"]
theorem T7:aQ qo qo (aK B8):=.a8
theorem WO(F:aL K "together" "Joins.together" B8 f fd)(jc:mS K C)(bl:Bl mg):aH P w K mg base aM 1 f fd qo (D4 C):=by
 refine F.o T7 @λb_ A outer vs Q E s H hr h=>?_;obtain⟨l,st,n,i,j,a,b,rfl,ja,hi,hj,q⟩:=h;refine⟨_,(au (aG (eN ck (aP (iL K) (pF K 0) (pv 1)) (aP (iL K) (pF K 0) (pv 2))))),?_⟩;obtain⟨dx,ho⟩:=ja.obj;have q':Q (.bl (decide (V.int (a:Int)=V.int (b:Int)))) H:=by
  have e:decide (V.int (a:Int)=V.int (b:Int))=decide (a=b):=by
   rw[Wm,decide_eq_true_iff,decide_eq_true_iff];exact⟨λz=>by have:=V.int.inj z;omega,λz=>by rw[z]⟩
  rw[e];exact q
 exact⟨_,rfl,l.J,C,dx,_,_,rfl,ho,jc.cls,jc.jG,rfl,_,rfl,l.ha,_,_,_,rfl,rfl,ak.of ja.heads,ow hi,_,rfl,l.J,C,dx,_,_,rfl,ho,jc.cls,jc.jG,rfl,_,rfl,l.ha,_,_,_,rfl,rfl,ak.of ja.heads,ow hj,rfl,q'⟩
end
theorem dU{H:Hp}{a b:Addr}{o o':HO}(h:H a=some o)(h':H b=some o')(ne:o≠o'):a≠b:=λz=>by
 grind
theorem Zah(is:List Nat)(k:Nat):dH (is++[k])=dH is++[.int (k:Int)]:=Yq
theorem qY{H:Hp}{a b:Addr}{o:HO}(h:H a=some o)(h':H b=none):b≠a:=λz=>by
 grind
theorem jB{α β:Type}{F:α->β->Prop}{x:α}{y:β}(f:F x y){xs:List α}{ys:List β}(h:Paired F xs ys):Paired F (xs++[x]) (ys++[y]):=by
 induction h with
 |nil=>exact .cons f .nil
 |cons r t ih=>exact .cons r ih
theorem tY{α β:Type}{F:α->β->Prop}:∀{xs:List α} {ys:List β},Paired F xs ys->Paired (λa b=>F a b/\a∈xs) xs ys
 |_,_,.nil=>.nil
 |_,_,.cons g t=>.cons ⟨g,Yg⟩ (L2.Paired.bB (tY t) λ_ _ h=>⟨h.1,Ys _ h.2⟩)
theorem oA{H:Hp}{a:Addr}{kvs:List (Key×V)}{k:Nat}{o:Option V}(h:H a=some (.dK kvs))(e:aS kvs (.inl (k:Int))=o):eA H a (.int (k:Int)) o:=.inl ⟨kvs,.inl (k:Int),.inl h,rfl,e.symm⟩
section
variable {K:ai}{mg:aX}
abbrev uC:List Str:=["self","one"]
theorem JZ:aQ ["self","one","lead"] uC (aK Cf):=.a8
theorem XH(F:aL K "open_at" "Joins.open_at" Cf f fd)(jc:mS K C)(bl:Bl mg):aH P w K mg base aM 2 f fd uC (wj C):=by
 refine F.o JZ λs H hr h=>?_;obtain⟨l,st,n,i,h,t,secs,rfl,ja,hi,ht,hf,qE,gD,q⟩:=h;refine⟨_,(aq (f_ (i:=2) JZ.nd rfl (Or.inr rfl) (aP (iL K) (pF K 0) (pv 1))) (au (aG (hJ (ZV (K:=K) rfl) rfl bl.y9 yS (aa (iN (x:="section") (fr:=[("lead",2)]) (cl:=[("lead",s.heap.objs.size+1)]) rfl (.gH ⟨rfl,trivial⟩ ⟨⟨rfl,.inl rfl,.inl rfl,rfl⟩,trivial⟩) (fO (K:=K) rfl (cY (bw hr) (pF K 0) (aP (iL K) (pF K 0) (pv 1)) (λ_ _=>rfl))) (λ_ _ _ _=>lK) (λ_ _ _ _=>(aP (iT K) (pv 1) (pv 0)))) ag))))),?_⟩;obtain⟨dx,ho⟩:=ja.obj;obtain⟨fa,RU,vf,c9⟩:=n_ (f:=λv:List Int=>HO.lst (v.map V.int)) ja.free hf;obtain⟨ta,eta,Io⟩:∃ta,l.eO[i]?=some ta/\H ta=some (.tup (t.map V.int)):=by
  have hl:=cX ja.lead;have dG:i<l.eO.length:=by rw[hl];exact(Yi.mp ht).1
  obtain⟨y,ey,hy⟩:=fX ja.lead (Yb dG)
  grind
 have Ip:dw (l.eO.map V.ref) (i:Int)=some (.ref ta):=gM (by rw[Yd,eta];rfl);refine cq ?_;refine⟨_,rfl,l.J,C,dx,_,_,rfl,ho,jc.cls,jc.mM,rfl,_,rfl,l.la,_,_,_,rfl,rfl,ak.of ja.ie,Ip,?_⟩;refine⟨_,rfl,l.J,C,dx,_,_,rfl,ho,jc.cls,jc.rE,rfl,_,rfl,l.J,C,dx,_,_,rfl,ho,jc.cls,jc.jG,rfl,_,rfl,l.ha,_,_,_,rfl,rfl,ak.of ja.heads,ow hi,l.fd,_,rfl,oA ja.frees vf,fa,rfl,⟨_,ak.of c9⟩,λD hD=>Xq (xs:=secs.map V.int) (ak.of c9) (by rw[Ya];omega) hD (λv=>match v with|.int z=>.int (t.getD z.toNat 0)|_=>.az) (λj v hj H1 g1 Kt k=>?_) λH1 g1 h1=>?_⟩
 ·obtain⟨z,rfl,hz⟩:=mJ hj;have bz:=qE z (Yh hz);exact⟨_,rfl,_,rfl,ta,_,_,_,rfl,rfl,aA.of (g1 _ _ Io),mQ bz.1 bz.2,k H1 (aj.refl _)⟩
 ·have hy:H1 D=some (.lst ((secs.map λz=>t.getD z.toNat 0).map V.int)):=by
   rw[h1,Y9,Y9];rfl
  exact⟨D,_,rfl,.inl (ak.of hy),by rw[Ya];exact gD,λcv pm so p H2 np g2 h2=>q p cv H2 (g1.free np) (g1.trans g2) pm so h2⟩
abbrev gu:List Str:=["self"]
abbrev xh:List Str:=["self","number"]
theorem Kg:aQ xh gu (aK DB):=.a8
theorem Zc1(F:aL K "add" "Joins.add" DB f fd)(jc:mS K C)(ud:HasFn P w K mg base 1 "still" ["size"] E5)(bl:Bl mg):aH P w K mg base aM 2 f fd gu (FZ C):=by
 refine F.o Kg λs H hr h=>?_;obtain⟨l,st,n,rfl,ja,hn,lh,lm,lf,ll,nm,nf,q⟩:=h;refine⟨_,(aq (bY 1 Kg.nd (df K bl (pF K 0))) (aq (bZ (jJ (K:=K) rfl (ic plainAttrs_list PySem.F.slot_list_append PySem.F.type_list_append pM (pF K 0) (aa (pv 1) ag)))) (aq (bZ (jJ (K:=K) rfl (ic plainAttrs_list PySem.F.slot_list_append PySem.F.type_list_append pM (pF K 0) (aa (aT ud hr (aa (pF K 0) ag)) ag)))) (aq (oh (bw hr) (pF K 0) (pv 1) (dR (aa (pv 1) ag))) (aq (oh (bw hr) (pF K 0) (pv 1) (eR (UQ rfl) rfl bl.uj ub (aa (eR C2 rfl bl.jj t8 (aa (pF K 0) ag)) ag))) (au (aG (pv 1)))))))),?_⟩;have sz:(10000:Nat)<=sizeLine:=by rw[sizeLine_eq];omega
 obtain⟨dx,ho⟩:=ja.obj;have hl:(dH st.hd).length=st.hd.length:=Ya _;have pl1:=cX ja.lead;have Iq:=cX ja.mem;have Be:=cX ja.free;have nd:=ja.nd;simp only[JL.fp,Yy,Yn,not_or] at nd;obtain⟨⟨x1,x2,x3,x4,x5⟩,⟨y1,y2,y3,y4⟩,⟨z1,z2,z3⟩,⟨w1,w2⟩,v1,v2⟩:=nd;have dl:∀{ks:List Nat} {as:List Addr},(bp ks as).length<=as.length:=λ{ks as}=>by unfold bp;rw[Ya,Jh];exact Nat.min_le_right _ _
 refine cq ?_;refine⟨_,rfl,l.J,C,dx,_,_,rfl,ho,jc.cls,jc.jG,rfl,l.ha,_,rfl,.inl (ak.of ja.heads),?_⟩;rw[hl];refine⟨_,rfl,l.J,C,dx,_,_,rfl,ho,jc.cls,jc.jG,rfl,.inl ⟨rfl,_,ak.of ja.heads⟩,_,rfl,l.ha,_,_,rfl,rfl,ja.heads,by rw[hl];omega,λH1 b1 e1=>?_⟩;have o1:=b1 _ _ ho x1;have l1:=b1 _ _ ja.ie (λz=>y1 z.symm);refine⟨_,rfl,l.J,C,dx,_,_,rfl,o1,jc.cls,jc.mM,rfl,.inl ⟨rfl,_,ak.of l1⟩,_,rfl,l.J,C,dx,_,_,rfl,o1,jc.cls,jc.rD,rfl,n,rfl,hn,λt H2 nt g2 ht=>?_⟩;refine⟨l.la,_,_,rfl,rfl,g2 _ _ l1,by rw[Ya];omega,λH3 b3 e3=>?_⟩;have o3:=b3 _ _ (g2 _ _ o1) x2;have m3:=b3 _ _ (g2 _ _ (b1 _ _ ja.jq (λz=>y2 z.symm))) (λz=>z1 z.symm);refine⟨_,rfl,by show 1<=sizeLine;omega,λm H4 uY g4 em=>?_⟩;have o4:=g4 _ _ o3;refine⟨_,rfl,l.J,C,dx,_,_,rfl,o4,jc.cls,jc.tX,rfl,_,rfl,l.md,_,.inl (st.hd.length:Int),rfl,g4 _ _ m3,rfl,?_,λH5 b5 e5=>?_⟩
 ·have:=dl (ks:=st.mem.map (·.1)) (as:=l.fJ);omega
 have o5:=b5 _ _ o4 x3;refine⟨_,rfl,l.J,C,dx,_,_,rfl,o5,jc.cls,jc.rD,rfl,(n:Int),rfl,λr H6 nr g6 er=>⟨r,n,rfl,er,hn,λfa H7 RT g7 ef=>?_⟩⟩;have Bf:=g6.trans g7;have f5:=b5 _ _ (g4 _ _ (b3 _ _ (g2 _ _ (b1 _ _ ja.frees (λz=>y3 z.symm))) (λz=>z2 z.symm))) (λz=>w1 z.symm);refine⟨_,rfl,l.J,C,dx,_,_,rfl,Bf _ _ o5,jc.cls,jc.rE,rfl,_,rfl,l.fd,_,.inl (st.hd.length:Int),rfl,Bf _ _ f5,rfl,?_,λH8 b8 e8=>?_⟩
 ·have:=dl (ks:=st.fr.map (·.1)) (as:=l.bW);omega
 have keep:∀b o,H b=some o->b≠l.ha->b≠l.la->b≠l.md->b≠l.fd->H8 b=some o:=λb o e n1 n2 n3 n4=>b8 _ _ (Bf _ _ (b5 _ _ (g4 _ _ (b3 _ _ (g2 _ _ (b1 _ _ e n1)) n2)) n3)) n4;rw[kG _ (yW nm),yK _ _ (by rw[Ya];omega)] at e5;rw[kG _ (yW nf),yK _ _ (by rw[Ya];omega)] at e8;have Ir:H m=none:=by
  cases e:H m with
  |none=>rfl
  |some o=>
   have hm1:m≠l.ha:=λz=>by rw[z,b3 _ _ (g2 _ _ e1) y1] at uY;cases uY
   have hm2:m≠l.la:=λz=>by rw[z,e3] at uY;cases uY
   rw[b3 _ _ (g2 _ _ (b1 _ _ e hm1)) hm2] at uY;cases uY
 have en:=ja.ne Ir;have Iu:fa∉l.fp/\fa≠m:=by
  have e6:H6 fa=none:=RT;have h5:∀b o,H b=some o->b≠l.ha->b≠l.la->b≠l.md->H6 b=some o:=λb o e n1 n2 n3=>g6 _ _ (b5 _ _ (g4 _ _ (b3 _ _ (g2 _ _ (b1 _ _ e n1)) n2)) n3);have f1:H6 l.ha=some _:=g6 _ _ (b5 _ _ (g4 _ _ (b3 _ _ (g2 _ _ e1) y1)) y2);have f2:H6 l.la=some _:=g6 _ _ (b5 _ _ (g4 _ _ e3) z1);have f3:H6 l.md=some _:=g6 _ _ e5;have f4:H6 m=some _:=g6 _ _ (b5 _ _ em (λz=>en (by rw[z];simp[JL.fp])));have f5':H6 l.fd=some _:=g6 _ _ f5;have f6:H6 l.J=some _:=g6 _ _ o5;refine⟨λz=>?_,qY f4 e6⟩;simp only[JL.fp,Yn] at z;rcases z with z|z|z|z|z|z;·exact qY f6 e6 z
  ·exact qY f1 e6 z
  ·exact qY f2 e6 z
  ·exact qY f3 e6 z
  ·exact qY f5' e6 z
  ·obtain⟨y,ey⟩:=v_ ja.mem z;refine qY (h5 _ _ ey ?_ ?_ ?_) e6 rfl;·exact λq=>y4 (by rw[←q];exact z)
   ·exact λq=>z3 (by rw[←q];exact z)
   ·exact λq=>w2 (by rw[←q];exact z)
 have kt:∀a∈l.eO,∀xs:List Int,H a=some (.tup (xs.map V.int))->H8 a=some (.tup (xs.map V.int)):=λa _ xs e=>keep a _ e (dU e ja.heads (λz=>by cases z)) (dU e ja.ie (λz=>by cases z)) (dU e ja.jq (λz=>by cases z)) (dU e ja.frees (λz=>by cases z));have k8:∀b o,H5 b=some o->b≠l.fd->H8 b=some o:=λb o e n=>b8 _ _ (Bf _ _ e) n;have nmd:m≠l.md:=λz=>en (by rw[z];simp[JL.fp]);have nmf:m≠l.fd:=λz=>en (by rw[z];simp[JL.fp]);have Iv:t≠l.fd:=λz=>by
  have:=b1 _ _ ja.frees (λz=>y3 z.symm);rw[←z,nt] at this;cases this
 have Iw:t≠l.la:=λz=>by rw[←z,nt] at l1;cases l1
 have RV:t≠l.md:=λz=>by
  have:=b1 _ _ ja.jq (λz=>y2 z.symm);rw[←z,nt] at this;cases this
 refine⟨_,rfl,q ⟨l.J,l.ha,l.la,l.md,l.fd,l.eO++[t],l.fJ++[m],l.bW++[fa]⟩ H8 rfl (λb o e nb=>?_) (λb hb=>?_) ⟨⟨dx,k8 _ _ o5 x4⟩,?_,?_,?_,?_,?_,?_,?_,?_,?_⟩⟩
 ·simp only[JL.fp,Yn,not_or] at nb;exact keep b o e nb.2.1 nb.2.2.1 nb.2.2.2.1 nb.2.2.2.2.1
 ·simp only[JL.fp,Yn,Yv,Y2,or_false] at hb⊢;rcases hb with h|h|h|h|h|h|h;·exact .inl (.inl h)
  ·exact .inl (.inr (.inl h))
  ·exact .inl (.inr (.inr (.inl h)))
  ·exact .inl (.inr (.inr (.inr (.inl h))))
  ·exact .inl (.inr (.inr (.inr (.inr (.inl h)))))
  ·exact .inl (.inr (.inr (.inr (.inr (.inr h)))))
  ·rw[h];exact .inr Ir
 ·show H8 l.ha=some (.lst (dH (st.hd++[st.hd.length])));rw[k8 _ _ (b5 _ _ (g4 _ _ (b3 _ _ (g2 _ _ e1) y1)) y2) y3,Zah]
 ·show H8 l.la=some (.lst ((l.eO++[t]).map V.ref));rw[k8 _ _ (b5 _ _ (g4 _ _ e3) z1) z2,Yq];rfl
 ·exact jB (F:=λa (xs:List Int)=>H8 a=some (.tup (xs.map V.int))) (k8 _ _ (b5 _ _ (g4 _ _ (b3 _ _ ht Iw)) RV) Iv) (L2.Paired.bB (tY ja.lead) λa xs h=>kt a h.2 xs h.1)
 ·show H8 l.md=some (.dK (bp ((st.mem++[(st.hd.length,[st.hd.length])]).map (·.1)) (l.fJ++[m])));rw[k8 _ _ e5 w1,Yq];rfl
 ·refine jB (F:=λa (p:Nat×List Nat)=>H8 a=some (.lst (dH p.2))) (k8 _ _ (b5 _ _ em nmd) nmf) (L2.Paired.bB (tY ja.mem) λa p h=>keep a _ h.1 ?_ ?_ ?_ ?_);·exact λz=>y4 (by rw[←z];exact h.2)
  ·exact λz=>z3 (by rw[←z];exact h.2)
  ·exact λz=>w2 (by rw[←z];exact h.2)
  ·exact λz=>v1 (by rw[←z];exact h.2)
 ·show H8 l.fd=some (.dK (bp ((st.fr++[(st.hd.length,bh n)]).map (·.1)) (l.bW++[fa])));rw[e8,Yq];rfl
 ·have nfd:fa≠l.fd:=λz=>Iu.1 (by rw[z];simp[JL.fp]);refine jB (F:=λa (p:Nat×List Int)=>H8 a=some (.lst (p.2.map V.int))) (b8 _ _ ef nfd) (L2.Paired.bB (tY ja.free) λa p h=>?_);have no:=ja.out a h.2;simp only[JL.fp,Yn,not_or] at no;exact keep a _ h.1 no.2.1 no.2.2.1 no.2.2.2.1 no.2.2.2.2.1
 ·have nd:=ja.nd;have e0:JL.fp ⟨l.J,l.ha,l.la,l.md,l.fd,l.eO++[t],l.fJ++[m],l.bW++[fa]⟩=l.fp++[m]:=rfl;rw[e0,Ww];refine⟨nd,by simp,λa ha b hb=>?_⟩;have eb:b=m:=by simpa using hb
  intro z;rw[z,eb] at ha;exact en ha
 ·intro a ha;have e0:JL.fp ⟨l.J,l.ha,l.la,l.md,l.fd,l.eO++[t],l.fJ++[m],l.bW++[fa]⟩=l.fp++[m]:=rfl;rw[e0,Yv];have qH:a∈l.bW++[fa]:=ha;rcases Yv.mp qH with h|h
  ·rintro(z|z);·exact ja.out a h z
   ·have e:a=m:=by simpa using z
    obtain⟨y,ey⟩:=v_ ja.free h;rw[e,Ir] at ey;cases ey
  ·have e:a=fa:=by simpa using h
   rw[e];rintro(z|z);·exact Iu.1 z
   ·exact Iu.2 (by simpa using z)
end
theorem XI{K:ai}{a:Addr}{ns:List Int}{tt:TT}{te:TE}{fv:St}{D:Addr}{H:Hp}{Q:VK}(hs:ak K H a (ns.map V.int))(hn:ns.length<=1000)(hD:H D=none)(p:Int->Bool)(g:Int->V)
  (turn:∀z∈ns,∀H1,aj H H1->∀(Kt:VK) (Kf:Hp->Prop),(p z=true->∀H3,aj H1 H3->Kt (g z) H3)->(p z=false->∀H3,aj H1 H3->Kf H3)->tt (some (.int z)::fv) H1 λc H2=>if c=true then te (some (.int z)::fv) H2 Kt else Kf H2)
  (fin:∀H',aj H H'->H' D=some (.lst ((ns.filter p).map g))->Q (.ref D) H'):iS (jt K a) tt te fv D H Q:=by
 refine Eg (λi ys H1=>i<=ns.length/\aj H H1/\H1 D=some (.lst ys)/\ys=((ns.take i).filter p).map g) ⟨Yw _,cz hD _,aI,rfl⟩ (λi ys H1 _ ⟨_,g1,_,_⟩=>g1.seq hs) ?_ ?_
 ·rintro i v ys H1 hi ⟨_,g1,h1,e⟩;obtain⟨z,rfl,hz⟩:=mJ hi;have dG:=(Yi.mp hz).1;have yl:ys.length<sizeLine:=by
   have:=Wi p (ns.take i);rw[Wa] at this;rw[e,Ya,sizeLine_eq];omega
  refine turn z (Yh hz) H1 g1 _ _ (λpz H3 g3=>⟨g3 _ _ h1,yl,dG,λb o q=>?_,aI,?_⟩) (λpz H3 g3=>⟨dG,g1.trans g3,g3 _ _ h1,?_⟩)
  ·rw[aC (bO q hD)];exact g3 _ _ (g1 _ _ q)
  ·rw[e,Y1,hz,Wt,Yq]
   grind
  ·rw[e,Y1,hz,Wt,Yq]
   grind
 ·grind
theorem zB(x:Int):∀ss:List Int,e_ (.int x) (ss.map V.int)=decide (x∈ss)
 |[]=>rfl
 |s::ss=>by
  have ih:=zB x ss;unfold e_ at ih⊢;rw[Wq,Jp,ih];show((s==x)||decide (x∈ss))=_
  grind
theorem EK(ss:List Int):(ss.map V.int).all iR=true:=by
 rw[HX,Wp];intro p _;rfl
def iZ(ks:List Nat)(as:List Addr)(h:Nat)(a':Addr):List Addr:=(ks.zip as).map λp=>if p.1=h then a' else p.2
theorem Lq(h:Nat)(a':Addr):∀{ks:List Nat} {as:List Addr},ks.length=as.length->(bp ks as).map (λkv=>if kv.1=(.inl (h:Int):Key) then(kv.1,V.ref a') else kv)=bp ks (iZ ks as h a')
 |[],[],_=>rfl
 |k::ks,a::as,e=>by
  have ih:=Lq h a' (by simpa using e);have e0:bp (k::ks) (a::as)=(Sum.inl (k:Int),V.ref a)::bp ks as:=rfl;have e1:iZ (k::ks) (a::as) h a'=(if k=h then a' else a)::iZ ks as h a':=rfl;have e2:bp (k::ks) ((if k=h then a' else a)::iZ ks as h a')=(Sum.inl (k:Int),V.ref (if k=h then a' else a))::bp ks (iZ ks as h a'):=rfl
  grind
 |[],_::_,e=>rfl
 |_::_,[],e=>rfl
theorem Zai{ks:List Nat}{as:List Addr}{h:Nat}{a a':Addr}(e:ks.length=as.length)(hv:aS (bp ks as) (.inl (h:Int))=some (.ref a)):putK (bp ks as) (.inl (h:Int)) (.ref a')=bp ks (iZ ks as h a'):=by
 unfold putK;rw[if_pos (by rw[t9,hv];rfl)];exact Lq h a' e
def eC{α:Type}(h:Nat)(v:α)(ps:List (Nat×α)):List (Nat×α):=ps.map λp=>if p.1=h then(p.1,v) else p
theorem q_{α:Type}(h:Nat)(v:α):∀ps:List (Nat×α),(eC h v ps).map (·.1)=ps.map (·.1)
 |[]=>rfl
 |p::ps=>by
  have ih:=q_ h v ps;show(if p.1=h then(p.1,v) else p).1::(eC h v ps).map (·.1)=_
  grind
theorem XJ{α:Type}{F G:Addr->Nat×α->Prop}{h:Nat}{a':Addr}{v:α}(new:∀k,G a' (k,v)):∀{as:List Addr} {ps:List (Nat×α)},Paired F as ps->(∀a p,F a p->a∈as->G a p)->Paired G (iZ (ps.map (·.1)) as h a') (eC h v ps):=by
 intro as ps pr;induction pr with
 |nil=>intro _;exact .nil
 |@cons a p as ps f t ih=>
  intro k;have e1:iZ ((p::ps).map (·.1)) (a::as) h a'=(if p.1=h then a' else a)::iZ (ps.map (·.1)) as h a':=rfl;have e2:eC h v (p::ps)=(if p.1=h then(p.1,v) else p)::eC h v ps:=rfl;refine .cons ?_ (ih λb q fb hb=>k b q fb (Ys _ hb))
  grind
theorem Mf{h:Nat}{a' b:Addr}:∀{ks:List Nat} {as:List Addr},b∈iZ ks as h a'->b=a'\/b∈as
 |[],_,m=>by unfold iZ at m;simp at m
 |_::_,[],m=>by unfold iZ at m;simp at m
 |k::ks,a::as,m=>by
  have e1:iZ (k::ks) (a::as) h a'=(if k=h then a' else a)::iZ ks as h a':=rfl;rcases Yn.mp m with z|z;·grind
  ·rcases Mf z with w|w;·exact .inl w
   ·grind
def JS.kP(st:JS)(h:Nat)(v:List Int):JS:={st with fr:=eC h v st.fr}
structure r6(st:JS)(i h:Nat)(t secs:List Int):Prop where
 hd:st.hd[i]?=some h
 ld:st.ld[i]?=some t
 fr:st.fr.lookup h=some secs
 fh:∀z∈secs,0<=z/\z<t.length
 iC:secs.length<64
 dist:(secs.map λz=>t.getD z.toNat 0).Nodup
inductive EL(K:ai)(C:Addr)(vs:List V)(H:Hp)(Q:VK)(E:XK):Prop
 |mk (l:JL) (st:JS) (n i h:Nat) (t secs ss:List Int) (sl:Addr) (aE:vs=[.ref l.J,.int (i:Int),.ref sl]) (aU:cG H C n l st) (bc:r6 st i h t secs) (bL:st.fr.length<1000) (cL:ak K H sl (ss.map V.int)) (d5:∀(l':JL) (H':Hp),l'.J=l.J->l'.fp=l.fp->Out l.fp H H'->cG H' C n l' (st.kP h (secs.filter λz=>decide (t.getD z.toNat 0∈ss)))->Q .az H')
section
variable {K:ai}{mg:aX}
abbrev An:List Str:=["self","one","sections"]
theorem Cm:aQ ["self","one","sections","lead","head"] An (aK Cv):=.a8
theorem Zh(F:aL K "narrow" "Joins.narrow" Cv f fd)(jc:mS K C)(bl:Bl mg):aH P w K mg base aM 2 f fd An (EL K C):=by
 refine F.o Cm λs H hr h=>?_;obtain⟨l,st,n,i,h,t,secs,ss,sl,rfl,ja,one,lf,hss,q⟩:=h;refine⟨_,(aq (f_ (i:=3) Cm.nd rfl (Or.inr rfl) (aP (iL K) (pF K 0) (pv 1))) (aq (bY 4 Cm.nd (aP (iL K) (pF K 0) (pv 1))) (au (oh (bw hr) (pF K 0) (pv 4) (iN (x:="section") (fr:=[("sections",2),("lead",3)]) (cl:=[("sections",s.heap.objs.size+1),("lead",s.heap.objs.size+1+1)]) rfl (.gH ⟨rfl,⟨rfl,trivial⟩⟩ ⟨⟨rfl,.inl rfl,.inl rfl,rfl⟩,⟨⟨rfl,.inl rfl,.inl rfl,rfl⟩,trivial⟩⟩) (fO (K:=K) rfl (cY (bw hr) (pF K 0) (pv 4) (λ_ _=>rfl))) (λ_ _ _ _=>wu (hU (dt (K:=K) rfl) (aP (iT K) (pv 2) (pv 0)) (pv 1) (by with_unfolding_all rfl))) (λ_ _ _ _=>(pv 0))))))),?_⟩;have sz:(10000:Nat)<=sizeLine:=by rw[sizeLine_eq];omega
 obtain⟨dx,ho⟩:=ja.obj;obtain⟨fa,RU,vf,c9⟩:=n_ (f:=λv:List Int=>HO.lst (v.map V.int)) ja.free one.fr;obtain⟨ta,eta,Io⟩:∃ta,l.eO[i]?=some ta/\H ta=some (.tup (t.map V.int)):=by
  have hl:=cX ja.lead;have dG:i<l.eO.length:=by rw[hl];exact(Yi.mp one.ld).1
  obtain⟨y,ey,hy⟩:=fX ja.lead (Yb dG);rw[one.ld] at ey;cases ey;exact⟨_,Yb dG,hy⟩
 have Ip:dw (l.eO.map V.ref) (i:Int)=some (.ref ta):=gM (by rw[Yd,eta];rfl);have Be:=cX ja.free;refine cq ?_;refine⟨_,rfl,l.J,C,dx,_,_,rfl,ho,jc.cls,jc.mM,rfl,_,rfl,l.la,_,_,_,rfl,rfl,ak.of ja.ie,Ip,?_⟩;refine cq ?_;refine⟨_,rfl,l.J,C,dx,_,_,rfl,ho,jc.cls,jc.jG,rfl,_,rfl,l.ha,_,_,_,rfl,rfl,ak.of ja.heads,ow one.hd,?_⟩;refine⟨_,rfl,l.J,C,dx,_,_,rfl,ho,jc.cls,jc.rE,rfl,_,rfl,l.fd,_,rfl,oA ja.frees vf,fa,rfl,⟨_,ak.of c9⟩,λD hD=>XI (ns:=secs) (ak.of c9) (by have:=one.iC;omega) hD (λz=>decide (t.getD z.toNat 0∈ss)) V.int (λz hz H1 g1 Kt Kf kt kf=>?_) λH1 g1 h1=>?_⟩
 ·have bz:=one.fh z hz;refine⟨_,rfl,_,rfl,ta,_,_,_,rfl,rfl,aA.of (g1 _ _ Io),mQ bz.1 bz.2,_,rfl,sl,_,rfl,.inl (g1.seq hss),rfl,EK ss,_,rfl,?_⟩;rw[if_neg Yk,zB];refine bI (λc=>?_) (λc=>?_);·exact⟨_,rfl,kt c H1 (aj.refl _)⟩
  ·exact kf (by cases e:decide (t.getD z.toNat 0∈ss) with|true=>exact absurd e c|false=>rfl) H1 (aj.refl _)
 ·refine⟨_,rfl,l.J,C,dx,_,_,rfl,g1 _ _ ho,jc.cls,jc.rE,rfl,_,rfl,l.fd,_,.inl (h:Int),rfl,g1 _ _ ja.frees,rfl,?_,λH2 b2 e2=>?_⟩
  ·unfold bp;rw[Ya,Jh,Ya];omega
  rw[Zai (by rw[Ya];exact Be.symm) vf] at e2;have nd:=ja.nd;have Bg:l.fd∈l.fp:=by simp[JL.fp]
  simp only[JL.fp,Yy,Yn,not_or] at nd;obtain⟨⟨x1,x2,x3,x4,x5⟩,⟨y1,y2,y3,y4⟩,⟨z1,z2,z3⟩,⟨w1,w2⟩,v1,v2⟩:=nd;have keep:∀b o,H b=some o->b≠l.fd->H2 b=some o:=λb o e nb=>b2 _ _ (g1 _ _ e) nb;have nD:D∉l.fp:=ja.ne hD;have nDf:D≠l.fd:=λz=>nD (by rw[z];exact Bg);refine q ⟨l.J,l.ha,l.la,l.md,l.fd,l.eO,l.fJ,iZ (st.fr.map (·.1)) l.bW h D⟩ H2 rfl rfl ((Out.of g1).trans (Out.bar b2 Bg)) ⟨⟨dx,keep _ _ ho x4⟩,keep _ _ ja.heads y3,keep _ _ ja.ie z2,L2.Paired.bB ja.lead λa xs e=>keep a _ e (dU e ja.frees (λz=>by cases z)),keep _ _ ja.jq w1,L2.Paired.bB (tY ja.mem) λa p e=>keep a _ e.1 (λz=>v1 (by rw[←z];exact e.2)),?_,?_,ja.nd,λa ha=>?_⟩
  ·show H2 l.fd=some (.dK (bp ((eC h _ st.fr).map (·.1)) _));rw[q_];exact e2
  ·exact XJ (λk=>b2 _ _ h1 nDf) ja.free λa p e ma=>keep a _ e (λz=>ja.out a ma (by rw[z];exact Bg))
  ·rcases Mf ha with rfl|z;·exact nD
   ·exact ja.out a z
end
inductive Px(C:Addr)(vs:List V)(H:Hp)(Q:VK)(E:XK):Prop
 |mk (l:JL) (st:JS) (n i h:Nat) (t secs:List Int) (a:Int) (aE:vs=[.ref l.J,.int (i:Int),.int a]) (aU:cG H C n l st) (bc:r6 st i h t secs) (bL:st.fr.length<1000) (cL:(a∈secs.map (λz=>t.getD z.toNat 0)->∀(l':JL) (H':Hp),l'.J=l.J->l'.fp=l.fp->Out l.fp H H'->cG H' C n l' (st.kP h (secs.filter λz=>decide (t.getD z.toNat 0∈[a])))->Q (.bl true) H')) (d5:(a∉secs.map (λz=>t.getD z.toNat 0)->∀H',aj H H'->Q (.bl false) H'))
section
variable {K:ai}{mg:aX}
abbrev Ao:List Str:=["self","one","section"]
theorem VH:aQ Ao Ao (aK DD):=.a8
theorem Zc2(F:aL K "say" "Joins.say" DD f fd)(jA:bT P w K mg base 2 "open_at" C uC (wj C))(sZ:bT P w K mg base 2 "narrow" C An (EL K C))(bl:Bl mg):aH P w K mg base aM 3 f fd Ao (Px C):=by
 refine F.o VH λs H hr h=>?_;obtain⟨l,st,n,i,h,t,secs,a,rfl,ja,one,lf,q1,q2⟩:=h;refine⟨_,(aq (aR (hU (Ft (K:=K) rfl) (pv 2) (cH jA hr (by omega) (pv 0) (aa (pv 1) ag)) (by with_unfolding_all rfl)) (au (aG ib)) aY) (aq (bZ (cH sZ hr (by omega) (pv 0) (aa (pv 1) (aa (dR (aa (pv 2) ag)) ag)))) (au (aG ib)))),?_⟩;obtain⟨dx,ho⟩:=ja.obj;refine⟨_,rfl,_,rfl,l.J,dx,_,rfl,ho,rfl,_,rfl,l,st,n,i,h,t,secs,rfl,ja,one.hd,one.ld,one.fr,one.fh,one.iC,λp ns H1 np g1 pm so hp=>⟨p,_,rfl,.inl (ak.of hp),rfl,EK ns,_,rfl,?_⟩⟩;rw[if_pos rfl,zB];refine bI (λc=>?_) (λc=>aW ?_)
 ·refine q2 (λz=>?_) H1 g1;rw[decide_eq_true (pm.symm.subset z)] at c;cases c
 ·have qE:a∈ns:=by
   by_cases z:a∈ns;·exact z
   ·rw[decide_eq_false z] at c;exact absurd rfl c
  refine⟨_,rfl,l.J,dx,_,rfl,g1 _ _ ho,rfl,_,rfl,_,rfl,by show 1<=sizeLine;rw[sizeLine_eq];omega,λsl H2 n2 g2 e2=>?_⟩;exact⟨l,st,n,i,h,t,secs,[a],sl,rfl,(ja.same g1).same g2,one,lf,ak.of e2,λl' H3 k1 k2 o3 j3=>q1 (pm.subset qE) l' H3 k1 k2 ((Out.of (g1.trans g2)).trans o3) j3⟩
end
def dO(ks:List Nat)(as:List Addr)(h:Nat):List Addr:=((ks.zip as).filter λp=>decide (p.1≠h)).map (·.2)
def cS{α:Type}(h:Nat)(ps:List (Nat×α)):List (Nat×α):=ps.filter λp=>decide (p.1≠h)
theorem yL(h:Nat):∀{ks:List Nat} {as:List Addr},ks.length=as.length->gk (bp ks as) (.inl (h:Int))=bp (ks.filter λk=>decide (k≠h)) (dO ks as h)
 |[],[],_=>rfl
 |k::ks,a::as,e=>by
  have ih:=yL h (by simpa using e);have e0:bp (k::ks) (a::as)=(Sum.inl (k:Int),V.ref a)::bp ks as:=rfl;unfold gk at ih⊢;rw[e0,W3,W3];have e1:dO (k::ks) (a::as) h=(if decide (k≠h)=true then(a::dO ks as h) else dO ks as h):=by
   unfold dO;rw[RW,W3];split<;>rfl
  rw[e1,ih];by_cases z:k=h;·grind
  ·have z':¬((Sum.inl (k:Int):Key)=.inl (h:Int)):=λw=>z (by have:=Bb w;omega);rw[if_pos (by simp[z']),if_pos (by simp[z]),if_pos (by simp[z])];rfl
 |[],_::_,e=>rfl
 |_::_,[],e=>by simp at e
theorem oi{α:Type}(h:Nat):∀ps:List (Nat×α),(cS h ps).map (·.1)=(ps.map (·.1)).filter λk=>decide (k≠h)
 |[]=>rfl
 |p::ps=>by
  have ih:=oi h ps;unfold cS at ih⊢
  grind
theorem D5{α:Type}{F G:Addr->Nat×α->Prop}{h:Nat}:∀{as:List Addr} {ps:List (Nat×α)},Paired F as ps->(∀a p,F a p->a∈as->p.1≠h->G a p)->Paired G (dO (ps.map (·.1)) as h) (cS h ps):=by
 intro as ps pr;induction pr with
 |nil=>intro _;exact .nil
 |@cons a p as ps f t ih=>
  intro k;have e1:dO ((p::ps).map (·.1)) (a::as) h=(if decide (p.1≠h)=true then(a::dO (ps.map (·.1)) as h) else dO (ps.map (·.1)) as h):=by
   unfold dO;rw[Wq,RW,W3];split<;>rfl
  have e2:cS h (p::ps)=(if decide (p.1≠h)=true then(p::cS h ps) else cS h ps):=by
   unfold cS
   grind
  rw[e1,e2];by_cases z:p.1=h;·grind
  ·rw[if_pos (by simp[z]),if_pos (by simp[z])];exact .cons (k a p f Yg z) (ih λb q fb hb nq=>k b q fb (Ys _ hb) nq)
theorem zc{h:Nat}:∀{ks:List Nat} {as:List Addr},(dO ks as h).Sublist as
 |[],as=>by
  unfold dO;simp_all
 |_::_,[]=>by
  unfold dO;simp_all
 |k::ks,a::as=>by
  have ih:=zc (h:=h) (ks:=ks) (as:=as);have e1:dO (k::ks) (a::as) h=(if decide (k≠h)=true then(a::dO ks as h) else dO ks as h):=by
   unfold dO;rw[RW,W3];split<;>rfl
  grind
theorem tR{α:Type}{h k:Nat}(ne:k≠h):∀{ps:List (Nat×α)},(cS h ps).lookup k=ps.lookup k
 |[]=>rfl
 |p::ps=>by
  have ih:=tR ne (ps:=ps);have e2:cS h (p::ps)=(if decide (p.1≠h)=true then(p::cS h ps) else cS h ps):=by
   unfold cS
   grind
  grind
theorem XM{α:Type}{F G:Addr->Nat×α->Prop}{h:Nat}{m:Addr}{v:α}(new:∀k,G m (k,v)):∀{as:List Addr} {ps:List (Nat×α)},Paired F as ps->as.Nodup->(ps.map (·.1)).Nodup->aS (bp (ps.map (·.1)) as) (.inl (h:Int))=some (.ref m)->(∀a p,F a p->a∈as->a≠m->G a p)->Paired G as (eC h v ps):=by
 intro as ps pr;induction pr with
 |nil=>intro _ _ e _;cases e
 |@cons a p as ps f t ih=>
  intro n1 n2 e k;have e0:bp ((p::ps).map (·.1)) (a::as)=(Sum.inl (p.1:Int),V.ref a)::bp (ps.map (·.1)) as:=rfl;have e2:eC h v (p::ps)=(if p.1=h then(p.1,v) else p)::eC h v ps:=rfl;rw[Yy] at n1;rw[Wq,Yy] at n2;rw[e2];by_cases z:p.1=h
  ·rw[e0,fH (p:=((Sum.inl (p.1:Int):Key),V.ref a)) (by rw[z])] at e;have ea:a=m:=V.ref.inj (Ym e);have same:eC h v ps=ps:=by
    unfold eC;refine(Wx λq hq=>?_).trans (List.map_id _);rw[if_neg λw=>n2.1 (by rw[z,←w];exact Yf.mpr ⟨q,hq,rfl⟩)];rfl
   rw[if_pos z,same,ea];refine .cons (new p.1) (L2.Paired.bB (tY t) λb q hb=>k b q hb.1 (Ys _ hb.2) λw=>n1.1 (by rw[ea,←w];exact hb.2))
  ·rw[e0,eV (p:=((Sum.inl (p.1:Int):Key),V.ref a)) (λw=>z (by have:=Bb w;omega))] at e;rw[if_neg z];have am:a≠m:=λw=>by
    have:∀{ks:List Nat} {bs:List Addr},aS (bp ks bs) (.inl (h:Int))=some (.ref m)->m∈bs:=λ{ks}=>by
     induction ks with
     |nil=>intro bs q;unfold bp at q;rw[List.zip_nil_left] at q;cases q
     |cons x xs ih=>
      intro bs q;cases bs with
      |nil=>unfold bp at q;rw[List.zip_nil_right] at q;cases q
      |cons b bs=>
       have e0:bp (x::xs) (b::bs)=(Sum.inl (x:Int),V.ref b)::bp xs bs:=rfl;rw[e0] at q;by_cases y:x=h
       ·rw[fH (p:=((Sum.inl (x:Int):Key),V.ref b)) (by rw[y])] at q;have eb:b=m:=V.ref.inj (Ym q);rw[eb];exact Yg
       ·rw[eV (p:=((Sum.inl (x:Int):Key),V.ref b)) (λw=>y (by have:=Bb w;omega))] at q;exact Ys _ (ih q)
    exact n1.1 (by rw[w];exact this e)
   exact .cons (k a p f Yg am) (ih n1.2 n2.2 e λb q fb hb nb=>k b q fb (Ys _ hb) nb)
def pq(a9:List Int)(ld:List (List Int))(i:Nat):List (List Int):=ld.set i (bH (ld.getD i []) a9)
theorem iP(xs ys:List Int):(bH xs ys).length=ys.length:=by unfold bH;rw[Ya]
theorem Zc3{xs ys:List Int}{n:Nat}(hx:∀x∈xs,0<=x/\x<n)(hy:∀y∈ys,0<=y/\y<xs.length):∀z∈bH xs ys,0<=z/\z<n:=λz hz=>by
 obtain⟨y,my,rfl⟩:=Yf.mp hz;obtain⟨y0,y1⟩:=hy y my;have hl:y.toNat<xs.length:=by omega
 have e:xs.getD y.toNat 0=xs[y.toNat]:=by rw[Yj,Yb hl];rfl
 simp_all
def jK(hb:Nat)(mv:List Nat)(hd:List Nat):List Nat:=mv.foldl (λacc i=>acc.set i hb) hd
def gm(a9:List Int)(mv:List Nat)(ld:List (List Int)):List (List Int):=mv.foldl (pq a9) ld
def JS.mv(st:JS)(hb hm:Nat)(mb mv:List Nat)(a9:List Int):JS:=⟨jK hb mv st.hd,gm a9 mv st.ld,eC hb (mb++mv) (cS hm st.mem),cS hm st.fr⟩
inductive OD(C:Addr)(vs:List V)(H:Hp)(Q:VK)(E:XK):Prop
 |mk (l:JL) (st:JS) (n a b ha hb:Nat) (ta tb tn fm:List Int) (tu:Addr) (ma mb:List Nat) (aE:vs=[.ref l.J,.int (a:Int),.int (b:Int),.ref tu]) (aU:cG H C n l st) (bc:H tu=some (.tup (tn.map V.int))) (bL:n<=8) (cL:tn.length=n) (d5:full tn=true) (gU:st.hd[a]?=some ha) (jd:st.hd[b]?=some hb) (qA:st.ld[a]?=some ta) (xI:st.ld[b]?=some tb) (Gs:(∀t∈st.ld,full t=true/\t.length=n)) (Qq:st.ld.length=st.hd.length) (Zgq:st.mem.lookup ha=some ma) (Zgr:st.mem.lookup hb=some mb) (Zgs:st.fr.lookup ha=some fm) (Zgt:ha≠hb) (Zgu:(∀i∈ma,i<st.hd.length)) (Zgv:ma.length+mb.length<=1000) (Zgw:(st.mem.map (·.1)).Nodup) (Zgx:∀(l':JL) (H':Hp),l'.J=l.J->(∀c∈l'.fp,c∈l.fp)->Out l.fp H H'->cG H' C n l' (st.mv hb ha mb ma (bH (inv ta) (bH tn tb)))->Q .az H')
theorem vQ{α β:Type}{g:List α->β->List α}(hg:∀acc i,(g acc i).length=acc.length):∀(is:List β) (xs:List α),(is.foldl g xs).length=xs.length
 |[],_=>rfl
 |i::is,xs=>by
  rw[List.foldl_cons,vQ hg is,hg]
theorem KW{α β:Type}{g:List α->β->List α}{is:List β}{j:Nat}{i:β}(h:is[j]?=some i)(xs:List α):(is.take (j+1)).foldl g xs=g ((is.take j).foldl g xs) i:=by
 rw[Y1,h,List.foldl_append];rfl
theorem Zbm(is:List Nat)(i k:Nat):(dH is).set i (.int (k:Int))=dH (is.set i k):=by
 simp_all
theorem KY{α β:Type}{F:α->β->Prop}{x:α}{y:β}(f:F x y):∀{xs:List α} {ys:List β} (i:Nat),Paired F xs ys->Paired F (xs.set i x) (ys.set i y)
 |_,_,_,.nil=>.nil
 |_,_,0,.cons _ t=>.cons f t
 |_,_,i+1,.cons g t=>.cons g (KY f i t)
theorem pR{xs ys:List Int}(fx:full xs=true)(fy:full ys=true)(e:xs.length=ys.length):full (bH xs ys)=true:=by
 have p1:(bH xs ys).Perm ((bh ys.length).map λx=>xs.getD x.toNat 0):=(pO fy).map _;have e2:((bh ys.length).map λx=>xs.getD x.toNat 0)=xs:=by
  refine Wj λi=>?_;rw[Yd];by_cases hi:i<ys.length
  ·rw[lJ hi]
   grind
  ·rw[Y3 (by rw[eQ];omega),Y3 (by omega)];rfl
 rw[e2] at p1;exact rf (p1.trans (pO fx))
inductive F0(H5:Hp)(l:JL)(hd:List Nat)(ld:List (List Int))(n:Nat)(sg:Option V->St)(σ:St)(H6:Hp):Prop
 |mk (gP:List Addr) (o9:Option V) (k1:H6 l.ha=some (.lst (dH hd))) (k2:H6 l.la=some (.lst (gP.map V.ref))) (k3:Paired (λa (xs:List Int)=>H6 a=some (.tup (xs.map V.int))) gP ld) (k4:∀t∈ld,full t=true/\t.length=n) (kp:∀c o,H5 c=some o->c≠l.ha->c≠l.la->H6 c=some o) (e:σ=sg o9):F0 H5 l hd ld n sg σ H6
def Qr(l:JL)(a b hb ha:Int)(tu tm to mo:Addr)(o9:Option V):St:=[some (.ref l.J),some (.int a),some (.int b),some (.ref tu),some (.int hb),some (.int ha),some (.ref tm),some (.ref to),some (.ref mo),o9]
section
variable {K:ai}{mg:aX}
abbrev Gu:List Str:=["self","mover","stayer","turn"]
theorem qU:aQ ["self","mover","stayer","turn","head","old_head","to_mover","to_old_head","moved","number"] Gu (aK C8):=.a8
theorem Zbn(F:aL K "move" "Joins.move" C8 f fd)(jc:mS K C)(pN:HasFn P w K mg base 1 "followed" nH (FX K))(nX:HasFn P w K mg base 1 "turned_back" nI Ak)(bl:Bl mg):aH P w K mg base aM 2 f fd Gu (OD C):=by
 refine F.o qU λs H hr h=>?_;obtain⟨l,st,n,a,b,ha,hb,ta,tb,tn,fm,tu,ma,mb,rfl,ja,hu,n8,tl,ft,hA,hB,lA,lB,fl,ll,mA,mB,fA,neq,min,lm,ndk,q⟩:=h;refine⟨_,(aq (bY 4 qU.nd (aP (iL K) (pF K 0) (pv 2))) (aq (bY 5 qU.nd (aP (iL K) (pF K 0) (pv 1))) (aq (bY 6 qU.nd (aT pN hr (aa (aP (iL K) (pF K 0) (pv 2)) (aa (pv 3) ag)))) (aq (bY 7 qU.nd (aT pN hr (aa (pv 6) (aa (aT nX hr (aa (aP (iL K) (pF K 0) (pv 1)) ag)) ag)))) (aq (bY 8 qU.nd (Li (pF K 0) (pv 5) ⟨rfl,rfl,rfl,rfl⟩)) (aq (bZ (Li (pF K 0) (pv 5) ⟨rfl,rfl,rfl,rfl⟩)) (aq (gc PassesOwn.never rfl (fO (K:=K) rfl (pv 8)) (bA 9 qU.nd) (aq (E3 (pF K 0) (pv 9) Lf (pv 4)) (au (E3 (pF K 0) (pv 9) Lf (aT pN hr (aa (pv 7) (aa (aP (iL K) (pF K 0) (pv 9)) ag))))))) (au (bZ (jJ (K:=K) rfl (ic plainAttrs_list PySem.F.slot_list_extend PySem.F.type_list_extend Xr (cY (bw hr) (pF K 0) (pv 4) (λ_ _=>rfl)) (aa (pv 8) ag)))))))))))),?_⟩;have sz:(10000:Nat)<=sizeLine:=by rw[sizeLine_eq];omega
 obtain⟨dx,ho⟩:=ja.obj;have wQ:∀{i:Nat} {t:List Int},st.ld[i]?=some t->∃x,l.eO[i]?=some x/\H x=some (.tup (t.map V.int)):=λ{i t} ht=>by
  have hl:=cX ja.lead;have dG:i<l.eO.length:=by rw[hl];exact(Yi.mp ht).1
  obtain⟨y,ey,hy⟩:=fX ja.lead (Yb dG);rw[ht] at ey;cases ey;exact⟨_,Yb dG,hy⟩
 obtain⟨xa,exa,Iy⟩:=wQ lA;obtain⟨xb,exb,Iz⟩:=wQ lB;have ata:dw (l.eO.map V.ref) (a:Int)=some (.ref xa):=gM (by rw[Yd,exa];rfl);have atb:dw (l.eO.map V.ref) (b:Int)=some (.ref xb):=gM (by rw[Yd,exb];rfl);obtain⟨RX,lta⟩:=fl ta (Yh lA);obtain⟨IA,IB⟩:=fl tb (Yh lB);obtain⟨mo,xU,vmo,RY⟩:=n_ (f:=λv:List Nat=>HO.lst (dH v)) ja.mem mA;obtain⟨ms,mms,vms,hms⟩:=n_ (f:=λv:List Nat=>HO.lst (dH v)) ja.mem mB;obtain⟨fo,mfo,vfo,hfo⟩:=n_ (f:=λv:List Int=>HO.lst (v.map V.int)) ja.free fA;have Iq:=cX ja.mem;have Be:=cX ja.free;have nd:=ja.nd;have Bg:∀{x:Addr},x∈l.fJ->x∈l.fp:=λ{x} h=>by simp[JL.fp,h]
 simp only[JL.fp,Yy,Yn,not_or] at nd;obtain⟨⟨x1,x2,x3,x4,x5⟩,⟨y1,y2,y3,y4⟩,⟨z1,z2,z3⟩,⟨w1,w2⟩,v1,v2⟩:=nd;refine cq ?_;refine⟨_,rfl,l.J,C,dx,_,_,rfl,ho,jc.cls,jc.jG,rfl,_,rfl,l.ha,_,_,_,rfl,rfl,ak.of ja.heads,ow hB,?_⟩;refine cq ?_;refine⟨_,rfl,l.J,C,dx,_,_,rfl,ho,jc.cls,jc.jG,rfl,_,rfl,l.ha,_,_,_,rfl,rfl,ak.of ja.heads,ow hA,?_⟩;refine cq ?_;refine⟨_,rfl,l.J,C,dx,_,_,rfl,ho,jc.cls,jc.mM,rfl,_,rfl,l.la,_,_,_,rfl,rfl,ak.of ja.ie,atb,_,rfl,xb,tu,tb,tn,rfl,aA.of Iz,aA.of hu,λx hx=>by rw[tl,←IB];exact pX IA hx,by omega,λtm H1 RV g1 htm=>?_⟩;refine cq ?_;refine⟨_,rfl,_,rfl,l.J,C,dx,_,_,rfl,g1 _ _ ho,jc.cls,jc.mM,rfl,_,rfl,l.la,_,_,_,rfl,rfl,ak.of (g1 _ _ ja.ie),ata,xa,ta,rfl,g1 _ _ Iy,by omega,RX,λti H2 nti g2 Bh=>?_⟩;refine⟨tm,ti,bH tn tb,inv ta,rfl,aA.of (g2 _ _ htm),aA.of Bh,?_,by rw[iP];omega,λto H3 Bi g3 RZ=>?_⟩
 ·rw[fF,lta];exact Zc3 (n:=n) (λx hx=>by rw[←tl];exact pX ft hx) (λy hy=>by rw[tl,←IB];exact pX IA hy)
 have mn:=(g1.trans g2).trans g3;generalize ZeA:bH (inv ta) (bH tn tb)=a9 at RZ q;have uD:full a9=true/\a9.length=n:=by
  rw[←ZeA];refine⟨pR (jF RX) (pR ft IA (by omega)) (by rw[fF,iP];omega),by rw[iP,iP];exact IB⟩
 refine cq ?_;refine⟨_,rfl,l.J,C,dx,_,_,rfl,mn _ _ ho,jc.cls,jc.tX,rfl,l.md,rfl,.inl ⟨_,.inl (mn _ _ ja.jq)⟩,_,rfl,_,.inl (ha:Int),.ref mo,mn _ _ ja.jq,rfl,vmo,λH4 b4 e4=>?_⟩;rw[yL ha (by rw[Ya];exact Iq.symm)] at e4;have o4:=b4 _ _ (mn _ _ ho) x3;have f4:=b4 _ _ (mn _ _ ja.frees) (λz=>w1 z.symm);refine⟨_,rfl,l.J,C,dx,_,_,rfl,o4,jc.cls,jc.rE,rfl,l.fd,rfl,.inl ⟨_,.inl f4⟩,_,rfl,_,.inl (ha:Int),.ref fo,f4,rfl,vfo,λH5 b5 e5=>?_⟩;rw[yL ha (by rw[Ya];exact Be.symm)] at e5;have lR:∀c o,H c=some o->c≠l.md->c≠l.fd->H5 c=some o:=λc o e n1 n2=>b5 _ _ (b4 _ _ (mn _ _ e) n1) n2;have e45:H5 l.md=some _:=b5 _ _ e4 w1;have qp:∀{x:Addr},x∈l.fJ->x≠l.ha/\x≠l.la/\x≠l.md/\x≠l.fd:=λ{x} hx=>⟨λz=>y4 (by rw[←z];exact hx),λz=>z3 (by rw[←z];exact hx),λz=>w2 (by rw[←z];exact hx),λz=>v1 (by rw[←z];exact hx)⟩;have R0:=lR _ _ RY (qp xU).2.2.1 (qp xU).2.2.2;have uZ:H5 to=some (.tup (a9.map V.int)):=by
  have n1:to≠l.md:=λz=>by rw[z,g1.trans g2 _ _ ja.jq] at Bi;cases Bi
  have n2:to≠l.fd:=λz=>by rw[z,g1.trans g2 _ _ ja.frees] at Bi;cases Bi
  exact b5 _ _ (b4 _ _ RZ n1) n2
 dsimp only;have IC:(dH ma).length=ma.length:=Ya _;have hlen:∀is:List Nat,(jK hb is st.hd).length=st.hd.length:=λis=>vQ (λ_ _=>Jg) is st.hd;have ZeB:∀is:List Nat,(gm a9 is st.ld).length=st.ld.length:=λis=>vQ (λ_ _=>by unfold pq;exact Jg) is st.ld;refine hV (F0 H5 l (jK hb ma st.hd) (gm a9 ma st.ld) n (Qr l a b hb ha tu tm to mo)) (λqI gW=>?_) ?_
 ·refine⟨_,rfl,mo,rfl,⟨_,ak.of R0⟩,kF (K:=K) (a:=mo) (xs:=dH ma) (λj=>F0 H5 l (jK hb (ma.take j) st.hd) (gm a9 (ma.take j) st.ld) n (Qr l a b hb ha tu tm to mo))
   ⟨l.eO,none,lR _ _ ja.heads y2 y3,lR _ _ ja.ie z1 z2,L2.Paired.bB ja.lead λc xs e=>lR c _ e (dU e ja.jq (λz=>by cases z)) (dU e ja.frees (λz=>by cases z)),fl,λc o e _ _=>e,rfl⟩
   (λj σ H6 _ ⟨_,_,_,_,_,_,kp,_⟩=>ak.of (kp _ _ R0 (qp xU).1 (qp xU).2.1)) ?_ ?_⟩
  ·rintro j v σ H6 hj ⟨gP,o9,k1,k2,k3,k4,kp,rfl⟩;rw[Yd] at hj;obtain⟨i,mi,rfl⟩:∃i,ma[j]?=some i/\V.int (i:Int)=v:=by
    cases e:ma[j]? with
    |none=>rw[e] at hj;cases hj
    |some i=>rw[e] at hj;exact⟨i,rfl,Ym hj⟩
   have hi:=min i (Yh mi);have il:i<(gm a9 (ma.take j) st.ld).length:=by rw[ZeB];omega
   have Zgh:=cX k3;obtain⟨t,et,Bh⟩:=fX k3 (Yb (show i<gP.length by omega));obtain⟨ftt,R1⟩:=k4 t (Yh et);have oJ:=kp _ _ (lR _ _ ho x3 x4) x1 x2;have ixh:kX (dH (jK hb (ma.take j) st.hd)).length (i:Int)=some i:=by
    rw[zK (by omega) (by rw[Ya,hlen];omega),Y4]
   have ixl:kX (gP.map V.ref).length (i:Int)=some i:=by
    rw[zK (by omega) (by rw[Ya];omega),Y4]
   refine bg ?_;refine⟨_,rfl,_,rfl,l.J,C,dx,_,_,rfl,oJ,jc.cls,jc.jG,rfl,_,rfl,l.ha,_,_,i,rfl,rfl,k1,ixh,λH7 b7 e7=>?_⟩;have R3:=b7 _ _ oJ x1;have xV:=b7 _ _ k2 (λz=>y1 z.symm);have to7:H7 to=some (.tup (a9.map V.int)):=b7 _ _ (kp _ _ uZ (dU uZ (lR _ _ ja.heads y2 y3) (λz=>by cases z)) (dU uZ (lR _ _ ja.ie z1 z2) (λz=>by cases z))) (dU (kp _ _ uZ (dU uZ (lR _ _ ja.heads y2 y3) (λz=>by cases z)) (dU uZ (lR _ _ ja.ie z1 z2) (λz=>by cases z))) k1 (λz=>by cases z));have x7:H7 gP[i]=some (.tup (t.map V.int)):=b7 _ _ Bh (dU Bh k1 (λz=>by cases z));have atx:dw (gP.map V.ref) (i:Int)=some (.ref gP[i]):=gM (by rw[Yd,Yb (show i<gP.length by omega)];rfl);refine⟨_,rfl,_,rfl,l.J,C,dx,_,_,rfl,R3,jc.cls,jc.mM,rfl,_,rfl,l.la,_,_,_,rfl,rfl,ak.of xV,atx,to,gP[i],a9,t,rfl,aA.of to7,aA.of x7,λx hx=>by rw[R1,←uD.2];exact pX uD.1 hx,by have:=uD.2;omega,λtt H8 R4 g8 htt=>?_⟩;refine⟨_,rfl,l.J,C,dx,_,_,rfl,g8 _ _ R3,jc.cls,jc.mM,rfl,_,rfl,l.la,_,_,i,rfl,rfl,g8 _ _ xV,ixl,λH9 b9 e9=>?_⟩;have gt:(gm a9 (ma.take j) st.ld).getD i []=t:=by rw[Yj,et];rfl
   have eh:jK hb (ma.take (j+1)) st.hd=(jK hb (ma.take j) st.hd).set i hb:=KW mi st.hd;have el:gm a9 (ma.take (j+1)) st.ld=(gm a9 (ma.take j) st.ld).set i (bH t a9):=by
    have e1:gm a9 (ma.take (j+1)) st.ld=pq a9 (gm a9 (ma.take j) st.ld) i:=KW mi st.ld;rw[e1,←gt];rfl
   have Iw:tt≠l.la:=λz=>by rw[z,xV] at R4;cases R4
   have h9:∀c o,H6 c=some o->c≠l.ha->c≠l.la->H9 c=some o:=λc o e n1 n2=>b9 _ _ (g8 _ _ (b7 _ _ e n1)) n2;refine⟨gP.set i tt,_,?_,?_,?_,?_,λc o e n1 n2=>h9 c o (kp c o e n1 n2) n1 n2,rfl⟩
   ·rw[eh,←Zbm];exact b9 _ _ (g8 _ _ e7) y1
   ·rw[e9,List.map_set]
   ·rw[el];exact KY (F:=λa (xs:List Int)=>H9 a=some (.tup (xs.map V.int))) (b9 _ _ htt Iw) i (L2.Paired.bB k3 λc xs e=>h9 c _ e (dU e k1 (λz=>by cases z)) (dU e k2 (λz=>by cases z)))
   ·intro u xW;rw[el] at xW;rcases List.mem_or_eq_of_mem_set xW with z|z;·exact k4 u z
    ·rw[z];exact⟨pR ftt uD.1 (by rw[R1,uD.2]),by rw[iP];exact uD.2⟩
  ·rintro σ H6 ⟨gP,o9,k1,k2,k3,k4,kp,rfl⟩;rw[IC,Wc] at k1 k3 k4;exact gW _ _ ⟨gP,o9,k1,k2,k3,k4,kp,rfl⟩
 rintro σ H6 ⟨gP,o9,k1,k2,k3,k4,kp,rfl⟩;have oJ:=kp _ _ (lR _ _ ho x3 x4) x1 x2;have R_:=kp _ _ e45 (λz=>y2 z.symm) (λz=>z1 z.symm);have fd6:=kp _ _ e5 (λz=>y3 z.symm) (λz=>z2 z.symm);have Bj:=qp mms;have Bk:=qp xU;have wR:∀c o,H c=some o->c≠l.ha->c≠l.la->c≠l.md->c≠l.fd->H6 c=some o:=λc o e n1 n2 n3 n4=>kp _ _ (lR _ _ e n3 n4) n1 n2;have ms6:=wR _ _ hms Bj.1 Bj.2.1 Bj.2.2.1 Bj.2.2.2;have mo6:=wR _ _ RY Bk.1 Bk.2.1 Bk.2.2.1 Bk.2.2.2;have Sa:Paired (λc (p:Nat×List Nat)=>H6 c=some (.lst (dH p.2))/\c∈l.fJ) (dO (st.mem.map (·.1)) l.fJ ha) (cS ha st.mem):=D5 ja.mem λc p e mc _=>by
  obtain⟨q1,q2,q3,q4⟩:=qp mc;exact⟨wR _ _ e q1 q2 q3 q4,mc⟩
 have lkB:(cS ha st.mem).lookup hb=some mb:=by rw[tR (λz=>neq z.symm)];exact mB
 obtain⟨u3,ZeC,Gv,Gw⟩:=n_ (f:=λv:List Nat=>HO.lst (dH v)) (L2.Paired.bB Sa λ_ _ h=>h.1) lkB;rw[oi] at Gv;have z5:u3∈l.fJ:=zc.subset ZeC;refine⟨_,rfl,l.J,C,dx,_,_,rfl,oJ,jc.cls,jc.tX,rfl,_,rfl,l.md,.ref u3,rfl,oA R_ Gv,.inl ⟨rfl,_,ak.of Gw⟩,_,rfl,u3,mo,_,_,rfl,rfl,Gw,mo6,by rw[IC,Ya];omega,λH7 b7 e7=>?_⟩;obtain⟨r1,r2,r3,r4⟩:=qp z5;have sub:=zc (h:=ha) (ks:=st.mem.map (·.1)) (as:=l.fJ);have ZeD:=zc (h:=ha) (ks:=st.fr.map (·.1)) (as:=l.bW);have Sb:∀c∈JL.fp ⟨l.J,l.ha,l.la,l.md,l.fd,gP,dO (st.mem.map (·.1)) l.fJ ha,dO (st.fr.map (·.1)) l.bW ha⟩,c∈l.fp:=λc hc=>by
  simp only[JL.fp,Yn] at hc⊢;rcases hc with h|h|h|h|h|h;·exact .inl h
  ·exact .inr (.inl h)
  ·exact .inr (.inr (.inl h))
  ·exact .inr (.inr (.inr (.inl h)))
  ·exact .inr (.inr (.inr (.inr (.inl h))))
  ·exact .inr (.inr (.inr (.inr (.inr (sub.subset h)))))
 have h7:∀c o,H6 c=some o->c≠u3->H7 c=some o:=λc o e n1=>b7 _ _ e n1;refine q ⟨l.J,l.ha,l.la,l.md,l.fd,gP,dO (st.mem.map (·.1)) l.fJ ha,dO (st.fr.map (·.1)) l.bW ha⟩ H7 rfl Sb (λc o e nc=>?_) ⟨⟨dx,h7 _ _ oJ (λz=>x5 (by rw[z];exact z5))⟩,h7 _ _ k1 (λz=>r1 z.symm),h7 _ _ k2 (λz=>r2 z.symm),L2.Paired.bB k3 λc xs e=>h7 c _ e (dU e Gw (λz=>by cases z)),?_,?_,?_,?_,?_,λc hc z=>?_⟩
 ·simp only[JL.fp,Yn,not_or] at nc;exact h7 _ _ (wR _ _ e nc.2.1 nc.2.2.1 nc.2.2.2.1 nc.2.2.2.2.1) (λz=>nc.2.2.2.2.2 (by rw[z];exact z5))
 ·show H7 l.md=some (.dK (bp ((eC hb (mb++ma) (cS ha st.mem)).map (·.1)) _));rw[q_,oi];exact h7 _ _ R_ (λz=>r3 z.symm)
 ·refine XM (F:=λc (p:Nat×List Nat)=>H6 c=some (.lst (dH p.2))/\c∈l.fJ) (m:=u3) (λk=>?_) Sa (sub.nodup v2) ?_ (by rw[oi];exact Gv) λc p e _ nc=>h7 _ _ e.1 nc
  ·show H7 u3=some (.lst (dH (mb++ma)));rw[e7,dH,dH,dH,Yq]
  ·rw[oi];exact ndk.filter _
 ·show H7 l.fd=some (.dK (bp ((cS ha st.fr).map (·.1)) _));rw[oi];exact h7 _ _ fd6 (λz=>r4 z.symm)
 ·refine D5 ja.free λc p e mc _=>?_;have no:=ja.out c mc;simp only[JL.fp,Yn,not_or] at no;exact h7 _ _ (wR _ _ e no.2.1 no.2.2.1 no.2.2.2.1 no.2.2.2.2.1) (λz=>no.2.2.2.2.2 (by rw[z];exact z5))
 ·have e0:(JL.fp ⟨l.J,l.ha,l.la,l.md,l.fd,gP,dO (st.mem.map (·.1)) l.fJ ha,dO (st.fr.map (·.1)) l.bW ha⟩).Sublist l.fp:=(((((sub.cons₂ l.fd).cons₂ l.md).cons₂ l.la).cons₂ l.ha).cons₂ l.J);exact e0.nodup ja.nd
 ·exact ja.out c (ZeD.subset hc) (Sb c z)
end
structure Qs(st:JS)(n a b ha hb:Nat)(ta tb fma xX:List Int)(ma mb:List Nat):Prop where
 hA:st.hd[a]?=some ha
 hB:st.hd[b]?=some hb
 lA:st.ld[a]?=some ta
 lB:st.ld[b]?=some tb
 fl:∀t∈st.ld,full t=true/\t.length=n
 ll:st.ld.length=st.hd.length
 mA:st.mem.lookup ha=some ma
 mB:st.mem.lookup hb=some mb
 fA:st.fr.lookup ha=some fma
 fB:st.fr.lookup hb=some xX
 ne:ha≠hb
 iA:∀i∈ma,i<st.hd.length
 iB:∀i∈mb,i<st.hd.length
 lm:ma.length+mb.length<=1000
 nd:(st.mem.map (·.1)).Nodup
inductive Nh(C:Addr)(vs:List V)(H:Hp)(Q:VK)(E:XK):Prop
 |mk (l:JL) (st:JS) (n a b ha hb:Nat) (ta tb tn fma xX:List Int) (tu:Addr) (ma mb:List Nat) (aE:vs=[.ref l.J,.int (a:Int),.int (b:Int),.ref tu]) (aU:cG H C n l st) (bc:H tu=some (.tup (tn.map V.int))) (bL:n<=8) (cL:tn.length=n) (d5:full tn=true) (gU:Qs st n a b ha hb ta tb fma xX ma mb) (jd:∀(l':JL) (aN:JS) (H':Hp),l'.J=l.J->(∀c∈l'.fp,c∈l.fp)->Out l.fp H H'->cG H' C n l' aN->(aN=st.mv hb ha mb ma (bH (inv ta) (bH (inv tn) tb))\/aN=st.mv ha hb ma mb (bH (inv tb) (bH tn ta)))->Q .az H')
section
variable {K:ai}{mg:aX}
abbrev kU:List Str:=["self","one","other","turn"]
theorem TQ:aQ kU kU (aK BR):=.a8
theorem Zaj(F:aL K "bring_together" "Joins.bring_together" BR f fd)(jc:mS K C)(nX:HasFn P w K mg base 1 "turned_back" nI Ak)(yA:bT P w K mg base 2 "move" C Gu (OD C))(bl:Bl mg):aH P w K mg base aM 3 f fd kU (Nh C):=by
 refine F.o TQ λs H hr h=>?_;obtain⟨l,st,n,a,b,ha,hb,ta,tb,tn,fma,xX,tu,ma,mb,rfl,ja,hu,n8,tl,ft,two,q⟩:=h;refine⟨_,(au (aR (bC mW (df K bl (cY (bw hr) (pF K 0) (aP (iL K) (pF K 0) (pv 1)) (λ_ _=>rfl))) (df K bl (cY (bw hr) (pF K 0) (aP (iL K) (pF K 0) (pv 2)) (λ_ _=>rfl)))) (au (bZ (cH yA hr (by omega) (pv 0) (aa (pv 1) (aa (pv 2) (aa (aT nX hr (aa (pv 3) ag)) ag)))))) (au (bZ (cH yA hr (by omega) (pv 0) (aa (pv 2) (aa (pv 1) (aa (pv 3) ag)))))))),?_⟩;obtain⟨dx,ho⟩:=ja.obj;obtain⟨xa,mxa,vxa,Iy⟩:=n_ (f:=λv:List Nat=>HO.lst (dH v)) ja.mem two.mA;obtain⟨xb,mxb,vxb,Iz⟩:=n_ (f:=λv:List Nat=>HO.lst (dH v)) ja.mem two.mB;refine⟨_,rfl,l.J,C,dx,_,_,rfl,ho,jc.cls,jc.tX,rfl,_,rfl,l.J,C,dx,_,_,rfl,ho,jc.cls,jc.jG,rfl,_,rfl,l.ha,_,_,_,rfl,rfl,ak.of ja.heads,ow two.hA,l.md,.ref xa,rfl,oA ja.jq vxa,xa,_,rfl,.inl (ak.of Iy),?_⟩;refine⟨_,rfl,l.J,C,dx,_,_,rfl,ho,jc.cls,jc.tX,rfl,_,rfl,l.J,C,dx,_,_,rfl,ho,jc.cls,jc.jG,rfl,_,rfl,l.ha,_,_,_,rfl,rfl,ak.of ja.heads,ow two.hB,l.md,.ref xb,rfl,oA ja.jq vxb,xb,_,rfl,.inl (ak.of Iz),_,_,rfl,rfl,_,rfl,bI (λ_=>?_) (λ_=>?_)⟩
 ·refine⟨_,rfl,l.J,dx,_,rfl,ho,rfl,_,rfl,_,rfl,_,rfl,tu,tn,rfl,hu,by omega,ft,λtv H1 ntv g1 htv=>?_⟩;refine⟨l,st,n,a,b,ha,hb,ta,tb,inv tn,fma,tv,ma,mb,rfl,ja.same g1,htv,n8,by rw[fF];exact tl,jF ft,two.hA,two.hB,two.lA,two.lB,two.fl,two.ll,two.mA,two.mB,two.fA,two.ne,two.iA,two.lm,two.nd,λl' H2 k1 k2 o2 j2=>q l' _ H2 k1 k2 ((Out.of g1).trans o2) j2 (.inl rfl)⟩
 ·refine⟨_,rfl,l.J,dx,_,rfl,ho,rfl,_,rfl,_,rfl,_,rfl,?_⟩;exact⟨l,st,n,b,a,hb,ha,tb,ta,tn,xX,tu,mb,ma,rfl,ja,hu,n8,tl,ft,two.hB,two.hA,two.lB,two.lA,two.fl,two.ll,two.mB,two.mA,two.fB,(λz=>two.ne z.symm),two.iB,by have:=two.lm;omega,two.nd,λl' H2 k1 k2 o2 j2=>q l' _ H2 k1 k2 o2 j2 (.inr rfl)⟩
end
def Py(H:Hp)(as:List Addr)(bN:List (Int×Int)):Prop:=Paired (λa (p:Int×Int)=>H a=some (.tup [.int p.1,.int p.2])) as bN
def iV(hi hj:Nat)(ti tj si sj:List Int):List (Int×Int):=if hi=hj then si.map λz=>(ti.getD z.toNat 0,tj.getD z.toNat 0) else(si.map λz=>ti.getD z.toNat 0).flatMap λx=>sj.map λz=>(x,tj.getD z.toNat 0)
inductive Ni(C:Addr)(vs:List V)(H:Hp)(Q:VK)(E:XK):Prop
 |mk (l:JL) (st:JS) (n i j hi hj:Nat) (ti tj si sj:List Int) (aE:vs=[.ref l.J,.int (i:Int),.int (j:Int)]) (aU:cG H C n l st) (bc:r6 st i hi ti si) (bL:r6 st j hj tj sj) (cL:∀(p:Addr) (as:List Addr) (bN:List (Int×Int)) (H':Hp),H p=none->aj H H'->H' p=some (.lst (as.map V.ref))->Py H' as bN->bN.Perm (iV hi hj ti tj si sj)->bN.Pairwise iU->Q (.ref p) H')
inductive FA(C:Addr)(vs:List V)(H:Hp)(Q:VK)(E:XK):Prop
 |mk (l:JL) (st:JS) (n i j hi hj:Nat) (ti tj si sj tn:List Int) (tu:Addr) (aE:vs=[.ref l.J,.int (i:Int),.int (j:Int),.ref tu]) (aU:cG H C n l st) (bc:r6 st i hi ti si) (bL:r6 st j hj tj sj) (cL:H tu=some (.tup (tn.map V.int))) (d5:(∀q∈iV hi hj ti tj si sj,0<=q.1/\q.1<tn.length)) (gU:(iV hi hj ti tj si sj).length<=1000) (jd:∀(p:Addr) (ns:List Int) (H':Hp),H p=none->aj H H'->H' p=some (.lst (ns.map V.int))->ns.Perm (((iV hi hj ti tj si sj).filter λq=>decide (tn.getD q.1.toNat 0=q.2)).map (·.1))->ns.Pairwise (·<·)->Q (.ref p) H')
section
variable {K:ai}{mg:aX}
theorem Vi:aQ kU kU (aK C7):=.a8
theorem Zbo(F:aL K "left" "Joins.left" C7 f fd)(CV:bT P w K mg base 3 "pairs" C qo (Ni C))(bl:Bl mg):aH P w K mg base aM 4 f fd kU (FA C):=by
 refine F.o Vi λs H hr h=>?_;obtain⟨l,st,n,i,j,hi,hj,ti,tj,si,sj,tn,tu,rfl,ja,o1,o2,hu,fh,iC,q⟩:=h;refine⟨_,(au (aG (ZY (xs:=["first","second"]) (fr:=[("turn",3)]) (cl:=[("turn",s.heap.objs.size+1)]) rfl (.gH ⟨rfl,trivial⟩ ⟨⟨rfl,.inl rfl,.inl rfl,rfl⟩,trivial⟩) (λ_ _ _ _=>(iO (K:=K) (n:=2) rfl rfl (bQ (pU (i:=0) (show(["first","second","turn"]:List Str).Nodup by decide+kernel) rfl (Or.inl rfl)) (bQ (pU (i:=1) (show(["first","second","turn"]:List Str).Nodup by decide+kernel) rfl (Or.inl rfl)) iM)))) (fO (K:=K) rfl (cH CV hr (by omega) (pv 0) (aa (pv 1) (aa (pv 2) ag)))) (λ_ _ _ _=>wu (bC ck (aP (iT K) (pv 2) (pv 0)) (pv 1))) (λ_ _ _ _=>(pv 0))))),?_⟩;obtain⟨dx,ho⟩:=ja.obj;refine⟨_,rfl,l.J,dx,_,rfl,ho,rfl,_,rfl,_,rfl,l,st,n,i,j,hi,hj,ti,tj,si,sj,rfl,ja,o1,o2,λp as bN H1 np g1 hp pr pm pw=>?_⟩;have pl:=cX pr;have al:(as.map V.ref).length=bN.length:=by rw[Ya];exact pl
 have Qt:=pm.length_eq;refine⟨p,rfl,⟨_,ak.of hp⟩,λD hD=>Xt (xs:=as.map V.ref) (λk ys H2=>k<=bN.length/\aj H1 H2/\H2 D=some (.lst ys)/\ys=((bN.take k).filter λq=>decide (tn.getD q.1.toNat 0=q.2)).map λq=>V.int q.1) ⟨Yw _,cz hD _,aI,rfl⟩ (λk ys H2 _ ⟨_,g2,_,_⟩=>ak.of (g2 _ _ hp)) ?_ ?_⟩
 ·rintro k v ys H2 hk ⟨_,g2,h2,ey⟩ os oW;obtain⟨u1,u2,rfl⟩:∃u1 u2,os=[u1,u2]:=by
   match os,oW with
   |[u1,u2],_=>exact⟨u1,u2,rfl⟩
  rw[Yd] at hk;obtain⟨c,ec,rfl⟩:∃c,as[k]?=some c/\V.ref c=v:=by
   cases e:as[k]? with
   |none=>rw[e] at hk;cases hk
   |some c=>rw[e] at hk;exact⟨c,rfl,Ym hk⟩
  obtain⟨⟨x,y⟩,ID,hxy⟩:=fX pr ec;have kl:k<bN.length:=(Yi.mp ID).1;have bx:=fh (x,y) (pm.subset (Yh ID));have hx2:=g2 _ _ hxy;have yl:ys.length<sizeLine:=by
   have:=Wi (λq:Int×Int=>decide (tn.getD q.1.toNat 0=q.2)) (bN.take k);rw[Wa] at this;rw[ey,Ya,sizeLine_eq];omega
  refine⟨c,_,rfl,aA.of hx2,rfl,_,_,rfl,bg ⟨_,_,rfl,bg ⟨rfl,⟨[some (.int x),some (.int y)],rfl,rfl⟩,?_⟩⟩⟩;refine⟨_,rfl,_,rfl,tu,_,_,_,rfl,rfl,aA.of (g2 _ _ (g1 _ _ hu)),mQ bx.1 bx.2,_,rfl,rfl,_,rfl,?_⟩;have ed:decide (V.int (tn.getD x.toNat 0)=V.int y)=decide (tn.getD x.toNat 0=y):=by
   rw[Wm,decide_eq_true_iff,decide_eq_true_iff];exact⟨V.int.inj,λz=>by rw[z]⟩
  rw[ed];have et:∀(b:Bool),decide (tn.getD x.toNat 0=y)=b->((bN.take (k+1)).filter λq=>decide (tn.getD q.1.toNat 0=q.2)).map (λq=>V.int q.1)=ys++(if b=true then[V.int x] else[]):=λb eb=>by
   rw[ey,Y1,ID,Wt,Yq]
   congr 1
   show([((x,y):Int×Int)].filter _).map _=_;rw[W3,eb];cases b<;>rfl
  refine bI (λcc=>?_) (λcc=>?_)
  ·refine⟨_,rfl,h2,yl,kl,λb o e=>?_,aI,?_⟩
   ·rw[aC (bO e hD)];exact g2 _ _ e
   ·rw[et true cc];rfl
  ·refine⟨kl,g2,h2,?_⟩;rw[et false (by cases e:decide (tn.getD x.toNat 0=y) with|true=>exact absurd e cc|false=>rfl)];simp
 ·rintro ys H2 ⟨_,g2,h2,ey⟩;rw[al,Wc] at ey;refine q D ((bN.filter λq=>decide (tn.getD q.1.toNat 0=q.2)).map (·.1)) H2 (g1.free hD) (g1.trans g2) (by rw[h2,ey,Y9];rfl) ((pm.filter _).map _) ?_;rw[Ws];refine(List.Pairwise.and_mem.mp (pw.filter _)).imp ?_;rintro a b ⟨ma,mb,lt⟩;have e1:tn.getD a.1.toNat 0=a.2:=of_decide_eq_true (Y5.mp ma).2;have e2:tn.getD b.1.toNat 0=b.2:=of_decide_eq_true (Y5.mp mb).2;rcases lt with lt|⟨e,lt⟩;·exact lt
  ·rw[←e1,←e2,e] at lt;exact absurd lt (Int.lt_irrefl _)
end
theorem Zc4{H:Hp}{g:Nat->Int×Int}:∀{ys:List V} {ks:List Nat},Paired (λy k=>∃a,y=V.ref a/\H a=some (.tup [.int (g k).1,.int (g k).2])) ys ks->∃as:List Addr,ys=as.map V.ref/\Py H as (ks.map g):=by
 intro ys ks pr;induction pr with
 |nil=>exact⟨[],rfl,.nil⟩
 |cons z t ih=>
  obtain⟨a,e,h⟩:=z;obtain⟨as,e2,h2⟩:=ih;exact⟨a::as,by rw[e,e2];rfl,.cons h h2⟩
theorem map_range{α:Type}(g:Int->α)(si:List Int):(List.range si.length).map (λk=>g (si.getD k 0))=si.map g:=by
 have e2:(List.range si.length).map (λk=>g (si.getD k 0))=((List.range si.length).map λk=>si.getD k 0).map g:=by rw[Y9];rfl
 rw[e2,(range_getD si 0)]
def Qu(D:Addr)(H:Hp)(as:List Addr)(bN:List (Int×Int)):Prop:=Paired (λa (p:Int×Int)=>a≠D/\H a=some (.tup [.int p.1,.int p.2])) as bN
theorem EM{α β γ:Type}(g:α->β->γ)(ys:List β):∀xs:List α,(xs.flatMap λx=>ys.map (g x)).length=xs.length*ys.length
 |[]=>by simp
 |x::xs=>by rw[List.flatMap_cons,Yl,EM g ys xs,Ya,Wn,Nat.succ_mul];omega
theorem Zi{α β γ:Type}{g:α->List γ}{xs:List α}{i:Nat}{x:α}(h:xs[i]?=some x):(xs.take (i+1)).flatMap g=(xs.take i).flatMap g++g x:=by
 rw[Y1,h,List.flatMap_append];simp
theorem Lr{ns:List Int}(so:ns.Pairwise (·<=·))(nd:ns.Nodup):ns.Pairwise (·<·):=by
 refine(List.Pairwise.and so (Jb.mp nd)).imp ?_
 grind
theorem Zbp(x:Int){ns:List Int}(st:ns.Pairwise (·<·)):(ns.map λy=>((x,y):Int×Int)).Pairwise iU:=by
 rw[Ws];exact st.imp λh=>.inr ⟨rfl,h⟩
theorem Zbq{ns:List Int}(st:ns.Pairwise (·<·)){k:Nat}{x y:Int}(hx:ns[k]?=some x)(my:y∈ns.take k):y<x:=by
 obtain⟨i,hi,rfl⟩:=Wu.mp my;obtain⟨hk,rfl⟩:=Yi.mp hx;rw[Wa] at hi;rw[List.getElem_take];exact Wz.mp st i k (by omega) hk (by omega)
section
variable {K:ai}{mg:aX}
theorem Cz:aQ ["self","one","other","here","there"] qo (aK CO):=.a8
theorem Zak(F:aL K "pairs" "Joins.pairs" CO f fd)(jc:mS K C)(sY:bT P w K mg base 1 "together" C qo (D4 C))(jA:bT P w K mg base 2 "open_at" C uC (wj C))(bl:Bl mg):aH P w K mg base aM 3 f fd qo (Ni C):=by
 refine F.o Cz λs H hr h=>?_;obtain⟨l,st,n,i,j,hi,hj,ti,tj,si,sj,rfl,ja,o1,o2,q⟩:=h;refine⟨_,(aq (aR (hX (d9 (cH sY hr (by omega) (pv 0) (aa (pv 1) (aa (pv 2) ag))))) (au (aG (ZZ (xs:=["first","second"]) (fr:=[("self",0),("other",2)]) (cl:=[("self",s.heap.objs.size+1),("other",s.heap.objs.size+1+1)]) rfl (.gH ⟨rfl,⟨rfl,trivial⟩⟩ ⟨⟨rfl,.inl rfl,.inl rfl,rfl⟩,⟨⟨rfl,.inl rfl,.inl rfl,rfl⟩,trivial⟩⟩) (λ_ _ _ _=>(pU (i:=0) (show(["first","second","self","other"]:List Str).Nodup by decide+kernel) rfl (Or.inl rfl))) (fO (K:=K) rfl (cH jA hr (by omega) (pv 0) (aa (pv 1) ag))) (λ_ _ _ _=>(fO (K:=K) rfl (cH jA hr (by omega) (pv 2) (aa (pv 3) ag)))) (λ_ _ _ _=>(pU (i:=1) (show(["first","second","self","other"]:List Str).Nodup by decide+kernel) rfl (Or.inl rfl))) (λ_ _ _ _=>(dM (aa (pv 0) (aa (pv 1) ag))))))) aY) (aq (f_ (i:=3) Cz.nd rfl (Or.inr rfl) (aP (iL K) (pF K 0) (pv 1))) (aq (f_ (i:=4) Cz.nd rfl (Or.inr rfl) (aP (iL K) (pF K 0) (pv 2))) (au (aG (hJ (Z5 (K:=K) rfl) rfl bl.y9 yS (aa (iN (x:="section") (fr:=[("there",4),("here",3)]) (cl:=[("there",s.heap.objs.size+1+1+1+1),("here",s.heap.objs.size+1+1+1)]) rfl (.gH ⟨rfl,⟨rfl,trivial⟩⟩ ⟨⟨rfl,.inl rfl,.inl rfl,rfl⟩,⟨⟨rfl,.inl rfl,.inl rfl,rfl⟩,trivial⟩⟩) (fO (K:=K) rfl (cY (bw hr) (pF K 0) (aP (iL K) (pF K 0) (pv 1)) (λ_ _=>rfl))) (λ_ _ _ _=>lK) (λ_ _ _ _=>(dM (aa (aP (iT K) (pv 2) (pv 0)) (aa (aP (iT K) (pv 1) (pv 0)) ag))))) ag))))))),?_⟩;obtain⟨dx,ho⟩:=ja.obj;have f1:=o1.iC;have f2:=o2.iC;refine⟨_,rfl,l.J,dx,_,rfl,ho,rfl,_,rfl,_,rfl,l,st,n,i,j,hi,hj,rfl,ja,o1.hd,o2.hd,_,rfl,?_⟩;by_cases eh:hi=hj
 ·rw[decide_eq_true eh];refine bR (aW ?_);have es:si=sj:=by have a:=o1.fr;have b:=o2.fr;rw[eh,b] at a;exact(Ym a).symm
  have wQ:∀{k:Nat} {t:List Int},st.ld[k]?=some t->∃x,l.eO[k]?=some x/\H x=some (.tup (t.map V.int)):=λ{k t} ht=>by
   have hl:=cX ja.lead;have dG:k<l.eO.length:=by rw[hl];exact(Yi.mp ht).1
   obtain⟨y,ey,hy⟩:=fX ja.lead (Yb dG);rw[ht] at ey;cases ey;exact⟨_,Yb dG,hy⟩
  obtain⟨xi,exi,hxi⟩:=wQ o1.ld;obtain⟨xj,exj,hxj⟩:=wQ o2.ld;have ati:dw (l.eO.map V.ref) (i:Int)=some (.ref xi):=gM (by rw[Yd,exi];rfl);have atj:dw (l.eO.map V.ref) (j:Int)=some (.ref xj):=gM (by rw[Yd,exj];rfl);obtain⟨fa,RU,vf,c9⟩:=n_ (f:=λv:List Int=>HO.lst (v.map V.int)) ja.free o1.fr;refine cq ?_;refine⟨_,rfl,l.J,C,dx,_,_,rfl,ho,jc.cls,jc.mM,rfl,_,rfl,l.la,_,_,_,rfl,rfl,ak.of ja.ie,ati,?_⟩;refine cq ?_;refine⟨_,rfl,l.J,C,dx,_,_,rfl,ho,jc.cls,jc.mM,rfl,_,rfl,l.la,_,_,_,rfl,rfl,ak.of ja.ie,atj,?_⟩;refine⟨_,rfl,l.J,C,dx,_,_,rfl,ho,jc.cls,jc.rE,rfl,_,rfl,l.J,C,dx,_,_,rfl,ho,jc.cls,jc.jG,rfl,_,rfl,l.ha,_,_,_,rfl,rfl,ak.of ja.heads,ow o1.hd,l.fd,_,rfl,oA ja.frees vf,fa,rfl,⟨_,ak.of c9⟩,λD hD=>yH (xs:=si.map V.int) (ak.of c9) (by rw[Ya];omega) hD (λ_=>true) (λk y H1=>∃a,y=V.ref a/\a≠D/\H1 a=some (.tup [.int (ti.getD (si.getD k 0).toNat 0),.int (tj.getD (si.getD k 0).toNat 0)])) (λk y H1 H2 b ⟨a,e1,e2,e3⟩=>⟨a,e1,e2,b _ _ e3 e2⟩) (λk v hk H1 g1 IE Kt Kf kt kf=>?_) λys H1 g1 h1 pr=>?_⟩
  ·obtain⟨z,rfl,hz⟩:=mJ hk;have gz:si.getD k 0=z:=by rw[Yj,hz];rfl
   have b1:=o1.fh z (Yh hz);have b2:=o2.fh z (by rw[←es];exact Yh hz);refine kT (cW ?_);refine⟨_,rfl,_,rfl,xi,_,_,_,rfl,rfl,aA.of (g1 _ _ hxi),mQ b1.1 b1.2,_,rfl,_,rfl,xj,_,_,_,rfl,rfl,aA.of (g1 _ _ hxj),mQ b2.1 b2.2,by show 2<=sizeLine;rw[sizeLine_eq];omega,λa H2 na g2 ha=>?_⟩;obtain⟨ys,IE⟩:=IE;exact kt _ H2 rfl g2 ⟨a,rfl,(λz=>by rw[z,IE] at na;cases na),by rw[gz];exact ha⟩
  ·rw[DQ,Ya] at pr;obtain⟨as,eas,dI⟩:=Zc4 (g:=λk=>(ti.getD (si.getD k 0).toNat 0,tj.getD (si.getD k 0).toNat 0)) (L2.Paired.bB pr λy k ⟨a,e1,e2,e3⟩=>⟨a,e1,e3⟩);have em:(List.range si.length).map (λk=>((ti.getD (si.getD k 0).toNat 0,tj.getD (si.getD k 0).toNat 0):Int×Int))=si.map λz=>(ti.getD z.toNat 0,tj.getD z.toNat 0):=map_range (λz=>(ti.getD z.toNat 0,tj.getD z.toNat 0)) si;rw[em] at dI;have al:=cX dI;rw[Ya] at al;rw[eas] at h1;have ndp:(si.map λz=>((ti.getD z.toNat 0,tj.getD z.toNat 0):Int×Int)).Nodup:=by
    have d:=o1.dist;rw[Jb,Ws] at d⊢;exact d.imp λh e=>h (congrArg (·.1) e)
   refine⟨D,as,_,rfl,ak.of h1,dI,ndp,.inl (by omega),λgF lY pr2 p2 pw p H2 np g2 hp=>?_⟩;refine q p gF lY H2 (g1.free np) (g1.trans g2) hp (L2.Paired.bB pr2 λ_ _ e=>g2 _ _ e) ?_ pw;unfold iV;rw[if_pos eh];exact p2
 ·rw[decide_eq_false eh];refine cW ?_;refine⟨_,rfl,l.J,dx,_,rfl,ho,rfl,_,rfl,l,st,n,i,hi,ti,si,rfl,ja,o1.hd,o1.ld,o1.fr,o1.fh,o1.iC,λp ns H1 np g1 pm srt hp=>?_⟩;have nl:=pm.length_eq;rw[Ya] at nl;have sns:=Lr srt (pm.nodup_iff.mpr o1.dist);refine⟨p,rfl,⟨_,ak.of hp⟩,λD hD=>Za6 (xs:=ns.map V.int) (λk ys H2=>k<=ns.length/\aj H1 H2/\H2 D=some (.lst ys)/\∃(as:List Addr) (bN:List (Int×Int)),ys=as.map V.ref/\Qu D H2 as bN/\bN.Perm ((ns.take k).flatMap λx=>sj.map λz=>(x,tj.getD z.toNat 0))/\bN.Pairwise iU/\∀p∈bN,p.1∈ns.take k) ⟨Yw _,cz hD _,aI,[],[],rfl,.nil,.nil,.nil,λ_ h=>(nomatch h)⟩ (λk ys H2 _ ⟨_,g2,_⟩=>ak.of (g2 _ _ hp)) ?_ ?_ ?_ (λv σ H R R' m h=>m _ _ h)⟩
  ·rintro k v ys H2 hk ⟨kl,g2,h2,as,bN,ey,pa,pp,pw,pin⟩ os oW;obtain⟨u1,u2,rfl⟩:∃u1 u2,os=[u1,u2]:=by
    match os,oW with
    |[u1,u2],_=>exact⟨u1,u2,rfl⟩
   obtain⟨x,rfl,hx⟩:=mJ hk;have kl':k<ns.length:=(Yi.mp hx).1;refine bg ⟨⟨[some (.int x),u2],rfl,rfl⟩,?_⟩;refine⟨_,rfl,l.J,dx,_,rfl,g2 _ _ (g1 _ _ ho),rfl,_,rfl,l,st,n,j,hj,tj,sj,rfl,ja.same (g1.trans g2),o2.hd,o2.ld,o2.fr,o2.fh,o2.iC,λp2 sG H3 xY g3 IF ZeE dF=>?_⟩;have nl2:=IF.length_eq;rw[Ya] at nl2;have ZeF:=Lr ZeE (IF.nodup_iff.mpr o2.dist);have pD:p2≠D:=λz=>by rw[z,h2] at xY;cases xY
   have Qt:=pp.length_eq;rw[EM (λx z=>((x,tj.getD z.toNat 0):Int×Int)) sj (ns.take k),Wa] at Qt;have Zgy:=cX pa;have Zgz:min k ns.length*sj.length<=64*64:=Nat.mul_le_mul (by omega) (by omega);refine⟨p2,rfl,⟨_,ak.of dF⟩,p2,sG.map V.int,λk2 fT σ H4=>k2<=sG.length/\aj H1 H4/\H4 D=some (.lst fT)/\H4 p2=some (.lst (sG.map V.int))/\(∃o2,σ=[some (.int x),o2]++_)/\∃(u4:List Addr) (uE:List (Int×Int)),fT=u4.map V.ref/\Qu D H4 u4 uE/\uE=bN++(sG.take k2).map λy=>(x,y),rfl,⟨Yw _,g2.trans g3,g3 _ _ h2,dF,⟨u2,rfl⟩,as,bN,ey,L2.Paired.bB pa λ_ _ e=>⟨e.1,g3 _ _ e.2⟩,by simp⟩,λk2 fT σ H4 _ ⟨_,_,_,e,_⟩=>ak.of e,?_,?_⟩
   ·rintro k2 v2 fT σ H4 hk2 ⟨k2l,g4,h4,e4,⟨Se,rfl⟩,u4,uE,Bm,Bn,sH⟩;obtain⟨y,rfl,hy⟩:=mJ hk2;have ZeG:k2<sG.length:=(Yi.mp hy).1;have Sf:=cX Bn;rw[sH,Yl,Ya,Wa] at Sf;refine bg ⟨_,rfl,_,rfl,by show 2<=sizeLine;rw[sizeLine_eq];omega,λa H5 na g5 ha=>⟨g5 _ _ h4,by rw[Bm,Ya,Sf,sizeLine_eq];have:=o2.iC;omega,ZeG,?_,aI,?_,⟨some (.int y),rfl⟩,u4++[a],uE++[(x,y)],by rw[Bm,Yq];rfl,?_,?_⟩⟩
    ·intro b o e;rw[aC (bO e hD)];exact g5 _ _ (g4 _ _ e)
    ·rw[aC pD];exact g5 _ _ e4
    ·have aD:a≠D:=λz=>by rw[z,h4] at na;cases na
     exact jB (F:=λa (p:Int×Int)=>a≠D/\upd H5 D _ a=some (.tup [.int p.1,.int p.2])) ⟨aD,by rw[aC aD];exact ha⟩ (L2.Paired.bB Bn λb p e=>⟨e.1,by rw[aC e.1];exact g5 _ _ e.2⟩)
    ·rw[sH,Y1,hy,Yq,Jr];rfl
   ·rintro fT σ H4 ⟨_,g4,h4,e4,⟨Se,rfl⟩,u4,uE,Bm,Bn,sH⟩;rw[Ya,Wc] at sH;refine⟨⟨[some (.int x),Se],rfl,rfl⟩,kl',g4,h4,u4,uE,Bm,Bn,?_,?_,λp mp=>?_⟩
    ·rw[sH,Zi (β:=Int) hx];refine pp.append ?_;have:=IF.map λy:Int=>((x,y):Int×Int);rw[Y9] at this;exact this
    ·rw[sH];refine List.pairwise_append.mpr ⟨pw,Zbp x ZeF,λp mp q' mq=>.inl ?_⟩;obtain⟨y,_,rfl⟩:=Yf.mp mq;exact Zbq sns hx (pin p mp)
    ·rw[sH] at mp;rw[Y1,hx];rcases Yv.mp mp with mp|mp;·exact Yt _ (pin p mp)
     ·obtain⟨y,_,rfl⟩:=Yf.mp mp;exact Yp _ Yg
  ·rintro ys H2 ⟨_,g2,h2,as,bN,ey,pa,pp,pw,_⟩;rw[Ya,Wc] at pp;rw[ey] at h2;refine q D as bN H2 (g1.free hD) (g1.trans g2) h2 (L2.Paired.bB pa λ_ _ e=>e.2) (pp.trans ?_) pw;unfold iV;rw[if_neg eh];exact pm.flatMap_right _
  ·rintro σ H R R' m ⟨x1,e1,x2,x3,x4,e2,e3,e4,x5,e5,l,st,n,i,h,t,secs,e6,j1,j2,j3,j4,j5,j6,k⟩;refine⟨x1,e1,x2,x3,x4,e2,e3,e4,x5,e5,l,st,n,i,h,t,secs,e6,j1,j2,j3,j4,j5,j6,λp ns H' a b c d e=>?_⟩;obtain⟨a,e,s,r⟩:=k p ns H' a b c d e;exact⟨a,e,s,m _ _ r⟩
end
def ap(t:List Int)(z:Int):Int:=t.getD z.toNat 0
theorem FC(h0:0<=z)(h:z<t.length):t[z.toNat]?=some (ap t z):=by
 unfold ap
 grind
theorem lS{t:List Int}{n:Nat}(ft:full t=true)(lt:t.length=n){z:Int}(h:0<=z/\z<n):0<=ap t z/\ap t z<n:=by
 have:=pX ft (Yh (FC h.1 (by omega)));omega
theorem ue{t:List Int}{n:Nat}(ft:full t=true)(lt:t.length=n){z:Int}(h:0<=z/\z<n):ap (inv t) (ap t z)=z:=by
 have b:=lS ft lt h;have e2:=zA (xs:=t) (i:=(ap t z).toNat) (by omega);rw[(Wy b.1),yV (yJ ft) (FC h.1 (by omega))] at e2;have e3:ap (inv t) (ap t z)=((z.toNat:Nat):Int):=by
  show(inv t).getD (ap t z).toNat 0=_
  grind
 grind
theorem Nj{t:List Int}{n:Nat}(ft:full t=true)(lt:t.length=n){z:Int}(h:0<=z/\z<n):ap t (ap (inv t) z)=z:=by
 have:=ue (jF ft) (by rw[fF];exact lt) h;rw[inv_inv ft] at this;exact this
theorem zR{t:List Int}{n:Nat}(ft:full t=true)(lt:t.length=n){z z':Int}(h:0<=z/\z<n)(h':0<=z'/\z'<n)(e:ap t z=ap t z'):z=z':=by
 have a:=ue ft lt h;rw[e,ue ft lt h'] at a;exact a.symm
theorem zS{xs ys:List Int}{z:Int}(h:0<=z/\z<ys.length):ap (bH xs ys) z=ap xs (ap ys z):=by
 show(bH xs ys).getD z.toNat 0=_;unfold bH;rw[Yj,Yd,(FC h.1 h.2)];rfl
def JS.ae(st:JS)(i:Nat):Nat:=st.hd.getD i 0
def JS.bM(st:JS)(i:Nat):List Int:=st.ld.getD i []
def JS.cC(st:JS)(h:Nat):List Int:=(st.fr.lookup h).getD []
def c8(st:JS)(f:Nat->Int):Prop:=∃s:Nat->Int,∀i,i<st.hd.length->s (st.ae i)∈st.cC (st.ae i)/\f i=ap (st.bM i) (s (st.ae i))
structure WF(n:Nat)(st:JS):Prop where
 ll:st.ld.length=st.hd.length
 fl:∀t∈st.ld,full t=true/\t.length=n
 fr:∀i,i<st.hd.length->∃secs,st.fr.lookup (st.ae i)=some secs/\secs.Nodup/\∀z∈secs,0<=z/\z<(n:Int)
 mem:∀i,i<st.hd.length->∃ms,st.mem.lookup (st.ae i)=some ms/\ms.Nodup/\∀k,k∈ms↔k<st.hd.length/\st.ae k=st.ae i
 nm:(st.mem.map (·.1)).Nodup
 lm:∀k∈st.mem.map (·.1),k<st.hd.length
 nf:(st.fr.map (·.1)).Nodup
 lf:∀k∈st.fr.map (·.1),k<st.hd.length
 hf:∀k∈st.fr.map (·.1),∃i,i<st.hd.length/\st.ae i=k
theorem vR{xs:List Nat}{m:Nat}(nd:xs.Nodup)(h:∀x∈xs,x<m):xs.length<=m:=by
 have l:=nd.length_le_of_subset λx hx=>Wl.mpr (h x hx)
 grind
theorem yB{xs:List Int}{n:Nat}(nd:xs.Nodup)(h:∀x∈xs,0<=x/\x<(n:Int)):xs.length<=n:=by
 have l:=nd.length_le_of_subset (l₂:=bh n) λx hx=>by
  obtain⟨a,b⟩:=h x hx;have:=Yh (lJ (n:=n) (i:=x.toNat) (by omega))
  grind
 rwa [eQ] at l
theorem D6{α:Type}:∀{ps:List (Nat×α)} {k:Nat} {v:α},ps.lookup k=some v->k∈ps.map (·.1)
 |[],_,_,h=>by simp at h
 |p::ps,k,v,h=>by
  rw[W1] at h;by_cases e:k=p.1;·grind
  ·rw[beq_eq_false_iff_ne.mpr e] at h;exact Ys _ (D6 h)
theorem yE{α:Type}(h:Nat)(v:α)(k:Nat):∀ps:List (Nat×α),(eC h v ps).lookup k=if k=h then(ps.lookup h).map λ_=>v else ps.lookup k
 |[]=>by show([]:List (Nat×α)).lookup k=_;simp
 |p::ps=>by
  have ih:=yE h v k ps;have e0:eC h v (p::ps)=(if p.1=h then(p.1,v) else p)::eC h v ps:=rfl
  grind
section
variable {n:Nat}{st:JS}
theorem wx{i:Nat}(h:i<st.hd.length):st.hd[i]?=some (st.ae i):=by
 unfold JS.ae;rw[Yj,Yb h];rfl
theorem WF.zT(wf:WF n st){i:Nat}(h:i<st.hd.length):st.ld[i]?=some (st.bM i):=by
 unfold JS.bM;rw[Yj,Yb (by rw[wf.ll];exact h)];rfl
theorem WF.jX(wf:WF n st){i:Nat}(h:i<st.hd.length):full (st.bM i)=true/\(st.bM i).length=n:=wf.fl _ (Yh (wf.zT h))
theorem WF.dN(wf:WF n st){i:Nat}(h:i<st.hd.length):st.fr.lookup (st.ae i)=some (st.cC (st.ae i))/\(st.cC (st.ae i)).Nodup/\∀z∈st.cC (st.ae i),0<=z/\z<(n:Int):=by
 obtain⟨secs,e,a,b⟩:=wf.fr i h;have e2:st.cC (st.ae i)=secs:=by unfold JS.cC;rw[e];rfl
 grind
theorem WF.dist(wf:WF n st){i:Nat}(h:i<st.hd.length):((st.cC (st.ae i)).map λz=>(st.bM i).getD z.toNat 0).Nodup:=by
 obtain⟨e,a,b⟩:=wf.dN h;rw[Jb,Ws];refine(List.Pairwise.and_mem.mp (Jb.mp a)).imp ?_;rintro u v ⟨mu,mv,ne⟩ z;exact ne (zR (wf.jX h).1 (wf.jX h).2 (b u mu) (b v mv) z)
theorem WF.one(wf:WF n st)(n8:n<=8){i:Nat}(h:i<st.hd.length):r6 st i (st.ae i) (st.bM i) (st.cC (st.ae i)):=by
 obtain⟨e,a,b⟩:=wf.dN h;have:=yB a b;refine⟨wx h,wf.zT h,e,λz hz=>by rw[(wf.jX h).2];exact b z hz,by omega,wf.dist h⟩
theorem WF.two(wf:WF n st){i j:Nat}(hi:i<st.hd.length)(hj:j<st.hd.length)(m4:st.hd.length<=400)(ne:st.ae i≠st.ae j):∃ma mb,Qs st n i j (st.ae i) (st.ae j) (st.bM i) (st.bM j) (st.cC (st.ae i)) (st.cC (st.ae j)) ma mb/\(ma.Nodup/\∀k,k∈ma↔k<st.hd.length/\st.ae k=st.ae i)/\(mb.Nodup/\∀k,k∈mb↔k<st.hd.length/\st.ae k=st.ae j):=by
 obtain⟨ma,e1,a1,b1⟩:=wf.mem i hi;obtain⟨mb,e2,a2,b2⟩:=wf.mem j hj;have l1:=vR a1 λk hk=>((b1 k).mp hk).1;have l2:=vR a2 λk hk=>((b2 k).mp hk).1;exact⟨ma,mb,⟨wx hi,wx hj,wf.zT hi,wf.zT hj,wf.fl,wf.ll,e1,e2,(wf.dN hi).1,(wf.dN hj).1,ne,λk hk=>((b1 k).mp hk).1,λk hk=>((b2 k).mp hk).1,by omega,wf.nm⟩,⟨a1,b1⟩,a2,b2⟩
theorem WF.z6(wf:WF n st):st.fr.length<=st.hd.length:=by
 have:=vR wf.nf wf.lf
 grind
theorem WF.OE(wf:WF n st):st.mem.length<=st.hd.length:=by
 have:=vR wf.nm wf.lm
 grind
theorem wf0:WF n ⟨[],[],[],[]⟩:=⟨rfl,λ_ h=>(nomatch h),λ_ h=>absurd h (Wd _),λ_ h=>absurd h (Wd _),.nil,λ_ h=>(nomatch h),.nil,λ_ h=>(nomatch h),λ_ h=>(nomatch h)⟩
theorem Es(st:JS)(h k:Nat)(v:List Int)(hv:st.fr.lookup h≠none):(st.kP h v).cC k=if k=h then v else st.cC k:=by
 show((eC h v st.fr).lookup k).getD []=_;rw[yE];by_cases e:k=h
 ·rw[if_pos e,if_pos e];cases e2:st.fr.lookup h with
  |none=>grind
  |some x=>rfl
 ·rw[if_neg e,if_neg e];rfl
theorem WF.kP(wf:WF n st){i:Nat}(hi:i<st.hd.length){p:Int->Bool}:WF n (st.kP (st.ae i) ((st.cC (st.ae i)).filter p)):=by
 refine⟨wf.ll,wf.fl,λk hk=>?_,wf.mem,wf.nm,wf.lm,?_,?_,?_⟩
 ·obtain⟨e,a,b⟩:=wf.dN hk;show ∃secs,(eC _ _ st.fr).lookup (st.ae k)=some secs/\_;rw[yE]
  grind
 ·show((eC _ _ st.fr).map (·.1)).Nodup;rw[q_];exact wf.nf
 ·show ∀k∈(eC _ _ st.fr).map (·.1),_;rw[q_];exact wf.lf
 ·show ∀k∈(eC _ _ st.fr).map (·.1),_;rw[q_];exact wf.hf
theorem vU(wf:WF n st){i:Nat}(hi:i<st.hd.length)(ss:List Int)(f:Nat->Int):c8 (st.kP (st.ae i) ((st.cC (st.ae i)).filter λz=>decide ((st.bM i).getD z.toNat 0∈ss))) f↔c8 st f/\f i∈ss:=by
 have hv:st.fr.lookup (st.ae i)≠none:=by rw[(wf.dN hi).1];exact λz=>nomatch z
 constructor
 ·rintro⟨s,h⟩;have hk:∀k,k<st.hd.length->s (st.ae k)∈st.cC (st.ae k)/\f k=ap (st.bM k) (s (st.ae k)):=λk hk=>by
   obtain⟨a,b⟩:=h k hk;refine⟨?_,b⟩;have a':s (st.ae k)∈(st.kP (st.ae i) ((st.cC (st.ae i)).filter λz=>decide ((st.bM i).getD z.toNat 0∈ss))).cC (st.ae k):=a;rw[Es st _ _ _ hv] at a'
   grind
  refine⟨⟨s,hk⟩,?_⟩;obtain⟨a,b⟩:=h i hi;have a':s (st.ae i)∈(st.kP (st.ae i) ((st.cC (st.ae i)).filter λz=>decide ((st.bM i).getD z.toNat 0∈ss))).cC (st.ae i):=a;rw[Es st _ _ _ hv,if_pos rfl] at a';rw[b];exact of_decide_eq_true (Y5.mp a').2
 ·rintro⟨⟨s,h⟩,m⟩;refine⟨s,λk hk=>?_⟩;obtain⟨a,b⟩:=h k hk;refine⟨?_,b⟩;show s (st.ae k)∈(st.kP (st.ae i) ((st.cC (st.ae i)).filter λz=>decide ((st.bM i).getD z.toNat 0∈ss))).cC (st.ae k);rw[Es st _ _ _ hv];by_cases z:st.ae k=st.ae i
  ·rw[if_pos z];rw[z] at a⊢;refine Y5.mpr ⟨a,decide_eq_true ?_⟩;rw[((h i hi).2)] at m;exact m
  ·grind
theorem yX(wf:WF n st){f:Nat->Int}(d:c8 st f)(h1 h2:Nat)(z1 z2:Int)(m1:z1∈st.cC h1)(m2:z2∈st.cC h2)(ne:h1=h2->z1=z2):∃f',c8 st f'/\∀k,k<st.hd.length->(st.ae k=h1->f' k=ap (st.bM k) z1)/\(st.ae k=h2->f' k=ap (st.bM k) z2):=by
 obtain⟨s,h⟩:=d;refine⟨λk=>ap (st.bM k) ((λq=>if q=h1 then z1 else if q=h2 then z2 else s q) (st.ae k)),⟨λq=>if q=h1 then z1 else if q=h2 then z2 else s q,λk hk=>⟨?_,rfl⟩⟩,λk hk=>⟨λe=>?_,λe=>?_⟩⟩;·grind
 ·grind
 ·grind
theorem wk(wf:WF n st){i j:Nat}(hi:i<st.hd.length)(hj:j<st.hd.length){f:Nat->Int}(d:c8 st f):(f i,f j)∈iV (st.ae i) (st.ae j) (st.bM i) (st.bM j) (st.cC (st.ae i)) (st.cC (st.ae j)):=by
 obtain⟨s,h⟩:=d;obtain⟨a1,b1⟩:=h i hi;obtain⟨a2,b2⟩:=h j hj;unfold iV;by_cases e:st.ae i=st.ae j
 ·rw[if_pos e];refine Yf.mpr ⟨s (st.ae i),a1,?_⟩;rw[b1,b2,←e];rfl
 ·rw[if_neg e];refine Sg.mpr ⟨f i,Yf.mpr ⟨_,a1,b1.symm⟩,Yf.mpr ⟨_,a2,?_⟩⟩;rw[b2];rfl
theorem Mg(wf:WF n st){i j:Nat}(hi:i<st.hd.length)(hj:j<st.hd.length)(live:∃f,c8 st f){x y:Int}(m:(x,y)∈iV (st.ae i) (st.ae j) (st.bM i) (st.bM j) (st.cC (st.ae i)) (st.cC (st.ae j))):∃f,c8 st f/\f i=x/\f j=y:=by
 obtain⟨f0,d0⟩:=live;unfold iV at m;by_cases e:st.ae i=st.ae j
 ·rw[if_pos e] at m;obtain⟨z,mz,ez⟩:=Yf.mp m;obtain⟨f,d,q⟩:=yX wf d0 (st.ae i) (st.ae i) z z mz mz (λ_=>rfl);exact⟨f,d,((q i hi).1 rfl).trans (congrArg (·.1) ez),((q j hj).1 e.symm).trans (congrArg (·.2) ez)⟩
 ·rw[if_neg e] at m;obtain⟨x',mx,my⟩:=Sg.mp m;obtain⟨z1,IG,IH⟩:=Yf.mp mx;obtain⟨z2,II,xZ⟩:=Yf.mp my;obtain⟨f,d,q⟩:=yX wf d0 (st.ae i) (st.ae j) z1 z2 IG II (λz=>absurd z e);exact⟨f,d,(((q i hi).1 rfl).trans IH).trans (congrArg (·.1) xZ),((q j hj).2 rfl).trans (congrArg (·.2) xZ)⟩
end
theorem Ls(hb:Nat):∀(mv:List Nat) (hd:List Nat) (i:Nat),i<hd.length->(jK hb mv hd)[i]?=if i∈mv then some hb else hd[i]?
 |[],hd,i,h=>rfl
 |k::mv,hd,i,h=>by
  have ih:=Ls hb mv (hd.set k hb) i (by rw[Jg];exact h);have e0:jK hb (k::mv) hd=jK hb mv (hd.set k hb):=rfl
  grind
theorem Lu(a9:List Int):∀(mv:List Nat) (ld:List (List Int)) (i:Nat),mv.Nodup->i<ld.length->(gm a9 mv ld)[i]?=if i∈mv then some (bH (ld.getD i []) a9) else ld[i]?
 |[],ld,i,_,h=>rfl
 |k::mv,ld,i,nd,h=>by
  obtain⟨n1,n2⟩:=Yy.mp nd;have e0:gm a9 (k::mv) ld=gm a9 mv (pq a9 ld k):=rfl;rw[e0,(Lu a9 mv (pq a9 ld k) i n2 (by unfold pq;rw[Jg];exact h))];by_cases m:i∈mv
  ·have ne:k≠i:=λz=>n1 (by rw[z];exact m);unfold pq
   grind
  ·rw[if_neg m];unfold pq
   grind
theorem Lv(hb:Nat)(mv hd:List Nat):(jK hb mv hd).length=hd.length:=vQ (λ_ _=>Jg) mv hd
theorem Lw(a9:List Int)(mv:List Nat)(ld:List (List Int)):(gm a9 mv ld).length=ld.length:=vQ (λ_ _=>by unfold pq;exact Jg) mv ld
section
variable {n:Nat}{st:JS}{a b:Nat}{ma mb:List Nat}{tn:List Int}
theorem qf(wf:WF n st)(im:∀k,k∈ma↔k<st.hd.length/\st.ae k=st.ae a)(a9:List Int){i:Nat}(hi:i<st.hd.length):(st.mv (st.ae b) (st.ae a) mb ma a9).ae i=if st.ae i=st.ae a then st.ae b else st.ae i:=by
 show(jK (st.ae b) ma st.hd).getD i 0=_;rw[Yj,Ls _ _ _ _ hi];by_cases e:st.ae i=st.ae a;·grind
 ·rw[if_neg (λz=>e ((im i).mp z).2),if_neg e,←Yj];rfl
theorem FD(wf:WF n st)(nd:ma.Nodup)(im:∀k,k∈ma↔k<st.hd.length/\st.ae k=st.ae a)(a9:List Int)(hb:Nat){i:Nat}(hi:i<st.hd.length):(st.mv hb (st.ae a) mb ma a9).bM i=if st.ae i=st.ae a then bH (st.bM i) a9 else st.bM i:=by
 show(gm a9 ma st.ld).getD i []=_;rw[Yj,Lu _ _ _ _ nd (by rw[wf.ll];exact hi)];by_cases e:st.ae i=st.ae a;·rw[if_pos ((im i).mpr ⟨hi,e⟩),if_pos e];rfl
 ·rw[if_neg (λz=>e ((im i).mp z).2),if_neg e,←Yj];rfl
theorem OF(hb ha:Nat)(a9:List Int){h:Nat}(ne:h≠ha):(st.mv hb ha mb ma a9).cC h=st.cC h:=by
 show((cS ha st.fr).lookup h).getD []=_;rw[tR ne];rfl
theorem wK(hb ha:Nat)(a9:List Int):(st.mv hb ha mb ma a9).hd.length=st.hd.length:=Lv _ _ _
theorem WF.mv(wf:WF n st)(hA:a<st.hd.length)(hB:b<st.hd.length)(ne:st.ae a≠st.ae b)(nJ:ma.Nodup)(gX:∀k,k∈ma↔k<st.hd.length/\st.ae k=st.ae a)(u5:mb.Nodup)(sI:∀k,k∈mb↔k<st.hd.length/\st.ae k=st.ae b)(eb:st.mem.lookup (st.ae b)=some mb){a9:List Int}(ft:full a9=true)(tl:a9.length=n):WF n (st.mv (st.ae b) (st.ae a) mb ma a9):=by
 have len:(st.mv (st.ae b) (st.ae a) mb ma a9).hd.length=st.hd.length:=wK _ _ _;have Sh:∀k,k<st.hd.length->(if st.ae k=st.ae a then st.ae b else st.ae k)≠st.ae a:=λk hk=>by
  grind
 have ky:(st.mv (st.ae b) (st.ae a) mb ma a9).mem.map (·.1)=(st.mem.map (·.1)).filter λk=>decide (k≠st.ae a):=by
  show(eC _ _ (cS _ st.mem)).map (·.1)=_;rw[q_,oi]
 have kf:(st.mv (st.ae b) (st.ae a) mb ma a9).fr.map (·.1)=(st.fr.map (·.1)).filter λk=>decide (k≠st.ae a):=oi _ _;refine⟨?_,λt ht=>?_,λi hi=>?_,λi hi=>?_,?_,?_,?_,?_,?_⟩
 ·show(gm _ _ _).length=(jK _ _ _).length;rw[Lw,Lv];exact wf.ll
 ·obtain⟨i,hi,rfl⟩:=Wu.mp ht;have iD:i<st.hd.length:=by
   have:(gm a9 ma st.ld).length=st.ld.length:=Lw _ _ _;have h2:i<(gm a9 ma st.ld).length:=hi;have:=wf.ll;omega
  have e:=FD (mb:=mb) wf nJ gX a9 (st.ae b) iD;have e2:(st.mv (st.ae b) (st.ae a) mb ma a9).bM i=(st.mv (st.ae b) (st.ae a) mb ma a9).ld[i]:=by
   unfold JS.bM;rw[Yj,Yb hi];rfl
  rw[←e2,e];obtain⟨f1,f2⟩:=wf.jX iD;by_cases z:st.ae i=st.ae a;·rw[if_pos z];exact⟨pR f1 ft (by omega),by rw[iP];exact tl⟩
  ·rw[if_neg z];exact⟨f1,f2⟩
 ·rw[len] at hi;rw[qf (mb:=mb) wf gX a9 hi];show ∃secs,(cS (st.ae a) st.fr).lookup _=some secs/\_;rw[tR (Sh i hi)];by_cases e:st.ae i=st.ae a;·rw[if_pos e];exact⟨_,wf.dN hB⟩
  ·rw[if_neg e];exact⟨_,wf.dN hi⟩
 ·rw[len] at hi;rw[qf (mb:=mb) wf gX a9 hi];show ∃ms,(eC (st.ae b) (mb++ma) (cS (st.ae a) st.mem)).lookup _=some ms/\_;rw[yE,tR (Sh i hi),tR (λz=>ne z.symm),eb];have iff:∀k,k<st.hd.length->((st.mv (st.ae b) (st.ae a) mb ma a9).ae k=(if st.ae k=st.ae a then st.ae b else st.ae k)):=λk hk=>qf (mb:=mb) wf gX a9 hk;by_cases e:(if st.ae i=st.ae a then st.ae b else st.ae i)=st.ae b
  ·rw[if_pos e];refine⟨_,rfl,?_,λk=>?_⟩;·grind
   ·grind
  ·have e1:¬st.ae i=st.ae a:=λz=>e (if_pos z);rw[if_neg e1] at e⊢;rw[if_neg e];obtain⟨ms,m1,m2,m3⟩:=wf.mem i hi
   grind
 ·rw[ky];exact wf.nm.filter _
 ·rw[ky,len];exact λk hk=>wf.lm k (Y5.mp hk).1
 ·rw[kf];exact wf.nf.filter _
 ·rw[kf,len];exact λk hk=>wf.lf k (Y5.mp hk).1
 ·rw[kf,len];intro k hk;obtain⟨m1,m2⟩:=Y5.mp hk;obtain⟨i,hi,e⟩:=wf.hf k m1;refine⟨i,hi,?_⟩;rw[qf (mb:=mb) wf gX a9 hi,if_neg (λz=>of_decide_eq_true m2 (e.symm.trans z))];exact e
theorem Nk(wf:WF n st)(hA:a<st.hd.length)(hB:b<st.hd.length)(ne:st.ae a≠st.ae b)(nJ:ma.Nodup)(gX:∀k,k∈ma↔k<st.hd.length/\st.ae k=st.ae a)(ft:full tn=true)(tl:tn.length=n)(f:Nat->Int):
  c8 (st.mv (st.ae b) (st.ae a) mb ma (bH (inv (st.bM a)) (bH tn (st.bM b)))) f↔∃s:Nat->Int,(∀i,i<st.hd.length->(0<=s (st.ae i)/\s (st.ae i)<(n:Int))/\(st.ae i≠st.ae a->s (st.ae i)∈st.cC (st.ae i))/\f i=ap (st.bM i) (s (st.ae i)))/\f a=ap tn (f b):=by
 obtain⟨fa,la⟩:=wf.jX hA;obtain⟨fb,lb⟩:=wf.jX hB;have fi:=jF fa;have li:(inv (st.bM a)).length=n:=by rw[fF];exact la
 generalize et:bH (inv (st.bM a)) (bH tn (st.bM b))=a9;have IJ:∀z:Int,0<=z/\z<(n:Int)->ap a9 z=ap (inv (st.bM a)) (ap tn (ap (st.bM b) z)):=λz hz=>by
  rw[←et,zS (by rw[iP,lb];exact hz),zS (by rw[lb];exact hz)]
 have ZeH:∀z:Int,0<=z/\z<(n:Int)->0<=ap a9 z/\ap a9 z<(n:Int):=λz hz=>by
  rw[IJ z hz];exact lS fi li (lS ft tl (lS fb lb hz))
 have Qv:a9.length=n:=by rw[←et,iP,iP];exact lb
 constructor
 ·rintro⟨s,h⟩;have h':∀i,i<st.hd.length->s (if st.ae i=st.ae a then st.ae b else st.ae i)∈st.cC (if st.ae i=st.ae a then st.ae b else st.ae i)/\f i=ap (if st.ae i=st.ae a then bH (st.bM i) a9 else st.bM i) (s (if st.ae i=st.ae a then st.ae b else st.ae i)):=λi hi=>by
   have x:=h i (by rw[wK];exact hi);rw[qf (mb:=mb) wf gX a9 hi,FD (mb:=mb) wf nJ gX a9 _ hi,OF] at x;·exact x
   ·by_cases e:st.ae i=st.ae a;·rw[if_pos e];exact λz=>ne z.symm
    ·rw[if_neg e];exact e
  have hb:=h' b hB;rw[if_neg (λz=>ne z.symm),if_neg (λz=>ne z.symm)] at hb;have fh:=(wf.dN hB).2.2 _ hb.1;have eq:∀i,i<st.hd.length->f i=ap (st.bM i) (if st.ae i=st.ae a then ap a9 (s (st.ae b)) else s (st.ae i)):=λi hi=>by
   have x:=(h' i hi).2;by_cases e:st.ae i=st.ae a
   ·rw[if_pos e,if_pos e,zS (by rw[Qv];exact fh)] at x;rw[if_pos e];exact x
   ·rw[if_neg e,if_neg e] at x;rw[if_neg e];exact x
  refine⟨λq=>if q=st.ae a then ap a9 (s (st.ae b)) else s q,λi hi=>⟨?_,λe=>?_,eq i hi⟩,?_⟩
  ·show 0<=(if st.ae i=st.ae a then _ else _)/\(if st.ae i=st.ae a then _ else _)<_;by_cases e:st.ae i=st.ae a;·rw[if_pos e];exact ZeH _ fh
   ·rw[if_neg e];have x:=(h' i hi).1;rw[if_neg e] at x;exact(wf.dN hi).2.2 _ x
  ·show(if st.ae i=st.ae a then _ else _)∈_;have x:=(h' i hi).1;rw[if_neg e] at x;rw[if_neg e];exact x
  ·rw[eq a hA,if_pos rfl,IJ _ fh,Nj fa la (lS ft tl (lS fb lb fh)),hb.2]
 ·rintro⟨s,h,ef⟩;have sb:=(h b hB).1;have sa:=(h a hA).1;have et2:ap a9 (s (st.ae b))=s (st.ae a):=by
   rw[IJ _ sb,←(h b hB).2.2,←ef,(h a hA).2.2,ue fa la sa]
  refine⟨s,λi hi=>?_⟩;rw[wK] at hi;rw[qf (mb:=mb) wf gX a9 hi,FD (mb:=mb) wf nJ gX a9 _ hi,OF]
  ·by_cases e:st.ae i=st.ae a
   ·rw[if_pos e,if_pos e];refine⟨(h b hB).2.1 (λz=>ne z.symm),?_⟩;rw[zS (by rw[Qv];exact sb),et2,←e];exact(h i hi).2.2
   ·rw[if_neg e,if_neg e];exact⟨(h i hi).2.1 e,(h i hi).2.2⟩
  ·by_cases e:st.ae i=st.ae a;·rw[if_pos e];exact λz=>ne z.symm
   ·rw[if_neg e];exact e
end
section
variable {n:Nat}{st:JS}{i j:Nat}{tn ns:List Int}
theorem Mh{P:List (Int×Int)}(pm:ns.Perm ((P.filter λq=>decide (tn.getD q.1.toNat 0=q.2)).map (·.1)))(x:Int):x∈ns↔(x,ap tn x)∈P:=by
 rw[pm.mem_iff,Yf];constructor
 ·rintro⟨⟨u,v⟩,m,rfl⟩;obtain⟨m1,m2⟩:=Y5.mp m;have e:ap tn u=v:=of_decide_eq_true m2;rw[e];exact m1
 ·intro m;exact⟨_,Y5.mpr ⟨m,decide_eq_true rfl⟩,rfl⟩
abbrev JS.bN(st:JS)(i j:Nat):List (Int×Int):=iV (st.ae i) (st.ae j) (st.bM i) (st.bM j) (st.cC (st.ae i)) (st.cC (st.ae j))
theorem Et(ne:st.ae i≠st.ae j){x y:Int}(m:(x,y)∈st.bN i j):(∃z∈st.cC (st.ae i),ap (st.bM i) z=x)/\∃z∈st.cC (st.ae j),ap (st.bM j) z=y:=by
 unfold JS.bN iV at m;rw[if_neg ne] at m;obtain⟨x',mx,my⟩:=Sg.mp m;obtain⟨z1,IG,IH⟩:=Yf.mp mx;obtain⟨z2,II,xZ⟩:=Yf.mp my;exact⟨⟨z1,IG,IH.trans (congrArg (·.1) xZ)⟩,z2,II,(congrArg (·.2) xZ)⟩
theorem OG(wf:WF n st)(hi:i<st.hd.length){x y:Int}(m:(x,y)∈st.bN i j):0<=x/\x<(n:Int):=by
 obtain⟨f1,l1⟩:=wf.jX hi;by_cases e:st.ae i=st.ae j
 ·unfold JS.bN iV at m;rw[if_pos e] at m;obtain⟨z,mz,ez⟩:=Yf.mp m;have e1:ap (st.bM i) z=x:=congrArg (·.1) ez;rw[←e1];exact lS f1 l1 ((wf.dN hi).2.2 z mz)
 ·obtain⟨⟨z,mz,ez⟩,_⟩:=Et e m;rw[←ez];exact lS f1 l1 ((wf.dN hi).2.2 z mz)
theorem Nl(wf:WF n st)(n8:n<=8)(hi:i<st.hd.length)(hj:j<st.hd.length):(st.bN i j).length<=64:=by
 have a:=yB (wf.dN hi).2.1 (wf.dN hi).2.2;have b:=yB (wf.dN hj).2.1 (wf.dN hj).2.2;unfold JS.bN iV;by_cases e:st.ae i=st.ae j;·grind
 ·rw[if_neg e,EM (λ(x z:Int)=>((x,(st.bM j).getD z.toNat 0):Int×Int)),Ya];exact Y6 (Nat.mul_le_mul (show _<=8 by omega) (show _<=8 by omega)) (by omega)
theorem Zal(wf:WF n st)(hi:i<st.hd.length)(hj:j<st.hd.length)(e:st.ae i=st.ae j)(ms:∀x,x∈ns↔(x,ap tn x)∈st.bN i j)(f:Nat->Int):c8 st f/\f i∈ns↔c8 st f/\f j=ap tn (f i):=by
 refine and_congr_right λd=>?_;constructor
 ·intro m;have m':=(ms _).mp m;obtain⟨s,h⟩:=d;unfold JS.bN iV at m';rw[if_pos e] at m';obtain⟨z,mz,ez⟩:=Yf.mp m';have e2:ap (st.bM j) z=ap tn (f i):=congrArg (·.2) ez;obtain⟨f1,l1⟩:=wf.jX hi;have fh:=(wf.dN hi).2.2;rw[(h j hj).2,←e,←(zR f1 l1 (fh z mz) (fh _ (h i hi).1) ((congrArg (·.1) ez).trans (h i hi).2)),e2]
 ·intro m;have:=wk wf hi hj d
  grind
theorem Zbr(wf:WF n st)(hi:i<st.hd.length)(hj:j<st.hd.length)(ne:st.ae i≠st.ae j){ma mb:List Nat}(nJ:ma.Nodup)(gX:∀k,k∈ma↔k<st.hd.length/\st.ae k=st.ae i)(ft:full tn=true)(tl:tn.length=n)(ms:∀x,x∈ns↔(x,ap tn x)∈st.bN i j)(f:Nat->Int):
  c8 (st.mv (st.ae j) (st.ae i) mb ma (bH (inv (st.bM i)) (bH (inv tn) (st.bM j)))) f/\f i∈ns↔c8 st f/\f j=ap tn (f i):=by
 rw[Nk wf hi hj ne nJ gX (jF ft) (by rw[fF];exact tl)];obtain⟨f1,l1⟩:=wf.jX hi;obtain⟨f2,l2⟩:=wf.jX hj;constructor
 ·rintro⟨⟨s,h,ef⟩,m⟩;obtain⟨⟨z,mz,ez⟩,_⟩:=Et ne ((ms _).mp m);have e1:=zR f1 l1 ((wf.dN hi).2.2 z mz) (h i hi).1 (ez.trans (h i hi).2.2);refine⟨⟨s,λk hk=>⟨?_,(h k hk).2.2⟩⟩,?_⟩;·grind
  ·have rj:0<=f j/\f j<(n:Int):=by rw[(h j hj).2.2];exact lS f2 l2 (h j hj).1
   rw[ef,Nj ft tl rj]
 ·rintro⟨d,e⟩;have m:=wk wf hi hj d;rw[e] at m;obtain⟨s,h⟩:=d;refine⟨⟨s,λk hk=>⟨(wf.dN hk).2.2 _ (h k hk).1,λ_=>(h k hk).1,(h k hk).2⟩,?_⟩,(ms _).mpr m⟩;have ri:0<=f i/\f i<(n:Int):=by rw[(h i hi).2];exact lS f1 l1 ((wf.dN hi).2.2 _ (h i hi).1)
  rw[e,ue ft tl ri]
theorem Zbs(wf:WF n st)(hi:i<st.hd.length)(hj:j<st.hd.length)(ne:st.ae i≠st.ae j){ma mb:List Nat}(u5:mb.Nodup)(sI:∀k,k∈mb↔k<st.hd.length/\st.ae k=st.ae j)(ft:full tn=true)(tl:tn.length=n)(ms:∀x,x∈ns↔(x,ap tn x)∈st.bN i j)(f:Nat->Int):
  c8 (st.mv (st.ae i) (st.ae j) ma mb (bH (inv (st.bM j)) (bH tn (st.bM i)))) f/\f i∈ns↔c8 st f/\f j=ap tn (f i):=by
 rw[Nk wf hj hi (λz=>ne z.symm) u5 sI ft tl];obtain⟨f2,l2⟩:=wf.jX hj;constructor
 ·rintro⟨⟨s,h,ef⟩,m⟩;obtain⟨_,z,mz,ez⟩:=Et ne ((ms _).mp m);have e1:=zR f2 l2 ((wf.dN hj).2.2 z mz) (h j hj).1 ((ez.trans ef.symm).trans (h j hj).2.2);refine⟨⟨s,λk hk=>⟨?_,(h k hk).2.2⟩⟩,ef⟩
  grind
 ·rintro⟨d,e⟩;have m:=wk wf hi hj d;rw[e] at m;obtain⟨s,h⟩:=d;exact⟨⟨s,λk hk=>⟨(wf.dN hk).2.2 _ (h k hk).1,λ_=>(h k hk).1,(h k hk).2⟩,e⟩,(ms _).mpr m⟩
end
def rF(st aN:JS)(i j:Nat):Prop:=∀a c,a<st.hd.length->c<st.hd.length->(aN.ae a=aN.ae c↔st.ae a=st.ae c\/(st.ae a=st.ae i/\st.ae c=st.ae j)\/(st.ae a=st.ae j/\st.ae c=st.ae i))
theorem Zam{st:JS}{i j:Nat}(e:st.ae i=st.ae j):rF st st i j:=λa c _ _=>⟨.inl,λh=>h.elim id λh=>h.elim (λh=>h.1.trans (e.trans h.2.symm)) λh=>h.1.trans (e.symm.trans h.2.symm)⟩
theorem OH{n:Nat}{st:JS}(wf:WF n st){a b:Nat}{ma mb:List Nat}(im:∀k,k∈ma↔k<st.hd.length/\st.ae k=st.ae a)(a9:List Int)(ne:st.ae a≠st.ae b):rF st (st.mv (st.ae b) (st.ae a) mb ma a9) a b:=λx y hx hy=>by
 rw[qf wf im a9 hx,qf wf im a9 hy]
 grind
theorem rF.symm{st aN:JS}{i j:Nat}(h:rF st aN j i):rF st aN i j:=λa c ha hc=>(h a c ha hc).trans (or_congr Iff.rfl or_comm)
structure OI(n:Nat)(st aN:JS)(b:Bool)(i j:Nat)(tn:List Int):Prop where
 wf:WF n aN
 len:aN.hd.length=st.hd.length
 yes:b=true->(∃f,c8 aN f)/\∀f,c8 aN f↔c8 st f/\f j=ap tn (f i)
 no:b=false->aN=st/\∀f,c8 st f->f j≠ap tn (f i)
 hds:b=true->rF st aN i j
inductive Pz(C:Addr)(vs:List V)(H:Hp)(Q:VK)(E:XK):Prop
 |mk (l:JL) (st:JS) (n i j:Nat) (tn:List Int) (tu:Addr) (aE:vs=[.ref l.J,.int (i:Int),.int (j:Int),.ref tu]) (aU:cG H C n l st) (bc:WF n st) (bL:(∃f,c8 st f)) (cL:n<=8) (d5:st.hd.length<=400) (gU:i<st.hd.length) (jd:j<st.hd.length) (qA:H tu=some (.tup (tn.map V.int))) (xI:full tn=true) (Gs:tn.length=n) (Qq:∀(b:Bool) (l':JL) (aN:JS) (H':Hp),l'.J=l.J->(∀c∈l'.fp,c∈l.fp)->Out l.fp H H'->cG H' C n l' aN->OI n st aN b i j tn->Q (.bl b) H')
section
variable {K:ai}{mg:aX}
theorem Kh:aQ ["self","one","other","turn","sections"] kU (aK DC):=.a8
theorem Zc5(F:aL K "tie" "Joins.tie" DC f fd)(jc:mS K C)(tI:bT P w K mg base 4 "left" C kU (FA C))(sY:bT P w K mg base 1 "together" C qo (D4 C))(BU:bT P w K mg base 3 "bring_together" C kU (Nh C))(sZ:bT P w K mg base 2 "narrow" C An (EL K C))(bl:Bl mg):aH P w K mg base aM 5 f fd kU (Pz C):=by
 refine F.o Kh λs H hr h=>?_;obtain⟨l,st,n,i,j,tn,tu,rfl,ja,wf,live,n8,m4,hi,hj,hu,ft,tl,q⟩:=h;refine⟨_,(aq (bY 4 Kh.nd (cH tI hr (by omega) (pv 0) (aa (pv 1) (aa (pv 2) (aa (pv 3) ag))))) (aq (aR (hX (Ll (K:=K) rfl (LI (pv 4) (λ_=>rfl)))) (au (aG ib)) aY) (aq (aR (hX (d9 (cH sY hr (by omega) (pv 0) (aa (pv 1) (aa (pv 2) ag))))) (au (bZ (cH BU hr (by omega) (pv 0) (aa (pv 1) (aa (pv 2) (aa (pv 3) ag)))))) aY) (aq (bZ (cH sZ hr (by omega) (pv 0) (aa (pv 1) (aa (pv 4) ag)))) (au (aG ib)))))),?_⟩;obtain⟨dx,ho⟩:=ja.obj;have pf:=Nl wf n8 hi hj;refine cq ?_;refine⟨_,rfl,l.J,dx,_,rfl,ho,rfl,_,rfl,_,rfl,_,rfl,l,st,n,i,j,_,_,_,_,_,_,tn,tu,rfl,ja,wf.one n8 hi,wf.one n8 hj,hu,λp hp=>by rw[tl];exact OG wf hi (x:=p.1) (y:=p.2) hp,Y6 pf (by omega),λp ns H1 np g1 hp pm _=>?_⟩;have ms:=Mh pm;refine lO (λσ H2=>σ=[some (.ref l.J),some (.int (i:Int)),some (.int (j:Int)),some (.ref tu),some (.ref p)]/\H2=H1/\ns≠[]) (λnx hn=>?_) ?_
 ·refine⟨_,rfl,_,.inl ⟨_,ak.of hp,rfl⟩,?_⟩;refine bI (λc=>?_) (λc=>aW (hn _ _ ⟨rfl,rfl,λz=>?_⟩))
  ·have e:ns=[]:=by
    cases ns with
    |nil=>rfl
    |cons a r=>cases c
   refine q false l st H1 rfl (λ_ h=>h) (Out.of g1) (ja.same g1) ⟨wf,rfl,(λz=>nomatch z),λ_=>⟨rfl,λf d z=>?_⟩,(λz=>nomatch z)⟩;have m:=wk wf hi hj d;rw[z] at m;have:=(ms _).mpr m;rw[e] at this;cases this
  ·rw[z] at c;exact c rfl
 rintro _ _ ⟨rfl,rfl,nne⟩;refine lO (λσ H2=>σ=[some (.ref l.J),some (.int (i:Int)),some (.int (j:Int)),some (.ref tu),some (.ref p)]/\∃(l1:JL) (nK:JS),l1.J=l.J/\(∀c∈l1.fp,c∈l.fp)/\Out l.fp H H2/\cG H2 C n l1 nK/\H2 p=some (.lst (ns.map V.int))/\WF n nK/\nK.hd.length=st.hd.length/\(∀f,c8 nK f/\f i∈ns↔c8 st f/\f j=ap tn (f i))/\rF st nK i j) (λnx hn=>?_) ?_
 ·refine⟨_,rfl,l.J,dx,_,rfl,g1 _ _ ho,rfl,_,rfl,_,rfl,l,st,n,i,j,_,_,rfl,ja.same g1,wx hi,wx hj,_,rfl,?_⟩;refine bI (λc=>?_) (λc=>aW (hn _ _ ⟨rfl,l,st,rfl,λ_ h=>h,Out.of g1,ja.same g1,hp,wf,rfl,?_,?_⟩))
  ·have ne:st.ae i≠st.ae j:=λz=>by
    rw[decide_eq_true z] at c;cases c
   obtain⟨ma,mb,two,⟨nJ,gX⟩,u5,sI⟩:=wf.two hi hj m4 ne;refine⟨_,rfl,l.J,dx,_,rfl,g1 _ _ ho,rfl,_,rfl,_,rfl,_,rfl,l,st,n,i,j,_,_,_,_,tn,_,_,tu,ma,mb,rfl,ja.same g1,g1 _ _ hu,n8,tl,ft,two,λl1 nK H2 k1 k2 o2 j2 es=>hn _ _ ⟨rfl,l1,nK,k1,k2,(Out.of g1).trans o2,j2,o2 _ _ hp (λz=>ja.ne np z),?_⟩⟩;obtain⟨fi,li⟩:=wf.jX hi;obtain⟨fj,lj⟩:=wf.jX hj;rcases es with rfl|rfl;·exact⟨wf.mv hi hj ne nJ gX u5 sI two.mB (pR (jF fi) (pR (jF ft) fj (by rw[fF];omega)) (by rw[fF,iP];omega)) (by rw[iP,iP];exact lj),wK _ _ _,λf=>Zbr wf hi hj ne nJ gX ft tl ms f,OH wf gX _ ne⟩
   ·exact⟨wf.mv hj hi (λz=>ne z.symm) u5 sI nJ gX two.mA (pR (jF fj) (pR ft fi (by omega)) (by rw[fF,iP];omega)) (by rw[iP,iP];exact li),wK _ _ _,λf=>Zbs wf hi hj ne u5 sI ft tl ms f,(OH wf sI _ (λz=>ne z.symm)).symm⟩
  ·have e:st.ae i=st.ae j:=by
    by_cases z:st.ae i=st.ae j;·exact z
    ·rw[decide_eq_false z] at c;exact absurd rfl c
   exact λf=>Zal wf hi hj e ms f
  ·have e:st.ae i=st.ae j:=by
    by_cases z:st.ae i=st.ae j;·exact z
    ·rw[decide_eq_false z] at c;exact absurd rfl c
   exact Zam e
 rintro _ H2 ⟨rfl,l1,nK,k1,k2,o2,j2,dF,x6,Qw,iff,hdj⟩;obtain⟨qJ,sD⟩:=j2.obj;have Bo:i<nK.hd.length:=by rw[Qw];exact hi
 have fl:=x6.z6;refine⟨_,rfl,l1.J,qJ,_,by rw[k1],sD,rfl,_,rfl,_,rfl,l1,nK,n,i,_,_,_,ns,p,by rw[k1];rfl,j2,x6.one n8 Bo,by omega,ak.of dF,λl2 H3 k3 k4 o3 j3=>?_⟩;refine q true l2 _ H3 (k3.trans k1) (λc hc=>k2 c (by rw[←k4];exact hc)) (λb o e nb=>o3 _ _ (o2 _ _ e nb) λz=>nb (k2 b z)) j3 ⟨x6.kP Bo,Qw,λ_=>⟨?_,λf=>?_⟩,(λz=>nomatch z),λ_=>hdj⟩
 ·obtain⟨x,mx⟩:∃x,x∈ns:=by
   cases ns with
   |nil=>exact absurd rfl nne
   |cons a r=>exact⟨a,Yg⟩
  obtain⟨f,d,e1,e2⟩:=Mg wf hi hj live ((ms x).mp mx);refine⟨f,(vU x6 Bo ns f).mpr ((iff f).mpr ⟨d,?_⟩)⟩;rw[e2,e1]
 ·exact(vU x6 Bo ns f).trans (iff f)
end
def oG(xs ys:List Int):Prop:=full xs=true/\full ys=true/\xs.length=ys.length/\2<=xs.length/\xs.length<=8
theorem XN(g:oG xs ys)(h:(z,ns)∈zQ xs ys):full ns=true/\ns.length=xs.length:=by
 obtain⟨fx,fy,e,_,_⟩:=g;have fa:=EJ fx fy e;simp only[Yn,Y2,or_false,Prod.mk.injEq] at h;rcases h with⟨rfl,rfl⟩|⟨rfl,rfl⟩|⟨rfl,rfl⟩|⟨rfl,rfl⟩|⟨rfl,rfl⟩|⟨rfl,rfl⟩|⟨rfl,rfl⟩;·exact⟨fx,rfl⟩
 ·exact⟨fa,by rw[q0];exact e.symm⟩
 ·exact⟨fy,e.symm⟩
 ·exact⟨jF fx,fF _⟩
 ·exact⟨jF fa,by rw[fF,q0];exact e.symm⟩
 ·exact⟨jF fy,by rw[fF];exact e.symm⟩
 ·exact⟨rf (List.Perm.refl _),eQ _⟩
structure Fc where
 k:Str
 one:Nat
 aJ:Int
 tn:List Int
abbrev bF:Str:="said"
def fI(F:List Fc)(x y:Nat)(t:List Int):Prop:=∃c∈F,c.k≠bF/\((c.one=x/\c.aJ.toNat=y/\t=c.tn)\/(c.aJ.toNat=x/\c.one=y/\t=inv c.tn))
def jn(n:Nat)(F:List Fc)(g:Nat->Option Int):Prop:=(∀x y t u,fI F x y t->g x=some u->g y=some (ap t u))/\(∀c∈F,c.k=bF->∀u,g c.one=some u->u=c.aJ)/\∀k v,g k=some v->0<=v/\v<(n:Int)
structure dP(n m:Nat)(c:Fc):Prop where
 one:c.one<m
 gI:c.k≠bF->(0<=c.aJ/\c.aJ.toNat<m)/\full c.tn=true/\c.tn.length=n
def r8(L:Nat->List (Nat×List Int))(x:Nat)(p:Nat×List Int):Nat->List (Nat×List Int):=λz=>if z=x then L x++[p] else L z
theorem tT{kvs:List (Key×V)}{k k':Key}{v:V}(h:aS kvs k=none):aS (kvs++[(k,v)]) k'=if k'=k then some v else aS kvs k':=by
 rw[←kG v h];exact ZN _ _ _ _
theorem Mi:q∈r8 L x p z↔q∈L z\/(z=x/\q=p):=by
 unfold r8;by_cases e:z=x
 ·rw[if_pos e,Yv,e];simp
 ·rw[if_neg e];simp[e]
theorem Zan:¬fI [] x y t:=λ⟨_,m,_⟩=>nomatch m
theorem pS:fI (F++[c]) x y t↔fI F x y t\/(c.k≠bF/\((c.one=x/\c.aJ.toNat=y/\t=c.tn)\/(c.aJ.toNat=x/\c.one=y/\t=inv c.tn))):=by
 constructor
 ·rintro⟨c',m,h1,h2⟩;rcases Yv.mp m with m|m;·exact .inl ⟨c',m,h1,h2⟩
  ·rw[Yo] at m;subst m;exact .inr ⟨h1,h2⟩
 ·rintro(⟨c',m,h⟩|h);·exact⟨c',Yt _ m,h⟩
  ·exact⟨c,Yp _ Yg,h⟩
theorem lookup_mem:∀{ps:List (Nat×α)} {k:Nat} {v:α},ps.lookup k=some v->(k,v)∈ps
 |[],_,_,h=>by simp at h
 |p::ps,k,v,h=>by
  rw[W1] at h;by_cases e:k=p.1;·grind
  ·rw[beq_eq_false_iff_ne.mpr e] at h;exact Ys _ (lookup_mem h)
theorem mem_lookup:∀{ps:List (Nat×α)} {k:Nat} {v:α},(ps.map (·.1)).Nodup->(k,v)∈ps->ps.lookup k=some v
 |p::ps,k,v,nd,h=>by
  obtain⟨n1,n2⟩:=Yy.mp (show(p.1::ps.map (·.1)).Nodup from nd);rw[W1];rcases Yn.mp h with h|h;·grind
  ·have e:k≠p.1:=λz=>n1 (by rw[←z];exact Yf.mpr ⟨_,h,rfl⟩);rw[beq_eq_false_iff_ne.mpr e];exact mem_lookup n2 h
theorem yM{α:Type}{ps:List (Nat×α)}{q:Nat×α}{k:Nat}{v:α}(h:ps.lookup k=some v):(ps++[q]).lookup k=some v:=by
 grind
theorem KZ{α:Type}{ps:List (Nat×α)}{k:Nat}{v:α}(h:ps.lookup k=none):(ps++[(k,v)]).lookup k=some v:=by
 grind
theorem wy(ok:∀c∈F,dP n m c)(e:fI F x y t):x<m/\y<m/\full t=true/\t.length=n:=by
 obtain⟨c,mc,ns,h⟩:=e;obtain⟨⟨o0,om⟩,ft,tl⟩:=(ok c mc).gI ns;have o1:=(ok c mc).one;rcases h with⟨rfl,rfl,rfl⟩|⟨rfl,rfl,rfl⟩;·grind
 ·exact⟨om,o1,jF ft,by rw[fF];exact tl⟩
inductive dC(F:List Fc)(x:Nat):Nat->Prop
 |refl:dC F x x
 |step {y z:Nat} {t:List Int}:dC F x y->fI F y z t->dC F x z
structure BF(F:List Fc)(n m x:Nat)(a:Int)(g:List (Nat×Int)):Prop where
 nd:(g.map (·.1)).Nodup
 lt:∀p∈g,p.1<m/\0<=p.2/\p.2<(n:Int)
 hd:g.lookup x=some a
 snd:∀g',jn n F g'->g' x=some a->∀p∈g,g' p.1=some p.2
 conn:∀p∈g,dC F x p.1
section
variable {F:List Fc}{n m x:Nat}{a:Int}{g:List (Nat×Int)}
theorem bf0(hx:x<m)(ha:0<=a/\a<(n:Int)):BF F n m x a [(x,a)]:=by
 refine⟨by simp,λp hp=>?_,by simp,λg' _ h p hp=>?_,λp hp=>?_⟩;·grind
 ·grind
 ·rw[Yo] at hp;rw[hp];exact .refl
theorem BF.len(b:BF F n m x a g):g.length<=m:=by
 have:=vR b.nd λk hk=>by
  obtain⟨p,hp,rfl⟩:=Yf.mp hk;exact(b.lt p hp).1
 grind
theorem BF.add(b:BF F n m x a g)(ok:∀c∈F,dP n m c){k y:Nat}{t:List Int}{v:Int}(e:fI F k y t)(hk:g.lookup k=some v)(hy:g.lookup y=none):BF F n m x a (g++[(y,ap t v)]):=by
 obtain⟨_,ym,ft,tl⟩:=wy ok e;have mk:=lookup_mem hk;refine⟨?_,λp hp=>?_,yM b.hd,λg' c h p hp=>?_,λp hp=>?_⟩
 ·rw[Yq];refine Ww.mpr ⟨b.nd,by simp,λu hu w hw z=>?_⟩
  grind
 ·rcases Yv.mp hp with hp|hp;·exact b.lt p hp
  ·rw[Yo] at hp;rw[hp];exact⟨ym,lS ft tl (b.lt _ mk).2⟩
 ·rcases Yv.mp hp with hp|hp;·exact b.snd g' c h p hp
  ·rw[Yo] at hp;rw[hp];exact c.1 k y t v e (b.snd g' c h _ mk)
 ·rcases Yv.mp hp with hp|hp;·exact b.conn p hp
  ·rw[Yo] at hp;rw[hp];exact .step (b.conn _ mk) e
theorem BF.ZdQ(b:BF F n m x a g)(e:fI F k y t)(hk:g.lookup k=some v)(hy:g.lookup y=some v')(ne:v'≠ap t v):¬∃g',jn n F g'/\g' x=some a:=by
 rintro⟨g',c,h⟩;have h2:=b.snd g' c h _ (lookup_mem hy);have h3:=c.1 k y t v e (b.snd g' c h _ (lookup_mem hk))
 grind
theorem BF.Zc6(b:BF F n m x a g)(mc:c∈F)(sd:c.k=bF)(hk:g.lookup c.one=some v)(ne:v≠c.aJ):¬∃g',jn n F g'/\g' x=some a:=by
 rintro⟨g',cl,h⟩;exact ne (cl.2.1 c mc sd v (b.snd g' cl h _ (lookup_mem hk)))
def Cl(L:Nat->List (Nat×List Int))(g:List (Nat×Int))(r:Nat):Prop:=∀p,g[r]?=some p->∀q∈L p.1,g.lookup q.1=some (ap q.2 p.2)
theorem BF.done(b:BF F n m x a g)(ed:∀x y t,(y,t)∈L x↔fI F x y t)(cl:∀r,r<g.length->Cl L g r)(sd:∀c∈F,c.k=bF->∀u,g.lookup c.one=some u->u=c.aJ):jn n F (λk=>g.lookup k):=by
 refine⟨λk y t u e hk=>?_,sd,λk v h=>(b.lt _ (lookup_mem h)).2⟩;obtain⟨r,hr,er⟩:=Wu.mp (lookup_mem hk);have:=cl r hr (k,u) (by rw[Yb hr,er]) (y,t) ((ed _ _ _).mpr e);exact this
end
theorem yF{α:Type}{ps qs:List (Nat×α)}{k:Nat}{v:α}(h:ps.lookup k=some v):(ps++qs).lookup k=some v:=by
 grind
theorem Cl.app(hr:r<g.length)(c:Cl L g r):Cl L (g++tl) r:=λp hp q hq=>by
 rw[Wb hr] at hp;exact yF (c p hp q hq)
open Classical in
noncomputable def iW (F:List Fc) (n x:Nat):List Int:=(bh n).filter λa=>decide (∃g,jn n F g/\g x=some a)
def eS(f:Nat->Int)(c:Fc):Prop:=(c.k=bF->f c.one=c.aJ)/\(c.k≠bF->f c.aJ.toNat=ap c.tn (f c.one))
def lu(n m:Nat)(f:Nat->Int):Prop:=∀i,i<m->0<=f i/\f i<(n:Int)
structure dD(n:Nat)(st:JS)(F:List Fc):Prop where
 wf:WF n st
 jh:∀c∈F,dP n st.hd.length c
 iff:∀f,c8 st f↔lu n st.hd.length f/\∀c∈F,eS f c
 live:∃f,c8 st f
 conn:∀i j,i<st.hd.length->j<st.hd.length->(st.ae i=st.ae j↔dC F i j)
theorem Vj{f:Nat->Int}(ok:∀c∈F,dP n m c)(inr:lu n m f)(sat:∀c∈F,eS f c):∃g,jn n F g/\∀x,x<m->g x=some (f x):=by
 refine⟨λi=>if i<m then some (f i) else none,⟨λu v t a e hu=>?_,λc mc sd u hu=>?_,λk v hk=>?_⟩,λx hx=>if_pos hx⟩
 ·obtain⟨um,vm,_,_⟩:=wy ok e;obtain⟨c,mc,ns,h⟩:=e;have s:=(sat c mc).2 ns;obtain⟨_,ft,tl⟩:=(ok c mc).gI ns;have e1:f u=a:=by
   grind
  show(if v<m then some (f v) else none)=_;rw[if_pos vm];rcases h with⟨rfl,rfl,rfl⟩|⟨rfl,rfl,rfl⟩;·rw[s,e1]
  ·rw[←e1,s,ue ft tl (inr _ (ok c mc).one)]
 ·have xW:(if c.one<m then some (f c.one) else none)=some u:=hu;rw[if_pos (ok c mc).one] at xW;rw[←Ym xW];exact(sat c mc).1 sd
 ·have xP:(if k<m then some (f k) else none)=some v:=hk;by_cases z:k<m
  ·rw[if_pos z] at xP;rw[←Ym xP];exact inr k z
  ·grind
theorem VI{f:Nat->Int}(ok:∀c∈F,dP n m c)(hx:x<m)(inr:lu n m f)(sat:∀c∈F,eS f c):∃g,jn n F g/\g x=some (f x):=by
 obtain⟨g,c,h⟩:=Vj ok inr sat
 grind
theorem Vk(ok:∀c∈F,dP n m c)(inr:lu n m f0)(sat:∀c∈F,c.one=x\/eS f0 c)(cl:jn n F g)(hx:g x=some a):∃f,lu n m f/\(∀c∈F,eS f c)/\f x=a/\∀i,f i=(g i).getD (f0 i):=by
 refine⟨λi=>(g i).getD (f0 i),λi hi=>?_,λc mc=>⟨λsd=>?_,λns=>?_⟩,by show(g x).getD _=a;rw[hx];rfl,λ_=>rfl⟩
 ·show 0<=(g i).getD (f0 i)/\(g i).getD (f0 i)<_;cases e:g i with
  |none=>exact inr i hi
  |some v=>exact cl.2.2 i v e
 ·show(g c.one).getD (f0 c.one)=_;cases e:g c.one with
  |none=>
   rcases sat c mc with h|h;·grind
   ·exact h.1 sd
  |some v=>exact cl.2.1 c mc sd v e
 ·show(g c.aJ.toNat).getD (f0 c.aJ.toNat)=ap c.tn ((g c.one).getD (f0 c.one));have ed1:fI F c.one c.aJ.toNat c.tn:=⟨c,mc,ns,.inl ⟨rfl,rfl,rfl⟩⟩;have ed2:fI F c.aJ.toNat c.one (inv c.tn):=⟨c,mc,ns,.inr ⟨rfl,rfl,rfl⟩⟩;cases e:g c.one with
  |some v=>
   rw[cl.1 _ _ _ v ed1 e];rfl
  |none=>
   have e2:g c.aJ.toNat=none:=by
    cases z:g c.aJ.toNat with
    |none=>rfl
    |some v=>rw[cl.1 _ _ _ v ed2 z] at e;cases e
   rw[e2];rcases sat c mc with h|h;·grind
   ·exact h.2 ns
theorem Ki(ok:∀c∈F,dP n m c)(inr:lu n m f0)(sat:∀c∈F,c.one=x\/eS f0 c)(cl:jn n F g)(hx:g x=some a):∃f,lu n m f/\(∀c∈F,eS f c)/\f x=a:=by
 obtain⟨f,h1,h2,h3,_⟩:=Vk ok inr sat cl hx
 grind
open Classical in
theorem Eu:a∈iW F n x↔(0<=a/\a<(n:Int))/\∃g,jn n F g/\g x=some a:=by
 unfold iW;rw[Y5,decide_eq_true_iff];refine and_congr_left λ_=>?_;unfold bh;rw[Yf];constructor
 ·rintro⟨i,hi,rfl⟩;have:=Wl.mp hi;omega
 ·intro h;exact⟨a.toNat,Wl.mpr (by omega),Wy h.1⟩
section
variable {n x:Nat}{st:JS}{F:List Fc}
theorem dD.room(me:dD n st F)(hx:x<st.hd.length)(a:Int):a∈iW F n x↔∃f,c8 st f/\f x=a:=by
 rw[Eu];constructor
 ·rintro⟨_,g,cl,h⟩;obtain⟨f0,d0⟩:=me.live;obtain⟨i0,s0⟩:=(me.iff f0).mp d0;obtain⟨f,i1,s1,e⟩:=Ki me.jh i0 (λc mc=>.inr (s0 c mc)) cl h;exact⟨f,(me.iff f).mpr ⟨i1,s1⟩,e⟩
 ·rintro⟨f,d,rfl⟩;obtain⟨i1,s1⟩:=(me.iff f).mp d;exact⟨i1 x hx,VI me.jh hx i1 s1⟩
theorem dD.put(me:dD n st F)(ok:dP n st.hd.length c)(wf':WF n aN)(len:aN.hd.length=st.hd.length)(live:∃f,c8 aN f)(iff:∀f,c8 aN f↔c8 st f/\eS f c)(cn:∀i j,i<st.hd.length->j<st.hd.length->(aN.ae i=aN.ae j↔dC (F++[c]) i j)):dD n aN (F++[c]):=by
 refine⟨wf',λc' m'=>?_,λf=>?_,live,by rw[len];exact cn⟩
 ·rw[len];rcases Yv.mp m' with m'|m';·exact me.jh c' m'
  ·grind
 ·rw[iff,me.iff,len,and_assoc]
  grind
theorem Mj(F:List Fc)(n x:Nat):(iW F n x).Pairwise (·<=·)/\(iW F n x).Nodup:=by
 have pw:(bh n).Pairwise (·<=·):=by
  unfold bh;rw[Ws];exact List.pairwise_lt_range.imp λh=>by omega
 exact⟨pw.filter _,(AX.DP n).filter _⟩
theorem dD.opn(me:dD n st F)(hx:x<st.hd.length)(pm:ns.Perm ((st.cC (st.ae x)).map λz=>(st.bM x).getD z.toNat 0))(so:ns.Pairwise (·<=·)):ns=iW F n x:=by
 obtain⟨p1,p2⟩:=Mj F n x;refine List.Perm.eq_of_pairwise (le:=(·<=·)) (λa b _ _ h1 h2=>by omega) so p1 (pm.trans ((List.perm_ext_iff_of_nodup ((me.wf.dist hx)) p2).mpr λa=>?_));rw[me.room hx,Yf];constructor
 ·rintro⟨z,mz,rfl⟩;obtain⟨f0,d0⟩:=me.live;obtain⟨f,d,q⟩:=yX me.wf d0 (st.ae x) (st.ae x) z z mz mz (λ_=>rfl);exact⟨f,d,(q x hx).1 rfl⟩
 ·rintro⟨f,⟨s,h⟩,rfl⟩;exact⟨s (st.ae x),(h x hx).1,(h x hx).2.symm⟩
theorem kI(hi:i<st.hd.length):(st.more n).ae i=st.ae i:=by
 show(st.hd++[_]).getD i 0=st.hd.getD i 0
 grind
theorem oa:(st.more n).ae st.hd.length=st.hd.length:=by
 show(st.hd++[_]).getD _ 0=_;simp
theorem Ml(wf:WF n st)(hi:i<st.hd.length):(st.more n).bM i=st.bM i:=by
 show(st.ld++[_]).getD i []=st.ld.getD i [];rw[Yj,Wb (by rw[wf.ll];exact hi),←Yj]
theorem Lx(wf:WF n st):(st.more n).bM st.hd.length=bh n:=by
 show(st.ld++[_]).getD _ []=_;rw[←wf.ll];simp
theorem DF{α:Type}{ps:List (Nat×α)}{k:Nat}{v:α}(h:k∉ps.map (·.1)):(ps++[(k,v)]).lookup k=some v:=by
 refine KZ ?_;cases e:ps.lookup k with
 |none=>rfl
 |some x=>exact absurd (D6 e) h
theorem iJ:(st.more n).hd.length=st.hd.length+1:=by
 show(st.hd++[_]).length=_;simp
theorem Zj(n:Nat):full (bh n)=true/\(bh n).length=n:=⟨rf (List.Perm.refl (bh n)),eQ n⟩
theorem Nm(h:0<=z/\z<(n:Int)):ap (bh n) z=z:=by
 show(bh n).getD z.toNat 0=z;rw[Yj,lJ (by omega)]
 grind
theorem EN:z∈bh n↔0<=z/\z<(n:Int):=by
 unfold bh;rw[Yf];constructor;·grind
 ·intro h;exact⟨z.toNat,Wl.mpr (by omega),Wy h.1⟩
theorem WF.xk(wf:WF n st)(hi:i<st.hd.length):st.ae i<st.hd.length:=wf.lf _ (D6 (wf.dN hi).1)
theorem WF.more(wf:WF n st):WF n (st.more n):=by
 have nm:st.hd.length∉st.mem.map (·.1):=λz=>Y8 _ (wf.lm _ z);have nf:st.hd.length∉st.fr.map (·.1):=λz=>Y8 _ (wf.lf _ z);have km:(st.more n).mem.map (·.1)=st.mem.map (·.1)++[st.hd.length]:=by
  show(st.mem++[(st.hd.length,[st.hd.length])]).map (·.1)=_;rw[Yq];rfl
 have kf:(st.more n).fr.map (·.1)=st.fr.map (·.1)++[st.hd.length]:=by
  show(st.fr++[(st.hd.length,bh n)]).map (·.1)=_;rw[Yq];rfl
 have nd:∀{xs:List Nat},xs.Nodup->st.hd.length∉xs->(xs++[st.hd.length]).Nodup:=λ{xs} h h'=>Ww.mpr ⟨h,by simp,λu hu w hw z=>by
  have:w=st.hd.length:=by simpa using hw
  rw[z,this] at hu;exact h' hu⟩
 refine⟨?_,λt ht=>?_,λi hi=>?_,λi hi=>?_,?_,?_,?_,?_,?_⟩
 ·show(st.ld++[_]).length=(st.hd++[_]).length;rw[Yl,Yl,wf.ll];rfl
 ·rcases Yv.mp (show t∈st.ld++[_] from ht) with h|h;·exact wf.fl t h
  ·rw[Yo] at h;rw[h];exact Zj n
 ·rw[iJ] at hi;by_cases z:i=st.hd.length
  ·rw[z,oa];exact⟨bh n,DF nf,AX.DP n,λz hz=>EN.mp hz⟩
  ·rw[kI (by omega)];exact⟨_,yM (wf.dN (i:=i) (by omega)).1,(wf.dN (i:=i) (by omega)).2⟩
 ·rw[iJ] at hi;by_cases z:i=st.hd.length
  ·rw[z,oa];refine⟨[st.hd.length],DF nm,by simp,λk=>?_⟩;rw[Yo,iJ];constructor
   ·rintro rfl;exact⟨by omega,oa⟩
   ·rintro⟨h1,h2⟩;by_cases w:k=st.hd.length;·exact w
    ·rw[kI (by omega)] at h2;have:=wf.xk (i:=k) (by omega);omega
  ·obtain⟨ms,e,a,b⟩:=wf.mem i (by omega);rw[kI (by omega)];refine⟨ms,yM e,a,λk=>?_⟩;rw[b,iJ];constructor
   ·rintro⟨h1,h2⟩;exact⟨by omega,by rw[kI h1];exact h2⟩
   ·rintro⟨h1,h2⟩;by_cases w:k=st.hd.length
    ·rw[w,oa] at h2;have:=wf.xk (i:=i) (by omega);omega
    ·rw[kI (by omega)] at h2;exact⟨by omega,h2⟩
 ·rw[km];exact nd wf.nm nm
 ·rw[km,iJ];intro k hk;rcases Yv.mp hk with h|h;·have:=wf.lm k h;omega
  ·rw[Yo] at h;omega
 ·rw[kf];exact nd wf.nf nf
 ·rw[kf,iJ];intro k hk;rcases Yv.mp hk with h|h;·have:=wf.lf k h;omega
  ·rw[Yo] at h;omega
 ·rw[kf,iJ];intro k hk;rcases Yv.mp hk with h|h
  ·obtain⟨i,hi,e⟩:=wf.hf k h;exact⟨i,by omega,by rw[kI hi];exact e⟩
  ·rw[Yo] at h;exact⟨st.hd.length,by omega,by rw[oa,h]⟩
theorem Ly(wf:WF n st)(f:Nat->Int):c8 (st.more n) f↔c8 st f/\(0<=f st.hd.length/\f st.hd.length<(n:Int)):=by
 have x8:(st.more n).cC st.hd.length=bh n:=by
  show((st.fr++[(st.hd.length,bh n)]).lookup st.hd.length).getD []=_;rw[DF (λz=>Y8 _ (wf.lf _ z))];rfl
 have Si:∀i,i<st.hd.length->(st.more n).cC (st.ae i)=st.cC (st.ae i):=λi hi=>by
  show((st.fr++[(st.hd.length,bh n)]).lookup _).getD []=_;rw[yM (wf.dN hi).1];rfl
 constructor
 ·rintro⟨s,h⟩;refine⟨⟨s,λi hi=>?_⟩,?_⟩
  ·have x:=h i (by rw[iJ];omega);rw[kI hi,Ml wf hi,Si i hi] at x;exact x
  ·have x:=h st.hd.length (by rw[iJ];omega);rw[oa,Lx wf,x8] at x;have b:=EN.mp x.1;rw[x.2,Nm b];exact b
 ·rintro⟨⟨s,h⟩,b⟩;refine⟨λq=>if q=st.hd.length then f st.hd.length else s q,λi hi=>?_⟩;rw[iJ] at hi;by_cases z:i=st.hd.length
  ·rw[z,oa,Lx wf,x8];show(if st.hd.length=st.hd.length then _ else _)∈_/\f st.hd.length=ap _ (if st.hd.length=st.hd.length then _ else _);rw[if_pos rfl,Nm b];exact⟨EN.mpr b,rfl⟩
  ·have iD:i<st.hd.length:=by omega
   have:=wf.xk iD;rw[kI iD,Ml wf iD,Si i iD]
   grind
theorem Zbt(ok:∀c∈F,dP n m c)(h:dC F x y)(hx:x<m):y<m:=by
 cases h with
 |refl=>exact hx
 |step _ e=>exact(wy ok e).2.1
theorem dD.more(me:dD n st F)(n0:0<n):dD n (st.more n) F:=by
 refine⟨me.wf.more,λc mc=>?_,λf=>?_,?_,λi j hi hj=>?_⟩
 ·have ok:=me.jh c mc;rw[iJ];exact⟨Wv ok.one,λns=>⟨⟨(ok.gI ns).1.1,Wv (ok.gI ns).1.2⟩,(ok.gI ns).2⟩⟩
 ·rw[Ly me.wf,me.iff,iJ];constructor
  ·rintro⟨⟨h1,h2⟩,h3⟩;refine⟨λi hi=>?_,h2⟩;by_cases z:i=st.hd.length;·rw[z];exact h3
   ·exact h1 i (by omega)
  ·rintro⟨h1,h2⟩;exact⟨⟨λi hi=>h1 i (by omega),h2⟩,h1 _ (by omega)⟩
 ·obtain⟨f0,s,h⟩:=me.live;refine⟨λi=>if i=st.hd.length then 0 else f0 i,(Ly me.wf _).mpr ⟨⟨s,λi hi=>?_⟩,?_⟩⟩;·grind
  ·grind
 ·rw[iJ] at hi hj;by_cases zi:i=st.hd.length
  ·by_cases zj:j=st.hd.length;·rw[zi,zj];exact⟨λ_=>.refl,λ_=>rfl⟩
   ·rw[zi,oa,kI (by omega)];have:=me.wf.xk (i:=j) (by omega);refine⟨λz=>by omega,λz=>?_⟩;have b:∀{k:Nat},dC F st.hd.length k->k=st.hd.length:=λ{k} h=>by
     induction h with
     |refl=>rfl
     |step _ e ih=>rw[ih] at e;exact absurd (wy me.jh e).1 (Y8 _)
    exact absurd (b z) zj
  ·by_cases zj:j=st.hd.length
   ·rw[zj,oa,kI (by omega)];have:=me.wf.xk (i:=i) (by omega);refine⟨λz=>by omega,λz=>?_⟩;have:=Zbt me.jh z (by omega);omega
   ·rw[kI (by omega),kI (by omega)];exact me.conn i j (by omega) (by omega)
theorem ZdR:dD n ⟨[],[],[],[]⟩ []:=⟨wf0,λ_ h=>(nomatch h),λf=>⟨λ_=>⟨λ_ h=>absurd h (Wd _),λ_ h=>(nomatch h)⟩,λ_=>⟨λ_=>0,λ_ h=>absurd h (Wd _)⟩⟩,⟨λ_=>0,λ_=>0,λ_ h=>absurd h (Wd _)⟩,λ_ _ h=>absurd h (Wd _)⟩
end
theorem dC.mono(h:∀x y t,fI F x y t->fI G x y t)(c:dC F x y):dC G x y:=by
 induction c with
 |refl=>exact .refl
 |step _ e ih=>exact .step ih (h _ _ _ e)
theorem dC.trans(c:dC F x y)(d:dC F y z):dC F x z:=by
 induction d with
 |refl=>exact c
 |step _ e ih=>exact .step ih e
theorem Zk(h:c.k=bF):dC (F++[c]) x y↔dC F x y:=
 ⟨dC.mono λ_ _ _ e=>(pS.mp e).elim id λz=>absurd h z.1,dC.mono λ_ _ _ e=>pS.mpr (.inl e)⟩
theorem Zao(h:c.k≠bF):dC (F++[c]) x y↔dC F x y\/(dC F x c.one/\dC F c.aJ.toNat y)\/(dC F x c.aJ.toNat/\dC F c.one y):=by
 have up:∀{x y:Nat},dC F x y->dC (F++[c]) x y:=λd=>d.mono λ_ _ _ e=>pS.mpr (.inl e);have e1:fI (F++[c]) c.one c.aJ.toNat c.tn:=pS.mpr (.inr ⟨h,.inl ⟨rfl,rfl,rfl⟩⟩);have e2:fI (F++[c]) c.aJ.toNat c.one (inv c.tn):=pS.mpr (.inr ⟨h,.inr ⟨rfl,rfl,rfl⟩⟩);constructor
 ·intro d;induction d with
  |refl=>exact .inl .refl
  |step _ e ih=>
   rcases pS.mp e with e|⟨_,⟨rfl,rfl,_⟩|⟨rfl,rfl,_⟩⟩
   ·rcases ih with a|⟨a,b⟩|⟨a,b⟩;·exact .inl (.step a e)
    ·exact .inr (.inl ⟨a,.step b e⟩)
    ·exact .inr (.inr ⟨a,.step b e⟩)
   ·rcases ih with a|⟨a,b⟩|⟨a,b⟩;·exact .inr (.inl ⟨a,.refl⟩)
    ·exact .inr (.inl ⟨a,.refl⟩)
    ·exact .inl a
   ·rcases ih with a|⟨a,b⟩|⟨a,b⟩;·exact .inr (.inr ⟨a,.refl⟩)
    ·exact .inl a
    ·exact .inr (.inr ⟨a,.refl⟩)
 ·rintro(a|⟨a,b⟩|⟨a,b⟩);·exact up a
  ·exact((up a).step e1).trans (up b)
  ·exact((up a).step e2).trans (up b)
section
variable {n i j:Nat}{st eZ:JS}{F:List Fc}{k:Str}{tn:List Int}{b:Bool}
theorem Zap(me:dD n st F)(to:OI n st eZ b i j tn)(hk:k≠bF)(ok:dP n st.hd.length ⟨k,i,(j:Int),tn⟩):(b=true->dD n eZ (F++[⟨k,i,(j:Int),tn⟩]))/\(b=false->dD n eZ F/\∀f,c8 eZ f->¬eS f ⟨k,i,(j:Int),tn⟩):=by
 have sat:∀f,eS f ⟨k,i,(j:Int),tn⟩↔f j=ap tn (f i):=λf=>⟨λh=>by have:=h.2 hk;rwa [show((⟨k,i,(j:Int),tn⟩:Fc).aJ.toNat)=j from Y4 j] at this,λh=>⟨λz=>absurd z hk,λ_=>by rw[show((⟨k,i,(j:Int),tn⟩:Fc).aJ.toNat)=j from Y4 j];exact h⟩⟩;refine⟨λe=>?_,λe=>?_⟩
 ·obtain⟨lv,iff⟩:=to.yes e;have hi:i<st.hd.length:=ok.one;have hj:j<st.hd.length:=by
   have:=(ok.gI hk).1.2
   rwa [show((⟨k,i,(j:Int),tn⟩:Fc).aJ.toNat)=j from Y4 j] at this
  refine me.put ok to.wf to.len lv (λf=>by rw[iff,sat]) λx y hx hy=>?_;rw[to.hds e x y hx hy,Zao (c:=⟨k,i,(j:Int),tn⟩) hk,show((⟨k,i,(j:Int),tn⟩:Fc).aJ.toNat)=j from Y4 j,me.conn x y hx hy,me.conn x i hx hi,me.conn x j hx hj,←me.conn j y hj hy,←me.conn i y hi hy];exact or_congr_right (or_congr (and_congr_right λ_=>eq_comm) (and_congr_right λ_=>eq_comm))
 ·obtain⟨es,no⟩:=to.no e;rw[es];exact⟨me,λf d z=>no f d ((sat f).mp z)⟩
theorem Nn(me:dD n st F)(hi:i<st.hd.length)(m:a∈(st.cC (st.ae i)).map λz=>(st.bM i).getD z.toNat 0):dD n (st.kP (st.ae i) ((st.cC (st.ae i)).filter λz=>decide ((st.bM i).getD z.toNat 0∈[a]))) (F++[⟨bF,i,a,tn⟩]):=by
 refine me.put (c:=⟨bF,i,a,tn⟩) ⟨hi,λz=>absurd rfl z⟩ (me.wf.kP hi) rfl ?_ (λf=>?_) λx y hx hy=>?_
 ·obtain⟨z,mz,rfl⟩:=Yf.mp m;obtain⟨f0,d0⟩:=me.live;obtain⟨f,d,q⟩:=yX me.wf d0 (st.ae i) (st.ae i) z z mz mz (λ_=>rfl);exact⟨f,(vU me.wf hi _ f).mpr ⟨d,by rw[(q i hi).1 rfl];exact Yg⟩⟩
 ·rw[vU me.wf hi,Yo];refine and_congr_right λ_=>?_;exact⟨λh=>⟨λ_=>h,λz=>absurd rfl z⟩,λh=>h.1 rfl⟩
 ·rw[Zk rfl];exact me.conn x y hx hy
theorem Zc7(me:dD n st F)(hi:i<st.hd.length)(m:a∉(st.cC (st.ae i)).map λz=>(st.bM i).getD z.toNat 0)(f:Nat->Int)(d:c8 st f):¬eS f ⟨bF,i,a,tn⟩:=by
 obtain⟨s,h⟩:=d;intro z;have e:f i=a:=z.1 rfl;refine m (Yf.mpr ⟨s (st.ae i),(h i hi).1,?_⟩);rw[←e,(h i hi).2];rfl
end
abbrev bK:=List (Str×Str)
def av(ps:bK)(i:Nat):Str:=(ps.getD i ("","")).1
def a_(ps:bK)(c:Fc):Key:=if c.k=bF then .inl c.aJ else .inr (av ps c.aJ.toNat)
def dQ(ps:bK)(z:Nat)(c:Fc):List Key:=[.inl (z:Int),.inr c.k,.inr (av ps c.one),a_ ps c]
def keyOf(k a:Str):Key->List Key
 |.inl b=>[.inr k,.inr a,.inl b]
 |.inr b=>if k="sibling" then[.inr k,.inr (L2.ql a b),.inr (L2.qm a b)] else[.inr k,.inr a,.inr b]
def fk(ps:bK)(c:Fc):List Key:=keyOf c.k (av ps c.one) (a_ ps c)
def cI(k:Str):Bool:=decide (k="mother")||decide (k="father")
def fq(ps:bK)(fs:List (Nat×Fc)):List (List Key×V):=fs.map λp=>(fk ps p.2,.int (p.1:Int))
def cg(ps:bK)(fs:List (Nat×Fc)):List (List Key×V):=(fs.filter λp=>cI p.2.k).map λp=>([.inr p.2.k,.inr (av ps p.2.one)],kV (a_ ps p.2))
def ji(ps:bK):List (Key×V):=ps.zipIdx.map λp=>(.inr p.1.1,.int (p.2:Int))
structure Ap where
 way:Int
 row:List Key
 c0:Nat
 c1:Nat
def mU(H:Hp)(a:Addr)(d:Ap):Prop:=∃r,H a=some (.tup [.int d.way,.ref r,.int (d.c0:Int),.int (d.c1:Int)])/\H r=some (.tup (d.row.map kV))
structure BS where
 ps:bK
 fs:List (Nat×Fc)
 co:Nat
 dn:List Ap
 un:List Ap
def BS.F(b:BS):List Fc:=b.fs.map (·.2)
structure BL where
 h:Addr
 L:Addr
 sd:Addr
 pl:Addr
 fc:Addr
 kn:Addr
 pr:Addr
 dn:Addr
 un:Addr
 rk:V
 bW:List Addr
 gY:List Addr
 jY:List Addr
 eI:List Addr
def BL.own(l:BL):List Addr:=[l.h,l.sd,l.pl,l.fc,l.kn,l.pr,l.dn,l.un]
def BL.fp(l:BL):List Addr:=l.own++l.eI
structure eX(K:ai)(C:Addr):Prop where
 cls:iu K C
 uk:dB K C "land"
 rp:dB K C "sides"
 ra:dB K C "places"
 pY:dB K C "facts"
 zC:dB K C "known"
 tZ:dB K C "parents"
 pT:dB K C "coming"
 OJ:dB K C "done"
 Mm:dB K C "undone"
 hE:dB K C "reckoned"
abbrev HF(L sd pl fc kn pr:Addr)(co:Int)(dn un:Addr)(rk:V):List (Str×V):=[("land",.ref L),("sides",.ref sd),("places",.ref pl),("facts",.ref fc),("known",.ref kn),("parents",.ref pr),("coming",.int co),("done",.ref dn),("undone",.ref un),("reckoned",rk)]
theorem ZeI(a b c d e f g h i j:V):cP "reckoned" j (cP "undone" i (cP "done" h (cP "coming" g (cP "parents" f (cP "known" e (cP "facts" d (cP "places" c (cP "sides" b (cP "land" a [])))))))))=
  ([("land",a),("sides",b),("places",c),("facts",d),("known",e),("parents",f),("coming",g),("done",h),("undone",i),("reckoned",j)]:List (Str×V)):=rfl
abbrev fV(ps:bK):List (Key×V):=ps.map λp=>(.inr p.1,.str p.2)
inductive r9(H:Hp)(CJ:Addr)(n:Nat)(l:BL)(b:BS):Prop
 |no (e1:l.rk=.az) (e2:l.eI=[])
 |at_ (jl:JL) (st:JS) (e1:l.rk=.ref jl.J) (e2:l.eI=jl.fp) (ja:cG H CJ n jl st) (me:dD n st b.F) (len:st.hd.length=b.ps.length) (fK:∀a∈l.own,a∉jl.fp)
structure bj(H:Hp)(C CL CJ:Addr)(l:BL)(xs ys:List Int)(b:BS):Prop where
 obj:∃dx,H l.h=some (.ins C dx (HF l.L l.sd l.pl l.fc l.kn l.pr (b.co:Int) l.dn l.un l.rk))
 land:∀H',Out l.fp H H'->hZ H' CL l.L xs ys
 cV:H l.sd=some (.dK (fV b.ps))
 places:H l.pl=some (.dK (ji b.ps))
 facts:H l.fc=some (.dK (bp (b.fs.map (·.1)) l.bW))
 fact:Paired (λa (p:Nat×Fc)=>H a=some (.tup ((dQ b.ps p.1 p.2).map kV))) l.bW b.fs
 known:H l.kn=some (.dT (fq b.ps b.fs))
 parents:H l.pr=some (.dT (cg b.ps b.fs))
 done:H l.dn=some (.lst (l.gY.map V.ref))
 kW:Paired (mU H) l.gY b.dn
 h_:H l.un=some (.lst (l.jY.map V.ref))
 mV:Paired (mU H) l.jY b.un
 rP:r9 H CJ xs.length l b
 nd:l.own.Nodup
theorem mU.out(o:Out fp H H')(t:∀a xs,H a=some (.tup xs)->a∉fp)(h:mU H a d):mU H' a d:=by
 obtain⟨r,h1,h2⟩:=h;exact⟨r,o _ _ h1 (t _ _ h1),o _ _ h2 (t _ _ h2)⟩
theorem cG.off(j:cG H C n l st)(h:H a=some (.tup xs)):a∉l.fp:=by
 intro z;unfold JL.fp at z;simp only[Yn] at z;rcases z with rfl|rfl|rfl|rfl|rfl|z
 ·obtain⟨dx,e⟩:=j.obj
  grind
 ·rw[j.heads] at h;cases h
 ·rw[j.ie] at h;cases h
 ·rw[j.jq] at h;cases h
 ·rw[j.frees] at h;cases h
 ·obtain⟨y,e⟩:=v_ j.mem z
  grind
theorem cG.jL(j:cG H C n l st)(o:Out fp H H')(d1:∀a∈fp,a∉l.fp)(d2:∀a∈fp,a∉l.bW)(t:∀a xs,H a=some (.tup xs)->a∉fp):cG H' C n l st:=by
 have k:∀{a:Addr} {u:HO},H a=some u->a∈l.fp->H' a=some u:=λ{a u} e m=>o _ _ e λz=>d1 _ z m;obtain⟨dx,e⟩:=j.obj;refine⟨⟨dx,k e (by simp[JL.fp])⟩,k j.heads (by simp[JL.fp]),k j.ie (by simp[JL.fp]),L2.Paired.bB j.lead λa x h=>o _ _ h (t _ _ h),k j.jq (by simp[JL.fp]),?_,k j.frees (by simp[JL.fp]),?_,j.nd,j.out⟩
 ·have aux:∀{as:List Addr} {ps:List (Nat×List Nat)},Paired (λa p=>H a=some (.lst (dH p.2))) as ps->(∀a∈as,a∈l.fp)->Paired (λa p=>H' a=some (.lst (dH p.2))) as ps:=by
   intro as ps p;induction p with
   |nil=>intro _;exact .nil
   |cons f _ ih=>intro m;exact .cons (k f (m _ Yg)) (ih λa ha=>m a (Ys _ ha))
  exact aux j.mem λa ha=>by simp[JL.fp,ha]
 ·have aux:∀{as:List Addr} {ps:List (Nat×List Int)},Paired (λa p=>H a=some (.lst (p.2.map V.int))) as ps->(∀a∈as,a∈l.bW)->Paired (λa p=>H' a=some (.lst (p.2.map V.int))) as ps:=by
   intro as ps p;induction p with
   |nil=>intro _;exact .nil
   |cons f _ ih=>intro m;exact .cons (o _ _ f λz=>d2 _ z (m _ Yg)) (ih λa ha=>m a (Ys _ ha))
  exact aux j.free λa ha=>ha
section
variable {H H':Hp}{l:BL}{xs ys:List Int}{b:BS}
theorem bj.landAt(h:bj H C CL CJ l xs ys b):hZ H CL l.L xs ys:=h.land H (Out.of (aj.refl _))
theorem bj.tup(h:bj H C CL CJ l xs ys b)(e:H a=some (.tup us)):a∉l.fp:=by
 intro z;unfold BL.fp BL.own at z;rcases Yv.mp z with z|z
 ·simp only[Yn,Y2,or_false] at z;rcases z with rfl|rfl|rfl|rfl|rfl|rfl|rfl|rfl
  ·obtain⟨dx,q⟩:=h.obj
   grind
  ·rw[h.cV] at e;cases e
  ·rw[h.places] at e;cases e
  ·rw[h.facts] at e;cases e
  ·rw[h.known] at e;cases e
  ·rw[h.parents] at e;cases e
  ·rw[h.done] at e;cases e
  ·rw[h.h_] at e;cases e
 ·cases h.rP with
  |no _ e2=>grind
  |at_ jl st _ e2 ja=>rw[e2] at z;exact ja.off e z
theorem bj.there(h:bj H C CL CJ l xs ys b)(z:a∈l.fp):H a≠none:=by
 intro e;unfold BL.fp BL.own at z;rcases Yv.mp z with z|z
 ·simp only[Yn,Y2,or_false] at z;rcases z with rfl|rfl|rfl|rfl|rfl|rfl|rfl|rfl
  ·obtain⟨dx,q⟩:=h.obj
   grind
  ·rw[h.cV] at e;cases e
  ·rw[h.places] at e;cases e
  ·rw[h.facts] at e;cases e
  ·rw[h.known] at e;cases e
  ·rw[h.parents] at e;cases e
  ·rw[h.done] at e;cases e
  ·rw[h.h_] at e;cases e
 ·cases h.rP with
  |no _ e2=>grind
  |at_ jl st _ e2 ja=>rw[e2] at z;exact ja.ne e z
theorem r9.same(g:aj H H')(h:r9 H CJ n l b):r9 H' CJ n l b:=by
 cases h with
 |no e1 e2=>exact .no e1 e2
 |at_ jl st e1 e2 ja me len fK=>exact .at_ jl st e1 e2 (ja.same g) me len fK
theorem bj.same(g:aj H H')(h:bj H C CL CJ l xs ys b):bj H' C CL CJ l xs ys b:=
 ⟨let⟨dx,e⟩:=h.obj;⟨dx,g _ _ e⟩,λH2 o=>h.land H2 ((Out.of g).trans o),g _ _ h.cV,g _ _ h.places,g _ _ h.facts,L2.Paired.bB h.fact λ_ _ e=>g _ _ e,g _ _ h.known,g _ _ h.parents,g _ _ h.done,L2.Paired.bB h.kW λ_ _ ⟨r,e1,e2⟩=>⟨r,g _ _ e1,g _ _ e2⟩,g _ _ h.h_,L2.Paired.bB h.mV λ_ _ ⟨r,e1,e2⟩=>⟨r,g _ _ e1,g _ _ e2⟩,h.rP.same g,h.nd⟩
def eF(fp sJ:List Addr)(H:Hp):Prop:=∀a∈sJ,a∈fp\/H a=none
theorem eF.refl(fp:List Addr)(H:Hp):eF fp fp H:=λ_ h=>.inl h
theorem EO(o:Out fp H H1)(g:eF fp sJ H)(o2:Out sJ H1 H2):Out fp H H2:=λa u e n=>o2 _ _ (o _ _ e n) λz=>(g a z).elim n λq=>by rw[e] at q;cases q
theorem eF.trans(g:eF fp sJ H)(o:Out fp H H1)(g2:eF sJ ZeJ H1):eF fp ZeJ H:=λa z=>by
 rcases g2 a z with q|q;·exact g a q
 ·by_cases m:a∈fp;·exact .inl m
  ·right
   cases e:H a with
   |none=>rfl
   |some u=>rw[o _ _ e m] at q;cases q
theorem eF.same(s:aj H H1)(g2:eF fp sJ H1):eF fp sJ H:=λa z=>(g2 a z).imp id λq=>s.free q
theorem Zaq(me:dD n st F)(m:(k,secs)∈st.fr):secs≠[]:=by
 obtain⟨i,hi,e⟩:=me.wf.hf k (Yf.mpr ⟨_,m,rfl⟩);obtain⟨f,s,d⟩:=me.live;have q:=(d i hi).1;unfold JS.cC at q;rw[e,(mem_lookup me.wf.nf m)] at q
 grind
theorem Zbu(ja:cG H CJ n jl st)(me:dD n st b.F)(h:∃dx us,H l.h=some (.ins C dx us))(h2:∃k,H l.sd=some (.dK k))(h3:∃k,H l.pl=some (.dK k))(h4:∃k,H l.fc=some (.dK k))(h5:∃k,H l.kn=some (.dT k))(h6:∃k,H l.pr=some (.dT k))(h7:∃as:List Addr,H l.dn=some (.lst (as.map V.ref)))(h8:∃as:List Addr,H l.un=some (.lst (as.map V.ref))):∀a∈l.own,a∉jl.bW:=by
 intro a ha hf;obtain⟨p,hp,e⟩:∃p∈st.fr,H a=some (.lst (p.2.map V.int)):=by
  have aux:∀{as:List Addr} {ps:List (Nat×List Int)},Paired (λa p=>H a=some (.lst (p.2.map V.int))) as ps->a∈as->∃p∈ps,H a=some (.lst (p.2.map V.int)):=by
   intro as ps pr;induction pr with
   |nil=>intro h;cases h
   |cons f _ ih=>
    intro h;rcases Yn.mp h with rfl|h;·exact⟨_,Yg,f⟩
    ·obtain⟨q,m,e⟩:=ih h;exact⟨q,Ys _ m,e⟩
  exact aux ja.free hf
 have ne:=Zaq me (k:=p.1) (secs:=p.2) hp;have lst:∀as:List Addr,H a=some (.lst (as.map V.ref))->False:=λas q=>by
  rw[q] at e;have e':as.map V.ref=p.2.map V.int:=by injection e with e;injection e
  cases dF:p.2 with
  |nil=>exact ne dF
  |cons x r=>
   rw[dF] at e';cases as with
   |nil=>cases e'
   |cons y s=>injection e' with e1 _;cases e1
 unfold BL.own at ha;simp only[Yn,Y2,or_false] at ha;rcases ha with rfl|rfl|rfl|rfl|rfl|rfl|rfl|rfl;·obtain⟨_,_,q⟩:=h;rw[q] at e;cases e
 ·obtain⟨_,q⟩:=h2;rw[q] at e;cases e
 ·obtain⟨_,q⟩:=h3;rw[q] at e;cases e
 ·obtain⟨_,q⟩:=h4;rw[q] at e;cases e
 ·obtain⟨_,q⟩:=h5;rw[q] at e;cases e
 ·obtain⟨_,q⟩:=h6;rw[q] at e;cases e
 ·obtain⟨_,q⟩:=h7;exact lst _ q
 ·obtain⟨_,q⟩:=h8;exact lst _ q
theorem bj.FE(h:bj H C CL CJ l xs ys b)(ja:cG H CJ xs.length jl st)(me:dD xs.length st b.F):∀a∈l.own,a∉jl.bW:=
 Zbu ja me (let⟨dx,e⟩:=h.obj;⟨dx,_,e⟩) ⟨_,h.cV⟩ ⟨_,h.places⟩ ⟨_,h.facts⟩ ⟨_,h.known⟩ ⟨_,h.parents⟩ ⟨_,h.done⟩ ⟨_,h.h_⟩
theorem bj.build(h:bj H C CL CJ l xs ys b)(eh:l'.h=l.h)(eL:l'.L=l.L)(es:l'.sd=l.sd)(ep:l'.pl=l.pl)(ef:l'.fc=l.fc)(ek:l'.kn=l.kn)(er:l'.pr=l.pr)(ed:l'.dn=l.dn)(eu:l'.un=l.un)(o:Out l.fp H H')(g:eF l.fp l'.fp H)
  (obj:∃dx,H' l.h=some (.ins C dx (HF l.L l.sd l.pl l.fc l.kn l.pr (b'.co:Int) l.dn l.un l'.rk)))(cV:H' l.sd=some (.dK (fV b'.ps)))(places:H' l.pl=some (.dK (ji b'.ps)))(facts:H' l.fc=some (.dK (bp (b'.fs.map (·.1)) l'.bW)))
  (fact:Paired (λa (p:Nat×Fc)=>H' a=some (.tup ((dQ b'.ps p.1 p.2).map kV))) l'.bW b'.fs)(known:H' l.kn=some (.dT (fq b'.ps b'.fs)))(parents:H' l.pr=some (.dT (cg b'.ps b'.fs)))
  (done:H' l.dn=some (.lst (l'.gY.map V.ref)))(kW:Paired (mU H') l'.gY b'.dn)(h_:H' l.un=some (.lst (l'.jY.map V.ref)))(mV:Paired (mU H') l'.jY b'.un)(rk:r9 H' CJ xs.length l' b'):bj H' C CL CJ l' xs ys b':=by
 have oe:l'.own=l.own:=by unfold BL.own;rw[eh,es,ep,ef,ek,er,ed,eu]
 refine⟨?_,λH2 o2=>?_,by rw[es];exact cV,by rw[ep];exact places,by rw[ef];exact facts,fact,by rw[ek];exact known,by rw[er];exact parents,by rw[ed];exact done,kW,by rw[eu];exact h_,mV,rk,by rw[oe];exact h.nd⟩;·rw[eh,eL,es,ep,ef,ek,er,ed,eu];exact obj
 ·rw[eL];exact h.land H2 (EO o g o2)
theorem bj.owned(h:bj H C CL CJ l xs ys b)(eh:l'.h=l.h)(eL:l'.L=l.L)(es:l'.sd=l.sd)(ep:l'.pl=l.pl)(ef:l'.fc=l.fc)(ek:l'.kn=l.kn)(er:l'.pr=l.pr)(ed:l'.dn=l.dn)(eu:l'.un=l.un)
  (rk:(l'.rk=l.rk/\l'.eI=l.eI/\b'.F=b.F/\b'.ps.length=b.ps.length)\/(l'.rk=.az/\l'.eI=[]))(o:Out l.own H H')
  (obj:∃dx,H' l.h=some (.ins C dx (HF l.L l.sd l.pl l.fc l.kn l.pr (b'.co:Int) l.dn l.un l'.rk)))(cV:H' l.sd=some (.dK (fV b'.ps)))(places:H' l.pl=some (.dK (ji b'.ps)))(facts:H' l.fc=some (.dK (bp (b'.fs.map (·.1)) l'.bW)))
  (fact:Paired (λa (p:Nat×Fc)=>H' a=some (.tup ((dQ b'.ps p.1 p.2).map kV))) l'.bW b'.fs)(known:H' l.kn=some (.dT (fq b'.ps b'.fs)))(parents:H' l.pr=some (.dT (cg b'.ps b'.fs)))
  (done:H' l.dn=some (.lst (l'.gY.map V.ref)))(kW:Paired (mU H') l'.gY b'.dn)(h_:H' l.un=some (.lst (l'.jY.map V.ref)))(mV:Paired (mU H') l'.jY b'.un):bj H' C CL CJ l' xs ys b'/\eF l.fp l'.fp H:=by
 have oe:l'.own=l.own:=by unfold BL.own;rw[eh,es,ep,ef,ek,er,ed,eu]
 have sub:∀a∈l'.fp,a∈l.fp:=λa z=>by
  unfold BL.fp at z⊢;rw[oe] at z;rcases rk with⟨_,e,_⟩|⟨_,e⟩;·rw[e] at z;exact z
  ·rw[e,Wh] at z;exact Yt _ z
 have of:Out l.fp H H':=λa u e n=>o _ _ e λz=>n (Yt _ z);refine⟨⟨?_,λH2 o2=>?_,by rw[es];exact cV,by rw[ep];exact places,by rw[ef];exact facts,fact,by rw[ek];exact known,by rw[er];exact parents,by rw[ed];exact done,kW,by rw[eu];exact h_,mV,?_,by rw[oe];exact h.nd⟩,λa z=>.inl (sub a z)⟩;·rw[eh,eL,es,ep,ef,ek,er,ed,eu];exact obj
 ·rw[eL];exact h.land H2 (EO of (λa z=>.inl (sub a z)) o2)
 ·rcases rk with⟨r1,r2,r3,r4⟩|⟨r1,r2⟩
  ·cases h.rP with
   |no e1 e2=>exact .no (by rw[r1];exact e1) (by rw[r2];exact e2)
   |at_ jl st e1 e2 ja me len fK=>
    exact .at_ jl st (by rw[r1];exact e1) (by rw[r2];exact e2) (ja.jL o fK (h.FE ja me) λa us e=>λz=>h.tup e (Yt _ z)) (by rw[r3];exact me) (by rw[r4];exact len) (by rw[oe];exact fK)
  ·exact .no r1 r2
end
abbrev qr:List (Str×Str):=[("mother","m"),("father","f"),("wed","w"),("sibling","s")]
abbrev qi(xs ys:List Int):List (Str×List Int):=[("mother",inv xs),("father",inv (bH xs ys)),("wed",ys),("sibling",bh xs.length)]
structure eM(xs ys:List Int)(m:Nat)(c:Fc):Prop where
 ok:dP xs.length m c
 kind:c.k=bF\/(c.k,c.tn)∈qi xs ys
 Gx:c.k=bF->0<=c.aJ/\c.aJ<(xs.length:Int)
theorem XO:(bF,tn)∉qi xs ys:=by
 intro h;simp only[Yn,Y2,or_false] at h;rcases h with⟨h,_⟩|⟨h,_⟩|⟨h,_⟩|⟨h,_⟩<;>exact absurd h (by decide+kernel)
theorem De(h:(k,tn)∈qi xs ys):∃r,PyProof.Rows.KTD.datumAt k qr=some r/\(r,tn)∈zQ xs ys:=by
 simp only[Yn,Y2,or_false] at h;rcases h with⟨rfl,rfl⟩|⟨rfl,rfl⟩|⟨rfl,rfl⟩|⟨rfl,rfl⟩;·exact⟨"m",by decide+kernel,by simp⟩
 ·exact⟨"f",by decide+kernel,by simp⟩
 ·exact⟨"w",by decide+kernel,by simp⟩
 ·exact⟨"s",by decide+kernel,by simp⟩
theorem eM.uw(g:eM xs ys m c)(h:c.k≠bF):(c.k,c.tn)∈qi xs ys:=g.kind.resolve_left h
theorem Zar(gd:oG xs ys)(h:(k,tn)∈qi xs ys):full tn=true/\tn.length=xs.length:=by
 obtain⟨r,_,h2⟩:=De h;exact XN gd h2
theorem rq(nd:(ps.map (·.1)).Nodup)(hi:i<ps.length):aS (ji ps) (.inr (av ps i))=some (.int (i:Int)):=by
 have aux:∀(ps:bK) (k i:Nat),(ps.map (·.1)).Nodup->i<ps.length->aS ((ps.zipIdx k).map λp=>((.inr p.1.1:Key),V.int (p.2:Int))) (.inr (av ps i))=some (.int ((k+i:Nat):Int)):=by
  intro ps;induction ps with
  |nil=>intro k i _ h;cases h
  |cons p ps ih=>
   intro k i nd hi;obtain⟨n1,n2⟩:=Yy.mp (show(p.1::ps.map (·.1)).Nodup from nd);rw[List.zipIdx_cons,Wq];cases i with
   |zero=>exact fH rfl
   |succ i=>
    have iD:i<ps.length:=by simpa using hi
    have e:av (p::ps) (i+1)=av ps i:=rfl;have m:av ps i∈ps.map (·.1):=by
     unfold av;rw[Yj,Yb iD];exact Yf.mpr ⟨_,Jv iD,rfl⟩
    rw[e,eV (λz=>n1 (by rw[Wf z];exact m)),ih (k+1) i n2 iD]
    congr 2
    omega
 have:=aux ps 0 i nd hi
 rwa [Nat.zero_add] at this
theorem mG(h:c.k=bF):a_ ps c=.inl c.aJ:=if_pos h
theorem iK(h:c.k≠bF):a_ ps c=.inr (av ps c.aJ.toNat):=if_neg h
inductive E7(vs:List V)(H:Hp)(Q:VK)(E:XK):Prop
 |mk (k:Str) (aE:vs=[.str k]) (aU:Q (.bl (m7 qr k)) H)
inductive Ew(CL:Addr)(vs:List V)(H:Hp)(Q:VK)(E:XK):Prop
 |mk (L:Addr) (k:Str) (xs ys tn:List Int) (aE:vs=[.ref L,.str k]) (aU:hZ H CL L xs ys) (bc:(k,tn)∈qi xs ys) (bL:∀t:Addr,bP H t tn->Q (.ref t) H)
inductive z7(vs:List V)(H:Hp)(Q:VK)(E:XK):Prop
 |mk (k a:Str) (o:Key) (aE:vs=[.str k,.str a,kV o]) (aU:k="sibling"->∃b,o=.inr b) (bc:Nw H (.tup ((keyOf k a o).map kV)) Q)
inductive Mn(CL CJ:Addr)(vs:List V)(H:Hp)(Q:VK):Prop
 |mk (jl:JL) (st:JS) (L pl fa:Addr) (xs ys:List Int) (ps:bK) (F:List Fc) (z:Nat) (c:Fc) (aE:vs=[.ref jl.J,.ref L,.ref pl,.ref fa]) (ja:cG H CJ xs.length jl st) (me:dD xs.length st F) (la:hZ H CL L xs ys) (gd:oG xs ys) (hp:H pl=some (.dK (ji ps))) (nd:(ps.map (·.1)).Nodup) (len:st.hd.length=ps.length) (m4:ps.length<=100) (hf:H fa=some (.tup ((dQ ps z c).map kV))) (fg:eM xs ys ps.length c) (lv:∃f,c8 st f/\eS f c)
   (q:∀(v:V) (gJ:JL) (aN:JS) (H':Hp),gJ.J=jl.J->(∀a∈gJ.fp,a∈jl.fp)->Out jl.fp H H'->cG H' CJ xs.length gJ aN->dD xs.length aN (F++[c])->aN.hd.length=st.hd.length->Q v H'):Mn CL CJ vs H Q
def E8(CL CJ:Addr):Sp:=λvs H Q _=>Mn CL CJ vs H Q
inductive Np(CL CJ:Addr)(vs:List V)(H:Hp)(Q:VK):Prop
 |mk (jl:JL) (st:JS) (L pl fa:Addr) (xs ys:List Int) (ps:bK) (F:List Fc) (z:Nat) (c:Fc) (aE:vs=[.ref jl.J,.ref L,.ref pl,.ref fa]) (ja:cG H CJ xs.length jl st) (me:dD xs.length st F) (la:hZ H CL L xs ys) (gd:oG xs ys) (hp:H pl=some (.dK (ji ps))) (nd:(ps.map (·.1)).Nodup) (len:st.hd.length=ps.length) (m4:ps.length<=100) (hf:H fa=some (.tup ((dQ ps z c).map kV))) (fg:eM xs ys ps.length c)
   (q1:(∃f,c8 st f/\eS f c)->∀H',aj H H'->Q (.bl true) H') (q2:(∀f,c8 st f->¬eS f c)->∀H',aj H H'->Q (.bl false) H'):Np CL CJ vs H Q
def OK(CL CJ:Addr):Sp:=λvs H Q _=>Np CL CJ vs H Q
theorem zD:∀b:Bool,decide (V.str k=V.str bF)=b->(b=true↔k=bF):=λb e=>by
 grind
section
variable {K:ai}{mg:aX}{mE:Addr}
theorem Zl:aQ ["kind"] ["kind"] (aK EH):=.a8
theorem Zm(F:aL K "is_tie" "is_tie" EH f fd)(tE:mg "TIE_LETTERS"=some (.ref mE))(tb:uB K mE qr):aH P w K mg base aM 1 f fd ["kind"] E7:=by
 refine F.o Zl λs H hr h=>?_;obtain⟨k,rfl,q⟩:=h;refine⟨_,(au (aG (zo (ZcI (K:=K) rfl) (pv 0) (du (v:=.ref mE) rfl tE rfl) (by with_unfolding_all rfl)))),?_⟩;exact⟨_,rfl,k,mE,qr,rfl,rfl,tb,q⟩
abbrev xl:List Str:=["land","kind"]
theorem WQ:aQ xl xl (aK DU):=.a8
theorem WR(F:aL K "tie_turn" "tie_turn" DU f fd)(tE:mg "TIE_LETTERS"=some (.ref mE))(tb:uB K mE qr)(lc:uv K CL)(ua:HasFn P w K mg base 1 "is_tie" ["kind"] E7)(DG:bT P w K mg base 1 "step" CL Al (OC CL)):aH P w K mg base aM 2 f fd xl (Ew CL):=by
 refine F.o WQ λs H hr h=>?_;obtain⟨L,k,xs,ys,tn,rfl,la,hk,q⟩:=h;refine⟨_,(aq (aR (hX (d9 (aT ua hr (aa (pv 1) ag)))) fG aY) (au (aG (cH DG hr (by omega) (pv 0) (aa (aP (Za5 (K:=K) rfl) (du (v:=.ref mE) rfl tE rfl) (pv 1)) ag))))),?_⟩;obtain⟨r,dr,hs⟩:=De hk;have ht:m7 qr k=true:=by unfold m7;rw[dr];rfl
 obtain⟨dx,d,mo,jZ,wi,im,jf,iw,st,h1,_⟩:=id la;refine⟨_,rfl,k,rfl,_,rfl,?_⟩;rw[ht];refine bR (aW ?_);exact⟨_,rfl,L,dx,_,rfl,h1,rfl,_,rfl,mE,k,r,qr,rfl,rfl,tb,dr,L,r,xs,ys,tn,rfl,la,hs,q⟩
abbrev uF:List Str:=["kind","one","other"]
theorem WS:aQ uF uF (aK DV):=.a8
theorem WT(F:aL K "fact_key" "fact_key" DV f fd)(og:mg "SIBLING"=some (.str "sibling" t1))(bl:Bl mg):aH P w K mg base aM 1 f fd uF z7:=by
 refine F.o WS λs H hr h=>?_;obtain⟨k,a,o,rfl,hs,q⟩:=h;refine⟨_,(aq (aR (bC ck (pv 0) (du (v:=.str "sibling") rfl og ⟨_,rfl⟩)) (au (aG (dM (aa (pv 0) (aa (hJ (XA rfl) rfl bl.Zdy Zcf (aa (pv 1) (aa (pv 2) ag))) (aa (hJ (XB rfl) rfl bl.Zdz ZcV (aa (pv 1) (aa (pv 2) ag))) ag)))))) aY) (au (aG (dM (aa (pv 0) (aa (pv 1) (aa (pv 2) ag))))))),?_⟩;refine⟨_,rfl,rfl,_,rfl,?_⟩;by_cases e:k="sibling"
 ·obtain⟨b,rfl⟩:=hs e;rw[decide_eq_true (by rw[e])];refine⟨_,rfl,_,rfl,_,rfl,_,_,rfl,_,rfl,_,rfl,_,_,rfl,by show 3<=sizeLine;decide,?_⟩;have ek:keyOf k a (.inr b)=[.inr k,.inr (L2.ql a b),.inr (L2.qm a b)]:=if_pos e;rw[ek] at q;exact q
 ·rw[decide_eq_false (λz=>e (V.str.inj z))];refine⟨_,rfl,_,rfl,_,rfl,by show 3<=sizeLine;decide,?_⟩;have ek:(keyOf k a o).map kV=[.str k,.str a,kV o]:=by
   cases o with
   |inl i=>rfl
   |inr b=>
    have:keyOf k a (.inr b)=[.inr k,.inr a,.inr b]:=if_neg e;rw[this];rfl
  rw[ek] at q;exact q
abbrev r_:List Str:=["joins","land","places","fact"]
abbrev Qx:List Str:=["joins","land","places","fact","number","kind","one","other"]
theorem vS:aQ Qx r_ (aK Dp):=.a8
theorem VJ(F:aL K "keep_fact" "keep_fact" Dp f fd)(kK:mg "SAID"=some (.str "said" t1))(tS:HasFn P w K mg base 2 "tie_turn" xl (Ew CL))(DH:bT P w K mg base 3 "say" CJ Ao (Px CJ))(DI:bT P w K mg base 5 "tie" CJ kU (Pz CJ)):aH P w K mg base aM 6 f fd r_ (E8 CL CJ):=by
 refine F.o vS λs H hr h=>?_;obtain⟨jl,st,L,pl,fa,xs,ys,ps,FF,z,c,rfl,ja,me,la,gd,hp,nd,len,m4,hf,fg,lv,q⟩:=h;refine⟨_,(aq (mP (pv 3) (iO (K:=K) (n:=4) rfl rfl (bQ (bA 4 vS.nd) (bQ (bA 5 vS.nd) (bQ (bA 6 vS.nd) (bQ (bA 7 vS.nd) iM)))))) (aq (aR (bC ck (pv 5) (du (v:=.str "said") rfl kK ⟨_,rfl⟩)) (au (aG (cH DH hr (by omega) (pv 0) (aa (cY (bw hr) (pv 2) (pv 6) (λ_ _=>rfl)) (aa (pv 7) ag))))) aY) (au (aG (cH DI hr (by omega) (pv 0) (aa (cY (bw hr) (pv 2) (pv 6) (λ_ _=>rfl)) (aa (cY (bw hr) (pv 2) (pv 7) (λ_ _=>rfl)) (aa (aT tS hr (aa (pv 1) (aa (pv 5) ag))) ag)))))))),?_⟩;obtain⟨dx,ho⟩:=ja.obj;have p1:=rq nd fg.ok.one;have n8:xs.length<=8:=gd.2.2.2.2;have hi:c.one<st.hd.length:=by rw[len];exact fg.ok.one
 refine⟨_,rfl,fa,_,rfl,aA.of hf,rfl,_,_,rfl,bg ⟨_,_,rfl,bg ⟨_,_,rfl,bg ⟨_,_,rfl,bg ⟨rfl,?_⟩⟩⟩⟩⟩;refine⟨_,rfl,rfl,_,rfl,bI (λcc=>?_) (λcc=>aW ?_)⟩
 ·have e:c.k=bF:=(zD _ rfl).mp cc;have eo:kV (a_ ps c)=.int c.aJ:=by rw[mG e];rfl
  refine⟨_,rfl,jl.J,dx,_,rfl,ho,rfl,_,rfl,_,rfl,pl,_,rfl,cU hp p1,_,rfl,?_⟩;have one:=me.wf.one n8 hi;have x8:=me.wf.z6;obtain⟨f0,d0,s0⟩:=lv;obtain⟨s0',h0⟩:=id d0;have mm:c.aJ∈(st.cC (st.ae c.one)).map (λz=>(st.bM c.one).getD z.toNat 0):=Yf.mpr ⟨s0' (st.ae c.one),(h0 c.one hi).1,by rw[←s0.1 e,(h0 c.one hi).2];rfl⟩;refine⟨jl,st,xs.length,c.one,_,_,_,c.aJ,?_,ja,one,by omega,λ_ l' H' k1 k2 o3 j3=>?_,λno=>absurd mm no⟩
  ·show[V.ref jl.J,V.int (c.one:Int),kV (a_ ps c)]=_;rw[eo]
  ·have ec:c=⟨bF,c.one,c.aJ,c.tn⟩:=by rw[←e]
   refine q _ l' _ H' k1 (λa ha=>by rw[k2] at ha;exact ha) o3 j3 ?_ rfl;rw[ec];exact Nn me hi mm
 ·have e:c.k≠bF:=λz=>cc ((zD _ rfl).mpr z);obtain⟨⟨o0,om⟩,ft,tl⟩:=fg.ok.gI e;have eo:kV (a_ ps c)=.str (av ps c.aJ.toNat):=by rw[iK e];rfl
  have p2:=rq nd om;have hj:c.aJ.toNat<st.hd.length:=by rw[len];exact om
  refine⟨_,rfl,jl.J,dx,_,rfl,ho,rfl,_,rfl,_,rfl,pl,_,rfl,cU hp p1,_,rfl,_,rfl,pl,.int (c.aJ.toNat:Int),rfl,?_,_,rfl,_,rfl,L,c.k,xs,ys,c.tn,rfl,la,fg.uw e,λt ht=>?_⟩
  ·show eA H pl (kV (a_ ps c)) _;rw[eo];exact cU hp p2
  refine⟨jl,st,xs.length,c.one,c.aJ.toNat,c.tn,t,rfl,ja,me.wf,me.live,n8,by omega,hi,hj,ht,ft,tl,λb l' aN H' k1 k2 o3 j3 to=>?_⟩;have ec:c=⟨c.k,c.one,(c.aJ.toNat:Int),c.tn⟩:=by rw[Wy o0]
  have ZeK:dP xs.length st.hd.length ⟨c.k,c.one,(c.aJ.toNat:Int),c.tn⟩:=by rw[←ec,len];exact fg.ok
  obtain⟨tm,tf⟩:=Zap me to e ZeK;have eb:b=true:=by
   cases eb:b with
   |true=>rfl
   |false=>
    obtain⟨f0,d0,s0⟩:=lv;obtain⟨es,no⟩:=to.no eb;exact absurd (s0.2 e) (no f0 d0)
  refine q _ l' aN H' k1 k2 o3 j3 ?_ to.len;have:=tm eb;rw[←ec] at this;exact this
theorem vT:aQ Qx r_ (aK Dq):=.a8
theorem VL(F:aL K "fact_fits" "fact_fits" Dq f fd)(kK:mg "SAID"=some (.str "said" t1))(tS:HasFn P w K mg base 2 "tie_turn" xl (Ew CL))(jA:bT P w K mg base 2 "open_at" CJ uC (wj CJ))(tI:bT P w K mg base 4 "left" CJ kU (FA CJ)):aH P w K mg base aM 5 f fd r_ (OK CL CJ):=by
 refine F.o vT @λb_ A outer vs Q E s H hr h=>?_;obtain⟨jl,st,L,pl,fa,xs,ys,ps,FF,z,c,rfl,ja,me,la,gd,hp,nd,len,m4,hf,fg,q1,q2⟩:=h;have hu:=hr.ui;refine⟨_,(aq (mP (pv 3) (iO (K:=K) (n:=4) rfl rfl (bQ (bA 4 vT.nd) (bQ (bA 5 vT.nd) (bQ (bA 6 vT.nd) (bQ (bA 7 vT.nd) iM)))))) (aq (aR (bC ck (pv 5) (du (v:=.str "said") rfl kK ⟨_,rfl⟩)) (au (aG (zo (dt (K:=K) rfl) (pv 7) (cH jA hr (by omega) (pv 0) (aa (cY (bw hr) (pv 2) (pv 6) (λ_ _=>rfl)) ag)) (by with_unfolding_all rfl)))) aY) (au (aG (eN (M7 (K:=K) rfl (ZcL hu)) (cH tI hr (by omega) (pv 0) (aa (cY (bw hr) (pv 2) (pv 6) (λ_ _=>rfl)) (aa (cY (bw hr) (pv 2) (pv 7) (λ_ _=>rfl)) (aa (aT tS hr (aa (pv 1) (aa (pv 5) ag))) ag)))) (dR ag)))))),?_⟩;obtain⟨dx,ho⟩:=ja.obj;have p1:=rq nd fg.ok.one;have n8:xs.length<=8:=gd.2.2.2.2;have hi:c.one<st.hd.length:=by rw[len];exact fg.ok.one
 refine⟨_,rfl,fa,_,rfl,aA.of hf,rfl,_,_,rfl,bg ⟨_,_,rfl,bg ⟨_,_,rfl,bg ⟨_,_,rfl,bg ⟨rfl,?_⟩⟩⟩⟩⟩;refine⟨_,rfl,rfl,_,rfl,bI (λcc=>?_) (λcc=>aW ?_)⟩
 ·have e:c.k=bF:=(zD _ rfl).mp cc;have eo:kV (a_ ps c)=.int c.aJ:=by rw[mG e];rfl
  have one:=me.wf.one n8 hi;refine⟨_,rfl,_,rfl,jl.J,dx,_,rfl,ho,rfl,_,rfl,_,rfl,pl,_,rfl,cU hp p1,jl,st,xs.length,c.one,_,_,_,rfl,ja,one.hd,one.ld,one.fr,one.fh,one.iC,λp ns H1 np g1 pm so ph=>⟨p,_,rfl,.inl (ak.of ph),?_,EK ns,?_⟩⟩
  ·show iR (kV (a_ ps c))=true;rw[eo];rfl
  show Q (.bl (if(false:Bool)=true then !e_ (kV (a_ ps c)) (ns.map V.int) else e_ (kV (a_ ps c)) (ns.map V.int))) H1;rw[if_neg Yk,eo,zB];have ec:c=⟨bF,c.one,c.aJ,c.tn⟩:=by rw[←e]
  by_cases m:c.aJ∈ns
  ·rw[decide_eq_true m];refine q1 ?_ H1 g1;have Sj:=Nn (tn:=c.tn) me hi (pm.subset m);obtain⟨f,d⟩:=Sj.live;obtain⟨_,s⟩:=(Sj.iff f).mp d;refine⟨f,((vU me.wf hi _ f).mp d).1,?_⟩;rw[ec];exact s _ (Yp _ Yg)
  ·rw[decide_eq_false m];refine q2 (λf d=>?_) H1 g1;rw[ec];exact Zc7 me hi (λz=>m (pm.symm.subset z)) f d
 ·have e:c.k≠bF:=λz=>cc ((zD _ rfl).mpr z);obtain⟨⟨o0,om⟩,ft,tl⟩:=fg.ok.gI e;have eo:kV (a_ ps c)=.str (av ps c.aJ.toNat):=by rw[iK e];rfl
  have p2:=rq nd om;have hj:c.aJ.toNat<st.hd.length:=by rw[len];exact om
  have pf:=Nl me.wf n8 hi hj;refine⟨_,rfl,jl.J,dx,_,rfl,ho,rfl,_,rfl,_,rfl,pl,_,rfl,cU hp p1,_,rfl,_,rfl,pl,.int (c.aJ.toNat:Int),rfl,?_,_,rfl,_,rfl,L,c.k,xs,ys,c.tn,rfl,la,fg.uw e,λt ht=>?_⟩
  ·show eA H pl (kV (a_ ps c)) _;rw[eo];exact cU hp p2
  refine⟨jl,st,xs.length,c.one,c.aJ.toNat,_,_,_,_,_,_,c.tn,t,rfl,ja,me.wf.one n8 hi,me.wf.one n8 hj,ht,λp hp=>by rw[tl];exact OG me.wf hi (x:=p.1) (y:=p.2) hp,Y6 pf (by omega),λp ns H1 np g1 ph pm _=>?_⟩;have ms:=Mh pm;refine⟨by show 0<=sizeLine;exact Yw _,λe0 H2 n2 g2 x9=>?_⟩;refine⟨p,e0,ns.map V.int,rfl,rfl,ak.of (g2 _ _ ph),ak.of x9,?_⟩;rw[if_pos rfl];have sat:∀f,eS f c↔f c.aJ.toNat=ap c.tn (f c.one):=λf=>⟨λh=>h.2 e,λh=>⟨λz=>absurd z e,λ_=>h⟩⟩;cases ns with
  |nil=>
   refine q2 (λf d z=>?_) H2 (g1.trans g2);have m:=wk me.wf hi hj d;rw[(sat f).mp z] at m;exact absurd ((ms _).mpr m) (λz=>nomatch z)
  |cons a r=>
   refine q1 ?_ H2 (g1.trans g2);have m:=(ms a).mp Yg;obtain⟨f,d,e1,e2⟩:=Mg me.wf hi hj me.live m;exact⟨f,d,(sat f).mpr (by rw[e1,e2])⟩
end
def BS.keys(b:BS):List (List Key):=b.fs.map λp=>fk b.ps p.2
def BS.told(b:BS)(k:List Key):Bool:=(aS (fq b.ps b.fs) k).isSome
structure cM(xs ys:List Int)(b:BS):Prop where
 gd:oG xs ys
 nm:(b.ps.map (·.1)).Nodup
 m:b.ps.length<=64
 fl:b.fs.length<=63
 fg:∀p∈b.fs,eM xs ys b.ps.length p.2
 zs:(b.fs.map (·.1)).Nodup
 lt:∀p∈b.fs,p.1<b.co
 ky:b.keys.Nodup
 pr:((cg b.ps b.fs).map (·.1)).Nodup
 lv:∃f,lu xs.length b.ps.length f/\∀c∈b.F,eS f c
 dl:b.dn.length<=200
 ul:b.un.length<=200
structure cy(H H':Hp)(l l':BL):Prop where
 h:l'.h=l.h
 out:Out l.fp H H'
 grow:eF l.fp l'.fp H
theorem cy.of(g:aj H H'):cy H H' l l:=⟨rfl,Out.of g,eF.refl _ _⟩
theorem cy.trans(a:cy H H1 l l1)(b:cy H1 H2 l1 l2):cy H H2 l l2:=⟨b.h.trans a.h,EO a.out a.grow b.out,a.grow.trans a.out b.grow⟩
theorem cy.same(a:cy H H1 l l1)(g:aj H1 H2):cy H H2 l l1:=⟨a.h,a.out.trans (Out.of g),a.grow⟩
theorem cy.after(g:aj H H1)(a:cy H1 H2 l l1):cy H H2 l l1:=⟨a.h,(Out.of g).trans a.out,a.grow.same g⟩
theorem zd[DecidableEq κ](kvs:List (κ×V))(k:κ):(aS kvs k).isSome=true↔k∈kvs.map (·.1):=by
 induction kvs with
 |nil=>exact⟨(λz=>nomatch z),(λz=>nomatch z)⟩
 |cons p r ih=>
  by_cases e:p.1=k
  ·rw[fH e]
   grind
  ·rw[eV e,ih]
   grind
theorem qX{κ:Type}[DecidableEq κ]{kvs:List (κ×V)}{k:κ}(h:k∉kvs.map (·.1)):aS kvs k=none:=by
 cases e:aS kvs k with
 |none=>rfl
 |some v=>exact absurd ((zd kvs k).mp (by rw[e];rfl)) h
theorem Nq{κ:Type}[DecidableEq κ]{kvs:List (κ×V)}{k:κ}{v:V}(nd:(kvs.map (·.1)).Nodup)(h:(k,v)∈kvs):aS kvs k=some v:=by
 induction kvs with
 |nil=>cases h
 |cons p r ih=>
  obtain⟨n1,n2⟩:=Yy.mp (show(p.1::r.map (·.1)).Nodup from nd);rcases Yn.mp h with h|h;·rw[←h];exact fH rfl
  ·rw[eV (λz=>n1 (by rw[z];exact Yf.mpr ⟨_,h,rfl⟩))];exact ih n2 h
theorem E9(h:i<ps.length):av ps i∈ps.map (·.1):=by
 unfold av
 grind
inductive ze(C CL CJ:Addr)(vs:List V)(H:Hp)(Q:VK)(E:XK):Prop
 |mk (l:BL) (b:BS) (xs ys:List Int) (aE:vs=[.ref l.h]) (aU:bj H C CL CJ l xs ys b) (bc:Nw H (.lst (b.ps.map λp=>V.str p.1)) Q)
inductive zf(C CL CJ:Addr)(vs:List V)(H:Hp)(Q:VK)(E:XK):Prop
 |mk (l:BL) (b:BS) (xs ys:List Int) (z:Str) (v:V) (aE:vs=[.ref l.h,.str z]) (aU:bj H C CL CJ l xs ys b) (bc:aS (fV b.ps) (.inr z)=some v) (bL:Q v H)
inductive F1(C CL CJ:Addr)(vs:List V)(H:Hp)(Q:VK)(E:XK):Prop
 |mk (l:BL) (b:BS) (xs ys:List Int) (k a:Str) (o:Key) (aE:vs=[.ref l.h,.str k,.str a,kV o]) (aU:bj H C CL CJ l xs ys b) (bc:k="sibling"->∃b,o=.inr b) (bL:∀H',aj H H'->Q (.bl (b.told (keyOf k a o))) H')
inductive K0(C CL CJ:Addr)(vs:List V)(H:Hp)(Q:VK)(E:XK):Prop
 |mk (l:BL) (b:BS) (xs ys:List Int) (k a:Str) (aE:vs=[.ref l.h,.str k,.str a]) (aU:bj H C CL CJ l xs ys b) (bL:∀H',aj H H'->Q ((aS (cg b.ps b.fs) [.inr k,.inr a]).getD .az) H')
abbrev iq:List Str:=["mother","father"]
def oB(b:BS)(a:Str):List V:=iq.filterMap λk=>aS (cg b.ps b.fs) [.inr k,.inr a]
theorem Zas(g:Nat->Option V):((List.range 2).filter λi=>(g i).isSome).map (λi=>(g i).getD .az)=[g 0,g 1].filterMap id:=by
 show(([0,1]:List Nat).filter _).map _=_
 grind
theorem Mo(b:BS)(k:List Key):b.told k=true↔k∈b.keys:=by
 unfold BS.told;rw[zd];unfold fq BS.keys
 grind
inductive Kq(C CL CJ:Addr)(vs:List V)(H:Hp)(Q:VK)(E:XK):Prop
 |mk (l:BL) (b:BS) (xs ys:List Int) (a:Str) (aE:vs=[.ref l.h,.str a]) (aU:bj H C CL CJ l xs ys b) (bL:∀(p:Addr) (H':Hp),H p=none->aj H H'->H' p=some (.lst (oB b a))->Q (.ref p) H')
def di(H:Hp)(ps:bK)(a:Addr)(p:Nat×Fc):Prop:=H a=some (.tup ((dQ ps p.1 p.2).map kV))
inductive OL(C CL CJ:Addr)(vs:List V)(H:Hp)(Q:VK)(E:XK):Prop
 |mk (l:BL) (b:BS) (xs ys:List Int) (aE:vs=[.ref l.h]) (aU:bj H C CL CJ l xs ys b) (zs:(b.fs.map (·.1)).Nodup) (fl:b.fs.length<=63) (bL:∀(p:Addr) (as:List Addr) (de:List (Nat×Fc)) (H':Hp),H p=none->aj H H'->de.Perm b.fs->(de.map (·.1)).Pairwise (·<·)->H' p=some (.lst (as.map V.ref))->Paired (di H' b.ps) as de->Q (.ref p) H')
def D7(K:ai):Sp:=λvs H Q _=>∃(r:Addr) (xs:List V),vs=[.ref r]/\aA K H r xs/\Q (.bl (decide (xs.length=2))) H
theorem E_:∀{as:List Addr} {fs:List (Nat×Fc)} {p:Nat×Fc},Paired (di H ps) as fs->(fs.map (·.1)).Nodup->p∈fs->∃a,aS (bp (fs.map (·.1)) as) (.inl (p.1:Int))=some (.ref a)/\di H ps a p:=by
 intro as fs p pr;induction pr with
 |nil=>grind
 |@cons a q as fs f t ih=>
  intro nd h;obtain⟨n1,n2⟩:=Yy.mp (show(q.1::fs.map (·.1)).Nodup from nd);have e0:bp ((q::fs).map (·.1)) (a::as)=(Sum.inl (q.1:Int),V.ref a)::bp (fs.map (·.1)) as:=rfl;rw[e0];rcases Yn.mp h with rfl|h;·exact⟨a,fH rfl,f⟩
  ·obtain⟨a',e1,e2⟩:=ih n2 h;refine⟨a',?_,e2⟩;rw[eV (p:=((Sum.inl (q.1:Int):Key),V.ref a)) (λz=>n1 (by
    have e:=Bb z;have e':q.1=p.1:=by omega
    rw[e'];exact Yf.mpr ⟨_,h,rfl⟩))]
   exact e1
theorem K1:∀{ks:List Nat} {as:List Addr},ks.length=as.length->(bp ks as).map (·.1)=(ks.map λk:Nat=>(k:Int)).map Sum.inl
 |[],[],_=>rfl
 |k::ks,a::as,h=>by
  have e0:bp (k::ks) (a::as)=(Sum.inl (k:Int),V.ref a)::bp ks as:=rfl;rw[e0,Wq,K1 (by simpa using h)];rfl
 |[],_::_,h=>rfl
 |_::_,[],h=>by simp at h
theorem XQ(nd:(fs.map (·.1)).Nodup)(pm:ns.Perm ((fs.map (·.1)).map λk:Nat=>(k:Int)))(so:ns.Pairwise (·<=·)):∃de:List (Nat×Fc),de.Perm fs/\(de.map (·.1)).Pairwise (·<·)/\ns=(de.map (·.1)).map λk:Nat=>(k:Int):=by
 have aux:∀{ns:List Int} {fs:List (Nat×Fc)},ns.Perm ((fs.map (·.1)).map λk:Nat=>(k:Int))->∃de:List (Nat×Fc),de.Perm fs/\ns=(de.map (·.1)).map λk:Nat=>(k:Int):=by
  intro ns;induction ns with
  |nil=>
   intro fs pm;have:=pm.symm.eq_nil;have e:fs=[]:=by simpa using this
   exact⟨[],by rw[e],rfl⟩
  |cons a ns ih=>
   intro fs pm;have ma:a∈(fs.map (·.1)).map λk:Nat=>(k:Int):=pm.subset Yg;rw[Y9] at ma;obtain⟨p,hp,rfl⟩:=Yf.mp ma;obtain⟨l1,l2,rfl⟩:=List.append_of_mem hp;have pm':ns.Perm (((l1++l2).map (·.1)).map λk:Nat=>(k:Int)):=by
    have h1:(((l1++p::l2).map (·.1)).map λk:Nat=>(k:Int)).Perm ((p.1:Int)::((l1++l2).map (·.1)).map λk:Nat=>(k:Int)):=by
     have:=(J6 (a:=p) (l₁:=l1) (l₂:=l2)).map λq:Nat×Fc=>((q.1:Nat):Int);simpa[Y9,Function.comp_def] using this
    exact(pm.trans h1).cons_inv
   obtain⟨de,q1,q2⟩:=ih pm';exact⟨p::de,(q1.cons p).trans J6.symm,by rw[q2];rfl⟩
 obtain⟨de,q1,q2⟩:=aux pm;refine⟨de,q1,?_,q2⟩;have nd':(de.map (·.1)).Nodup:=(q1.map _).nodup_iff.mpr nd;rw[q2,Ws] at so;exact(so.and nd').imp λh=>by
  have h1:=h.1;have h2:=h.2;omega
section
variable {K:ai}{mg:aX}{dA:Addr}
theorem Us:aQ gu gu (aK Ci):=.a8
theorem Zn(F:aL K "people" "Hearth.people" Ci f fd)(hc:eX K C)(bl:Bl mg):aH P w K mg base aM 1 f fd gu (ze C CL CJ):=by
 refine F.o Us λs H hr h=>?_;obtain⟨l,b,xs,ys,rfl,ba,q⟩:=h;refine⟨_,(au (aG (eR (WI rfl) rfl bl.uj ub (aa (pF K 0) ag)))),?_⟩;obtain⟨dx,h1⟩:=ba.obj;refine⟨_,rfl,l.h,C,dx,_,_,rfl,h1,hc.cls,hc.rp,rfl,l.sd,_,rfl,ba.cV,λp H' np g hp=>q p H' np g ?_⟩;rw[hp,Y9];rfl
abbrev jr:List Str:=["self","name"]
theorem T8:aQ jr jr (aK B9):=.a8
theorem XR(F:aL K "side_of" "Hearth.side_of" B9 f fd)(hc:eX K C)(bl:Bl mg):aH P w K mg base aM 1 f fd jr (zf C CL CJ):=by
 refine F.o T8 λs H hr h=>?_;obtain⟨l,b,xs,ys,z,v,rfl,ba,ev,q⟩:=h;refine⟨_,(aq (aR (jH (mF (bw hr) (pv 1) (pF K 0)) (by with_unfolding_all rfl)) fG aY) (au (aG (cY (bw hr) (pF K 0) (pv 1) (λ_ _=>rfl))))),?_⟩;obtain⟨dx,h1⟩:=ba.obj;exact⟨_,rfl,_,rfl,l.h,C,dx,_,_,rfl,h1,hc.cls,hc.rp,rfl,l.sd,some v,rfl,cU ba.cV ev,_,rfl,bR (aW ⟨_,rfl,l.h,C,dx,_,_,rfl,h1,hc.cls,hc.rp,rfl,_,rfl,l.sd,v,rfl,cU ba.cV ev,q⟩)⟩
theorem VM:aQ je je (aK Dv):=.a8
theorem VN(F:aL K "is_person" "is_person" Dv f fd)(bl:Bl mg):aH P w K mg base aM 1 f fd je (D7 K):=by
 refine F.o VM λs H hr h=>?_;obtain⟨r,xs,rfl,uW,q⟩:=h;refine⟨_,(au (aG (eN ck (df K bl (pv 0)) aF))),?_⟩;refine⟨_,rfl,r,xs,rfl,.inr uW,rfl,?_⟩;have e:decide (V.int (xs.length:Int)=V.int 2)=decide (xs.length=2):=by
  rw[Wm,decide_eq_true_iff,decide_eq_true_iff];exact⟨λz=>by have:=V.int.inj z;omega,λz=>by rw[z];rfl⟩
 rw[←e] at q;exact q
abbrev oN:List Str:=["self","kind","one","other"]
theorem Vl:aQ oN oN (aK Dc):=.a8
theorem Zc8(F:aL K "has" "Hearth.has" Dc f fd)(hc:eX K C)(nY:HasFn P w K mg base 1 "fact_key" uF z7):aH P w K mg base aM 2 f fd oN (F1 C CL CJ):=by
 refine F.o Vl λs H hr h=>?_;obtain⟨l,b,xs,ys,k,a,o,rfl,ba,hs,q⟩:=h;refine⟨_,(au (aG (ZbX (zN (bw hr) (aT nY hr (aa (pv 1) (aa (pv 2) (aa (pv 3) ag)))) (pF K 0)) (by with_unfolding_all rfl)))),?_⟩;refine⟨_,rfl,_,rfl,_,rfl,k,a,o,rfl,hs,λp H1 np g1 hp=>?_⟩;obtain⟨dx,h1⟩:=ba.obj;refine⟨_,rfl,l.h,C,dx,_,_,rfl,g1 _ _ h1,hc.cls,hc.zC,rfl,l.kn,_,rfl,eA.t (g1 _ _ ba.known) hp,?_⟩;exact q H1 g1
abbrev Aq:List Str:=["self","kind","name"]
theorem TY:aQ Aq Aq (aK BX):=.a8
theorem VO(F:aL K "parent_of" "Hearth.parent_of" BX f fd)(hc:eX K C):aH P w K mg base aM 1 f fd Aq (K0 C CL CJ):=by
 refine F.o TY λs H hr h=>?_;obtain⟨l,b,xs,ys,k,a,rfl,ba,q⟩:=h;refine⟨_,(au (aG (ZQ (bw hr) (pF K 0) (dM (aa (pv 1) (aa (pv 2) ag))) ⟨rfl,rfl,rfl,rfl⟩))),?_⟩;obtain⟨dx,h1⟩:=ba.obj;refine⟨_,rfl,l.h,C,dx,_,_,rfl,h1,hc.cls,hc.tZ,rfl,l.pr,rfl,.inr ⟨_,.inl ba.parents⟩,_,rfl,_,rfl,by show 2<=sizeLine;decide,λp H1 np g1 hp=>?_⟩;exact⟨_,eA.t (k:=[.inr k,.inr a]) (g1 _ _ ba.parents) hp,q H1 g1⟩
theorem TV:aQ jr jr (aK BV):=.a8
theorem Vm(F:aL K "parents_of" "Hearth.parents_of" BV f fd)(hc:eX K C)(iI:mg "PARENTS"=some (.ref dA))(qP:∀H,aA K H dA (iq.map V.str)):aH P w K mg base aM 1 f fd jr (Kq C CL CJ):=by
 refine F.o TV λs H hr h=>?_;obtain⟨l,b,xs,ys,a,rfl,ba,q⟩:=h;refine⟨_,(au (aG (iN (x:="kind") (fr:=[("self",0),("name",1)]) (cl:=[("self",s.heap.objs.size+1),("name",s.heap.objs.size+1+1)]) rfl (.gH ⟨rfl,⟨rfl,trivial⟩⟩ ⟨⟨rfl,.inl rfl,.inl rfl,rfl⟩,⟨⟨rfl,.inl rfl,.inl rfl,rfl⟩,trivial⟩⟩) (Fm (du (v:=.ref dA) rfl iI rfl)) (λ_ _ _ _=>wu (jH (zN (bw hr) (dM (aa (pv 0) (aa (pv 2) ag))) (uc (K:=K) rfl (pv 1) rfl)) (by with_unfolding_all rfl))) (λ_ _ _ _=>(cY (bw hr) (uc (K:=K) rfl (pv 1) rfl) (dM (aa (pv 0) (aa (pv 2) ag))) (λ_ _=>rfl)))))),?_⟩;obtain⟨dx,h1⟩:=ba.obj;let val:Nat->Option V:=λi=>aS (cg b.ps b.fs) [.inr (iq.getD i ""),.inr a];refine⟨dA,rfl,⟨_,qP _⟩,λD hD=>YV (K:=K) (a:=dA) (xs:=iq.map V.str) (qP _) (by show 2<=1000;decide) hD (λi=>(val i).isSome) (λi=>(val i).getD .az) (λi v hi H1 g1 _ Kt Kf kt kf=>?_) λH1 g1 h2=>q D H1 hD g1 ?_⟩
 ·obtain⟨k,rfl,ek⟩:∃k:Str,v=.str k/\iq.getD i ""=k:=by
   match i,hi with
   |0,hi=>exact⟨"mother",(Ym hi).symm,rfl⟩
   |1,hi=>exact⟨"father",(Ym hi).symm,rfl⟩
   |i+2,hi=>simp at hi
  have ev:val i=aS (cg b.ps b.fs) [.inr k,.inr a]:=by show aS (cg b.ps b.fs) [.inr (iq.getD i ""),.inr a]=_;rw[ek]
  refine⟨_,rfl,_,rfl,by show 2<=sizeLine;decide,λp H2 np g2 hp=>?_⟩;refine⟨_,rfl,l.h,C,dx,_,_,rfl,g2 _ _ (g1 _ _ h1),hc.cls,hc.tZ,rfl,l.pr,_,rfl,eA.t (k:=[.inr k,.inr a]) (g2 _ _ (g1 _ _ ba.parents)) hp,_,rfl,?_⟩;rw[ev] at kt kf;cases e:aS (cg b.ps b.fs) [.inr k,.inr a] with
  |none=>
   rw[e] at kf;exact bR (kf H2 rfl g2)
  |some u=>
   rw[e] at kt;refine cW ?_;refine⟨_,rfl,l.h,C,dx,_,_,rfl,g2 _ _ (g1 _ _ h1),hc.cls,hc.tZ,rfl,_,rfl,_,rfl,by show 2<=sizeLine;decide,λp3 H3 np3 g3 Sk=>?_⟩;refine⟨l.pr,u,rfl,?_,kt u H3 rfl (g2.trans g3) rfl⟩;have z:=eA.t (k:=[.inr k,.inr a]) (g3 _ _ (g2 _ _ (g1 _ _ ba.parents))) Sk;rw[e] at z;exact z
 ·rw[h2];have e:((List.range (iq.map V.str).length).filter λi=>(val i).isSome).map (λi=>(val i).getD .az)=oB b a:=by
   exact Zas val
  rw[e]
theorem UU:aQ gu gu (aK CT):=.a8
theorem Zbv(F:aL K "kept" "Hearth.kept" CT f fd)(hc:eX K C)(bl:Bl mg):aH P w K mg base aM 1 f fd gu (OL C CL CJ):=by
 refine F.o UU λs H hr h=>?_;obtain⟨l,b,xs,ys,rfl,ba,zs,fl,q⟩:=h;refine⟨_,(au (aG (iN (x:="number") (fr:=[("self",0)]) (cl:=[("self",s.heap.objs.size+1)]) rfl (.gH ⟨rfl,trivial⟩ ⟨⟨rfl,.inl rfl,.inl rfl,rfl⟩,trivial⟩) (fO (K:=K) rfl (hJ (Vf rfl) rfl bl.y9 yS (aa (pF K 0) ag))) (λ_ _ _ _=>lK) (λ_ _ _ _=>(cY (bw hr) (uc (K:=K) rfl (pv 1) rfl) (pv 0) (λ_ _=>rfl)))))),?_⟩;obtain⟨dx,h1⟩:=ba.obj;have al:(b.fs.map (·.1)).length=l.bW.length:=by rw[Ya];exact(cX ba.fact).symm
 refine⟨_,rfl,l.h,C,dx,_,_,rfl,h1,hc.cls,hc.pY,rfl,l.fc,_,(b.fs.map (·.1)).map (λk:Nat=>(k:Int)),rfl,ba.facts,K1 al,by rw[Ya,Ya];omega,λns pm so p H1 np g1 hp=>?_⟩;obtain⟨de,q1,q2,q3⟩:=XQ zs pm so;have u6:de.length<=63:=by rw[q1.length_eq];exact fl
 subst q3;have nl:(((de.map (·.1)).map λk:Nat=>(k:Int)).map V.int).length=de.length:=by rw[Ya,Ya,Ya]
 refine⟨p,rfl,⟨_,ak.of hp⟩,λD hD=>?_⟩;refine yH (K:=K) (ak.of hp) (by omega) hD (λ_=>true) (λi y H2=>∃a pr,de[i]?=some pr/\y=.ref a/\di H2 b.ps a pr/\di H b.ps a pr) (λi y H2 H3 br ⟨a,pr,e1,e2,e3,e4⟩=>⟨a,pr,e1,e2,br _ _ e3 (λz=>by
   have:H1 a=some _:=g1 _ _ e4;rw[z,hD] at this;cases this),e4⟩) (λi v hi H2 g2 _ Kt Kf kt _=>kT (cW ?_)) λgF H2 g2 h2 pr=>?_
 ·rw[Yd,Yd,Yd] at hi;cases ep:de[i]? with
  |none=>rw[ep] at hi;cases hi
  |some pp=>
   rw[ep] at hi;obtain rfl:V.int (pp.1:Int)=v:=Ym hi;obtain⟨a,e1,e2⟩:=E_ (H:=H) (ps:=b.ps) ba.fact zs (q1.subset (Yh ep));have mj:=g1.trans g2;refine⟨_,rfl,l.h,C,dx,_,_,rfl,mj _ _ h1,hc.cls,hc.pY,rfl,_,rfl,l.fc,.ref a,rfl,oA (mj _ _ ba.facts) e1,kt _ H2 rfl (aj.refl _) ⟨a,pp,ep,rfl,mj _ _ e2,e2⟩⟩
 ·rw[DQ,nl] at pr;obtain⟨as,ea,pa⟩:∃as:List Addr,gF=as.map V.ref/\Paired (di H2 b.ps) as de:=by
   have aux:∀{ys:List V} {is:List Nat} {gs:List (Nat×Fc)},Paired (λy i=>∃a pr,de[i]?=some pr/\y=.ref a/\di H2 b.ps a pr/\di H b.ps a pr) ys is->is.map (λi=>de[i]?)=gs.map some->∃as:List Addr,ys=as.map V.ref/\Paired (di H2 b.ps) as gs:=by
    intro ys is gs pr;induction pr generalizing gs with
    |nil=>
     intro e;cases gs with
     |nil=>exact⟨[],rfl,.nil⟩
     |cons _ _=>cases e
    |cons f _ ih=>
     intro e;cases gs with
     |nil=>cases e
     |cons g gs=>
      obtain⟨a,pp,e1,e2,e3,_⟩:=f;injection e with e4 e5;obtain⟨as,r1,r2⟩:=ih e5;exact⟨a::as,by rw[e2,r1];rfl,.cons (by rw[←Ym (e1.symm.trans e4)];exact e3) r2⟩
   refine aux pr (Wj λi=>?_);rw[Yd,Yd];by_cases hi:i<de.length;·rw[Ja hi,Yb hi];exact congrArg some (Yb hi)
   ·rw[Y3 (by rw[We];omega),Y3 (by omega)];rfl
  subst ea;exact q D as de H2 (g1.free hD) (g1.trans g2) q1 q2 h2 pa
end
theorem zE(h:i<ps.length):av (ps++[x]) i=av ps i:=by
 unfold av
 grind
theorem ER(ok:dP n ps.length c):a_ (ps++[x]) c=a_ ps c:=by
 unfold a_;by_cases e:c.k=bF;·grind
 ·rw[if_neg e,if_neg e,zE (ok.gI e).1.2]
theorem Zbw(ok:dP n ps.length c):dQ (ps++[x]) z c=dQ ps z c:=by
 unfold dQ;rw[ER ok,zE ok.one]
theorem Nr(ok:dP n ps.length c):fk (ps++[x]) c=fk ps c:=by
 unfold fk;rw[ER ok,zE ok.one]
theorem Zbx(ok:∀p∈fs,dP n ps.length p.2):fq (ps++[x]) fs=fq ps fs:=by
 exact Wx λp hp=>by rw[Nr (ok p hp)]
theorem Nt(ok:∀p∈fs,dP n ps.length p.2):cg (ps++[x]) fs=cg ps fs:=by
 exact Wx λp hp=>by
  have o:=ok p (Y5.mp hp).1;rw[ER o,zE o.one]
theorem Zby(ps:bK)(n s:Str):fV (ps++[(n,s)])=fV ps++[(.inr n,.str s)]:=Yq
theorem Zbz(ps:bK)(x:Str×Str):ji (ps++[x])=ji ps++[(.inr x.1,.int (ps.length:Int))]:=by
 unfold ji
 grind
theorem Zat(ps:bK)(fs:List (Nat×Fc))(z:Nat)(c:Fc):fq ps (fs++[(z,c)])=fq ps fs++[(fk ps c,.int (z:Int))]:=Yq
theorem Mp(h:cI c.k=true):cg ps (fs++[(z,c)])=cg ps fs++[([.inr c.k,.inr (av ps c.one)],kV (a_ ps c))]:=by
 unfold cg
 grind
theorem Mq(h:cI c.k=false):cg ps (fs++[(z,c)])=cg ps fs:=by
 unfold cg
 grind
theorem zF(k:Str):e_ (.str k) (iq.map V.str)=cI k:=by
 show((("mother":Str)==k)||((("father":Str)==k)||false))=(decide (k="mother")||decide (k="father"))
 grind
theorem Kr{α β γ:Type}[DecidableEq β][DecidableEq γ]{f:α->β}{g:α->γ}:∀{xs:List α} {x:α},(xs.map f).Nodup->(xs.map g).Nodup->x∈xs->xs.filter (λy=>decide (f y≠f x))=xs.filter (λy=>decide (g y≠g x)):=by
 intro xs x n1 n2 hx;have inj:∀{δ:Type} {h:α->δ},(xs.map h).Nodup->∀y∈xs,h y=h x->y=x:=by
  induction xs with
  |nil=>cases hx
  |cons a r ih=>grind
 refine List.filter_congr λy hy=>?_
 grind
theorem Zau{ps:bK}{fs:List (Nat×Fc)}{z:Nat}{c:Fc}(zs:(fs.map (·.1)).Nodup)(ky:(fs.map λp=>fk ps p.2).Nodup)(m:(z,c)∈fs):gk (fq ps fs) (fk ps c)=fq ps (cS z fs):=by
 unfold fq gk cS;rw[Jy];exact congrArg _ (Kr (x:=(z,c)) ky zs m)
theorem Zav{ps:bK}{fs:List (Nat×Fc)}{z:Nat}{c:Fc}(zs:(fs.map (·.1)).Nodup)(pr:((cg ps fs).map (·.1)).Nodup)(m:(z,c)∈fs)(h:cI c.k=true):gk (cg ps fs) [.inr c.k,.inr (av ps c.one)]=cg ps (cS z fs):=by
 unfold cg at pr⊢;rw[Y9] at pr;unfold gk cS;rw[Jy,Jl];have e:=Kr (f:=λp:Nat×Fc=>([.inr p.2.k,.inr (av ps p.2.one)]:List Key)) (x:=(z,c)) pr (zs.sublist (List.filter_sublist.map _)) (Y5.mpr ⟨m,h⟩);rw[Jl,Jl] at e;rw[Jl]
 grind
theorem Zo(zs:(fs.map (·.1)).Nodup)(m:(z,c)∈fs)(h:cI c.k=false):cg ps fs=cg ps (cS z fs):=by
 unfold cg cS;rw[Jl];refine congrArg _ (List.filter_congr λp hp=>?_);by_cases e:p.1=z
 ·have:p=(z,c):=by
   have aux:∀{fs:List (Nat×Fc)},(fs.map (·.1)).Nodup->p∈fs->(z,c)∈fs->p=(z,c):=by
    induction fs with
    |nil=>grind
    |cons a r ih=>grind
   exact aux zs hp m
  grind
 ·grind
inductive Move(xs ys:List Int)(H:Hp)(r:Addr)(b:BS):Int->BS->Prop
 |pin (n s:Str) (hr:H r=some (.tup [.str n,.str s])) (new:n∉b.ps.map (·.1)) (lim:b.ps.length<64):Move xs ys H r b 1 {b with ps:=b.ps++[(n,s)]}
 |fin (z:Nat) (c:Fc) (hr:di H b.ps r (z,c)) (fg:eM xs ys b.ps.length c) (nz:z∉b.fs.map (·.1)) (nk:fk b.ps c∉b.keys) (np:cI c.k=true->[.inr c.k,.inr (av b.ps c.one)]∉(cg b.ps b.fs).map (·.1)) (lv:∃f,lu xs.length b.ps.length f/\∀c'∈b.F++[c],eS f c') (lim:b.fs.length<63):Move xs ys H r b 1 {b with fs:=b.fs++[(z,c)]}
 |uG (z:Nat) (c:Fc) (hr:di H b.ps r (z,c)) (m:(z,c)∈b.fs):Move xs ys H r b (-1) {b with fs:=cS z b.fs}
theorem Move.out{w:Int}(m:Move xs ys H r b w b')(k:∀us,H r=some (.tup us)->H' r=some (.tup us)):Move xs ys H' r b w b':=by
 cases m with
 |pin n s hr new lim=>exact .pin n s (k _ hr) new lim
 |fin z c hr fg nz nk np lv lim=>exact .fin z c (k _ hr) fg nz nk np lv lim
 |uG z c hr m=>exact .uG z c (k _ hr) m
theorem Move.ZdS{w:Int}(m:Move xs ys H r b w b')(dn un:List Ap):Move xs ys H r {b with dn:=dn,un:=un} w {b' with dn:=dn,un:=un}:=by
 cases m with
 |pin n s hr new lim=>exact .pin n s hr new lim
 |fin z c hr fg nz nk np lv lim=>exact .fin z c hr fg nz nk np lv lim
 |uG z c hr m=>exact .uG z c hr m
inductive Nu(C CL CJ:Addr)(vs:List V)(H:Hp)(Q:VK):Prop
 |mk (l:BL) (b:BS) (xs ys:List Int) (fa:Addr) (z:Nat) (c:Fc) (aE:vs=[.ref l.h,.ref fa]) (ba:bj H C CL CJ l xs ys b) (hf:di H b.ps fa (z,c)) (nz:z∉b.fs.map (·.1)) (nk:fk b.ps c∉b.keys) (np:cI c.k=true->[.inr c.k,.inr (av b.ps c.one)]∉(cg b.ps b.fs).map (·.1)) (fl:b.fs.length<=63)
   (q:∀H',Out [l.fc,l.kn,l.pr] H H'->H' l.fc=some (.dK (bp ((b.fs++[(z,c)]).map (·.1)) (l.bW++[fa])))->H' l.kn=some (.dT (fq b.ps (b.fs++[(z,c)])))->H' l.pr=some (.dT (cg b.ps (b.fs++[(z,c)])))->Q .az H'):Nu C CL CJ vs H Q
def OM(C CL CJ:Addr):Sp:=λvs H Q _=>Nu C CL CJ vs H Q
inductive Nv(C CL CJ:Addr)(vs:List V)(H:Hp)(Q:VK)(E:XK):Prop
 |mk (l:BL) (b b':BS) (xs ys:List Int) (r:Addr) (aE:vs=[.ref l.h,.ref r]) (ba:bj H C CL CJ l xs ys b) (ok:cM xs ys b) (mv:Move xs ys H r b 1 b') (q:∀(l':BL) (H':Hp),cy H H' l l'->bj H' C CL CJ l' xs ys b'->Q .az H')
inductive Lz(C CL CJ:Addr)(vs:List V)(H:Hp)(Q:VK)(E:XK):Prop
 |mk (l:BL) (b b':BS) (xs ys:List Int) (r:Addr) (aE:vs=[.ref l.h,.ref r]) (ba:bj H C CL CJ l xs ys b) (ok:cM xs ys b) (mv:Move xs ys H r b (-1) b') (q:∀(l':BL) (H':Hp),cy H H' l l'->bj H' C CL CJ l' xs ys b'->Q .az H')
inductive Nx(C CL CJ:Addr)(vs:List V)(H:Hp)(Q:VK)(E:XK):Prop
 |mk (l:BL) (b b':BS) (xs ys:List Int) (r:Addr) (w:Int) (c2:Nat) (aE:vs=[.ref l.h,.int w,.ref r,.int (c2:Int)]) (ba:bj H C CL CJ l xs ys b) (ok:cM xs ys b) (mv:Move xs ys H r b w b') (q:∀(l':BL) (H':Hp),cy H H' l l'->bj H' C CL CJ l' xs ys {b' with co:=c2}->Q .az H')
inductive zg(C CL CJ:Addr)(vs:List V)(H:Hp)(Q:VK)(E:XK):Prop
 |mk (l:BL) (b b':BS) (xs ys:List Int) (r:Addr) (w:Int) (c2:Nat) (row:List Key) (aE:vs=[.ref l.h,.int w,.ref r,.int (c2:Int)]) (ba:bj H C CL CJ l xs ys b) (ok:cM xs ys b) (dl:b.dn.length<200) (hr:H r=some (.tup (row.map kV))) (mv:Move xs ys H r b w b') (q:∀(l':BL) (H':Hp),cy H H' l l'->bj H' C CL CJ l' xs ys {b' with co:=c2,dn:=b.dn++[⟨w,row,b.co,c2⟩],un:=[]}->Q .az H')
section
variable {K:ai}{mg:aX}{dA:Addr}
theorem Ny{ps:bK}{c:Fc}(e:c.k="sibling"):∃b,a_ ps c=.inr b:=⟨_,iK (by rw[e];decide+kernel)⟩
abbrev se:List Str:=["self","fact"]
abbrev Qy:List Str:=["self","fact","number","kind","one","other"]
theorem vN:aQ Qy se (aK BY):=.a8
theorem ZbA(F:aL K "note_fact" "Hearth.note_fact" BY f fd)(hc:eX K C)(iI:mg "PARENTS"=some (.ref dA))(qP:∀H,aA K H dA (iq.map V.str))(nY:HasFn P w K mg base 1 "fact_key" uF z7):aH P w K mg base aM 2 f fd se (OM C CL CJ):=by
 refine F.o vN λs H hr h=>?_;obtain⟨l,b,xs,ys,fa,z,c,rfl,ba,hf,nz,nk,np,fl,q⟩:=h;refine⟨_,(aq (mP (pv 1) (iO (K:=K) (n:=4) rfl rfl (bQ (bA 2 vN.nd) (bQ (bA 3 vN.nd) (bQ (bA 4 vN.nd) (bQ (bA 5 vN.nd) iM)))))) (aq (oh (bw hr) (pF K 0) (pv 2) (pv 1)) (aq (Lh (bw hr) (pF K 0) (aT nY hr (aa (pv 3) (aa (pv 4) (aa (pv 5) ag)))) (pv 2)) (au (aR (hU (dt (K:=K) rfl) (pv 3) (du (v:=.ref dA) rfl iI rfl) (by with_unfolding_all rfl)) (au (Lh (bw hr) (pF K 0) (dM (aa (pv 3) (aa (pv 4) ag))) (pv 5))) aY))))),?_⟩;obtain⟨dx,h1⟩:=ba.obj;have sz:(10000:Nat)<=sizeLine:=by rw[sizeLine_eq];omega
 have al:(b.fs.map (·.1)).length=l.bW.length:=by rw[Ya];exact(cX ba.fact).symm
 have Bp:l.h≠l.fc:=dU h1 ba.facts (λz=>by cases z);have nh2:l.h≠l.kn:=dU h1 ba.known (λz=>by cases z);have Sl:l.kn≠l.fc:=dU ba.known ba.facts (λz=>by cases z);have jw:l.pr≠l.fc:=dU ba.parents ba.facts (λz=>by cases z);have IK:l.pr≠l.kn:=λe=>by
  have:=ba.nd;unfold BL.own at this;simp[e] at this
 refine⟨_,rfl,fa,_,rfl,aA.of hf,rfl,_,_,rfl,bg ⟨_,_,rfl,bg ⟨_,_,rfl,bg ⟨_,_,rfl,bg ⟨rfl,?_⟩⟩⟩⟩⟩;refine⟨_,rfl,_,rfl,l.h,C,dx,_,_,rfl,h1,hc.cls,hc.pY,rfl,_,rfl,l.fc,_,.inl (z:Int),rfl,ba.facts,rfl,by unfold bp;rw[Ya,Jh,Ya];omega,λH1 b1 e1=>?_⟩;have vz:aS (bp (b.fs.map (·.1)) l.bW) (.inl (z:Int))=none:=yW nz;rw[kG _ vz,yK z fa al] at e1;refine⟨_,rfl,_,rfl,l.h,C,dx,_,_,rfl,b1 _ _ h1 Bp,hc.cls,hc.zC,rfl,_,rfl,_,rfl,_,rfl,c.k,av b.ps c.one,a_ b.ps c,rfl,λe=>Ny e,λp H2 xY g2 dF=>?_⟩;refine⟨l.kn,p,_,fk b.ps c,rfl,g2 _ _ (b1 _ _ ba.known Sl),rfl,dF,by unfold fq;rw[Ya];omega,λH3 b3 e3=>?_⟩;have vk:aS (fq b.ps b.fs) (fk b.ps c)=none:=qX (by
  have:(fq b.ps b.fs).map (·.1)=b.keys:=by unfold fq BS.keys;rw[Y9];rfl
  rw[this];exact nk)
 rw[kG _ vk] at e3
 replace e3:H3 l.kn=some (.dT (fq b.ps (b.fs++[(z,c)]))):=by rw[Zat];exact e3
 have k3:∀{a:Addr} {o:HO},H a=some o->a≠l.fc->a≠l.kn->H3 a=some o:=λ{a o} e n1 n2=>b3 _ _ (g2 _ _ (b1 _ _ e n1)) n2;have iE:H3 l.fc=some (.dK (bp ((b.fs++[(z,c)]).map (·.1)) (l.bW++[fa]))):=by
  have:=b3 _ _ (g2 _ _ e1) (λz=>Sl z.symm);rw[this,Yq];rfl
 have x_:=k3 ba.parents jw IK;refine⟨_,rfl,dA,_,rfl,.inr (qP _),rfl,rfl,_,rfl,?_⟩;dsimp only;rw[if_neg Yk,show e_ (kV (Sum.inr c.k)) (iq.map V.str)=cI c.k from zF c.k];refine bI (λcc=>?_) (λcc=>aW ?_)
 ·refine⟨_,rfl,_,rfl,l.h,C,dx,_,_,rfl,k3 h1 Bp nh2,hc.cls,hc.tZ,rfl,_,rfl,_,rfl,by show 2<=sizeLine;decide,λp4 H4 np4 g4 IL=>?_⟩;refine⟨l.pr,p4,_,[.inr c.k,.inr (av b.ps c.one)],rfl,g4 _ _ x_,rfl,IL,?_,λH5 b5 e5=>?_⟩
  ·unfold cg;rw[Ya];have:=Wi (λp:Nat×Fc=>cI p.2.k) b.fs;omega
  have vp:aS (cg b.ps b.fs) [.inr c.k,.inr (av b.ps c.one)]=none:=qX (np cc);rw[kG _ vp] at e5
  replace e5:H5 l.pr=some (.dT (cg b.ps (b.fs++[(z,c)]))):=by rw[Mp cc];exact e5
  refine q H5 (λa o e n=>?_) (b5 _ _ (g4 _ _ iE) (λz=>jw z.symm)) (b5 _ _ (g4 _ _ e3) (λz=>IK z.symm)) e5;simp only[Yn,Y2,or_false,not_or] at n;exact b5 _ _ (g4 _ _ (k3 e n.1 n.2.1)) n.2.2
 ·have ef:cI c.k=false:=by
   cases e:cI c.k with
   |true=>exact absurd e cc
   |false=>rfl
  refine q H3 (λa o e n=>?_) iE e3 (by rw[Mq ef];exact x_)
  grind
theorem ON{l:BL}{H H1:Hp}{jl gJ:JL}(e2:l.eI=jl.fp)(o:Out l.own H H1)(gr:eF jl.fp gJ.fp H1):eF l.fp ({l with eI:=gJ.fp}:BL).fp H:=λa z=>by
 rcases Yv.mp (show a∈l.own++gJ.fp from z) with q|q;·exact .inl (Yt _ q)
 ·rcases gr a q with m|m;·exact .inl (Yp _ (by rw[e2];exact m))
  ·by_cases ma:a∈l.own;·exact .inl (Yt _ ma)
   ·right
    cases e:H a with
    |none=>rfl
    |some u=>rw[o _ _ e ma] at m;cases m
theorem PB{l:BL}{H H1 H2:Hp}{jl:JL}(e2:l.eI=jl.fp)(o:Out l.own H H1)(o2:Out jl.fp H1 H2):Out l.fp H H2:=λa u e n=>o2 _ _ (o _ _ e λz=>n (Yt _ z)) λz=>n (Yp _ (by rw[e2];exact z))
theorem rA{l:BL}{H H1:Hp}(o:Out l.own H H1):Out l.fp H H1:=λa u e n=>o _ _ e λz=>n (Yt _ z)
abbrev uH:List Str:=["self","row"]
theorem Cb:aQ ["self","row","name","side"] uH (aK Cj):=.a8
theorem Zp(F:aL K "put_in" "Hearth.put_in" Cj f fd)(hc:eX K C)(tM:HasFn P w K mg base 1 "is_person" je (D7 K))(tN:bT P w K mg base 2 "add" CJ gu (FZ CJ))(BZ:bT P w K mg base 2 "note_fact" C se (OM C CL CJ))(tO:HasFn P w K mg base 6 "keep_fact" r_ (E8 CL CJ))(bl:Bl mg):aH P w K mg base aM 8 f fd uH (Nv C CL CJ):=by
 refine F.o Cb @λb_ A outer vs Q E s H hr h=>?_;obtain⟨l,b,b',xs,ys,r,rfl,ba,ok,mv,q⟩:=h;refine⟨_,(au (aR (d9 (aT tM hr (aa (pv 1) ag))) (aq (mP (pv 1) (iO (K:=K) (n:=2) rfl rfl (bQ (bA 2 Cb.nd) (bQ (bA 3 Cb.nd) iM)))) (aq (oh (bw hr) (pF K 0) (pv 2) (hJ (Xs) rfl bl.zZ zL (aa (pF K 0) ag))) (aq (oh (bw hr) (pF K 0) (pv 2) (pv 3)) (au (aR (bC zm (pF K 0) lL) (au (bZ (qb tN hr (by omega) (pF K 0)))) aY))))) (aq (bZ (cH BZ hr (by omega) (pv 0) (aa (pv 1) ag))) (au (aR (bC zm (pF K 0) lL) (au (bZ (aT tO hr (aa (pF K 0) (aa (pF K 0) (aa (pF K 0) (aa (pv 1) ag))))))) aY))))),?_⟩;obtain⟨dx,h1⟩:=ba.obj;have sz:(10000:Nat)<=sizeLine:=by rw[sizeLine_eq];omega
 have nd:=ba.nd;unfold BL.own at nd;have Sm:=nd;simp only[Yy,Yn,Y2,or_false,not_or] at Sm;obtain⟨⟨j9,cE,iF,mw,pA,nL,pB⟩,⟨ya,sL,sM,sN,u7,u9⟩,⟨qK,sO,sP,u_,vv⟩,_⟩:=Sm;have sf:∀p∈b.fs,dP xs.length b.ps.length p.2:=λp hp=>(ok.fg p hp).ok;cases mv with
 |pin n s hR new lim=>
  refine⟨_,rfl,r,_,rfl,aA.of hR,_,rfl,cW ?_⟩;refine⟨_,rfl,r,_,rfl,aA.of hR,rfl,_,_,rfl,bg ⟨_,_,rfl,bg ⟨rfl,?_⟩⟩⟩;have kl:(fV b.ps).length=b.ps.length:=Ya _;have pl':(ji b.ps).length=b.ps.length:=by unfold ji;rw[Ya,List.length_zipIdx]
  refine⟨_,rfl,l.h,C,dx,_,_,rfl,h1,hc.cls,hc.rp,rfl,l.sd,_,rfl,ba.cV,_,rfl,l.h,C,dx,_,_,rfl,h1,hc.cls,hc.ra,rfl,_,rfl,l.pl,_,.inr n,rfl,ba.places,rfl,by omega,λH1 b1 e1=>?_⟩;have ZdT:(ji b.ps).map (·.1)=b.ps.map λp=>(.inr p.1:Key):=by
   unfold ji;rw[Y9];have:(λp:(Str×Str)×Nat=>((.inr p.1.1:Key),V.int (p.2:Int)).1)=(λp:Str×Str=>(.inr p.1:Key))∘Prod.fst:=rfl;show b.ps.zipIdx.map (λp:(Str×Str)×Nat=>((.inr p.1.1:Key),V.int (p.2:Int)).1)=_;rw[this,←Y9,List.zipIdx_map_fst]
  have Qz:∀{ks:List Key},ks=(b.ps.map λp=>(.inr p.1:Key))->(.inr n:Key)∉ks:=λ{ks} e z=>by
   rw[e] at z;obtain⟨p,hp,ep⟩:=Yf.mp z;exact new (Yf.mpr ⟨p,hp,Wf ep⟩)
  have vp:aS (ji b.ps) (.inr n)=none:=qX (Qz ZdT);have vs':aS (fV b.ps) (.inr n)=none:=qX (Qz (by show(b.ps.map _).map _=_;rw[Y9];rfl));rw[kG _ vp,kl] at e1;refine⟨_,rfl,_,rfl,l.h,C,dx,_,_,rfl,b1 _ _ h1 cE,hc.cls,hc.rp,rfl,_,rfl,l.sd,_,.inr n,rfl,b1 _ _ ba.cV ya,rfl,by omega,λH2 b2 e2=>?_⟩;rw[kG _ vs'] at e2;have k2:∀{a:Addr} {o:HO},H a=some o->a≠l.pl->a≠l.sd->H2 a=some o:=λ{a o} e n1 n2=>b2 _ _ (b1 _ _ e n1) n2;have o2:Out l.own H H2:=λa u e na=>k2 e (λz=>na (by rw[z];simp[BL.own])) (λz=>na (by rw[z];simp[BL.own]));have s2:H2 l.sd=some (.dK (fV (b.ps++[(n,s)]))):=by rw[Zby];exact e2
  have p2:H2 l.pl=some (.dK (ji (b.ps++[(n,s)]))):=by rw[Zbz];exact b2 _ _ e1 (λz=>ya z.symm)
  have h2:=k2 h1 cE j9;have tp:∀{a:Addr} {us:List V} {H3:Hp},Out l.fp H H3->H a=some (.tup us)->H3 a=some (.tup us):=λo e=>o _ _ e (ba.tup e);have mk:∀(l':BL) (H3:Hp),l'={l with eI:=l'.eI}->Out l.fp H H3->eF l.fp l'.fp H->(∀a u,H2 a=some u->a∈l.own->H3 a=some u)->r9 H3 CJ xs.length l' {b with ps:=b.ps++[(n,s)]}->Q .az H3:=λl' H3 el o g k rk=>by
   refine q l' H3 ⟨by rw[el],o,g⟩ ?_;refine ba.build (l':=l') (b':={b with ps:=b.ps++[(n,s)]}) (by rw[el]) (by rw[el]) (by rw[el]) (by rw[el]) (by rw[el]) (by rw[el]) (by rw[el]) (by rw[el]) (by rw[el]) o g ⟨dx,?_⟩ (k _ _ s2 (by simp[BL.own])) (k _ _ p2 (by simp[BL.own])) ?_ ?_ ?_ ?_ ?_ ?_ ?_ ?_ rk
   ·have:l'.rk=l.rk:=by rw[el]
    rw[this];exact k _ _ h2 (by simp[BL.own])
   ·have:l'.bW=l.bW:=by rw[el]
    rw[this];exact k _ _ (k2 ba.facts (λz=>qK z.symm) (λz=>sL z.symm)) (by simp[BL.own])
   ·have:l'.bW=l.bW:=by rw[el]
    rw[this];have aux:∀{as:List Addr} {fs:List (Nat×Fc)},Paired (λa (p:Nat×Fc)=>H a=some (.tup ((dQ b.ps p.1 p.2).map kV))) as fs->(∀p∈fs,dP xs.length b.ps.length p.2)->Paired (λa (p:Nat×Fc)=>H3 a=some (.tup ((dQ (b.ps++[(n,s)]) p.1 p.2).map kV))) as fs:=by
     intro as fs pr;induction pr with
     |nil=>intro _;exact .nil
     |cons f _ ih=>intro m;exact .cons (by rw[Zbw (m _ Yg)];exact tp o f) (ih λp hp=>m p (Ys _ hp))
    exact aux ba.fact sf
   ·show H3 l.kn=some (.dT (fq (b.ps++[(n,s)]) b.fs));rw[Zbx sf];exact k _ _ (k2 ba.known (λz=>sO z.symm) (λz=>sM z.symm)) (by simp[BL.own])
   ·show H3 l.pr=some (.dT (cg (b.ps++[(n,s)]) b.fs));rw[Nt sf];exact k _ _ (k2 ba.parents (λz=>sP z.symm) (λz=>sN z.symm)) (by simp[BL.own])
   ·have:l'.gY=l.gY:=by rw[el]
    rw[this];exact k _ _ (k2 ba.done (λz=>u_ z.symm) (λz=>u7 z.symm)) (by simp[BL.own])
   ·have:l'.gY=l.gY:=by rw[el]
    rw[this];exact L2.Paired.bB ba.kW λ_ _ e=>e.out o λa us e=>ba.tup e
   ·have:l'.jY=l.jY:=by rw[el]
    rw[this];exact k _ _ (k2 ba.h_ (λz=>vv z.symm) (λz=>u9 z.symm)) (by simp[BL.own])
   ·have:l'.jY=l.jY:=by rw[el]
    rw[this];exact L2.Paired.bB ba.mV λ_ _ e=>e.out o λa us e=>ba.tup e
  cases hj:ba.rP with
  |no j1 j2=>
   rw[j1] at h2;refine⟨_,rfl,l.h,C,dx,_,_,rfl,h2,hc.cls,hc.hE,rfl,rfl,_,rfl,bR (aW ?_)⟩;exact mk l H2 rfl (rA o2) (eF.refl _ _) (λ_ _ e _=>e) (.no j1 j2)
  |at_ jl st j1 j2 ja me len fK=>
   have k9:=h2;rw[j1] at k9;have Bq:=ja.jL o2 fK (ba.FE ja me) λa us e z=>ba.tup e (Yt _ z);obtain⟨dj,ej⟩:=Bq.obj;have wf:=me.wf;have ml:=wf.OE;have x8:=wf.z6;have n8:xs.length<=8:=ok.gd.2.2.2.2;refine⟨_,rfl,l.h,C,dx,_,_,rfl,k9,hc.cls,hc.hE,rfl,rfl,_,rfl,cW ?_⟩;refine⟨_,rfl,l.h,C,dx,_,_,rfl,k9,hc.cls,hc.hE,rfl,jl.J,dj,_,rfl,ej,rfl,jl,st,xs.length,rfl,Bq,by omega,by omega,by omega,by omega,wf.ll,λz=>Y8 _ (wf.lm _ z),λz=>Y8 _ (wf.lf _ z),λgJ H3 k1 o3 gr IM=>?_⟩;refine mk {l with eI:=gJ.fp} H3 rfl (PB j2 o2 o3) (ON j2 o2 gr) (λa u e m=>o3 _ _ e (fK a m)) ?_;refine .at_ gJ _ (by rw[k1];exact j1) rfl IM (me.more (by have:=ok.gd.2.2.2.1;omega)) ?_ λa m z=>?_;·rw[iJ,len,Yl];rfl
   ·rcases gr a z with y|y;·exact fK a m y
    ·have:=ba.there (a:=a) (Yt _ m);have:H2 a≠none:=by
      have m':a∈l.own:=m;unfold BL.own at m';simp only[Yn,Y2,or_false] at m';rcases m' with rfl|rfl|rfl|rfl|rfl|rfl|rfl|rfl;·rw[h2];exact λz=>nomatch z
      ·rw[s2];exact λz=>nomatch z
      ·rw[p2];exact λz=>nomatch z
      ·rw[k2 ba.facts (λz=>qK z.symm) (λz=>sL z.symm)];exact λz=>nomatch z
      ·rw[k2 ba.known (λz=>sO z.symm) (λz=>sM z.symm)];exact λz=>nomatch z
      ·rw[k2 ba.parents (λz=>sP z.symm) (λz=>sN z.symm)];exact λz=>nomatch z
      ·rw[k2 ba.done (λz=>u_ z.symm) (λz=>u7 z.symm)];exact λz=>nomatch z
      ·rw[k2 ba.h_ (λz=>vv z.symm) (λz=>u9 z.symm)];exact λz=>nomatch z
     exact this y
 |fin z c hR fg nz nk np lv lim=>
  refine⟨_,rfl,r,_,rfl,aA.of hR,_,rfl,bR ?_⟩;refine⟨_,rfl,l.h,dx,_,rfl,h1,rfl,_,rfl,l,b,xs,ys,r,z,c,rfl,ba,hR,nz,nk,np,by omega,λH1 o1 f1 k1 p1=>?_⟩;have k2:∀{a:Addr} {o:HO},H a=some o->a≠l.fc->a≠l.kn->a≠l.pr->H1 a=some o:=λ{a o} e n1 n2 n3=>o1 _ _ e (by simp[n1,n2,n3]);have o2:Out l.own H H1:=λa u e na=>k2 e (λz=>na (by rw[z];simp[BL.own])) (λz=>na (by rw[z];simp[BL.own])) (λz=>na (by rw[z];simp[BL.own]));have h2:=k2 h1 iF mw pA;have Sn:=nd;simp only[Yy,Yn,Y2,or_false,not_or] at Sn;obtain⟨_,_,_,⟨yb,yc,vw,uI⟩,⟨Br,yd,ye⟩,⟨yf,yg⟩,_⟩:=Sn;have s2:=k2 ba.cV sL sM sN;have p2:=k2 ba.places qK sO sP;have d2:=k2 ba.done (λz=>vw z.symm) (λz=>yd z.symm) (λz=>yf z.symm);have u2:=k2 ba.h_ (λz=>uI z.symm) (λz=>ye z.symm) (λz=>yg z.symm);have tp:∀{a:Addr} {us:List V} {H3:Hp},Out l.fp H H3->H a=some (.tup us)->H3 a=some (.tup us):=λo e=>o _ _ e (ba.tup e);have mk:∀(jf:List Addr) (H3:Hp),Out l.fp H H3->eF l.fp ({l with bW:=l.bW++[r],eI:=jf}:BL).fp H->(∀a u,H1 a=some u->a∈l.own->H3 a=some u)->r9 H3 CJ xs.length {l with bW:=l.bW++[r],eI:=jf} {b with fs:=b.fs++[(z,c)]}->Q .az H3:=λjf H3 o g k rk=>by
   refine q {l with bW:=l.bW++[r],eI:=jf} H3 ⟨rfl,o,g⟩ ?_;refine ba.build (l':={l with bW:=l.bW++[r],eI:=jf}) (b':={b with fs:=b.fs++[(z,c)]}) rfl rfl rfl rfl rfl rfl rfl rfl rfl o g ⟨dx,k _ _ h2 (by simp[BL.own])⟩ (k _ _ s2 (by simp[BL.own])) (k _ _ p2 (by simp[BL.own])) (k _ _ f1 (by simp[BL.own])) ?_ (k _ _ k1 (by simp[BL.own])) (k _ _ p1 (by simp[BL.own])) (k _ _ d2 (by simp[BL.own])) (L2.Paired.bB ba.kW λ_ _ e=>e.out o λa us e=>ba.tup e) (k _ _ u2 (by simp[BL.own])) (L2.Paired.bB ba.mV λ_ _ e=>e.out o λa us e=>ba.tup e) rk;exact jB (F:=λa (p:Nat×Fc)=>H3 a=some (.tup ((dQ b.ps p.1 p.2).map kV))) (tp o hR) (L2.Paired.bB ba.fact λ_ _ e=>tp o e)
  cases hj:ba.rP with
  |no j1 j2=>
   rw[j1] at h2;refine⟨_,rfl,l.h,C,dx,_,_,rfl,h2,hc.cls,hc.hE,rfl,rfl,_,rfl,bR (aW ?_)⟩;exact mk l.eI H1 (rA o2) (eF.refl _ _) (λ_ _ e _=>e) (.no j1 j2)
  |at_ jl st j1 j2 ja me len fK=>
   have k9:=h2;rw[j1] at k9;have Bq:=ja.jL o2 fK (ba.FE ja me) λa us e z=>ba.tup e (Yt _ z);have la2:hZ H1 CL l.L xs ys:=ba.land H1 (rA o2);refine⟨_,rfl,l.h,C,dx,_,_,rfl,k9,hc.cls,hc.hE,rfl,rfl,_,rfl,cW ?_⟩;refine⟨_,rfl,l.h,C,dx,_,_,rfl,k9,hc.cls,hc.hE,rfl,_,rfl,l.h,C,dx,_,_,rfl,k9,hc.cls,hc.uk,rfl,_,rfl,l.h,C,dx,_,_,rfl,k9,hc.cls,hc.ra,rfl,_,rfl,jl,st,l.L,l.pl,r,xs,ys,b.ps,b.F,z,c,rfl,Bq,me,la2,ok.gd,p2,ok.nm,len,by have:=ok.m;omega,tp (rA o2) hR,fg,?_,λv gJ aN H3 e1 sub o3 IM me3 ZeL=>?_⟩
   ·obtain⟨f0,i0,s0⟩:=lv;exact⟨f0,(me.iff f0).mpr ⟨by rw[len];exact i0,λc' m'=>s0 c' (Yt _ m')⟩,s0 c (Yp _ Yg)⟩
   have gr:eF jl.fp gJ.fp H1:=λa z=>.inl (sub a z);refine mk gJ.fp H3 (PB j2 o2 o3) (ON j2 o2 gr) (λa u e m=>o3 _ _ e (fK a m)) ?_;refine .at_ gJ aN (by rw[e1];exact j1) rfl IM ?_ (by rw[ZeL];exact len) λa m z=>fK a m (sub a z);show dD xs.length aN ((b.fs++[(z,c)]).map (·.2));rw[Yq];exact me3
end
section
variable {K:ai}{mg:aX}{dA:Addr}
theorem Mr{l l':BL}{H:Hp}(e1:l'.own=l.own)(e2:l'.eI=[]):eF l.fp l'.fp H:=λa z=>.inl (by
 unfold BL.fp at z;rw[e1,e2,Wh] at z;exact Yt _ z)
theorem vO:aQ ["self","row","number","kind","one","other"] uH (aK B4):=.a8
theorem WU(F:aL K "take_out" "Hearth.take_out" B4 f fd)(hc:eX K C)(iI:mg "PARENTS"=some (.ref dA))(qP:∀H,aA K H dA (iq.map V.str))(tM:HasFn P w K mg base 1 "is_person" je (D7 K))(nY:HasFn P w K mg base 1 "fact_key" uF z7):aH P w K mg base aM 2 f fd uH (Lz C CL CJ):=by
 refine F.o vO @λb_ A outer vs Q E s H hr h=>?_;obtain⟨l,b,b',xs,ys,r,rfl,ba,ok,mv,q⟩:=h;refine⟨_,(aq (aR (d9 (aT tM hr (aa (pv 1) ag))) fG (aq (mP (pv 1) (iO (K:=K) (n:=4) rfl rfl (bQ (bA 2 vO.nd) (bQ (bA 3 vO.nd) (bQ (bA 4 vO.nd) (bQ (bA 5 vO.nd) iM)))))) (aq (Z8 (pF K 0) (pv 2)) (aq (L5 (bw hr) (pF K 0) (aT nY hr (aa (pv 3) (aa (pv 4) (aa (pv 5) ag))))) (au (aR (hU (dt (K:=K) rfl) (pv 3) (du (v:=.ref dA) rfl iI rfl) (by with_unfolding_all rfl)) (au (L5 (bw hr) (pF K 0) (dM (aa (pv 3) (aa (pv 4) ag))))) aY)))))) (au (fZ (K:=K) rfl (pv 0) lL))),?_⟩;obtain⟨dx,h1⟩:=ba.obj;have sz:(10000:Nat)<=sizeLine:=by rw[sizeLine_eq];omega
 have nd:=ba.nd;unfold BL.own at nd;simp only[Yy,Yn,Y2,or_false,not_or] at nd;obtain⟨⟨j9,cE,iF,mw,pA,nL,pB⟩,⟨ya,sL,sM,sN,u7,u9⟩,⟨qK,sO,sP,u_,vv⟩,⟨yb,yc,vw,uI⟩,⟨Br,yd,ye⟩,⟨yf,yg⟩,_⟩:=nd;cases mv with
 |uG z c hR m=>
  have al:(b.fs.map (·.1)).length=l.bW.length:=by rw[Ya];exact(cX ba.fact).symm
  obtain⟨fa,Bs,_⟩:=E_ (H:=H) (ps:=b.ps) ba.fact ok.zs m;have ZdU:(fq b.ps b.fs).map (·.1)=b.keys:=by unfold fq BS.keys;rw[Y9];rfl
  refine⟨_,rfl,r,_,rfl,aA.of hR,_,rfl,bR ?_⟩;refine⟨_,rfl,r,_,rfl,aA.of hR,rfl,_,_,rfl,bg ⟨_,_,rfl,bg ⟨_,_,rfl,bg ⟨_,_,rfl,bg ⟨rfl,?_⟩⟩⟩⟩⟩;refine⟨_,rfl,l.h,C,dx,_,_,rfl,h1,hc.cls,hc.pY,rfl,_,rfl,l.fc,_,.inl (z:Int),rfl,ba.facts,rfl,by rw[Bs];rfl,λH1 b1 e1=>?_⟩;rw[yL z al,←oi] at e1;refine⟨_,rfl,l.h,C,dx,_,_,rfl,b1 _ _ h1 iF,hc.cls,hc.zC,rfl,_,rfl,_,rfl,_,rfl,c.k,av b.ps c.one,a_ b.ps c,rfl,λe=>Ny e,λp H2 xY g2 dF=>?_⟩;refine⟨l.kn,p,_,fk b.ps c,rfl,g2 _ _ (b1 _ _ ba.known (λz=>yb z.symm)),rfl,dF,(zd _ _).mpr (by rw[ZdU];exact Yf.mpr ⟨_,m,rfl⟩),λH3 b3 e3=>?_⟩;rw[Zau ok.zs ok.ky m] at e3;have k3:∀{a:Addr} {o:HO},H a=some o->a≠l.fc->a≠l.kn->H3 a=some o:=λ{a o} e n1 n2=>b3 _ _ (g2 _ _ (b1 _ _ e n1)) n2;have ef3:=b3 _ _ (g2 _ _ e1) yb;have x_:=k3 ba.parents (λz=>yc z.symm) (λz=>Br z.symm);have last:∀H5,(∀{a:Addr} {o:HO},H3 a=some o->a≠l.pr->H5 a=some o)->H5 l.pr=some (.dT (cg b.ps (cS z b.fs)))->∀H6,ay l.h H5 H6->H6 l.h=some (.ins C dx (HF l.L l.sd l.pl l.fc l.kn l.pr (b.co:Int) l.dn l.un .az))->Q .az H6:=λH5 k5 e5 H6 b6 e6=>by
   have k6:∀{a:Addr} {o:HO},H a=some o->a≠l.fc->a≠l.kn->a≠l.pr->a≠l.h->H6 a=some o:=λ{a o} e n1 n2 n3 n4=>b6 _ _ (k5 (k3 e n1 n2) n3) n4;have o6:Out l.own H H6:=λa u e na=>k6 e (λz=>na (by rw[z];simp[BL.own])) (λz=>na (by rw[z];simp[BL.own])) (λz=>na (by rw[z];simp[BL.own])) (λz=>na (by rw[z];simp[BL.own]));have of:=rA o6;have tp:∀{a:Addr} {us:List V},H a=some (.tup us)->H6 a=some (.tup us):=λe=>of _ _ e (ba.tup e);refine q {l with rk:=.az,eI:=[],bW:=dO (b.fs.map (·.1)) l.bW z} H6 ⟨rfl,of,Mr rfl rfl⟩ ?_;exact ba.build (l':={l with rk:=.az,eI:=[],bW:=dO (b.fs.map (·.1)) l.bW z}) (b':={b with fs:=cS z b.fs}) rfl rfl rfl rfl rfl rfl rfl rfl rfl of (Mr rfl rfl) ⟨dx,e6⟩ (k6 ba.cV sL sM sN (λz=>j9 z.symm)) (k6 ba.places qK sO sP (λz=>cE z.symm)) (b6 _ _ (k5 ef3 yc) (λz=>iF z.symm)) (D5 ba.fact λa p e _ _=>tp e) (b6 _ _ (k5 e3 Br) (λz=>mw z.symm)) (b6 _ _ e5 (λz=>pA z.symm)) (k6 ba.done (λz=>vw z.symm) (λz=>yd z.symm) (λz=>yf z.symm) (λz=>nL z.symm)) (L2.Paired.bB ba.kW λ_ _ e=>e.out of λa us e=>ba.tup e) (k6 ba.h_ (λz=>uI z.symm) (λz=>ye z.symm) (λz=>yg z.symm) (λz=>pB z.symm)) (L2.Paired.bB ba.mV λ_ _ e=>e.out of λa us e=>ba.tup e) (.no rfl rfl)
  refine⟨_,rfl,dA,_,rfl,.inr (qP _),rfl,rfl,_,rfl,?_⟩;dsimp only;rw[if_neg Yk,show e_ (kV (Sum.inr c.k)) (iq.map V.str)=cI c.k from zF c.k];refine bI (λcc=>?_) (λcc=>aW ?_)
  ·refine⟨_,rfl,l.h,C,dx,_,_,rfl,k3 h1 iF mw,hc.cls,hc.tZ,rfl,_,rfl,_,rfl,by show 2<=sizeLine;decide,λp4 H4 np4 g4 IL=>?_⟩;refine⟨l.pr,p4,_,[.inr c.k,.inr (av b.ps c.one)],rfl,g4 _ _ x_,rfl,IL,(zd _ _).mpr ?_,λH5 b5 e5=>?_⟩
   ·unfold cg;rw[Y9];exact Yf.mpr ⟨(z,c),Y5.mpr ⟨m,cc⟩,rfl⟩
   rw[Zav ok.zs ok.pr m cc] at e5;have k5:∀{a:Addr} {o:HO},H3 a=some o->a≠l.pr->H5 a=some o:=λ{a o} e n=>b5 _ _ (g4 _ _ e) n;refine⟨_,rfl,l.h,C,dx,_,rfl,k5 (k3 h1 iF mw) pA,hc.cls,hc.hE,by show 10<1000;decide,λH6 b6 e6=>?_⟩;exact last H5 k5 e5 H6 b6 e6
  ·have ef:cI c.k=false:=by
    cases e:cI c.k with
    |true=>exact absurd e cc
    |false=>rfl
   refine⟨_,rfl,l.h,C,dx,_,rfl,k3 h1 iF mw,hc.cls,hc.hE,by show 10<1000;decide,λH6 b6 e6=>?_⟩;exact last H3 (λe _=>e) (by rw[←Zo ok.zs m ef];exact x_) H6 b6 e6
abbrev m_:List Str:=["self","way","row","coming"]
theorem UB:aQ m_ m_ (aK Cy):=.a8
theorem Zaw(F:aL K "shift" "Hearth.shift" Cy f fd)(hc:eX K C)(oj:mg "PUT_IN"=some (.int 1 t1))(Cn:bT P w K mg base 8 "put_in" C uH (Nv C CL CJ))(B6:bT P w K mg base 2 "take_out" C uH (Lz C CL CJ)):aH P w K mg base aM 9 f fd m_ (Nx C CL CJ):=by
 refine F.o UB @λb_ A outer vs Q E s H hr h=>?_;obtain⟨l,b,b',xs,ys,r,w',c2,rfl,ba,ok,mv,q⟩:=h;refine⟨_,(aq (aR (bC ck (pv 1) (du (v:=.int (1)) rfl oj ⟨_,rfl⟩)) (au (bZ (cH Cn hr (by omega) (pv 0) (aa (pv 2) ag)))) (au (bZ (cH B6 hr (by omega) (pv 0) (aa (pv 2) ag))))) (au (fZ (K:=K) rfl (pv 0) (pv 3)))),?_⟩;obtain⟨dx,h1⟩:=ba.obj;have last:∀(l':BL) (H1:Hp),cy H H1 l l'->bj H1 C CL CJ l' xs ys b'->∀(jg:Addr) (H2:Hp),H1 l'.h=some (.ins C jg (HF l'.L l'.sd l'.pl l'.fc l'.kn l'.pr (b'.co:Int) l'.dn l'.un l'.rk))->ay l'.h H1 H2->H2 l'.h=some (.ins C jg (HF l'.L l'.sd l'.pl l'.fc l'.kn l'.pr (c2:Int) l'.dn l'.un l'.rk))->Q .az H2:=λl' H1 wt cN jg H2 e1 b2 e2=>by
  have nd:=cN.nd;unfold BL.own at nd;simp only[Yy,Yn,Y2,or_false,not_or] at nd;obtain⟨⟨j9,cE,iF,mw,pA,nL,pB⟩,_⟩:=nd;have o2:Out l'.own H1 H2:=λa u e na=>b2 _ _ e (λz=>na (by rw[z];simp[BL.own]));have of:=rA o2;have vy:=(cN.owned (l':=l') (b':={b' with co:=c2}) rfl rfl rfl rfl rfl rfl rfl rfl rfl (.inl ⟨rfl,rfl,rfl,rfl⟩) o2 ⟨jg,e2⟩ (b2 _ _ cN.cV (λz=>j9 z.symm)) (b2 _ _ cN.places (λz=>cE z.symm)) (b2 _ _ cN.facts (λz=>iF z.symm)) (L2.Paired.bB cN.fact λ_ _ e=>(λe=>of _ _ e (cN.tup e)) e) (b2 _ _ cN.known (λz=>mw z.symm)) (b2 _ _ cN.parents (λz=>pA z.symm)) (b2 _ _ cN.done (λz=>nL z.symm)) (L2.Paired.bB cN.kW λ_ _ e=>e.out of λa us e=>cN.tup e) (b2 _ _ cN.h_ (λz=>pB z.symm)) (L2.Paired.bB cN.mV λ_ _ e=>e.out of λa us e=>cN.tup e)).1;exact q l' H2 (wt.trans ⟨rfl,of,eF.refl _ _⟩) vy
 have go:∀(l':BL) (H1:Hp),cy H H1 l l'->bj H1 C CL CJ l' xs ys b'->∃jg,H1 l.h=some (.ins C jg (HF l'.L l'.sd l'.pl l'.fc l'.kn l'.pr (b'.co:Int) l'.dn l'.un l'.rk))/\∀H2,ay l.h H1 H2->H2 l.h=some (.ins C jg (HF l'.L l'.sd l'.pl l'.fc l'.kn l'.pr (c2:Int) l'.dn l'.un l'.rk))->Q .az H2:=λl' H1 wt cN=>by
  obtain⟨jg,e1⟩:=cN.obj;have eh:=wt.h
  grind
 have w12:w'=1\/w'=-1:=by cases mv<;>first|exact .inl rfl|exact .inr rfl
 rcases w12 with rfl|rfl
 ·refine⟨_,rfl,rfl,_,rfl,cW ?_⟩;refine⟨_,rfl,l.h,dx,_,rfl,h1,rfl,_,rfl,l,b,b',xs,ys,r,rfl,ba,ok,mv,λl' H1 wt cN=>?_⟩;obtain⟨jg,e1,k⟩:=go l' H1 wt cN;exact⟨_,rfl,_,rfl,l.h,C,jg,_,rfl,e1,hc.cls,hc.pT,by show 10<1000;decide,λH2 b2 e2=>k H2 b2 e2⟩
 ·refine⟨_,rfl,rfl,_,rfl,bR ?_⟩;refine⟨_,rfl,l.h,dx,_,rfl,h1,rfl,_,rfl,l,b,b',xs,ys,r,rfl,ba,ok,mv,λl' H1 wt cN=>?_⟩;obtain⟨jg,e1,k⟩:=go l' H1 wt cN;exact⟨_,rfl,_,rfl,l.h,C,jg,_,rfl,e1,hc.cls,hc.pT,by show 10<1000;decide,λH2 b2 e2=>k H2 b2 e2⟩
theorem T9:aQ m_ m_ (aK B_):=.a8
theorem XS(F:aL K "do_deed" "Hearth.do_deed" B_ f fd)(hc:eX K C)(CA:bT P w K mg base 9 "shift" C m_ (Nx C CL CJ)):aH P w K mg base aM 10 f fd m_ (zg C CL CJ):=by
 refine F.o T9 λs H hr h=>?_;obtain⟨l,b,b',xs,ys,r,w',c2,row,rfl,ba,ok,dl,hR,mv,q⟩:=h;refine⟨_,(aq (bZ (jJ (K:=K) rfl (ic plainAttrs_list PySem.F.slot_list_append PySem.F.type_list_append pM (pF K 0) (aa (dM (aa (pv 1) (aa (pv 2) (aa (pF K 0) (aa (pv 3) ag))))) ag)))) (aq (bZ (Za9 (K:=K) rfl (Zb8 plainAttrs_list PySem.F.slot_list_clear PySem.F.type_list_clear YX (pF K 0)))) (au (bZ (cH CA hr (by omega) (pv 0) (aa (pv 1) (aa (pv 2) (aa (pv 3) ag)))))))),?_⟩;obtain⟨dx,h1⟩:=ba.obj;have sz:(10000:Nat)<=sizeLine:=by rw[sizeLine_eq];omega
 have nd:=ba.nd;unfold BL.own at nd;simp only[Yy,Yn,Y2,or_false,not_or] at nd;obtain⟨⟨j9,cE,iF,mw,pA,nL,pB⟩,⟨ya,sL,sM,sN,u7,u9⟩,⟨qK,sO,sP,u_,vv⟩,⟨yb,yc,vw,uI⟩,⟨Br,yd,ye⟩,⟨yf,yg⟩,So,_⟩:=nd;have dal:=cX ba.kW;refine⟨_,rfl,l.h,C,dx,_,_,rfl,h1,hc.cls,hc.OJ,rfl,.inl ⟨rfl,_,ak.of ba.done⟩,?_⟩;refine⟨_,rfl,_,rfl,_,rfl,l.h,C,dx,_,_,rfl,h1,hc.cls,hc.pT,rfl,_,rfl,by show 4<=sizeLine;omega,λp H1 np g1 e1=>?_⟩;refine⟨l.dn,_,_,rfl,rfl,g1 _ _ ba.done,by rw[Ya];omega,λH2 b2 e2=>?_⟩;have a1:=b2 _ _ (g1 _ _ h1) nL;have a7:=b2 _ _ (g1 _ _ ba.h_) (λz=>So z.symm);refine⟨_,rfl,l.h,C,dx,_,_,rfl,a1,hc.cls,hc.Mm,rfl,.inl ⟨rfl,_,ak.of a7⟩,l.un,_,rfl,rfl,a7,λH3 b3 e3=>?_⟩;have k3:∀{a:Addr} {o:HO},H a=some o->a≠l.dn->a≠l.un->H3 a=some o:=λ{a o} e n1 n2=>b3 _ _ (b2 _ _ (g1 _ _ e) n1) n2;have o3:Out l.own H H3:=λa u e na=>k3 e (λz=>na (by rw[z];simp[BL.own])) (λz=>na (by rw[z];simp[BL.own]));have of:=rA o3;have tp:∀{a:Addr} {us:List V},H a=some (.tup us)->H3 a=some (.tup us):=λe=>of _ _ e (ba.tup e);have pu:p≠l.un:=λz=>by rw[z,ba.h_] at np;cases np
 have ed:H3 l.dn=some (.lst ((l.gY++[p]).map V.ref)):=by rw[Yq];exact b3 _ _ e2 So
 have lC:=(ba.owned (l':={l with gY:=l.gY++[p],jY:=[]}) (b':={b with dn:=b.dn++[⟨w',row,b.co,c2⟩],un:=[]}) rfl rfl rfl rfl rfl rfl rfl rfl rfl (.inl ⟨rfl,rfl,rfl,rfl⟩) o3 ⟨dx,k3 h1 nL pB⟩ (k3 ba.cV u7 u9) (k3 ba.places u_ vv) (k3 ba.facts vw uI) (L2.Paired.bB ba.fact λ_ _ e=>tp e) (k3 ba.known yd ye) (k3 ba.parents yf yg) ed (jB (F:=mU H3) ⟨r,b3 _ _ (b2 _ _ e1 (λz=>by rw[z,ba.done] at np;cases np)) pu,tp hR⟩ (L2.Paired.bB ba.kW λ_ _ e=>e.out of λa us e=>ba.tup e)) e3 .nil);have h3:=k3 h1 nL pB;refine⟨_,rfl,l.h,dx,_,rfl,h3,rfl,_,rfl,_,rfl,_,rfl,{l with gY:=l.gY++[p],jY:=[]},_,_,xs,ys,r,w',c2,rfl,lC.1,⟨ok.gd,ok.nm,ok.m,ok.fl,ok.fg,ok.zs,ok.lt,ok.ky,ok.pr,ok.lv,by show(b.dn++[_]).length<=200;rw[Yl];show b.dn.length+1<=200;omega,Yw _⟩,((mv.ZdS _ _).out λus e=>tp e),λl' H4 wt IP=>?_⟩;exact q l' H4 (cy.trans (l1:={l with gY:=l.gY++[p],jY:=[]}) ⟨rfl,of,lC.2⟩ wt) IP
end
theorem cG.ZeM(j:cG H C n l st)(h:a∈l.bW):∃us,H a=some (.lst us):=by
 obtain⟨p,e⟩:=v_ j.free h
 grind
theorem cG.sQ(j:cG H C n l st)(e:H a=some o)(nl:∀us,o≠.lst us)(nt:∀us,o≠.tup us)(na:a∉l.fp)(br:ay a H H'):cG H' C n l st:=by
 refine j.jL (fp:=[a]) (λb u eb nb=>br _ _ eb λz=>nb (by rw[z];exact Yg)) (λb hb=>?_) (λb hb z=>?_) λb us eb z=>?_;·grind
 ·rw[Yo.mp hb] at z;obtain⟨us,q⟩:=j.ZeM z
  grind
 ·grind
inductive oH(H:Hp)(C CJ dx d:Addr)(l:BL)(b:BS)(n:Nat)(J:Addr)(F:List Fc)(m:Nat)(H6:Hp):Prop
 |mk (jl:JL) (st:JS) (eJ:jl.J=J) (keep:∀a u,H a=some u->a≠l.h->a≠d->H6 a=some u) (obj:H6 l.h=some (.ins C dx (HF l.L l.sd l.pl l.fc l.kn l.pr (b.co:Int) l.dn l.un (.ref J)))) (ja:cG H6 CJ n jl st) (me:dD n st F) (len:st.hd.length=m) (new:∀a∈jl.fp,H a=none):oH H C CJ dx d l b n J F m H6
theorem oH.sQ(j:oH H C CJ dx d l b n J F m H6)(hd:H d'≠none)(e:H6 d'=some o)(nl:∀us,o≠.lst us)(nt:∀us,o≠.tup us)(nh:d'≠l.h)(br:ay d' H6 H7)(kd:∀u,H d=some u->d≠d'->d≠l.h->H7 d=some u):oH H C CJ dx d' l b n J F m H7:=by
 obtain⟨jl,st,eJ,keep,obj,ja,me,len,new⟩:=j;refine⟨jl,st,eJ,λa u ea n1 n2=>?_,br _ _ obj (λz=>nh z.symm),ja.sQ e nl nt (λz=>hd (new _ z)) br,me,len,new⟩;by_cases z:a=d;·grind
 ·exact br _ _ (keep a u ea n1 z) n2
theorem LA:∀{ks:List Nat} {as:List Addr} {i:Nat} {k:Key} {y:V},(bp ks as)[i]?=some (k,y)->∃a,as[i]?=some a/\y=.ref a
 |[],as,i,k,y,h=>by
  unfold bp at h;simp at h
 |_::_,[],i,k,y,h=>by
  unfold bp at h;simp at h
 |q::ks,a::as,0,k,y,h=>by
  injection(Ym h) with _ e2
  grind
 |q::ks,a::as,i+1,k,y,h=>by
  have e0:bp (q::ks) (a::as)=(Sum.inl (q:Int),V.ref a)::bp ks as:=rfl;rw[e0] at h;have h':(bp ks as)[i]?=some (k,y):=by simpa using h
  obtain⟨b,e1,e2⟩:=LA h'
  grind
inductive Fb(C CL CJ:Addr)(vs:List V)(H:Hp)(Q:VK)(E:XK):Prop
 |mk (l:BL) (b:BS) (xs ys:List Int) (aE:vs=[.ref l.h]) (ba:bj H C CL CJ l xs ys b) (ok:cM xs ys b) (q:∀(l':BL) (jl:JL) (st:JS) (H':Hp),cy H H' l l'->bj H' C CL CJ l' xs ys b->l'.rk=.ref jl.J->l'.eI=jl.fp->cG H' CJ xs.length jl st->dD xs.length st b.F->st.hd.length=b.ps.length->(∀a∈l'.own,a∉jl.fp)->(l.rk≠.az->H'=H/\l'=l)->Q (.ref jl.J) H')
section
variable {K:ai}{mg:aX}
theorem Co:aQ ["self","name","fact"] gu (aK Cw):=.a8
theorem Zax(F:aL K "joins" "Hearth.joins" Cw f fd)(hc:eX K C)(lc:uv K CL)(Fd:oE P w K mg base 1 "Joins" CJ Am (Ng CJ))(tN:bT P w K mg base 2 "add" CJ gu (FZ CJ))(tO:HasFn P w K mg base 6 "keep_fact" r_ (E8 CL CJ)):aH P w K mg base aM 8 f fd gu (Fb C CL CJ):=by
 refine F.o Co λs H hr h=>?_;obtain⟨l,b,xs,ys,rfl,ba,ok,q⟩:=h;refine⟨_,(aq (aR (bC Fn (pF K 0) lL) (aq (fZ (K:=K) rfl (pv 0) (FR Fd hr (by omega) rfl (aa (uc (K:=K) rfl (pF K 0) rfl) ag))) (aq (Xv (H0:=H) rfl PassesOwn.never rfl (Za_ (H0:=H) rfl (pF K 0)) (bA 1 Co.nd) (au (bZ (qb tN hr (by omega) (pF K 0))))) (au (Xw (H0:=H) rfl PassesOwn.never rfl (Zbc (H0:=H) rfl (pF K 0)) (bA 2 Co.nd) (au (bZ (aT tO hr (aa (pF K 0) (aa (pF K 0) (aa (pF K 0) (aa (pv 2) ag))))))))))) aY) (au (aG (pF K 0)))),?_⟩;obtain⟨dx,h1⟩:=ba.obj;have n8:xs.length<=8:=ok.gd.2.2.2.2;have n0:0<xs.length:=by have:=ok.gd.2.2.2.1;omega
 have nd:=ba.nd;unfold BL.own at nd;simp only[Yy,Yn,Y2,or_false,not_or] at nd;obtain⟨⟨j9,cE,iF,mw,pA,nL,pB⟩,⟨ya,sL,sM,sN,u7,u9⟩,⟨qK,sO,sP,u_,vv⟩,⟨yb,yc,vw,uI⟩,_⟩:=nd;cases hj:ba.rP with
 |at_ jl st j1 j2 ja me len fK=>
  have kZ:=h1;rw[j1] at kZ;refine⟨_,rfl,l.h,C,dx,_,_,rfl,kZ,hc.cls,hc.hE,rfl,rfl,_,rfl,bR (aW ?_)⟩;exact⟨_,rfl,l.h,C,dx,_,_,rfl,kZ,hc.cls,hc.hE,rfl,q l jl st H (cy.of (aj.refl _)) ba j1 j2 ja me len fK λ_=>⟨rfl,rfl⟩⟩
 |no j1 j2=>
  have kZ:=h1;rw[j1] at kZ;refine lO (λσ H6=>∃(J:Addr) (o1 o2:Option V),σ=[some (.ref l.h),o1,o2]/\oH H C CJ dx l.h l b xs.length J b.F b.ps.length H6) (λnx hn=>?_) ?_
  ·refine⟨_,rfl,l.h,C,dx,_,_,rfl,kZ,hc.cls,hc.hE,rfl,rfl,_,rfl,cW ?_⟩;obtain⟨dL,dS,mo,jZ,wi,im,jf,iw,HR,hL,_⟩:=ba.landAt;refine⟨_,rfl,l.h,C,dx,_,_,rfl,kZ,hc.cls,hc.uk,rfl,l.L,CL,dL,_,_,rfl,hL,lc.cls,lc.rD,rfl,λx vA nM qG nd2=>?_⟩;have Im:upd H vA (.own x) x=none:=by rw[aC (λz=>nd2 z.symm)];exact nM
   have Sq:aj H (upd (upd H vA (.own x)) x (.ins CJ vA [])):=(cz qG _).trans (cz Im _);refine⟨x,vA,xs.length,rfl,aI,λIQ H2 eJ1 em1 fr1 b2 ja1=>⟨rfl,?_⟩⟩;have f1:∀a∈IQ.fp,H a=none:=λa ha=>by
    by_cases z:a=x;·rw[z];exact nM
    ·exact Sq.free (fr1 a ha z)
   have g2:aj H H2:=λa o e=>b2 _ _ (Sq _ _ e) (bO e nM);refine⟨_,rfl,l.h,C,dx,_,rfl,g2 _ _ kZ,hc.cls,hc.hE,by show 10<1000;decide,λH3 b3 e3=>?_⟩;have Sr:H3 l.h=some (.ins C dx (HF l.L l.sd l.pl l.fc l.kn l.pr (b.co:Int) l.dn l.un (.ref x))):=e3;have Bp:l.h∉IQ.fp:=λz=>by have:=f1 _ z;rw[h1] at this;cases this
   have jm3:oH H C CJ dx l.h l b xs.length x [] 0 H3:=⟨IQ,_,eJ1,λa u e n1 _=>b3 _ _ (g2 _ _ e) n1,Sr,ja1.sQ (g2 _ _ kZ) (λus z=>nomatch z) (λus z=>nomatch z) Bp b3,ZdR,rfl,f1⟩;have s3:H3 l.sd=some (.dK (fV b.ps)):=b3 _ _ (g2 _ _ ba.cV) (λz=>j9 z.symm);dsimp only;refine hV (λσ H6=>∃o1 o2:Option V,σ=[some (.ref l.h),o1,o2]/\oH H C CJ dx l.h l b xs.length x [] b.ps.length H6) (λBu nN=>?_) ?_
   ·refine Z6 (d:=l.sd) (kvs:=fV b.ps) (H1:=H3) (λR r=>⟨_,rfl,l.h,C,dx,_,_,rfl,Sr,hc.cls,hc.rp,rfl,r⟩) s3 (λi σ H6=>∃o1 o2:Option V,σ=[some (.ref l.h),o1,o2]/\oH H C CJ dx l.sd l b xs.length x [] i H6) (λod=>⟨none,none,rfl,jm3.sQ (by rw[ba.cV];exact λz=>nomatch z) s3 (λus z=>nomatch z) (λus z=>nomatch z) (λz=>j9 z.symm) (ay.put (ay.of (aj.refl _))) (λu _ _ z=>absurd rfl z)⟩) ?_ ?_
    ·rintro od i k y aO H6 N rt bk hk ⟨o1,o2,rfl,jm⟩ fz hN;obtain⟨jl,st,eJ,keep,obj,ja,me,len,new⟩:=jm;have il:i<b.ps.length:=by
      have:=(Yi.mp hk).1
      rwa [Ya] at this
     have im:=ok.m;obtain⟨dj,ej⟩:=ja.obj;have wf:=me.wf;have ml:=wf.OE;have x8:=wf.z6;refine bg ?_;refine⟨_,rfl,l.h,C,dx,_,_,rfl,obj,hc.cls,hc.hE,rfl,jl.J,dj,_,by rw[eJ],ej,rfl,jl,st,xs.length,by rw[eJ];rfl,ja,by omega,by omega,by omega,by omega,wf.ll,λz=>Y8 _ (wf.lm _ z),λz=>Y8 _ (wf.lf _ z),λgJ H7 k1 o7 gr ja7=>?_⟩;have jw:∀{a:Addr} {u:HO},H a=some u->a∉jl.fp:=λ{a u} e z=>by rw[new _ z] at e;cases e
     refine hN _ _ ⟨_,_,rfl,gJ,_,k1.trans eJ,λa u e n1 n2=>o7 _ _ (keep a u e n1 n2) (jw e),o7 _ _ obj (jw h1),ja7,me.more n0,by rw[iJ,len],λa z=>?_⟩ (o7 _ _ fz (jw ba.cV));rcases gr a z with y|y;·exact new a y
     ·cases e:H a with
      |none=>rfl
      |some u=>
       by_cases z1:a=l.h;·rw[z1,obj] at y;cases y
       ·by_cases z2:a=l.sd;·rw[z2,fz] at y;cases y
        ·rw[keep a u e z1 z2] at y;cases y
    ·rintro od aO H6 ⟨o1,o2,rfl,jm⟩ fz;rw[Ya] at jm;refine nN _ _ ⟨o1,o2,rfl,?_⟩;obtain⟨jl,st,eJ,keep,obj,ja,me,len,new⟩:=jm;have jw:l.sd∉jl.fp:=λz=>by have:=new _ z;rw[ba.cV] at this;cases this
     refine⟨jl,st,eJ,λa u e n1 _=>?_,by rw[aC j9];exact obj,ja.sQ fz (λus z=>nomatch z) (λus z=>nomatch z) jw (ay.put (ay.of (aj.refl _))),me,len,new⟩;by_cases z:a=l.sd
     ·subst z;rw[aI];rw[ba.cV] at e;exact e
     ·rw[aC z];exact keep a u e n1 z
   ·rintro σ H6 ⟨o1,o2,rfl,jm⟩;obtain⟨jl0,ZgA,eJ0,ZdV,ZeN,ja0,me0,len0,ZgB⟩:=id jm;have f6:H6 l.fc=some (.dK (bp (b.fs.map (·.1)) l.bW)):=ZdV _ _ ba.facts (λz=>iF z.symm) (λz=>iF z.symm);have al:=cX ba.fact;refine Z7 (d:=l.fc) (kvs:=bp (b.fs.map (·.1)) l.bW) (H1:=H6) (λR r=>⟨_,rfl,l.h,C,dx,_,_,rfl,ZeN,hc.cls,hc.pY,rfl,r⟩) f6 (λi σ H6=>∃o1 o2:Option V,σ=[some (.ref l.h),o1,o2]/\oH H C CJ dx l.fc l b xs.length x (b.F.take i) b.ps.length H6) (λod=>⟨o1,o2,rfl,jm.sQ (by rw[ba.facts];exact λz=>nomatch z) f6 (λus z=>nomatch z) (λus z=>nomatch z) (λz=>iF z.symm) (ay.put (ay.of (aj.refl _))) (λu _ _ z=>absurd rfl z)⟩) ?_ ?_
    ·rintro od i k y aO H7 N rt bk hk ⟨o1,o2,rfl,jm⟩ fz hN;obtain⟨fa,efa,rfl⟩:=LA hk;obtain⟨⟨z,c⟩,Ss,c9⟩:=fX ba.fact efa;have mzc:=Yh Ss;obtain⟨jl,st,eJ,keep,obj,ja,me,len,new⟩:=jm;have jw:∀{a:Addr} {u:HO},H a=some u->a∉jl.fp:=λ{a u} e z=>by rw[new _ z] at e;cases e
     have of:Out l.fp H H7:=λa u e n=>keep a u e (λz=>n (by rw[z];simp[BL.fp,BL.own])) (λz=>n (by rw[z];simp[BL.fp,BL.own]));have fg:=ok.fg _ mzc;have im:=ok.m;have ec:b.F[i]?=some c:=by unfold BS.F;rw[Yd,Ss];rfl
     have tk:b.F.take (i+1)=b.F.take i++[c]:=by rw[Y1,ec];rfl
     refine bg ?_;refine⟨_,rfl,l.h,C,dx,_,_,rfl,obj,hc.cls,hc.hE,rfl,_,rfl,l.h,C,dx,_,_,rfl,obj,hc.cls,hc.uk,rfl,_,rfl,l.h,C,dx,_,_,rfl,obj,hc.cls,hc.ra,rfl,_,rfl,jl,st,l.L,l.pl,fa,xs,ys,b.ps,b.F.take i,z,c,by rw[eJ];rfl,ja,me,ba.land H7 of,ok.gd,keep _ _ ba.places (λz=>cE z.symm) qK,ok.nm,len,by omega,of _ _ c9 (ba.tup c9),fg,?_,λv gJ aN H8 e1 sub o8 ja8 me8 ZeO=>?_⟩
     ·obtain⟨f0,i0,s0⟩:=ok.lv;exact⟨f0,(me.iff f0).mpr ⟨by rw[len];exact i0,λc' m'=>s0 c' (List.mem_of_mem_take m')⟩,s0 c (Yh ec)⟩
     ·refine hN _ _ ⟨_,_,rfl,gJ,aN,e1.trans eJ,λa u e n1 n2=>o8 _ _ (keep a u e n1 n2) (jw e),o8 _ _ obj (jw h1),ja8,by rw[tk];exact me8,ZeO.trans len,λa z=>new a (sub a z)⟩ (o8 _ _ fz (jw ba.facts))
    ·rintro od aO H7 ⟨o1,o2,rfl,jm⟩ fz;have dl:(bp (b.fs.map (·.1)) l.bW).length=b.F.length:=by
      unfold bp BS.F;rw[Ya,Jh,Ya,Ya];omega
     rw[dl,Wc] at jm;refine hn _ _ ⟨x,o1,o2,rfl,?_⟩;obtain⟨jl,st,eJ,keep,obj,ja,me,len,new⟩:=jm;have jw:l.fc∉jl.fp:=λz=>by have:=new _ z;rw[ba.facts] at this;cases this
     refine⟨jl,st,eJ,λa u e n1 _=>?_,by rw[aC iF];exact obj,ja.sQ fz (λus z=>nomatch z) (λus z=>nomatch z) jw (ay.put (ay.of (aj.refl _))),me,len,new⟩;by_cases z:a=l.fc
     ·subst z;rw[aI];rw[ba.facts] at e;exact e
     ·rw[aC z];exact keep a u e n1 z
  ·rintro σ H6 ⟨J,o1,o2,rfl,jm⟩;obtain⟨jl,st,eJ,keep,obj,ja,me,len,new⟩:=jm;refine⟨_,rfl,l.h,C,dx,_,_,rfl,obj,hc.cls,hc.hE,rfl,?_⟩;have k6:∀{a:Addr} {u:HO},H a=some u->a≠l.h->H6 a=some u:=λ{a u} e n=>keep a u e n n;have of:Out l.fp H H6:=λa u e n=>k6 e (λz=>n (by rw[z];simp[BL.fp,BL.own]));have tp:∀{a:Addr} {us:List V},H a=some (.tup us)->H6 a=some (.tup us):=λe=>of _ _ e (ba.tup e);have gr:eF l.fp ({l with rk:=.ref jl.J,eI:=jl.fp}:BL).fp H:=λa z=>by
    rcases Yv.mp (show a∈l.own++jl.fp from z) with y|y;·exact .inl (Yt _ y)
    ·exact .inr (new a y)
   have fK:∀a∈l.own,a∉jl.fp:=λa m z=>ba.there (Yt _ m) (new a z);subst eJ;refine q {l with rk:=.ref jl.J,eI:=jl.fp} jl st H6 ⟨rfl,of,gr⟩ ?_ rfl rfl ja me len fK λz=>absurd j1 z;exact ba.build (l':={l with rk:=.ref jl.J,eI:=jl.fp}) (b':=b) rfl rfl rfl rfl rfl rfl rfl rfl rfl of gr ⟨dx,obj⟩ (k6 ba.cV (λz=>j9 z.symm)) (k6 ba.places (λz=>cE z.symm)) (k6 ba.facts (λz=>iF z.symm)) (L2.Paired.bB ba.fact λ_ _ e=>tp e) (k6 ba.known (λz=>mw z.symm)) (k6 ba.parents (λz=>pA z.symm)) (k6 ba.done (λz=>nL z.symm)) (L2.Paired.bB ba.kW λ_ _ e=>e.out of λa us e=>ba.tup e) (k6 ba.h_ (λz=>pB z.symm)) (L2.Paired.bB ba.mV λ_ _ e=>e.out of λa us e=>ba.tup e) (.at_ jl st rfl rfl ja me len fK)
end
def fL(z:Str)(c:Nat):Bool:=!(Builtin.Str.occurrences z ⟨#[c]⟩ 0 z.length 1).isEmpty
abbrev oo:Str:="abcdefghijklmnopqrstuvwxyz"
abbrev lP:Str:="abcdefghijklmnopqrstuvwxyz0123456789"
def rQ(z:Str):Bool:=match z.cps.toList with
 |[]=>false
 |c::r=>decide (z.length<=12)&&(fL oo c&&(c::r).all (fL lP))
theorem ZeP(v:Str):v.cps.toList.length=v.length:=by simp[Str.length]
theorem ZbB{z:Str}(h:z.cps.toList=[]):z="":=by
 cases z with|mk a=>cases a with|mk l=>cases h;rfl
theorem Zay(h:z.cps.toList=[]):rQ z=false:=by unfold rQ;rw[h]
theorem LB(h:z.cps.toList=c::r):rQ z=(decide (z.length<=12)&&(fL oo c&&(c::r).all (fL lP))):=by unfold rQ;rw[h]
def Ms:Sp:=λvs H Q _=>∃z:Str,vs=[.str z]/\z.length<=1000/\∀H',aj H H'->Q (.bl (rQ z)) H'
section
variable {K:ai}{mg:aX}
theorem XT:aQ ["text"] ["text"] (aK Em):=.a8
theorem XU(F:aL K "is_name" "is_name" Em f fd){t1 t2 t3:Tok}(CB:mg "LONGEST_NAME"=some (.int 12 t1))(B0:mg "LETTERS_OF_NAMES"=some (.str "abcdefghijklmnopqrstuvwxyz" t2))(Cc:mg "SIGNS_OF_NAMES"=some (.str "abcdefghijklmnopqrstuvwxyz0123456789" t3))(bl:Bl mg):
  aH P w K mg base aM 1 f fd ["text"] Ms:=by
 refine F.o XT λs H hr h=>?_;obtain⟨z,rfl,lz,q⟩:=h;refine⟨_,(aq (aR (PW.pt (pw_or (bC ck (pv 0) bu) (pw_or (bC FN (hJ (VA) rfl bl.zZ zL (aa (pv 0) ag)) (du (v:=.int (12)) rfl CB ⟨_,rfl⟩)) (pw_or1 (hU Vx (aP wB (pv 0) aF) (du (v:=.str "abcdefghijklmnopqrstuvwxyz") rfl B0 ⟨_,rfl⟩) (by with_unfolding_all rfl)))))) (au (aG ib)) aY) (au (aG (hJ (Qh (K:=K) rfl rfl) rfl bl.Ph Oe (aa (iN (x:="sign") (fr:=[]) (cl:=[]) rfl (.gH trivial trivial) (ZcF (pv 0)) (λ_ _ _ _=>lK) (λ_ _ _ _=>(zo YE (pv 0) (du (v:=.str "abcdefghijklmnopqrstuvwxyz0123456789") rfl Cc ⟨_,rfl⟩) (by with_unfolding_all rfl)))) ag))))),?_⟩;have sz:(10000:Nat)<=sizeLine:=by rw[sizeLine_eq];omega
 cases ez:z.cps.toList with
 |nil=>
  have e:=ZbB ez;rw[Zay ez] at q;refine⟨_,rfl,rfl,_,rfl,bI (λ_=>?_) (λc=>absurd (decide_eq_true (by rw[e])) c)⟩;exact q H (aj.refl H)
 |cons c r=>
  have zl:=ZeP z;rw[ez,Wn] at zl;rw[LB ez] at q;refine⟨_,rfl,rfl,_,rfl,bI (λcc=>?_) (λ_=>?_)⟩
  ·have e:z="":=V.str.inj (of_decide_eq_true cc);have e0:(Str.ofString "").cps.toList=[]:=by decide+kernel
   rw[e,e0] at ez;cases ez
  refine⟨_,rfl,z,rfl,by omega,_,_,rfl,rfl,_,rfl,bI (λcc=>?_) (λcc=>?_)⟩
  ·have Su:(12:Int)<(z.length:Int):=of_decide_eq_true cc;rw[decide_eq_false (by omega:¬z.length<=12)] at q;exact q H (aj.refl H)
  have Bv:z.length<=12:=by
   grind
  rw[decide_eq_true Bv,Jz] at q;refine⟨_,rfl,_,_,_,rfl,rfl,by omega,gM (j:=0) (by rw[ez];rfl),_,_,rfl,rfl,_,rfl,bI (λcc=>?_) (λcc=>aW ?_)⟩
  ·have Su:fL oo c=false:=by
    have z:(!fL oo c)=true:=cc;cases e:fL oo c;·rfl
    ·rw[e] at z;cases z
   rw[Su,Bool.false_and] at q;exact q H (aj.refl H)
  have cl:fL oo c=true:=by
   cases e:fL oo c;·exact absurd (show(!fL oo c)=true by rw[e];rfl) cc
   ·rfl
  rw[cl,Jz,←ez] at q;refine⟨_,rfl,z,rfl,λD hD=>YY (by omega) hD (λc=>V.bl (fL lP c)) (λi c hi H1 g1 Kt k=>?_) λH1 g1 h1=>?_⟩;·exact⟨_,rfl,_,_,rfl,rfl,k H1 (aj.refl _)⟩
  ·refine⟨D,z.cps.toList.map (fL lP),rfl,ak.of (by rw[h1,Y9];rfl),?_⟩;rw[HX];exact q H1 g1
end
theorem dP.more(h:dP n m c)(l:m<=m'):dP n m' c:=⟨by have:=h.one;omega,λns=>by obtain⟨⟨a,b⟩,d⟩:=h.gI ns;exact⟨⟨a,by omega⟩,d⟩⟩
theorem eM.more(h:eM xs ys m c)(l:m<=m'):eM xs ys m' c:=⟨h.ok.more l,h.kind,h.Gx⟩
theorem Zc9{f g:Nat->Int}(ok:dP n m c)(e:∀i,i<m->g i=f i)(s:eS f c):eS g c:=⟨λh=>by rw[e _ ok.one];exact s.1 h,λh=>by rw[e _ ok.one,e _ (ok.gI h).1.2];exact s.2 h⟩
section
variable {xs ys:List Int}{b:BS}
theorem cM.ZeQ(ok:cM xs ys b)(new:n∉b.ps.map (·.1))(lim:b.ps.length<64)(hc:b.co<=co)(dl:dn.length<=200)(ul:un.length<=200):cM xs ys {b with ps:=b.ps++[(n,s)],co:=co,dn:=dn,un:=un}:=by
 have sf:=λp hp=>(ok.fg p hp).ok;have len:(b.ps++[(n,s)]).length=b.ps.length+1:=by rw[Yl];rfl
 refine⟨ok.gd,?_,by show(b.ps++[(n,s)]).length<=64;omega,ok.fl,λp hp=>?_,ok.zs,λp hp=>Y0 (ok.lt p hp) hc,?_,?_,?_,dl,ul⟩
 ·show((b.ps++[(n,s)]).map (·.1)).Nodup;rw[Yq];refine Ww.mpr ⟨ok.nm,by simp,λu hu v hv z=>?_⟩
  grind
 ·show eM xs ys (b.ps++[(n,s)]).length p.2;rw[len];exact(ok.fg p hp).more (Nat.le_succ _)
 ·show(b.fs.map λp=>fk (b.ps++[(n,s)]) p.2).Nodup;rw[(Wx λp hp=>by rw[Nr (sf p hp)])];exact ok.ky
 ·show((cg (b.ps++[(n,s)]) b.fs).map (·.1)).Nodup;rw[Nt sf];exact ok.pr
 ·obtain⟨f,i0,s0⟩:=ok.lv;refine⟨λi=>if i<b.ps.length then f i else 0,λi hi=>?_,λc m=>?_⟩
  ·show 0<=(if i<b.ps.length then f i else 0)/\(if i<b.ps.length then f i else 0)<(xs.length:Int);by_cases h:i<b.ps.length;·rw[if_pos h];exact i0 i h
   ·rw[if_neg h];have:=ok.gd.2.2.2.1
    grind
  ·obtain⟨p,hp,rfl⟩:=Yf.mp m;exact Zc9 (sf p hp) (λi hi=>if_pos hi) (s0 _ m)
theorem cM.ZeR(ok:cM xs ys b)(fg:eM xs ys b.ps.length c)(nz:z∉b.fs.map (·.1))(nk:fk b.ps c∉b.keys)(np:cI c.k=true->[.inr c.k,.inr (av b.ps c.one)]∉(cg b.ps b.fs).map (·.1))(lv:∃f,lu xs.length b.ps.length f/\∀c'∈b.F++[c],eS f c')(lim:b.fs.length<63)(hc:b.co<=co)(hz:z<co)(dl:dn.length<=200)(ul:un.length<=200):cM xs ys {b with fs:=b.fs++[(z,c)],co:=co,dn:=dn,un:=un}:=by
 have snoc:∀{α:Type} {l:List α} {x:α},l.Nodup->x∉l->(l++[x]).Nodup:=λ{α l x} h1 h2=>Ww.mpr ⟨h1,by simp,λu hu v hv e=>by
  have:v=x:=by simpa using hv
  exact h2 (by rw[←this,←e];exact hu)⟩
 refine⟨ok.gd,ok.nm,ok.m,by show(b.fs++[(z,c)]).length<=63;rw[Yl];exact lim,λp hp=>?_,?_,λp hp=>?_,?_,?_,?_,dl,ul⟩
 ·rcases Yv.mp hp with hp|hp;·exact ok.fg p hp
  ·rw[Yo.mp hp];exact fg
 ·show((b.fs++[(z,c)]).map (·.1)).Nodup;rw[Yq];exact snoc ok.zs nz
 ·rcases Yv.mp hp with hp|hp;·exact Y0 (ok.lt p hp) hc
  ·rw[Yo.mp hp];exact hz
 ·show((b.fs++[(z,c)]).map λp=>fk b.ps p.2).Nodup;rw[Yq];exact snoc ok.ky nk
 ·show((cg b.ps (b.fs++[(z,c)])).map (·.1)).Nodup;cases e:cI c.k with
  |true=>rw[Mp e,Yq];exact snoc ok.pr (np e)
  |false=>rw[Mq e];exact ok.pr
 ·obtain⟨f,i0,s0⟩:=lv;refine⟨f,i0,λc' m=>s0 c' ?_⟩;have m':c'∈(b.fs++[(z,c)]).map (·.2):=m;rw[Yq] at m';exact m'
theorem cM.drop(ok:cM xs ys b)(z:Nat)(hc:b.co<=co)(dl:dn.length<=200)(ul:un.length<=200):cM xs ys {b with fs:=cS z b.fs,co:=co,dn:=dn,un:=un}:=by
 have sub:(cS z b.fs).Sublist b.fs:=List.filter_sublist;refine⟨ok.gd,ok.nm,ok.m,Y6 sub.length_le ok.fl,λp hp=>ok.fg p (sub.subset hp),ok.zs.sublist (sub.map _),λp hp=>Y0 (ok.lt p (sub.subset hp)) hc,ok.ky.sublist (sub.map _),?_,?_,dl,ul⟩
 ·show((cg b.ps (cS z b.fs)).map (·.1)).Nodup;refine ok.pr.sublist ?_;unfold cg
  grind
 ·obtain⟨f,i0,s0⟩:=ok.lv;exact⟨f,i0,λc m=>s0 c ((sub.map _).subset m)⟩
end
def BS.F2(b:BS)(n s:Str):BS:={b with ps:=b.ps++[(n,s)],co:=b.co,dn:=b.dn++[⟨1,[.inr n,.inr s],b.co,b.co⟩],un:=[]}
def BS.wU(b:BS)(c:Fc):BS:={b with fs:=b.fs++[(b.co,c)],co:=b.co+1,dn:=b.dn++[⟨1,dQ b.ps b.co c,b.co,b.co+1⟩],un:=[]}
def BS.without(b:BS)(z:Nat)(c:Fc):BS:={b with fs:=cS z b.fs,co:=b.co,dn:=b.dn++[⟨-1,dQ b.ps z c,b.co,b.co⟩],un:=[]}
def FG(s:Str):Bool:=e_ (.str s) [.str "man",.str "woman"]
structure Gy(b:BS)(n s:Str):Prop where
 ZeS:rQ n=true
 side:FG s=true
 new:n∉b.ps.map (·.1)
 lim:b.ps.length<64
 nl:n.length<=1000
structure Ar(xs ys:List Int)(b:BS)(c:Fc):Prop where
 fg:eM xs ys b.ps.length c
 nk:fk b.ps c∉b.keys
 np:cI c.k=true->[.inr c.k,.inr (av b.ps c.one)]∉(cg b.ps b.fs).map (·.1)
 lv:∃f,lu xs.length b.ps.length f/\∀c'∈b.F++[c],eS f c'
 lim:b.fs.length<63
inductive Mt(C CL CJ:Addr)(vs:List V)(H:Hp)(Q:VK)(E:XK):Prop
 |mk (l:BL) (b:BS) (xs ys:List Int) (n s:Str) (aE:vs=[.ref l.h,.str n,.str s]) (ba:bj H C CL CJ l xs ys b) (np:Gy b n s) (q:∀H',aj H H'->Q .az H')
inductive Mu(C CL CJ:Addr)(vs:List V)(H:Hp)(Q:VK)(E:XK):Prop
 |mk (l:BL) (b:BS) (xs ys:List Int) (n s:Str) (aE:vs=[.ref l.h,.str n,.str s]) (ba:bj H C CL CJ l xs ys b) (ok:cM xs ys b) (np:Gy b n s) (dl:b.dn.length<200) (q:∀(l':BL) (H':Hp),cy H H' l l'->bj H' C CL CJ l' xs ys (b.F2 n s)->Q .az H')
inductive FH(C CL CJ:Addr)(vs:List V)(H:Hp)(Q:VK)(E:XK):Prop
 |mk (l:BL) (b:BS) (xs ys:List Int) (fa:Addr) (c:Fc) (aE:vs=[.ref l.h,.ref fa]) (ba:bj H C CL CJ l xs ys b) (ok:cM xs ys b) (hf:di H b.ps fa (b.co,c)) (nf:Ar xs ys b c) (dl:b.dn.length<200) (q:∀(l':BL) (H':Hp),cy H H' l l'->bj H' C CL CJ l' xs ys (b.wU c)->Q (.int (b.co:Int)) H')
inductive OO(C CL CJ:Addr)(vs:List V)(H:Hp)(Q:VK)(E:XK):Prop
 |mk (l:BL) (b:BS) (xs ys:List Int) (z:Nat) (c:Fc) (aE:vs=[.ref l.h,.int (z:Int)]) (ba:bj H C CL CJ l xs ys b) (ok:cM xs ys b) (m:(z,c)∈b.fs) (dl:b.dn.length<200) (q:∀(l':BL) (H':Hp),cy H H' l l'->bj H' C CL CJ l' xs ys (b.without z c)->Q .az H')
inductive Nz(C CL CJ:Addr)(vs:List V)(H:Hp)(Q:VK)(E:XK):Prop
 |mk (x dx L:Addr) (xs ys:List Int) (aE:vs=[.ref x,.ref L]) (hx:H x=some (.ins C dx [])) (la:hZ H CL L xs ys) (q:∀(l:BL) (H':Hp),l.h=x->(∀a∈l.fp,a≠x->H a=none)->ay x H H'->bj H' C CL CJ l xs ys ⟨[],[],0,[],[]⟩->Q .az H')
theorem hZ.free(la:hZ H CL L xs ys)(hf:∀a∈fp,H a=none\/∃C dx,H a=some (.ins C dx []))(o:Out fp H H'):hZ H' CL L xs ys:=by
 obtain⟨dx,d,m,f,w,im,jf,iw,st,h1,h2,h3,h4,h5,h6,h7,h8,h9⟩:=la;have k:∀{a:Addr} {u:HO},H a=some u->(∀C dx,u≠.ins C dx [])->H' a=some u:=λ{a u} e n=>o _ _ e λz=>by
  grind
 exact⟨dx,d,m,f,w,im,jf,iw,st,k h1 (λ_ _ z=>by cases z),k h2 (λ_ _ z=>by cases z),k h3 (λ_ _ z=>by cases z),k h4 (λ_ _ z=>by cases z),k h5 (λ_ _ z=>by cases z),k h6 (λ_ _ z=>by cases z),k h7 (λ_ _ z=>by cases z),k h8 (λ_ _ z=>by cases z),k h9 (λ_ _ z=>by cases z)⟩
section
variable {K:ai}{mg:aX}
abbrev As:List Str:=["hearth","name","side"]
theorem UC:aQ As As (aK Cr):=.a8
theorem UD(F:aL K "check_person" "check_person" Cr f fd)(Ex:HasFn P w K mg base 1 "is_name" ["text"] Ms)(rR:mg "MAN"=some (.str "man" t1))(rB:mg "WOMAN"=some (.str "woman" t2))(lF:bT P w K mg base 1 "people" C gu (ze C CL CJ)):aH P w K mg base aM 2 f fd As (Mt C CL CJ):=by
 refine F.o UC λs H hr h=>?_;obtain⟨l,b,xs,ys,n,s,rfl,ba,np,q⟩:=h;refine⟨_,(aq (aR (PW.pt (pw_or (hX (d9 (aT Ex hr (aa (pv 1) ag)))) (pw_or1 (hU (Ft (K:=K) rfl) (pv 2) (dM (aa (du (v:=.str "man") rfl rR ⟨_,rfl⟩) (aa (du (v:=.str "woman") rfl rB ⟨_,rfl⟩) ag))) (by with_unfolding_all rfl))))) fG aY) (au (aR (hU (dt (K:=K) rfl) (pv 1) (qb lF hr (by omega) (pv 0)) (by with_unfolding_all rfl)) fG aY))),?_⟩;have sz:(10000:Nat)<=sizeLine:=by rw[sizeLine_eq];omega
 refine⟨_,rfl,n,rfl,np.nl,λH1 g1=>⟨_,rfl,?_⟩⟩;rw[np.ZeS];refine bR ?_;refine⟨_,rfl,by show 2<=sizeLine;omega,λp H2 xY g2 hp=>⟨p,_,rfl,.inr (aA.of hp),rfl,rfl,_,rfl,?_⟩⟩;have so:e_ (.str s) [.str "man",.str "woman"]=true:=np.side;dsimp only;rw[if_pos rfl,so];refine bR (aW ?_);have g:=g1.trans g2;have vy:=ba.same g;obtain⟨dx,h1⟩:=vy.obj;refine⟨_,rfl,_,rfl,l.h,dx,_,rfl,h1,rfl,l,b,xs,ys,rfl,vy,λp2 H3 np3 g3 dF=>?_⟩;have fl:(b.ps.map λp=>V.str p.1).all iR=true:=by
  rw[HX,Wp];intro p _;rfl
 refine⟨p2,_,rfl,.inl (ak.of dF),rfl,fl,_,rfl,?_⟩;try dsimp only
 have no:e_ (.str n) (b.ps.map λp=>V.str p.1)=false:=by
  unfold e_;rw[List.any_map,Rc];intro p hp z;have z':(p.1==n)=true:=z;exact np.new (by rw[←eq_of_beq z'];exact Yf.mpr ⟨p,hp,rfl⟩)
 rw[if_neg Yk,no];exact bR (aW (q H3 (g.trans g3)))
abbrev Au:List Str:=["self","name","side"]
theorem Ut:aQ Au Au (aK Cg):=.a8
theorem Zq(F:aL K "person" "Hearth.person" Cg f fd)(hc:eX K C)(oj:mg "PUT_IN"=some (.int 1 t1))(CC:HasFn P w K mg base 2 "check_person" As (Mt C CL CJ))(nW:bT P w K mg base 10 "do_deed" C m_ (zg C CL CJ)):aH P w K mg base aM 11 f fd Au (Mu C CL CJ):=by
 refine F.o Ut λs H hr h=>?_;obtain⟨l,b,xs,ys,n,s,rfl,ba,ok,np,dl,q⟩:=h;refine⟨_,(aq (bZ (aT CC hr (aa (pv 0) (aa (pv 1) (aa (pv 2) ag))))) (au (bZ (cH nW hr (by omega) (pv 0) (aa (du (v:=.int (1)) rfl oj ⟨_,rfl⟩) (aa (dM (aa (pv 1) (aa (pv 2) ag))) (aa (pF K 0) ag))))))),?_⟩;refine⟨_,rfl,_,rfl,_,rfl,l,b,xs,ys,n,s,rfl,ba,np,λH1 g1=>?_⟩;have cN:=ba.same g1;obtain⟨dx,h1⟩:=cN.obj;refine⟨_,rfl,l.h,dx,_,rfl,h1,rfl,_,rfl,_,rfl,by show 2<=sizeLine;decide,λr H2 nr g2 hR=>?_⟩;refine⟨_,rfl,l.h,C,dx,_,_,rfl,g2 _ _ h1,hc.cls,hc.pT,rfl,l,b,_,xs,ys,r,1,b.co,[.inr n,.inr s],rfl,cN.same g2,ok,dl,hR,.pin n s hR np.new np.lim,λl' H3 wt lC=>?_⟩;exact q l' H3 (cy.after (g1.trans g2) wt) lC
theorem vP:aQ Qy se (aK CQ):=.a8
theorem ZbC(F:aL K "keep" "Hearth.keep" CQ f fd)(hc:eX K C)(oj:mg "PUT_IN"=some (.int 1 t1))(DJ:HasFn P w K mg base 5 "fact_fits" r_ (OK CL CJ))(s_:bT P w K mg base 8 "joins" C gu (Fb C CL CJ))(nW:bT P w K mg base 10 "do_deed" C m_ (zg C CL CJ)):aH P w K mg base aM 11 f fd se (FH C CL CJ):=by
 refine F.o vP λs H hr h=>?_;obtain⟨l,b,xs,ys,fa,c,rfl,ba,ok,hf,nf,dl,q⟩:=h;refine⟨_,(aq (mP (pv 1) (iO (K:=K) (n:=4) rfl rfl (bQ (bA 2 vP.nd) (bQ (bA 3 vP.nd) (bQ (bA 4 vP.nd) (bQ (bA 5 vP.nd) iM)))))) (aq (aR (hX (d9 (aT DJ hr (aa (qb s_ hr (by omega) (pv 0)) (aa (pF K 0) (aa (pF K 0) (aa (pv 1) ag))))))) fG aY) (aq (bZ (cH nW hr (by omega) (pv 0) (aa (du (v:=.int (1)) rfl oj ⟨_,rfl⟩) (aa (pv 1) (aa (aV fP (pv 2) aF) ag))))) (au (aG (pv 2)))))),?_⟩;obtain⟨dx,h1⟩:=ba.obj;refine⟨_,rfl,fa,_,rfl,aA.of hf,rfl,_,_,rfl,bg ⟨_,_,rfl,bg ⟨_,_,rfl,bg ⟨_,_,rfl,bg ⟨rfl,?_⟩⟩⟩⟩⟩;refine⟨_,rfl,l.h,dx,_,rfl,h1,rfl,l,b,xs,ys,rfl,ba,ok,λl1 jl st H1 wt cN r1 r2 ja me len fK _=>?_⟩;obtain⟨qJ,e1⟩:=cN.obj;have sA:H1 l.h=some (.ins C qJ (HF l1.L l1.sd l1.pl l1.fc l1.kn l1.pr (b.co:Int) l1.dn l1.un l1.rk)):=by rw[←wt.h];exact e1
 have Sv:di H1 b.ps fa (b.co,c):=wt.out _ _ hf (ba.tup hf);have im:=ok.m;refine⟨_,rfl,l.h,C,qJ,_,_,rfl,sA,hc.cls,hc.uk,rfl,_,rfl,l.h,C,qJ,_,_,rfl,sA,hc.cls,hc.ra,rfl,_,rfl,jl,st,l1.L,l1.pl,fa,xs,ys,b.ps,b.F,b.co,c,rfl,ja,me,cN.landAt,ok.gd,cN.places,ok.nm,len,by omega,Sv,nf.fg,λ_ H2 g2=>?_,λno=>?_⟩
 ·refine⟨_,rfl,bR (aW ?_)⟩;have vy:=cN.same g2;have Sw:=g2 _ _ Sv;have nz:b.co∉b.fs.map (·.1):=λz=>by
   obtain⟨p,hp,e⟩:=Yf.mp z;have:=ok.lt p hp;omega
  refine⟨_,rfl,l.h,qJ,_,rfl,g2 _ _ sA,rfl,_,rfl,_,rfl,_,_,rfl,rfl,l1,b,_,xs,ys,fa,1,b.co+1,dQ b.ps b.co c,?_,vy,ok,dl,Sw,.fin b.co c Sw nf.fg nz nf.nk nf.np nf.lv nf.lim,λl' H3 wt3 lC=>?_⟩;·rw[wt.h];rfl
  ·exact⟨_,rfl,q l' H3 ((wt.same g2).trans wt3) lC⟩
 ·obtain⟨f0,i0,s0⟩:=nf.lv;exact absurd (s0 c (Yp _ Yg)) (no f0 ((me.iff f0).mpr ⟨by rw[len];exact i0,λc' m'=>s0 c' (Yt _ m')⟩))
theorem UW:aQ xh xh (aK CS):=.a8
theorem ZbD(F:aL K "take" "Hearth.take" CS f fd)(hc:eX K C)(DK:mg "TAKEN_OUT"=some (.int (-1) t1))(nW:bT P w K mg base 10 "do_deed" C m_ (zg C CL CJ)):aH P w K mg base aM 11 f fd xh (OO C CL CJ):=by
 refine F.o UW λs H hr h=>?_;obtain⟨l,b,xs,ys,z,c,rfl,ba,ok,m,dl,q⟩:=h;refine⟨_,(aq (aR (jH (mF (bw hr) (pv 1) (pF K 0)) (by with_unfolding_all rfl)) fG aY) (au (bZ (cH nW hr (by omega) (pv 0) (aa (du (v:=.int (-1)) rfl DK ⟨_,rfl⟩) (aa (cY (bw hr) (pF K 0) (pv 1) (λ_ _=>rfl)) (aa (pF K 0) ag))))))),?_⟩;obtain⟨dx,h1⟩:=ba.obj;obtain⟨fa,Bs,c9⟩:=E_ (H:=H) (ps:=b.ps) ba.fact ok.zs m;refine⟨_,rfl,_,rfl,l.h,C,dx,_,_,rfl,h1,hc.cls,hc.pY,rfl,l.fc,some (.ref fa),rfl,oA ba.facts Bs,_,rfl,bR (aW ?_)⟩;refine⟨_,rfl,l.h,dx,_,rfl,h1,rfl,_,rfl,l.h,C,dx,_,_,rfl,h1,hc.cls,hc.pY,rfl,_,rfl,l.fc,.ref fa,rfl,oA ba.facts Bs,_,rfl,l.h,C,dx,_,_,rfl,h1,hc.cls,hc.pT,rfl,l,b,_,xs,ys,fa,-1,b.co,dQ b.ps z c,rfl,ba,ok,dl,c9,.uG z c c9 m,λl' H3 wt lC=>?_⟩;exact q l' H3 wt lC
abbrev Av:List Str:=["self","land"]
theorem UX:aQ Av Av (aK CP):=.a8
theorem Zaz(F:aL K "__init__" "Hearth.__init__" CP f fd)(hc:eX K C):aH P w K mg base aM 1 f fd Av (Nz C CL CJ):=by
 refine F.o UX λs H hr h=>?_;obtain⟨x,dx,L,xs,ys,rfl,hx,la,q⟩:=h;refine⟨_,(aq (fZ (K:=K) rfl (pv 0) (pv 1)) (aq (fZ (K:=K) rfl (pv 0) tV) (aq (fZ (K:=K) rfl (pv 0) tV) (aq (fZ (K:=K) rfl (pv 0) tV) (aq (fZ (K:=K) rfl (pv 0) Le) (aq (fZ (K:=K) rfl (pv 0) Le) (aq (fZ (K:=K) rfl (pv 0) aF) (aq (fZ (K:=K) rfl (pv 0) (dR ag)) (aq (fZ (K:=K) rfl (pv 0) (dR ag)) (au (fZ (K:=K) rfl (pv 0) lL))))))))))),?_⟩;refine⟨_,rfl,_,rfl,x,C,dx,[],rfl,hx,hc.cls,hc.uk,by show 0<1000;omega,λH1 b1 h1=>?_⟩;refine λsd H2 n2 g2 e2=>⟨_,rfl,x,C,dx,_,rfl,g2 _ _ h1,hc.cls,hc.rp,by show 1<1000;omega,λH3 b3 h3=>?_⟩;refine λpl H4 n4 g4 e4=>⟨_,rfl,x,C,dx,_,rfl,g4 _ _ h3,hc.cls,hc.ra,by show 2<1000;omega,λH5 b5 h5=>?_⟩;refine λfc H6 n6 g6 e6=>⟨_,rfl,x,C,dx,_,rfl,g6 _ _ h5,hc.cls,hc.pY,by show 3<1000;omega,λH7 b7 h7=>?_⟩;refine λkn H8 n8 g8 e8=>⟨_,rfl,x,C,dx,_,rfl,g8 _ _ h7,hc.cls,hc.zC,by show 4<1000;omega,λH9 b9 h9=>?_⟩;refine λpr oZ o_ pC pj=>⟨_,rfl,x,C,dx,_,rfl,pC _ _ h9,hc.cls,hc.tZ,by show 5<1000;omega,λxG sR h11=>?_⟩;refine⟨_,rfl,x,C,dx,_,rfl,h11,hc.cls,hc.pT,by show 6<1000;omega,λvB sS A0=>?_⟩;refine⟨by show 0<=sizeLine;exact Yw _,λdn A1 qL d7 Sx=>⟨_,rfl,x,C,dx,_,rfl,d7 _ _ A0,hc.cls,hc.OJ,by show 7<1000;omega,λqC qM Sy=>?_⟩⟩;refine⟨by show 0<=sizeLine;exact Yw _,λun HM l_ Sz e15=>⟨_,rfl,x,C,dx,_,rfl,Sz _ _ Sy,hc.cls,hc.Mm,by show 8<1000;omega,λRy b16 h16=>?_⟩⟩;refine⟨_,rfl,x,C,dx,_,rfl,h16,hc.cls,hc.hE,by show 9<1000;omega,λpE b17 SA=>?_⟩;rw[ZeI] at SA;have SD:ay x HM pE:=b16.trans b17;have SE:ay x A1 pE:=qM.trans ((ay.of Sz).trans SD);have SF:ay x oZ pE:=sR.trans (sS.trans ((ay.of d7).trans SE));have j8:ay x H8 pE:=b9.trans ((ay.of pC).trans SF);have j6:ay x H6 pE:=b7.trans ((ay.of g8).trans j8);have j4:ay x H4 pE:=b5.trans ((ay.of g6).trans j6);have j2:ay x H2 pE:=b3.trans ((ay.of g4).trans j4);have j0:ay x H pE:=b1.trans ((ay.of g2).trans j2);have i3:ay x H H3:=b1.trans ((ay.of g2).trans b3);have i5:ay x H H5:=i3.trans ((ay.of g4).trans b5);have i7:ay x H H7:=i5.trans ((ay.of g6).trans b7);have i9:ay x H H9:=i7.trans ((ay.of g8).trans b9);have i12:ay x H vB:=i9.trans ((ay.of pC).trans (sR.trans sS));have i14:ay x H qC:=i12.trans ((ay.of d7).trans qM);have fr:∀{a:Addr} {H':Hp},ay x H H'->a≠x->H' a=none->H a=none:=λ{a H'} k d n=>by
  cases e:H a with
  |none=>rfl
  |some o=>rw[k a o e d] at n;cases n
 have d2:sd≠x:=λz=>by rw[z,h1] at n2;cases n2
 have d4:pl≠x:=λz=>by rw[z,h3] at n4;cases n4
 have d6:fc≠x:=λz=>by rw[z,h5] at n6;cases n6
 have d8:kn≠x:=λz=>by rw[z,h7] at n8;cases n8
 have Bw:pr≠x:=λz=>by rw[z,h9] at o_;cases o_
 have IS:dn≠x:=λz=>by rw[z,A0] at qL;cases qL
 have SG:un≠x:=λz=>by rw[z,Sy] at l_;cases l_
 have ne:∀{a c:Addr} {Ha Hc:Hp} {o:HO},Ha a=some o->ay x Ha Hc->a≠x->Hc c=none->a≠c:=λ{a c Ha Hc o} e k d n z=>by rw[←z,k a o e d] at n;cases n
 have k24:ay x H2 H3:=b3;have SH:ay x H2 H5:=b3.trans ((ay.of g4).trans b5);have SI:ay x H2 H7:=SH.trans ((ay.of g6).trans b7);have QA:ay x H2 H9:=SI.trans ((ay.of g8).trans b9);have QB:ay x H2 vB:=QA.trans ((ay.of pC).trans (sR.trans sS));have ZeT:ay x H2 qC:=QB.trans ((ay.of d7).trans qM);have SJ:ay x H4 H7:=b5.trans ((ay.of g6).trans b7);have QC:ay x H4 H9:=SJ.trans ((ay.of g8).trans b9);have QD:ay x H4 vB:=QC.trans ((ay.of pC).trans (sR.trans sS));have ZeU:ay x H4 qC:=QD.trans ((ay.of d7).trans qM);have QE:ay x H6 H9:=b7.trans ((ay.of g8).trans b9);have QF:ay x H6 vB:=QE.trans ((ay.of pC).trans (sR.trans sS));have ZeV:ay x H6 qC:=QF.trans ((ay.of d7).trans qM);have QG:ay x H8 vB:=b9.trans ((ay.of pC).trans (sR.trans sS));have ZeW:ay x H8 qC:=QG.trans ((ay.of d7).trans qM);have PD:ay x oZ vB:=sR.trans sS;have ZdW:ay x oZ qC:=PD.trans ((ay.of d7).trans qM);let l:BL:=⟨x,L,sd,pl,fc,kn,pr,dn,un,.az,[],[],[],[]⟩;have SK:∀a∈l.fp,a≠x->H a=none:=λa ha na=>by
  have qH:a∈[x,sd,pl,fc,kn,pr,dn,un]:=by
   have:l.fp=[x,sd,pl,fc,kn,pr,dn,un]:=rfl;rw[this] at ha;exact ha
  simp only[Yn,Y2,or_false] at qH;rcases qH with rfl|rfl|rfl|rfl|rfl|rfl|rfl|rfl;·exact absurd rfl na
  ·exact fr b1 na n2
  ·exact fr i3 na n4
  ·exact fr i5 na n6
  ·exact fr i7 na n8
  ·exact fr i9 na o_
  ·exact fr i12 na qL
  ·exact fr i14 na l_
 refine q l pE rfl SK j0 ⟨⟨dx,SA⟩,λH' o=>?_,j2 _ _ e2 d2,j4 _ _ e4 d4,j6 _ _ e6 d6,.nil,j8 _ _ e8 d8,SF _ _ pj Bw,SE _ _ Sx IS,.nil,SD _ _ e15 SG,.nil,.no rfl rfl,?_⟩
 ·refine la.free (fp:=l.fp) (λa ha=>?_) λa u e na=>o _ _ (j0 _ _ e λz=>na (by rw[z];exact Yg)) na;by_cases z:a=x;·rw[z];exact .inr ⟨C,dx,hx⟩
  ·exact .inl (SK a ha z)
 ·show[x,sd,pl,fc,kn,pr,dn,un].Nodup;simp only[Yy,Yn,Y2,or_false,not_or,not_false_eq_true,W4,and_true];exact⟨⟨d2.symm,d4.symm,d6.symm,d8.symm,Bw.symm,IS.symm,SG.symm⟩,⟨ne e2 k24 d2 n4,ne e2 SH d2 n6,ne e2 SI d2 n8,ne e2 QA d2 o_,ne e2 QB d2 qL,ne e2 ZeT d2 l_⟩,⟨ne e4 b5 d4 n6,ne e4 SJ d4 n8,ne e4 QC d4 o_,ne e4 QD d4 qL,ne e4 ZeU d4 l_⟩,⟨ne e6 b7 d6 n8,ne e6 QE d6 o_,ne e6 QF d6 qL,ne e6 ZeV d6 l_⟩,⟨ne e8 b9 d8 o_,ne e8 QG d8 qL,ne e8 ZeW d8 l_⟩,⟨ne pj PD Bw qL,ne pj ZdW Bw l_⟩,ne Sx qM IS l_⟩
end
def strOf:V->Str
 |.str s=>s
 |_=>""
def fR(b:BS)(a:Str):List Str:=(oB b a).map strOf
inductive fM(b:BS)(a:Str):Str->Prop
 |refl:fM b a a
 |step {x y:Str}:fM b a x->y∈fR b x->fM b a y
theorem NA(ok:cM xs ys b)(h:aS (cg b.ps b.fs) [.inr k,.inr a]=some v):∃p∈b.fs,cI p.2.k=true/\p.2.k=k/\av b.ps p.2.one=a/\v=.str (av b.ps p.2.aJ.toNat)/\p.2.aJ.toNat<b.ps.length:=by
 have m:([.inr k,.inr a],v)∈cg b.ps b.fs:=by
  unfold aS at h;cases ef:(cg b.ps b.fs).find? λkv=>decide (kv.1=[.inr k,.inr a]) with
  |none=>grind
  |some q=>grind
 obtain⟨p,hp,e⟩:=Yf.mp m;obtain⟨ph,dF⟩:=Y5.mp hp;injection e with e1 e2;injection e1 with e3 e4;injection e4 with e5 _;have ns:p.2.k≠bF:=λz=>by
  rw[z] at dF;exact absurd dF (by decide+kernel)
 refine⟨p,ph,dF,Wf e3,Wf e5,?_,((ok.fg p ph).ok.gI ns).1.2⟩;rw[←e2,iK ns];rfl
theorem K2(ok:cM xs ys b)(a:Str):oB b a=(fR b a).map V.str/\(∀s∈fR b a,s∈b.ps.map (·.1))/\(fR b a).length<=2:=by
 have all:∀v∈oB b a,∃s,v=.str s/\s∈b.ps.map (·.1):=λv hv=>by
  obtain⟨k,_,e⟩:=Jk.mp hv;obtain⟨p,_,_,_,_,e2,l⟩:=NA ok e;exact⟨_,e2,E9 l⟩
 refine⟨?_,λs hs=>?_,?_⟩
 ·unfold fR;rw[Y9];refine(List.map_id _).symm.trans (Wx λv hv=>?_);obtain⟨s,rfl,_⟩:=all v hv;rfl
 ·obtain⟨v,hv,rfl⟩:=Yf.mp hs;obtain⟨s,rfl,m⟩:=all v hv;exact m
 ·unfold fR oB
  grind
def gZ(ks:List Str)(as:List Addr):List (Key×V):=(ks.zip as).map λp=>(.inr p.1,.ref p.2)
theorem Mv:∀{ks:List Str} {as:List Addr},ks.length=as.length->(gZ ks as).map (·.1)=ks.map Sum.inr
 |[],[],_=>rfl
 |k::ks,a::as,h=>by
  have e0:gZ (k::ks) (a::as)=(Sum.inr k,V.ref a)::gZ ks as:=rfl;rw[e0,Wq,Mv (by simpa using h)];rfl
 |[],_::_,h=>rfl
 |_::_,[],h=>by simp at h
theorem Mw:∀{ks:List Str} {as:List Addr} (k:Str) (a:Addr),ks.length=as.length->gZ ks as++[(.inr k,.ref a)]=gZ (ks++[k]) (as++[a])
 |[],[],_,_,_=>rfl
 |q::ks,c::as,k,a,h=>by
  have e0:gZ (q::ks) (c::as)=(Sum.inr q,V.ref c)::gZ ks as:=rfl;rw[e0,Rv,Mw k a (by simpa using h)];rfl
 |[],_::_,_,_,h=>by simp at h
 |_::_,[],_,_,h=>by simp at h
theorem Fe:∀{ks:List Str} {as:List Addr} {k:Str},ks.length=as.length->k∈ks->∃a∈as,aS (gZ ks as) (.inr k)=some (.ref a)
 |[],_,_,_,h=>by cases h
 |q::ks,c::as,k,hl,h=>by
  have e0:gZ (q::ks) (c::as)=(Sum.inr q,V.ref c)::gZ ks as:=rfl;rw[e0];by_cases e:q=k;·exact⟨c,Yg,fH (by rw[e])⟩
  ·rcases Yn.mp h with h|h;·grind
   ·obtain⟨a,m,v⟩:=Fe (by simpa using hl) h;exact⟨a,Ys _ m,by rw[eV (λz=>e (Wf z))];exact v⟩
 |_::_,[],_,h,_=>by simp at h
theorem ES(hl:ks.length=as.length)(h:k∉ks):aS (gZ ks as) (.inr k)=none:=qX (by
 rw[Mv hl];intro z;obtain⟨q,hq,e⟩:=Yf.mp z;exact h (by rw[←Wf e];exact hq))
structure qt(H H6:Hp)(ln:Addr)(ks:List Str)(as:List Addr):Prop where
 same:aj H H6
 at_:H6 ln=some (.dK (gZ ks as))
 len:ks.length=as.length
 lst:∀a∈as,∃us:List V,H6 a=some (.lst us)/\us.length<=ks.length/\a≠ln
 nd:ks.Nodup
theorem Ey{xs ys:List Int}{b:BS}(ok:cM xs ys b){ks:List Str}(nd:ks.Nodup)(sub:∀k∈ks,k∈b.ps.map (·.1)):ks.length<=b.ps.length:=by
 have:=nd.length_le_of_subset sub
 grind
theorem zh(ok:cM xs ys b)(ma:a∈b.ps.map (·.1))(h:fM b a z):z∈b.ps.map (·.1):=by
 cases h with
 |refl=>exact ma
 |step _ m=>exact(K2 ok _).2.1 _ m
inductive NB(C CL CJ:Addr)(vs:List V)(H:Hp)(Q:VK)(E:XK):Prop
 |mk (l:BL) (b:BS) (xs ys:List Int) (a:Str) (aE:vs=[.ref l.h,.str a]) (ba:bj H C CL CJ l xs ys b) (ok:cM xs ys b) (ma:a∈b.ps.map (·.1)) (q:∀(p:Addr) (ks:List Str) (as:List Addr) (H':Hp),qt H H' p ks as->(∀z,z∈ks↔fM b a z)->Q (.ref p) H')
def xm(ln:Addr)(N:Nat):St->Hp->Nat:=λσ H=>(match H ln with|some (.dK kvs)=>2*(N-kvs.length)|_=>0)+(match List.getD (α:=Option V) σ 3 none with|some (V.ref nw)=>(match H nw with|some (.lst (_::_))=>1|_=>0)|_=>0)
inductive SM(H:Hp)(b:BS)(a:Str)(h ln:Addr)(σ:St)(H6:Hp):Prop
 |mk (ks ns:List Str) (as:List Addr) (nw:Addr) (o4 o5 o6:Option V) (la:qt H H6 ln ks as) (hn:H6 nw=some (.lst (ns.map V.str))) (nn:nw≠ln) (sub:∀k∈ns,k∈ks) (cl:∀k∈ks,k∉ns->∀p∈fR b k,p∈ks) (sd:∀k∈ks,fM b a k) (ma:a∈ks) (sG:ns.length<=64) (e:σ=[some (.ref h),some (.str a),some (.ref ln),some (.ref nw),o4,o5,o6]):SM H b a h ln σ H6
inductive IT(H:Hp)(b:BS)(a:Str)(h ln nw fu:Addr)(qN ns:List Str)(j:Nat)(σ:St)(H6:Hp):Prop
 |mk (ks fs:List Str) (as:List Addr) (o5 o6:Option V) (la:qt H H6 ln ks as) (hn:H6 nw=some (.lst (ns.map V.str))) (hf:H6 fu=some (.lst (fs.map V.str))) (nn:nw≠ln/\fu≠ln/\fu≠nw) (af:fu∉as) (ek:ks=qN++fs) (cl:∀k∈ns.take j,∀p∈fR b k,p∈ks) (sd:∀k∈ks,fM b a k) (e:σ=[some (.ref h),some (.str a),some (.ref ln),some (.ref nw),some (.ref fu),o5,o6]):IT H b a h ln nw fu qN ns j σ H6
inductive SN(H:Hp)(b:BS)(a:Str)(h ln nw fu:Addr)(qN ns:List Str)(j:Nat)(one:Str)(pl:Addr)(i:Nat)(σ:St)(H6:Hp):Prop
 |mk (ks fs:List Str) (as:List Addr) (o6:Option V) (la:qt H H6 ln ks as) (hn:H6 nw=some (.lst (ns.map V.str))) (hf:H6 fu=some (.lst (fs.map V.str))) (hp:H6 pl=some (.lst ((fR b one).map V.str))) (nn:nw≠ln/\fu≠ln/\fu≠nw/\pl≠ln/\pl≠fu) (af:fu∉as) (ek:ks=qN++fs) (cl:∀k∈ns.take j,∀p∈fR b k,p∈ks) (cp:∀p∈(fR b one).take i,p∈ks) (sd:∀k∈ks,fM b a k) (e:σ=[some (.ref h),some (.str a),some (.ref ln),some (.ref nw),some (.ref fu),some (.str one),o6]):SN H b a h ln nw fu qN ns j one pl i σ H6
section
variable {K:ai}{mg:aX}
abbrev qu:List Str:=["hearth","name"]
theorem qZ:aQ ["hearth","name","lines","newest","further","one","parent"] qu (aK DT):=.a8
theorem WV(F:aL K "lines_up" "lines_up" DT f fd)(BW:bT P w K mg base 1 "parents_of" C jr (Kq C CL CJ)):aH P w K mg base aM 2 f fd qu (NB C CL CJ):=by
 refine F.o qZ λs H hr h=>?_;obtain⟨l,b,xs,ys,a,rfl,ba,ok,ma,q⟩:=h;refine⟨_,(aq (bY 2 qZ.nd (zw (jE (pv 1) (dR (aa (pv 1) ag)) zu) rfl rfl (λz=>nomatch z) (Jo rfl))) (aq (bY 3 qZ.nd (dR (aa (pv 1) ag))) (aq (EC PassesOwn.never (Ll (K:=K) rfl (LI (pv 3) (λ_=>rfl))) (aq (bY 4 qZ.nd (dR ag)) (aq (gc PassesOwn.never rfl (fO (K:=K) rfl (pv 3)) (bA 5 qZ.nd) (au (gc PassesOwn.never rfl (fO (K:=K) rfl (cH BW hr (by omega) (pv 0) (aa (pv 5) ag))) (bA 6 qZ.nd) (au (aR (jH (mF (bw hr) (pv 6) (pv 2)) (by with_unfolding_all rfl)) (aq (oh (bw hr) (pv 2) (pv 6) (aV zx (cY (bw hr) (pv 2) (pv 5) (λ_ _=>rfl)) (dR (aa (pv 6) ag)))) (au (bZ (jJ (K:=K) rfl (ic plainAttrs_list PySem.F.slot_list_append PySem.F.type_list_append pM (pv 4) (aa (pv 6) ag)))))) aY))))) (au (bY 3 qZ.nd (pv 4)))))) (au (aG (pv 2)))))),?_⟩;have sz:(10000:Nat)<=sizeLine:=by rw[sizeLine_eq];omega
 have im:=ok.m;refine cq ?_;refine λln SO=>⟨_,rfl,_,rfl,by show 1<=sizeLine;omega,λll H0 SQ g0 hll=>?_⟩;refine⟨g0 _ _ aI,[(.inr a,.ref ll)],rfl,(by show 1<=15;omega),?_⟩;obtain⟨H1,qO⟩:∃H1,H1=upd H0 ln (.dK (oz [] [(.inr a,.ref ll)])):=⟨_,rfl⟩;rw[←qO];have SR:ll≠ln:=λz=>by rw[z,aI] at SQ;cases SQ
 have g1:aj H H1:=λc o e=>by
  have nc:=bO e SO;rw[qO,aC nc];exact g0 _ _ (by rw[aC nc];exact e)
 have SS:qt H H1 ln [a] [ll]:=⟨g1,by rw[qO,aI];rfl,rfl,λc hc=>by
  rw[Yo.mp hc];exact⟨[.str a],by rw[qO,aC SR];exact hll,Ye _,SR⟩,by simp⟩
 refine cq ?_;refine⟨_,rfl,by show 1<=sizeLine;omega,λnw H2 SU g2 hnw=>?_⟩;have SV:nw≠ln:=λz=>by rw[z,SS.at_] at SU;cases SU
 have F3:∀{Ha Hb:Hp} {ks:List Str} {as:List Addr},qt H Ha ln ks as->aj Ha Hb->qt H Hb ln ks as:=λla g=>⟨la.same.trans g,g _ _ la.at_,la.len,λc hc=>by obtain⟨us,e,z,n⟩:=la.lst c hc;exact⟨us,g _ _ e,z,n⟩,la.nd⟩;refine hV (λσ H6=>∃ks as,qt H H6 ln ks as/\(∀z,z∈ks↔fM b a z)/\∃o3 o4 o5 o6:Option V,σ=[some (.ref l.h),some (.str a),some (.ref ln),o3,o4,o5,o6]) (λqI gW=>?_) ?_
 ·refine ED (SM H b a l.h ln) (xm ln 100) ⟨[a],[a],[ll],nw,none,none,none,F3 SS g2,hnw,SV,λ_ h=>h,λk hk no=>absurd hk no,λk hk=>by rw[Yo.mp hk];exact .refl,Yg,by show 1<=64;omega,rfl⟩ ?_ ?_
  ·rintro σ H6 ⟨ks,ns,as,nw,o4,o5,o6,la,hn,nn,sub,cl,sd,SW,sG,rfl⟩;have kf:ks.length<=64:=Y6 (Ey ok la.nd λk hk=>zh ok ma (sd k hk)) im;refine⟨_,rfl,_,.inl ⟨_,ak.of hn,rfl⟩,?_⟩;refine bI (λc=>?_) (λc=>?_)
   ·have ZeX:ns≠[]:=λz=>by rw[z] at c;cases c
    have mu0:xm ln 100 [some (.ref l.h),some (.str a),some (.ref ln),some (.ref nw),o4,o5,o6] H6=2*(100-ks.length)+1:=by
     unfold xm;have kl:(gZ ks as).length=ks.length:=by unfold gZ;rw[Ya,Jh];have:=la.len;omega
     have g3:List.getD (α:=Option V) [some (.ref l.h),some (.str a),some (.ref ln),some (.ref nw),o4,o5,o6] 3 none=some (.ref nw):=rfl;rw[la.at_,g3];dsimp only;rw[hn,kl];cases ns with
     |nil=>exact absurd rfl ZeX
     |cons x r=>rfl
    refine cq ?_;refine⟨by show 0<=sizeLine;exact Yw _,λfu H7 vC g7 hfu=>?_⟩;have xV:=F3 la g7;have fln:fu≠ln:=λz=>by rw[z,la.at_] at vC;cases vC
    have fnw:fu≠nw:=λz=>by rw[z,hn] at vC;cases vC
    refine hV (IT H b a l.h ln nw fu ks ns ns.length) (λBu nN=>?_) ?_
    ·refine⟨_,rfl,nw,rfl,⟨_,ak.of (g7 _ _ hn)⟩,kF (K:=K) (a:=nw) (xs:=ns.map V.str) (IT H b a l.h ln nw fu ks ns) ⟨ks,[],as,o5,o6,xV,g7 _ _ hn,hfu,⟨nn,fln,fnw⟩,(λz=>by obtain⟨us,e,_⟩:=la.lst _ z;rw[vC] at e;cases e),by rw[Wh],λk hk=>(by rw[List.take_zero] at hk;cases hk),sd,rfl⟩ (λj σ H8 _ ⟨_,_,_,_,_,_,h,_,_,_,_,_,_,_⟩=>ak.of h) ?_ ?_⟩
     ·rintro j v σ H8 hj ⟨eP,fs,Bx,p5,p6,qQ,SX,jx,yh,SY,ek,iG,By,rfl⟩;rw[Yd] at hj;obtain⟨one,e1,rfl⟩:∃one,ns[j]?=some one/\V.str one=v:=by
       cases z:ns[j]? with
       |none=>rw[z] at hj;cases hj
       |some o=>rw[z] at hj;exact⟨o,rfl,Ym hj⟩
      have IU:ns.take (j+1)=ns.take j++[one]:=by rw[Y1,e1];rfl
      have Zgb:one∈eP:=by rw[ek];exact Yt _ (sub _ (Yh e1))
      have S0:=ba.same qQ.same;obtain⟨dx8,h8⟩:=S0.obj;obtain⟨pe,pin,Iq⟩:=K2 ok one;refine bg ?_;refine⟨_,rfl,l.h,dx8,_,rfl,h8,rfl,_,rfl,l,b,xs,ys,one,rfl,S0,λpl H9 nO g9 cE=>?_⟩;rw[pe] at cE;have pln:pl≠ln:=λz=>by rw[z,qQ.at_] at nO;cases nO
      have plf:pl≠fu:=λz=>by rw[z,jx] at nO;cases nO
      refine⟨pl,rfl,⟨_,ak.of cE⟩,kF (K:=K) (a:=pl) (xs:=(fR b one).map V.str) (SN H b a l.h ln nw fu ks ns j one pl) ⟨eP,fs,Bx,p6,F3 qQ g9,g9 _ _ SX,g9 _ _ jx,cE,⟨yh.1,yh.2.1,yh.2.2,pln,plf⟩,SY,ek,iG,λp hp=>(by rw[List.take_zero] at hp;cases hp),By,rfl⟩ (λi σ HA _ ⟨_,_,_,_,_,_,_,h,_,_,_,_,_,_,_⟩=>ak.of h) ?_ ?_⟩
      ·rintro i v σ HA hi ⟨jy,yi,Bz,q6,fW,BA,nP,IV,j_,yj,vD,BB,yk,vE,rfl⟩;rw[Yd] at hi;obtain⟨par,e2,rfl⟩:∃par,(fR b one)[i]?=some par/\V.str par=v:=by
        cases z:(fR b one)[i]? with
        |none=>rw[z] at hi;cases hi
        |some o=>rw[z] at hi;exact⟨o,rfl,Ym hi⟩
       have mp:=Yh e2;have S1:(fR b one).take (i+1)=(fR b one).take i++[par]:=by rw[Y1,e2];rfl
       have QH:one∈jy:=by rw[vD];exact Yt _ (sub _ (Yh e1))
       have kf9:jy.length<=64:=Y6 (Ey ok fW.nd λk hk=>zh ok ma (vE k hk)) im;refine bg ?_;by_cases i_:par∈jy
       ·obtain⟨ap,_,vp⟩:=Fe fW.len i_;refine⟨_,rfl,_,rfl,ln,some (.ref ap),rfl,cU fW.at_ vp,_,rfl,bR (aW ?_)⟩;refine⟨jy,yi,Bz,_,fW,BA,nP,IV,j_,yj,vD,BB,λp hp=>?_,vE,rfl⟩;rw[S1] at hp;rcases Yv.mp hp with hp|hp;·exact yk p hp
        ·rw[Yo.mp hp];exact i_
       ·obtain⟨ao,mao,vo⟩:=Fe fW.len QH;obtain⟨us,IW,ul,aon⟩:=fW.lst ao mao;refine⟨_,rfl,_,rfl,ln,none,rfl,cU fW.at_ (ES fW.len i_),_,rfl,cW ?_⟩;refine⟨_,rfl,_,rfl,ln,.ref ao,rfl,cU fW.at_ vo,_,rfl,by show 1<=sizeLine;omega,λe1l HB neb gB heB=>?_⟩;refine⟨ao,e1l,us,_,rfl,rfl,gB _ _ IW,heB,by show us.length+1<=sizeLine;omega,λnl HC pG gC IX=>?_⟩;have S3:=gB.trans gC;refine⟨_,rfl,_,rfl,ln,_,.inr par,rfl,S3 _ _ fW.at_,rfl,?_,λHD bD eD=>?_⟩;·unfold gZ;rw[Ya,Jh];omega
        rw[kG _ (ES fW.len i_),Mw par nl fW.len] at eD;have QI:nl≠ln:=λz=>by rw[z,gB _ _ fW.at_] at pG;cases pG
        have kD:∀{c:Addr} {o:HO},HA c=some o->c≠ln->HD c=some o:=λ{c o} e n=>bD _ _ (S3 _ _ e) n;have S4:HA nl=none:=gB.free pG;refine⟨_,rfl,.inl ⟨rfl,_,ak.of (kD nP j_.2.1)⟩,_,rfl,fu,_,_,rfl,rfl,kD nP j_.2.1,?_,λHE bE eE=>?_⟩
        ·rw[Ya];have:yi.length<=jy.length:=by rw[vD,Yl];omega
         omega
        have kE:∀{c:Addr} {o:HO},HA c=some o->c≠ln->c≠fu->HE c=some o:=λ{c o} e n1 n2=>bE _ _ (kD e n1) n2;have QJ:nl≠fu:=λz=>by rw[z,nP] at S4;cases S4
        refine⟨jy++[par],yi++[par],Bz++[nl],_,⟨λc o e=>?_,bE _ _ eD (λz=>j_.2.1 z.symm),by rw[Yl,Yl,fW.len];rfl,λc hc=>?_,?_⟩,kE BA j_.1 (λz=>j_.2.2.1 z.symm),?_,kE IV j_.2.2.2.1 j_.2.2.2.2,j_,(λz=>by rcases Yv.mp z with z|z;exact yj z;exact QJ (Yo.mp z).symm),by rw[vD,Jr],λk hk p hp=>Yt _ (BB k hk p hp),λp hp=>?_,λk hk=>?_,rfl⟩
        ·have nc:=bO e SO;have ncf:c≠fu:=bO e ((la.same.free vC));exact kE (fW.same _ _ e) nc ncf
        ·rcases Yv.mp hc with hc|hc
         ·obtain⟨us',e',z',n'⟩:=fW.lst c hc;have cf:c≠fu:=λz=>yj (by rw[←z];exact hc);exact⟨us',kE e' n' cf,by rw[Yl];omega,n'⟩
         ·rw[Yo.mp hc];exact⟨us++[.str par],bE _ _ (bD _ _ IX QI) QJ,by rw[Yl,Yl];show us.length+1<=jy.length+1;omega,QI⟩
        ·refine Ww.mpr ⟨fW.nd,by simp,λu hu v hv z=>?_⟩;have:v=par:=by simpa using hv
         exact i_ (by rw[←this,←z];exact hu)
        ·rw[eE,Yq];rfl
        ·rw[S1] at hp;rcases Yv.mp hp with hp|hp;·exact Yt _ (yk p hp)
         ·rw[Yo.mp hp];exact Yp _ Yg
        ·rcases Yv.mp hk with hk|hk;·exact vE k hk
         ·rw[Yo.mp hk];exact .step (vE one QH) mp
      ·rintro σ HA ⟨jy,yi,Bz,q6,fW,BA,nP,IV,j_,yj,vD,BB,yk,vE,rfl⟩;rw[Ya,Wc] at yk;refine⟨jy,yi,Bz,_,_,fW,BA,nP,⟨j_.1,j_.2.1,j_.2.2.1⟩,yj,vD,λk hk=>?_,vE,rfl⟩;rw[IU] at hk;rcases Yv.mp hk with hk|hk;·exact BB k hk
       ·rw[Yo.mp hk];exact yk
     ·rintro σ H8 h8;rw[Ya] at h8;exact nN _ _ h8
    ·rintro σ H8 ⟨eP,fs,Bx,p5,p6,qQ,SX,jx,yh,SY,ek,iG,By,rfl⟩;rw[Wc] at iG;refine⟨_,rfl,?_⟩;have kf8:eP.length<=64:=Y6 (Ey ok qQ.nd λk hk=>zh ok ma (By k hk)) im;have S7:eP.length=ks.length+fs.length:=by rw[ek,Yl]
     refine⟨⟨eP,fs,Bx,fu,_,_,_,qQ,jx,yh.2.1,λk hk=>by rw[ek];exact Yp _ hk,λk hk no p hp=>?_,By,by rw[ek];exact Yt _ SW,by omega,rfl⟩,?_⟩
     ·rw[ek] at hk;rcases Yv.mp hk with hk|hk
      ·by_cases z:k∈ns;·exact iG k z p hp
       ·rw[ek];exact Yt _ (cl k hk z p hp)
      ·exact absurd hk no
     ·rw[mu0];show xm ln 100 [some (.ref l.h),some (.str a),some (.ref ln),some (.ref fu),some (.ref fu),p5,p6] H8<_;unfold xm;have kl:(gZ eP Bx).length=eP.length:=by unfold gZ;rw[Ya,Jh];have:=qQ.len;omega
      have g3:List.getD (α:=Option V) [some (.ref l.h),some (.str a),some (.ref ln),some (.ref fu),some (.ref fu),p5,p6] 3 none=some (.ref fu):=rfl;rw[qQ.at_,g3];dsimp only;rw[jx,kl];cases fs with
      |nil=>
       show 2*(100-eP.length)+0<_;have:eP.length=ks.length+0:=S7;omega
      |cons x r=>
       show 2*(100-eP.length)+1<_;have:eP.length=ks.length+(r.length+1):=S7;omega
   ·have nse:ns=[]:=by
     cases ns with
     |nil=>rfl
     |cons x r=>exact absurd rfl c
    subst nse;refine gW _ _ ⟨ks,as,la,λz=>⟨λh=>sd z h,λh=>?_⟩,_,_,_,_,rfl⟩;induction h with
    |refl=>exact SW
    |step _ m ih=>exact cl _ ih (λz=>nomatch z) _ m
  ·rintro σ H6 Q1 Q2 mo ⟨v1,w1,v2,w2,h⟩;exact⟨v1,w1,v2,w2,mo _ _ h⟩
 ·rintro σ H6 ⟨ks,as,la,iff,o3,o4,o5,o6,rfl⟩;exact⟨_,rfl,q ln ks as H6 la iff⟩
end
def fw(ps:bK)(i:Nat):Str:=(ps.getD i ("","")).2
theorem mI(nd:(ps.map (·.1)).Nodup)(hi:i<ps.length):aS (fV ps) (.inr (av ps i))=some (.str (fw ps i)):=by
 have kn:((fV ps).map (·.1)).Nodup:=by
  grind
 refine Nq kn (Yf.mpr ⟨ps[i],Jv hi,?_⟩);unfold av fw
 grind
def kL(k h t:Str):Bool:=if k="mother" then decide (t="woman") else if k="father" then decide (t="man") else decide (k="sibling")||(decide (h="man")&&decide (t="woman"))
inductive NC(vs:List V)(H:Hp)(Q:VK)(E:XK):Prop
 |mk (k h t:Str) (aE:vs=[.str k,.str h,.str t]) (q:Q (.bl (kL k h t)) H)
structure OP(b:BS)(k a:Str)(o:Str):Prop where
 par:cI k=true->[.inr k,.inr a]∉(cg b.ps b.fs).map (·.1)
 aJ:cI k=false->keyOf k a (.inr o)∉b.keys/\¬(k="sibling"/\a=o)
inductive OQ(C CL CJ:Addr)(vs:List V)(H:Hp)(Q:VK)(E:XK):Prop
 |mk (l:BL) (b:BS) (xs ys:List Int) (k a o:Str) (aE:vs=[.ref l.h,.str k,.str a,.str o]) (ba:bj H C CL CJ l xs ys b) (un:OP b k a o) (q:∀H',aj H H'->Q (.bl false) H')
inductive Mx(C CL CJ:Addr)(vs:List V)(H:Hp)(Q:VK)(E:XK):Prop
 |mk (l:BL) (b:BS) (xs ys:List Int) (ch pa:Str) (aE:vs=[.ref l.h,.str ch,.str pa]) (ba:bj H C CL CJ l xs ys b) (ok:cM xs ys b) (mp:pa∈b.ps.map (·.1)) (no:¬fM b pa ch) (q:∀H',aj H H'->Q .az H')
structure F4(xs ys:List Int)(b:BS)(c:Fc):Prop where
 nf:Ar xs ys b c
 ns:c.k≠bF
 cV:kL c.k (fw b.ps c.one) (fw b.ps c.aJ.toNat)=true
 un:OP b c.k (av b.ps c.one) (av b.ps c.aJ.toNat)
 el:cI c.k=true->¬fM b (av b.ps c.aJ.toNat) (av b.ps c.one)
inductive My(C CL CJ:Addr)(vs:List V)(H:Hp)(Q:VK)(E:XK):Prop
 |mk (l:BL) (b:BS) (xs ys:List Int) (c:Fc) (aE:vs=[.ref l.h,.str c.k,.str (av b.ps c.one),.str (av b.ps c.aJ.toNat)]) (ba:bj H C CL CJ l xs ys b) (ok:cM xs ys b) (to:F4 xs ys b c) (q:∀H',aj H H'->Q .az H')
inductive OR(C CL CJ:Addr)(vs:List V)(H:Hp)(Q:VK)(E:XK):Prop
 |mk (l:BL) (b:BS) (xs ys:List Int) (c:Fc) (aE:vs=[.ref l.h,.str c.k,.str (av b.ps c.one),.str (av b.ps c.aJ.toNat)]) (ba:bj H C CL CJ l xs ys b) (ok:cM xs ys b) (to:F4 xs ys b c) (dl:b.dn.length<200) (q:∀(l':BL) (H':Hp),cy H H' l l'->bj H' C CL CJ l' xs ys (b.wU c)->Q (.int (b.co:Int)) H')
structure PF(xs ys:List Int)(b:BS)(c:Fc):Prop where
 nf:Ar xs ys b c
 sk:c.k=bF
inductive Mz(C CL CJ:Addr)(vs:List V)(H:Hp)(Q:VK)(E:XK):Prop
 |mk (l:BL) (b:BS) (xs ys:List Int) (c:Fc) (aE:vs=[.ref l.h,.str (av b.ps c.one),.int c.aJ]) (ba:bj H C CL CJ l xs ys b) (ok:cM xs ys b) (so:PF xs ys b c) (q:∀H',aj H H'->Q .az H')
inductive LC(C CL CJ:Addr)(vs:List V)(H:Hp)(Q:VK)(E:XK):Prop
 |mk (l:BL) (b:BS) (xs ys:List Int) (i:Int) (aE:vs=[.ref l.h,.int i]) (ba:bj H C CL CJ l xs ys b) (hi:0<=i/\i<(xs.length:Int)) (q:∀H',aj H H'->Q .az H')
inductive OS(C CL CJ:Addr)(vs:List V)(H:Hp)(Q:VK)(E:XK):Prop
 |mk (l:BL) (b:BS) (xs ys:List Int) (c:Fc) (aE:vs=[.ref l.h,.str (av b.ps c.one),.int c.aJ]) (ba:bj H C CL CJ l xs ys b) (ok:cM xs ys b) (so:PF xs ys b c) (dl:b.dn.length<200) (q:∀(l':BL) (H':Hp),cy H H' l l'->bj H' C CL CJ l' xs ys (b.wU c)->Q (.int (b.co:Int)) H')
theorem dY(x y:Str):decide (V.str x=V.str y)=decide (x=y):=by
 grind
section
variable {K:ai}{mg:aX}{dA:Addr}
abbrev Aw:List Str:=["kind","here","there"]
theorem VP:aQ Aw Aw (aK Du):=.a8
theorem VQ(F:aL K "sides_fit" "sides_fit" Du f fd)(rR:mg "MAN"=some (.str "man" t1))(rB:mg "WOMAN"=some (.str "woman" t2))(og:mg "SIBLING"=some (.str "sibling" t3)):aH P w K mg base aM 1 f fd Aw NC:=by
 refine F.o VP λs H hr h=>?_;obtain⟨k,h,t,rfl,q⟩:=h;refine⟨_,(aq (aR (bC ck (pv 0) bu) (au (aG (eN ck (pv 2) (du (v:=.str "woman") rfl rB ⟨_,rfl⟩)))) aY) (aq (aR (bC ck (pv 0) bu) (au (aG (eN ck (pv 2) (du (v:=.str "man") rfl rR ⟨_,rfl⟩)))) aY) (au (aG (FK (eN ck (pv 0) (du (v:=.str "sibling") rfl og ⟨_,rfl⟩)) (lM (oy (eN ck (pv 1) (du (v:=.str "man") rfl rR ⟨_,rfl⟩)) (lM (eN ck (pv 2) (du (v:=.str "woman") rfl rB ⟨_,rfl⟩)))))))))),?_⟩;unfold kL at q;refine⟨_,rfl,rfl,_,rfl,?_⟩;rw[dY];refine bI (λcc=>?_) (λcc=>aW ?_)
 ·rw[if_pos (of_decide_eq_true cc)] at q;refine⟨_,rfl,rfl,?_⟩;rw[dY];exact q
 ·rw[if_neg (λz=>cc (decide_eq_true z))] at q;refine⟨_,rfl,rfl,_,rfl,?_⟩;rw[dY];refine bI (λc2=>?_) (λc2=>aW ?_)
  ·rw[if_pos (of_decide_eq_true c2)] at q;refine⟨_,rfl,rfl,?_⟩;rw[dY];exact q
  ·rw[if_neg (λz=>c2 (decide_eq_true z))] at q;refine⟨_,rfl,rfl,_,rfl,?_⟩;rw[dY];refine bI (λc3=>?_) (λc3=>?_);·grind
   ·have e3:decide (k="sibling")=false:=by
     cases e:decide (k="sibling") with
     |true=>grind
     |false=>rfl
    rw[e3,J7] at q;refine⟨_,rfl,rfl,_,rfl,?_⟩;rw[dY];refine bI (λc4=>?_) (λc4=>?_)
    ·rw[c4,Jz] at q;refine⟨_,rfl,rfl,?_⟩;rw[dY];exact q
    ·grind
abbrev qv:List Str:=["hearth","kind","one","other"]
theorem UE:aQ qv qv (aK Cs):=.a8
theorem ZbE(F:aL K "told_already" "told_already" Cs f fd)(og:mg "SIBLING"=some (.str "sibling" t1))(iI:mg "PARENTS"=some (.ref dA))(qP:∀H,aA K H dA (iq.map V.str))(B3:bT P w K mg base 1 "parent_of" C Aq (K0 C CL CJ))(tJ:bT P w K mg base 2 "has" C oN (F1 C CL CJ)):aH P w K mg base aM 3 f fd qv (OQ C CL CJ):=by
 refine F.o UE λs H hr h=>?_;obtain⟨l,b,xs,ys,k,a,o,rfl,ba,un,q⟩:=h;refine⟨_,(aq (aR (hU (dt (K:=K) rfl) (pv 1) (du (v:=.ref dA) rfl iI rfl) (by with_unfolding_all rfl)) (au (aG (eN zm (cH B3 hr (by omega) (pv 0) (aa (pv 1) (aa (pv 2) ag))) lL))) aY) (au (aG (FK (cH tJ hr (by omega) (pv 0) (aa (pv 1) (aa (pv 2) (aa (pv 3) ag)))) (lM (oy (eN ck (pv 1) (du (v:=.str "sibling") rfl og ⟨_,rfl⟩)) (lM (eN ck (pv 2) (pv 3))))))))),?_⟩;obtain⟨dx,h1⟩:=ba.obj;refine⟨_,rfl,dA,_,rfl,.inr (qP _),rfl,rfl,_,rfl,?_⟩;try dsimp only
 rw[if_neg Yk,show e_ (.str k) (iq.map V.str)=cI k from zF k];refine bI (λcc=>?_) (λcc=>aW ?_)
 ·refine⟨_,rfl,l.h,dx,_,rfl,h1,rfl,_,rfl,_,rfl,l,b,xs,ys,k,a,rfl,ba,λH1 g1=>?_⟩;rw[qX (un.par cc)];exact⟨rfl,q H1 g1⟩
 ·have np:cI k=false:=by
   cases e:cI k with
   |true=>exact absurd e cc
   |false=>rfl
  obtain⟨u1,u2⟩:=un.aJ np;refine⟨_,rfl,l.h,dx,_,rfl,h1,rfl,_,rfl,_,rfl,_,rfl,l,b,xs,ys,k,a,.inr o,rfl,ba,λ_=>⟨o,rfl⟩,λH1 g1=>⟨_,rfl,?_⟩⟩;have e:b.told (keyOf k a (.inr o))=false:=by
   cases e:b.told (keyOf k a (.inr o)) with
   |true=>exact absurd ((Mo _ _).mp e) u1
   |false=>rfl
  rw[e];refine bR ?_;refine⟨_,rfl,rfl,_,rfl,?_⟩;rw[dY];refine bI (λc3=>?_) (λc3=>?_)
  ·refine⟨_,rfl,_,rfl,rfl,?_⟩;rw[dY,decide_eq_false (λz=>u2 ⟨of_decide_eq_true c3,z⟩)];exact q H1 g1
  ·exact q H1 g1
abbrev Gz:List Str:=["hearth","child","parent"]
theorem J_:aQ ["hearth","child","parent","lines"] Gz (aK Ct):=.a8
theorem UG(F:aL K "check_elders" "check_elders" Ct f fd)(D8:HasFn P w K mg base 2 "lines_up" qu (NB C CL CJ)):aH P w K mg base aM 4 f fd Gz (Mx C CL CJ):=by
 refine F.o J_ λs H hr h=>?_;obtain⟨l,b,xs,ys,ch,pa,rfl,ba,ok,mp,no,q⟩:=h;refine⟨_,(aq (bY 3 J_.nd (aT D8 hr (aa (pv 0) (aa (pv 2) ag)))) (au (aR (jH (zN (bw hr) (pv 1) (pv 3)) (by with_unfolding_all rfl)) fG aY))),?_⟩;refine⟨_,rfl,_,rfl,l,b,xs,ys,pa,rfl,ba,ok,mp,λp ks as H1 la iff=>bg ?_⟩;have nk:ch∉ks:=λz=>no ((iff ch).mp z);exact⟨_,rfl,_,rfl,p,none,rfl,cU la.at_ (ES la.len nk),_,rfl,bR (aW (q H1 la.same))⟩
theorem VR:aQ qv qv (aK Dr):=.a8
theorem VS(F:aL K "check_tie" "check_tie" Dr f fd)(iI:mg "PARENTS"=some (.ref dA))(qP:∀H,aA K H dA (iq.map V.str))(ua:HasFn P w K mg base 1 "is_tie" ["kind"] E7)(DL:HasFn P w K mg base 1 "sides_fit" Aw NC)(mD:bT P w K mg base 1 "side_of" C jr (zf C CL CJ))(CD:HasFn P w K mg base 3 "told_already" qv (OQ C CL CJ))(CF:HasFn P w K mg base 4 "check_elders" Gz (Mx C CL CJ)):aH P w K mg base aM 6 f fd qv (My C CL CJ):=by
 refine F.o VR λs H hr h=>?_;obtain⟨l,b,xs,ys,c,rfl,ba,ok,to,q⟩:=h;refine⟨_,(aq (aR (hX (d9 (aT ua hr (aa (pv 1) ag)))) fG aY) (aq (aR (hX (d9 (aT DL hr (aa (pv 1) (aa (cH mD hr (by omega) (pv 0) (aa (pv 2) ag)) (aa (cH mD hr (by omega) (pv 0) (aa (pv 3) ag)) ag)))))) fG aY) (aq (aR (d9 (aT CD hr (aa (pv 0) (aa (pv 1) (aa (pv 2) (aa (pv 3) ag)))))) fG aY) (au (aR (hU (dt (K:=K) rfl) (pv 1) (du (v:=.ref dA) rfl iI rfl) (by with_unfolding_all rfl)) (au (bZ (aT CF hr (aa (pv 0) (aa (pv 2) (aa (pv 3) ag)))))) aY))))),?_⟩;obtain⟨dx,h1⟩:=ba.obj;obtain⟨r,dr,hs⟩:=De (to.nf.fg.uw to.ns);have ht:m7 qr c.k=true:=by unfold m7;rw[dr];rfl
 have om:=(to.nf.fg.ok.gI to.ns).1.2;refine⟨_,rfl,c.k,rfl,_,rfl,?_⟩;rw[ht];refine⟨_,rfl,_,rfl,l.h,dx,_,rfl,h1,rfl,_,rfl,l,b,xs,ys,_,_,rfl,ba,mI ok.nm to.nf.fg.ok.one,⟨_,rfl,l.h,dx,_,rfl,h1,rfl,_,rfl,l,b,xs,ys,_,_,rfl,ba,mI ok.nm om,⟨c.k,_,_,rfl,_,rfl,?_⟩⟩⟩;rw[to.cV];refine⟨_,rfl,_,rfl,_,rfl,_,rfl,l,b,xs,ys,c.k,_,_,rfl,ba,to.un,λH1 g1=>⟨_,rfl,bR (aW ⟨_,rfl,dA,_,rfl,.inr (qP _),rfl,rfl,_,rfl,?_⟩)⟩⟩;rw[if_neg Yk,show e_ (.str c.k) (iq.map V.str)=cI c.k from zF c.k];refine bI (λcc=>⟨_,rfl,_,rfl,_,rfl,l,b,xs,ys,_,_,rfl,ba.same g1,ok,E9 om,to.el cc,λH2 g2=>q H2 (g1.trans g2)⟩) (λcc=>aW (q H1 g1))
abbrev Ax:List Str:=["hearth","section"]
theorem Uu:aQ Ax Ax (aK Ce):=.a8
theorem Uv(F:aL K "check_section" "check_section" Ce f fd)(hc:eX K C)(lc:uv K CL)(bl:Bl mg):aH P w K mg base aM 1 f fd Ax (LC C CL CJ):=by
 refine F.o Uu λs H hr h=>?_;obtain⟨l,b,xs,ys,i,rfl,ba,hi,q⟩:=h;refine⟨_,(au (aR (hU VC (pv 1) (eR C2 rfl bl.jj t8 (aa (uc (K:=K) rfl (pF K 0) rfl) ag)) (by with_unfolding_all rfl)) fG aY)),?_⟩;obtain⟨dx,h1⟩:=ba.obj;obtain⟨dL,dS,mo,jZ,wi,im,jf,iw,HR,hL,_⟩:=ba.landAt;refine⟨_,rfl,_,rfl,l.h,C,dx,_,_,rfl,h1,hc.cls,hc.uk,rfl,l.L,CL,dL,_,_,rfl,hL,lc.cls,lc.rD,rfl,_,rfl,λp H1 np g1 hp=>?_⟩;refine⟨_,_,_,p,rfl,rfl,hp,_,rfl,?_⟩;rw[if_pos rfl,decide_eq_true hi];exact bR (aW (q H1 g1))
abbrev Ay:List Str:=["hearth","name","section"]
theorem UH:aQ Ay Ay (aK Cu):=.a8
theorem UI(F:aL K "check_saying" "check_saying" Cu f fd)(kK:mg "SAID"=some (.str "said" t1))(mD:bT P w K mg base 1 "side_of" C jr (zf C CL CJ))(Cp:HasFn P w K mg base 1 "check_section" Ax (LC C CL CJ))(tJ:bT P w K mg base 2 "has" C oN (F1 C CL CJ)):aH P w K mg base aM 3 f fd Ay (Mz C CL CJ):=by
 refine F.o UH λs H hr h=>?_;obtain⟨l,b,xs,ys,c,rfl,ba,ok,so,q⟩:=h;refine⟨_,(aq (bZ (cH mD hr (by omega) (pv 0) (aa (pv 1) ag))) (aq (bZ (aT Cp hr (aa (pv 0) (aa (pv 2) ag)))) (au (aR (d9 (cH tJ hr (by omega) (pv 0) (aa (du (v:=.str "said") rfl kK ⟨_,rfl⟩) (aa (pv 1) (aa (pv 2) ag))))) fG aY)))),?_⟩;obtain⟨dx,h1⟩:=ba.obj;refine⟨_,rfl,l.h,dx,_,rfl,h1,rfl,_,rfl,l,b,xs,ys,_,_,rfl,ba,mI ok.nm so.nf.fg.ok.one,⟨_,rfl,_,rfl,l,b,xs,ys,c.aJ,rfl,ba,so.nf.fg.Gx so.sk,λH1 g1=>⟨_,rfl,l.h,dx,_,rfl,g1 _ _ h1,rfl,_,rfl,_,rfl,l,b,xs,ys,"said",av b.ps c.one,.inl c.aJ,rfl,ba.same g1,(λz=>absurd z (by decide+kernel)),λH2 g2=>⟨_,rfl,?_⟩⟩⟩⟩;have ek:keyOf "said" (av b.ps c.one) (.inl c.aJ)=fk b.ps c:=by
  unfold fk;rw[mG so.sk,so.sk]
 have e:b.told (keyOf "said" (av b.ps c.one) (.inl c.aJ))=false:=by
  cases e:b.told (keyOf "said" (av b.ps c.one) (.inl c.aJ)) with
  |true=>exact absurd ((Mo _ _).mp e) (by rw[ek];exact so.nf.nk)
  |false=>rfl
 rw[e];exact bR (aW (q H2 (g1.trans g2)))
theorem Vn:aQ oN oN (aK C9):=.a8
theorem ZbF(F:aL K "tie" "Hearth.tie" C9 f fd)(hc:eX K C)(DM:HasFn P w K mg base 6 "check_tie" qv (My C CL CJ))(tF:bT P w K mg base 11 "keep" C se (FH C CL CJ)):aH P w K mg base aM 12 f fd oN (OR C CL CJ):=by
 refine F.o Vn λs H hr h=>?_;obtain⟨l,b,xs,ys,c,rfl,ba,ok,to,dl,q⟩:=h;refine⟨_,(aq (bZ (aT DM hr (aa (pv 0) (aa (pv 1) (aa (pv 2) (aa (pv 3) ag)))))) (au (aG (cH tF hr (by omega) (pv 0) (aa (dM (aa (pF K 0) (aa (pv 1) (aa (pv 2) (aa (pv 3) ag))))) ag))))),?_⟩;refine⟨_,rfl,_,rfl,_,rfl,_,rfl,l,b,xs,ys,c,rfl,ba,ok,to,λH1 g1=>?_⟩;have cN:=ba.same g1;obtain⟨dx,h1⟩:=cN.obj;refine⟨_,rfl,l.h,dx,_,rfl,h1,rfl,_,rfl,l.h,C,dx,_,_,rfl,h1,hc.cls,hc.pT,rfl,_,rfl,_,rfl,_,rfl,by show 4<=sizeLine;decide,λr H2 nr g2 hR=>?_⟩;have hf:di H2 b.ps r (b.co,c):=by
  show H2 r=some (.tup ((dQ b.ps b.co c).map kV));unfold dQ;rw[iK to.ns];exact hR
 refine⟨l,b,xs,ys,r,c,rfl,cN.same g2,ok,hf,to.nf,dl,λl' H3 wt lC=>q l' H3 (cy.after (g1.trans g2) wt) lC⟩
abbrev Az:List Str:=["self","name","section"]
theorem Vo:aQ Az Az (aK C_):=.a8
theorem ZbG(F:aL K "say" "Hearth.say" C_ f fd)(hc:eX K C)(kK:mg "SAID"=some (.str "said" t1))(CG:HasFn P w K mg base 3 "check_saying" Ay (Mz C CL CJ))(tF:bT P w K mg base 11 "keep" C se (FH C CL CJ)):aH P w K mg base aM 12 f fd Az (OS C CL CJ):=by
 refine F.o Vo λs H hr h=>?_;obtain⟨l,b,xs,ys,c,rfl,ba,ok,so,dl,q⟩:=h;refine⟨_,(aq (bZ (aT CG hr (aa (pv 0) (aa (pv 1) (aa (pv 2) ag))))) (au (aG (cH tF hr (by omega) (pv 0) (aa (dM (aa (pF K 0) (aa (du (v:=.str "said") rfl kK ⟨_,rfl⟩) (aa (pv 1) (aa (pv 2) ag))))) ag))))),?_⟩;refine⟨_,rfl,_,rfl,_,rfl,l,b,xs,ys,c,rfl,ba,ok,so,λH1 g1=>?_⟩;have cN:=ba.same g1;obtain⟨dx,h1⟩:=cN.obj;refine⟨_,rfl,l.h,dx,_,rfl,h1,rfl,_,rfl,l.h,C,dx,_,_,rfl,h1,hc.cls,hc.pT,rfl,_,rfl,_,rfl,by show 4<=sizeLine;decide,λr H2 nr g2 hR=>?_⟩;have hf:di H2 b.ps r (b.co,c):=by
  show H2 r=some (.tup ((dQ b.ps b.co c).map kV));unfold dQ;rw[mG so.sk,so.sk];exact hR
 refine⟨l,b,xs,ys,r,c,rfl,cN.same g2,ok,hf,so.nf,dl,λl' H3 wt lC=>q l' H3 (cy.after (g1.trans g2) wt) lC⟩
end
def nQ(n:Nat)(d:Int):List Int:=(List.range n).map λi:Nat=>((i:Int)+d) % (n:Int)
theorem rot_length(n:Nat)(d:Int):(nQ n d).length=n:=by simp[nQ]
theorem ZaA(hn:0<n)(d:Int):(nQ n d).Perm (bh n):=by
 have uM:(0:Int)<(n:Int):=by omega
 have r0:=Jn d (Hv uM);have r1:=Jd d uM;obtain⟨r,er⟩:∃r:Nat,d % (n:Int)=(r:Int):=⟨(d % (n:Int)).toNat,by omega⟩;have rn:r<n:=by omega
 have e:nQ n d=(bh n).drop r++(bh n).take r:=by
  refine Wj λi=>?_;have ul:=eQ n;by_cases hi:i<n
  ·have lhs:(nQ n d)[i]?=some (((i:Int)+d) % (n:Int)):=by
    unfold nQ;rw[Yd,Ja hi];rfl
   have em:((i:Int)+d) % (n:Int)=((r:Int)+(i:Int)) % (n:Int):=by
    rw[Int.add_comm,←Int.emod_add_emod,er]
   rw[lhs,em];by_cases h:r+i<n;·rw[Wb (by rw[Jj,ul];omega),List.getElem?_drop,lJ (by omega),Int.emod_eq_of_lt (by omega) (by omega),Int.natCast_add]
   ·rw[Js (by rw[Jj,ul];omega),Jj,ul,List.getElem?_take_of_lt (by omega),lJ (by omega)];have e3:(r:Int)+(i:Int)=((i-(n-r):Nat):Int)+(n:Int)*1:=by omega
    rw[e3,Int.add_mul_emod_self_left,Int.emod_eq_of_lt (by omega) (by omega)]
  ·rw[Y3 (by rw[rot_length];omega),Y3 (by rw[Yl,Jj,Wa,ul];omega)]
 rw[e];exact List.perm_append_comm.trans (by rw[List.take_append_drop])
inductive ND(vs:List V)(H:Hp)(Q:VK):Prop
 |mk (c:Int) (n:Nat) (aE:vs=[.int c,.int (n:Int)]) (aU:0<n) (bc:n<=60) (bL:∀(t:Addr) (ts:List Int) (H':Hp),H t=none->aj H H'->bP H' t ts->ts.Perm (bh n)->Q (.ref t) H'):ND vs H Q
def PH:Sp:=λvs H Q _=>ND vs H Q
inductive NF(K:ai)(vs:List V)(H:Hp)(Q:VK):Prop
 |mk (a b:Addr) (xs ys:List Int) (aE:vs=[.ref a,.ref b]) (aU:aA K H a (xs.map V.int)) (bc:aA K H b (ys.map V.int)) (bL:(∀x∈xs,0<=x/\x<ys.length)) (cL:xs.length<=60) (d5:∀(l:Addr) (H':Hp),H l=none->aj H H'->bP H' l (bH ys xs)->Q (.ref l) H'):NF K vs H Q
def PJ(K:ai):Sp:=λvs H Q _=>NF K vs H Q
theorem ZbH(h:Paired Bd ds [a,b]):∃v w,ds=[v,w]/\Bd v a/\Bd w b:=by
 cases h with|cons h1 h=>cases h with|cons h2 h=>
  cases h;exact⟨_,_,rfl,h1,h2⟩
section
variable {K:ai}{mg:aX}
abbrev GA:List Str:=["_law_cell_here","_law_size"]
theorem K3:aQ ["_law_cell_here","_law_size","_law_drawn"] GA (aK Eo):=.a8
theorem XW(F:aL K "_law_row" "_law_row" Eo f fd)(kC:HasFn P w K mg base 1 "_law_draws" xR (zt K))(D9:HasFn P w K mg base 1 "_law_turn" HZ Oh)(bl:Bl mg):
  aH P w K mg base aM 2 f fd GA PH:=by
 refine F.o K3 λs H hr h=>?_;obtain⟨c,n,rfl,n0,n60,q⟩:=h;refine⟨_,(aq (f_ (i:=2) K3.nd rfl (Or.inr rfl) (aT kC hr (aa (pv 0) (aa (jI (aa aF (aa aF ag))) ag)))) (aq (aR (bC ck (aP (iL K) (pv 2) aF) aF) (au (aG (eR (tD) rfl bl.mK mH (aa (iN (x:="_law_at") (fr:=[("_law_size",1),("_law_drawn",2)]) (cl:=[("_law_size",s.heap.objs.size+1),("_law_drawn",s.heap.objs.size+1+1)]) rfl (.gH ⟨rfl,⟨rfl,trivial⟩⟩ ⟨⟨rfl,.inl rfl,.inl rfl,rfl⟩,⟨⟨rfl,.inl rfl,.inl rfl,rfl⟩,trivial⟩⟩) (nZ rfl bl.jj (aa (pv 1) ag)) (λ_ _ _ _=>lK) (λ_ _ _ _=>(aV dW (aV fP (pv 0) (aP (iL K) (pv 2) aF)) (pv 1)))) ag)))) aY) (au (aG (aT D9 hr (aa (aP (iL K) (pv 2) aF) (aa (pv 1) ag))))))),?_⟩;refine⟨_,rfl,by show 2<=sizeLine;decide,λp np=>?_⟩;refine⟨c,p,[3,40320],rfl,ak.of aI,by decide,by decide,λdl ds H1 nd g1 h1 bd=>?_⟩;obtain⟨d0,d1,rfl,⟨a0,a0'⟩,⟨a1,a1'⟩⟩:=ZbH bd;have g:=(cz np _).trans g1;have pos:(0:Int)<(n:Int):=by omega
 refine⟨_,rfl,dl,_,0,.int d0,rfl,rfl,ak.of h1,rfl,rfl,_,rfl,bI (λ_=>?_) (λ_=>aW ?_)⟩
 ·refine⟨_,rfl,(n:Int),rfl,by omega,by omega,λD hD=>vZ (lo:=0) (n:=(n:Int).toNat) (λi zs H2=>aj H1 H2/\H2 D=some (.lst zs)/\zs=((nQ n d1).take i).map V.int) ⟨cz hD _,aI,rfl⟩ ?_ ?_⟩
  ·rintro i zs H2 hi ⟨g2,h2,e2⟩;rw[Y4] at hi;rw[J4];refine kT (cW ⟨_,rfl,_,rfl,dl,_,1,.int d1,rfl,rfl,ak.of (g2 _ _ h1),rfl,_,_,rfl,rfl,_,rfl,_,_,rfl,rfl,pos,h2,?_,λd o qd=>?_,aI,?_⟩)
   ·rw[e2,Ya,Wa,rot_length];exact jD (by omega)
   ·rw[aC (bO qd hD)];exact g2 d o qd
   ·have ge:(nQ n d1)[i]?=some (((i:Int)+d1) % (n:Int)):=by
     unfold nQ;rw[Yd,Ja hi];rfl
    rw[e2,Y1,Eh,ge];rfl
  ·rintro zs H2 ⟨g2,h2,e2⟩;rw[Y4,Wk (by rw[rot_length];omega)] at e2;refine⟨D,_,rfl,.inl ⟨ak.of h2,λt ht=>q t (nQ n d1) _ (g.free (g2.free ht)) ((g.trans g2).trans (cz ht _)) ?_ (ZaA n0 d1)⟩⟩;show upd H2 t (.tup zs) t=_;rw[aI,e2]
 ·exact⟨_,rfl,dl,_,1,.int d1,rfl,rfl,ak.of h1,rfl,_,rfl,d1,n,rfl,n60,λt ts H2 nt g2 ht pm=>q t ts H2 (g.free nt) (g.trans g2) ht pm⟩
abbrev AA:List Str:=["_law_first","_law_then"]
theorem VT:aQ AA AA (aK Dw):=.a8
theorem VU(F:aL K "_law_after" "_law_after" Dw f fd)(bl:Bl mg):aH P w K mg base aM 1 f fd AA (PJ K):=by
 refine F.o VT λs H hr h=>?_;obtain⟨a,b,xs,ys,rfl,hA,hB,qE,hl,q⟩:=h;refine⟨_,(au (aG (eR (tD) rfl bl.mK mH (aa (iN (x:="_law_one") (fr:=[("_law_then",1)]) (cl:=[("_law_then",s.heap.objs.size+1)]) rfl (.gH ⟨rfl,trivial⟩ ⟨⟨rfl,.inl rfl,.inl rfl,rfl⟩,trivial⟩) (Fm (pv 0)) (λ_ _ _ _=>lK) (λ_ _ _ _=>(aP (iT K) (pv 1) (pv 0)))) ag)))),?_⟩;refine⟨_,rfl,a,rfl,⟨_,hA⟩,λD hD=>y8 (xs:=xs.map V.int) (λi zs H3=>aj H H3/\H3 D=some (.lst zs)/\zs=((bH ys xs).take i).map V.int) ⟨cz hD _,aI,rfl⟩ (λi zs H3 _ ⟨g3,_,_⟩=>g3.jb hA) ?_ ?_⟩
 ·rintro i v zs H3 hi ⟨g3,h3,e3⟩;obtain⟨z,rfl,hz⟩:=mJ hi;have dG:i<xs.length:=(Yi.mp hz).1;have bz:=qE z (Yh hz);refine kT (cW ⟨_,rfl,_,rfl,b,_,_,_,rfl,rfl,g3.jb hB,mQ bz.1 bz.2,h3,?_,λd o qd=>?_,aI,?_⟩)
  ·rw[e3,Ya,Wa,q0];exact jD (by omega)
  ·rw[aC (bO qd hD)];exact g3 d o qd
  ·rw[e3,Y1,Eh];unfold bH;rw[Yd,hz];rfl
 ·rintro zs H3 ⟨g3,h3,e3⟩;refine⟨D,_,rfl,.inl ⟨ak.of h3,λt ht=>q t _ (g3.free ht) (g3.trans (cz ht _)) ?_⟩⟩;show upd H3 t (.tup zs) t=_;rw[aI,e3,Ya,Wk (by rw[q0];omega)]
end
inductive NG(vs:List V)(H:Hp)(Q:VK):Prop
 |mk (a:Addr) (xs:List Int) (aE:vs=[.ref a]) (aU:bP H a xs) (bc:xs.length<64) (bL:full xs=true) (cL:∀(t:Addr) (H':Hp),H t=none->aj H H'->bP H' t (inv xs)->Q (.ref t) H'):NG vs H Q
def F5:Sp:=λvs H Q _=>NG vs H Q
section
variable {K:ai}{mg:aX}
abbrev xn:List Str:=["_law_turn_here"]
theorem UY:aQ xn xn (aK CM):=.a8
theorem XX(F:aL K "_law_inverse" "_law_inverse" CM f fd)(bl:Bl mg):aH P w K mg base aM 1 f fd xn F5:=by
 refine F.o UY λs H hr h=>?_;obtain⟨a,xs,rfl,hA,lx,fx,q⟩:=h;refine⟨_,(au (aG (eR (tD) rfl bl.mK mH (aa (iN (x:="_law_at") (fr:=[("_law_turn_here",0)]) (cl:=[("_law_turn_here",s.heap.objs.size+1)]) rfl (.gH ⟨rfl,trivial⟩ ⟨⟨rfl,.inl rfl,.inl rfl,rfl⟩,trivial⟩) (nZ rfl bl.jj (aa (df K bl (pv 0)) ag)) (λ_ _ _ _=>lK) (λ_ _ _ _=>(Kl (pv 1) (aa (pv 0) ag)))) ag)))),?_⟩;have el:(xs.map V.int).length=xs.length:=Ya _;refine⟨_,rfl,a,_,rfl,.inr (aA.of hA),_,rfl,by rw[el];omega,by rw[el];omega,λD hD=>vZ (lo:=0) (n:=(((xs.map V.int).length:Nat):Int).toNat)
   (λi zs H2=>aj H H2/\H2 D=some (.lst zs)/\zs=((inv xs).take i).map V.int) ⟨cz hD _,aI,rfl⟩ ?_ ?_⟩
 ·rintro i zs H2 hi ⟨g2,h2,e2⟩;rw[Y4,el] at hi;rw[J4];have hx:=zb (L9 fx hi);have xT:=g2 _ _ hA;refine kT (cW ⟨_,rfl,a,xs,rfl,xT,_,rfl,(i:Int),jO (i:Int) xs,rfl,xT,hx.1,hx.2,h2,?_,λd o qd=>?_,aI,?_⟩)
  ·rw[e2,Ya,Wa,fF];exact jD (by omega)
  ·rw[aC (bO qd hD)];exact g2 d o qd
  ·rw[e2,L_ hi,Yq];rfl
 ·rintro zs H2 ⟨g2,h2,e2⟩;refine⟨D,_,rfl,.inl ⟨ak.of h2,λt ht=>q t _ (g2.free ht) (g2.trans (cz ht _)) ?_⟩⟩;show upd H2 t (.tup zs) t=_;rw[aI,e2,Y4,el,Wk (by rw[fF];omega)]
end
structure i4(H0 H:Hp)(ps:bK)(d:Addr)(b:Nat)(kvs:List (Key×V))(L:Nat->List (Nat×List Int)):Prop where
 dict:H d=some (.dK kvs)
 len:kvs.length<=b
 new:H0 d=none
 at_:∀x:Nat,x<ps.length->(aS kvs (.inr (av ps x))=none/\L x=[])\/∃(a:Addr) (es:List Addr),aS kvs (.inr (av ps x))=some (.ref a)/\H0 a=none/\H a=some (.lst (es.map V.ref))/\(L x).length<=b/\Paired (λe (p:Nat×List Int)=>∃u,H e=some (.tup [.str (av ps p.1),.ref u])/\bP H u p.2) es (L x)
 inj:∀(x y:Nat) (a:Addr),x<ps.length->y<ps.length->aS kvs (.inr (av ps x))=some (.ref a)->aS kvs (.inr (av ps y))=some (.ref a)->x=y
theorem wz(nd:(ps.map (·.1)).Nodup)(hi:i<ps.length)(hj:j<ps.length)(e:av ps i=av ps j):i=j:=by
 have h1:=rq nd hi;rw[e,rq nd hj] at h1
 grind
theorem i4.same(g:aj H H')(h:i4 H0 H ps d b kvs L):i4 H0 H' ps d b kvs L:=by
 refine⟨g _ _ h.dict,h.len,h.new,λx hx=>?_,h.inj⟩;rcases h.at_ x hx with z|⟨a,es,h1,h2,h3,h4,h5⟩;·exact .inl z
 ·exact .inr ⟨a,es,h1,h2,g _ _ h3,h4,L2.Paired.bB h5 λ_ _ ⟨u,e1,e2⟩=>⟨u,g _ _ e1,g _ _ e2⟩⟩
theorem i4.app(h:i4 H0 H ps d b kvs L)(hx:x<ps.length)(hv:aS kvs (.inr (av ps x))=some (.ref a))(ha:H a=some (.lst ys))(he:H e=some (.tup [.str (av ps y),.ref u]))(hu:bP H u t)(br:ay a H H')(qH:H' a=some (.lst (ys++[.ref e]))):i4 H0 H' ps d (b+1) kvs (r8 L x (y,t)):=by
 have nt:∀{c:Addr} {xs:List V},H c=some (.tup xs)->c≠a:=λ{c xs} hc=>dU hc ha (λz=>by cases z);refine⟨br _ _ h.dict (dU h.dict ha (λz=>by cases z)),by have:=h.len;omega,h.new,λz hz=>?_,h.inj⟩;have en:∀{es:List Addr} {qs:List (Nat×List Int)},Paired (λe (p:Nat×List Int)=>∃u,H e=some (.tup [.str (av ps p.1),.ref u])/\bP H u p.2) es qs->Paired (λe (p:Nat×List Int)=>∃u,H' e=some (.tup [.str (av ps p.1),.ref u])/\bP H' u p.2) es qs:=λ{es qs} hp=>L2.Paired.bB hp λ_ _ ⟨u,e1,e2⟩=>⟨u,br _ _ e1 (nt e1),br _ _ e2 (nt e2)⟩;by_cases ez:z=x
 ·subst ez;rcases h.at_ z hz with⟨z1,_⟩|⟨a1,es,h1,h2,h3,h4,h5⟩;·grind
  ·obtain rfl:a1=a:=V.ref.inj (Ym (h1.symm.trans hv));rw[h3] at ha;obtain rfl:es.map V.ref=ys:=by injection ha with ha;injection ha
   refine .inr ⟨a1,es++[e],h1,h2,by rw[qH,Yq];rfl,?_,?_⟩;·unfold r8;rw[if_pos rfl,Yl];show(L z).length+1<=b+1;omega
   ·unfold r8;rw[if_pos rfl];exact jB (F:=λe (p:Nat×List Int)=>∃u,H' e=some (.tup [.str (av ps p.1),.ref u])/\bP H' u p.2) ⟨u,br _ _ he (nt he),br _ _ (show H u=some (.tup (t.map V.int)) from hu) (nt (show H u=some (.tup (t.map V.int)) from hu))⟩ (en h5)
 ·unfold r8;rw[if_neg ez];rcases h.at_ z hz with z1|⟨a1,es,h1,h2,h3,h4,h5⟩;·exact .inl z1
  ·refine .inr ⟨a1,es,h1,h2,br _ _ h3 (λq=>ez (h.inj z x a hz hx (by rw[←q];exact h1) hv)),by omega,en h5⟩
theorem i4.neu(hb:i4 H0 Hb ps d b kvs L)(nd:(ps.map (·.1)).Nodup)(hx:x<ps.length)(g:aj Hb H)(np:Hb p=none)(BC:H0 p=none)(hv:aS kvs (.inr (av ps x))=none)(hp:H p=some (.lst []))(br:ay d H H')(AL:H' d=some (.dK (kvs++[(.inr (av ps x),.ref p)]))):i4 H0 H' ps d (b+1) (kvs++[(.inr (av ps x),.ref p)]) L:=by
 have h:=hb.same g;have nt:∀{c:Addr} {xs:List V},H c=some (.tup xs)->c≠d:=λ{c xs} hc=>dU hc h.dict (λz=>by cases z);have nl:∀{c:Addr} {xs:List V},H c=some (.lst xs)->c≠d:=λ{c xs} hc=>dU hc h.dict (λz=>by cases z);refine⟨AL,by rw[Yl];have:=h.len;show kvs.length+1<=b+1;omega,h.new,λz hz=>?_,λz1 z2 a l1 l2 e1 e2=>?_⟩
 ·rw[tT hv];by_cases ez:z=x
  ·rw[if_pos (by rw[ez])];rcases h.at_ z hz with⟨_,z2⟩|⟨a1,es,h1,_⟩;·exact .inr ⟨p,[],rfl,BC,br _ _ hp (nl hp),by rw[z2];exact Yw _,by rw[z2];exact .nil⟩
   ·rw[ez,hv] at h1;cases h1
  ·rw[if_neg (λq=>ez (wz nd hz hx (Wf q)))];rcases h.at_ z hz with z1|⟨a1,es,h1,h2,h3,h4,h5⟩;·exact .inl z1
   ·exact .inr ⟨a1,es,h1,h2,br _ _ h3 (nl h3),by omega,L2.Paired.bB h5 λ_ _ ⟨u,e1,e2⟩=>⟨u,br _ _ e1 (nt e1),br _ _ e2 (nt e2)⟩⟩
 ·have old:∀{z:Nat},z<ps.length->aS kvs (.inr (av ps z))=some (.ref p)->False:=λ{z} hz e=>by
   rcases hb.at_ z hz with⟨z1,_⟩|⟨a1,es,h1,h2,h3,_⟩;·rw[z1] at e;cases e
   ·rw[e] at h1;obtain rfl:p=a1:=V.ref.inj (Ym h1);rw[np] at h3;cases h3
  rw[tT hv] at e1 e2;by_cases q1:z1=x
  ·by_cases q2:z2=x;·rw[q1,q2]
   ·rw[if_pos (by rw[q1])] at e1;rw[if_neg (λq=>q2 (wz nd l2 hx (Wf q))),←e1] at e2;exact absurd e2 (old l2)
  ·rw[if_neg (λq=>q1 (wz nd l1 hx (Wf q)))] at e1;by_cases q2:z2=x
   ·rw[if_pos (by rw[q2])] at e2;rw[←e2] at e1;exact absurd e1 (old l1)
   ·rw[if_neg (λq=>q2 (wz nd l2 hx (Wf q)))] at e2;exact h.inj _ _ a l1 l2 e1 e2
theorem LD{K:ai}(h2:∀H Q,Q (.ref d) H->gn 2 σ H Q)(nd:(ps.map (·.1)).Nodup)(BD:x<ps.length)(hi:∀H Q,Q (.str (av ps x)) H->gn i σ H Q)(hk:∀H Q,Q (.str (av ps y)) H->gn k σ H Q)(h:i4 H0 H ps d b kvs L)(g:aj H0 H)(lb:b<1000)
  (hx:∀(H1:Hp) (Q1:VK),aj H0 H1->(∀(u:Addr) (H2:Hp),aj H1 H2->bP H2 u t->Q1 (.ref u) H2)->tx σ H1 Q1)(q:∀(v:V) (ZeY:List (Key×V)) (H':Hp),aj H0 H'->i4 H0 H' ps d (b+2) ZeY (r8 L x (y,t))->Q v H'):xB K "list" LY (EE (gn 2) (gn i) (Pn iY)) (gf (wO (gf (gn k) (gf tx iY))) iY) σ H Q:=by
 have sz:(10000:Nat)<=sizeLine:=by rw[sizeLine_eq];omega
 have ln:=h.len;unfold xB EE;refine h2 _ _ ⟨d,rfl,.inl ⟨_,.inl h.dict⟩,hi _ _ ⟨by show 0<=sizeLine;exact Yw _,λp H1 np g1 hp=>⟨kvs,.inr (av ps x),g1 _ _ h.dict,rfl,by omega,λv hv=>?_,λhv H2 b2 e2=>?_⟩⟩⟩
 ·rcases h.at_ x BD with⟨z1,_⟩|⟨a,es,h3,h4,h5,h6,h7⟩;·grind
  obtain rfl:v=.ref a:=Ym (hv.symm.trans h3);have pl:=cX h7;refine⟨.inl ⟨rfl,_,ak.of (g1 _ _ h5)⟩,?_⟩;unfold gf wO;refine hk _ _ (hx _ _ (g.trans g1) λu H2 g2 hu=>⟨by show 2<=sizeLine;omega,λe H3 ne g3 he=>?_⟩);have d7:=(g1.trans g2).trans g3;refine⟨a,_,_,rfl,rfl,d7 _ _ h5,by rw[Ya];omega,λH4 b4 e4=>?_⟩;have nn:=(h.same d7).app BD h3 (d7 _ _ h5) he (g3 _ _ hu) b4 e4;exact q _ _ H4 (λc o e=>b4 _ _ (d7 _ _ (g _ _ e)) (bO e h4)) ⟨nn.dict,by have:=nn.len;omega,nn.new,λz hz=>by
   rcases nn.at_ z hz with w|⟨a,es,w1,w2,w3,w4,w5⟩;·exact .inl w
   ·exact .inr ⟨a,es,w1,w2,w3,by omega,w5⟩,nn.inj⟩
 ·have BC:=g.free np;have dF:=b2 _ _ hp (dU hp (g1 _ _ h.dict) (λz=>by cases z));have gg:aj H0 H2:=λc o e=>b2 _ _ (g1 _ _ (g _ _ e)) (bO e h.new);refine⟨.inl ⟨rfl,_,ak.of dF⟩,?_⟩;unfold gf wO;refine hk _ _ (hx _ _ gg λu H3 g3 hu=>⟨by show 2<=sizeLine;omega,λe H4 ne g4 he=>?_⟩);have BE:=g3.trans g4;refine⟨p,_,_,rfl,rfl,BE _ _ dF,by show 0<sizeLine;omega,λH5 b5 e5=>?_⟩;have vx:aS (kvs++[(Sum.inr (av ps x),V.ref p)]) (.inr (av ps x))=some (.ref p):=by rw[tT hv,if_pos rfl]
  exact q _ _ H5 (λc o e=>b5 _ _ (BE _ _ (gg _ _ e)) (bO e BC)) (((h.neu nd BD g1 np BC hv hp b2 e2).same BE).app BD vx (BE _ _ dF) he (g4 _ _ hu) b5 e5)
def IY(H:Hp)(ps:bK)(a:Addr)(c:Fc):Prop:=∃z:Int,H a=some (.tup [.int z,.str c.k,.str (av ps c.one),kV (a_ ps c)])
def FL(H:Hp)(ps:bK)(fa:Addr)(F:List Fc):Prop:=∃as:List Addr,H fa=some (.lst (as.map V.ref))/\Paired (IY H ps) as F
abbrev uo(m f w s:Addr):List (Key×V):=[(.inr "mother",.ref m),(.inr "father",.ref f),(.inr "wed",.ref w),(.inr "sibling",.ref s)]
def g_(H:Hp)(td:Addr)(xs ys:List Int):Prop:=∃m f w s:Addr,H td=some (.dK (uo m f w s))/\bP H m (inv xs)/\bP H f (inv (bH xs ys))/\bP H w ys/\bP H s (bh xs.length)
theorem FL.same(g:aj H H')(h:FL H ps fa F):FL H' ps fa F:=by
 obtain⟨as,h1,h2⟩:=h;exact⟨as,g _ _ h1,L2.Paired.bB h2 λ_ _ ⟨z,e⟩=>⟨z,g _ _ e⟩⟩
theorem g_.same(g:aj H H')(h:g_ H td xs ys):g_ H' td xs ys:=by
 obtain⟨m,f,w,s,h1,h2,h3,h4,h5⟩:=h;exact⟨m,f,w,s,g _ _ h1,g _ _ h2,g _ _ h3,g _ _ h4,g _ _ h5⟩
theorem g_.get(h:g_ H td xs ys)(m:(k,tn)∈qi xs ys):∃kvs u,H td=some (.dK kvs)/\aS kvs (.inr k)=some (.ref u)/\bP H u tn:=by
 obtain⟨a,b,c,d,h1,h2,h3,h4,h5⟩:=h;simp only[Yn,Y2,or_false] at m;rcases m with⟨rfl,rfl⟩|⟨rfl,rfl⟩|⟨rfl,rfl⟩|⟨rfl,rfl⟩;·exact⟨_,a,h1,rfl,h2⟩
 ·exact⟨_,b,h1,rfl,h3⟩
 ·exact⟨_,c,h1,rfl,h4⟩
 ·exact⟨_,d,h1,rfl,h5⟩
inductive OT(vs:List V)(H:Hp)(Q:VK)(E:XK):Prop
 |mk (fa td:Addr) (ps:bK) (xs ys:List Int) (F:List Fc) (aE:vs=[.ref fa,.ref td]) (aU:FL H ps fa F) (ht:g_ H td xs ys) (nd:(ps.map (·.1)).Nodup) (bc:∀c∈F,eM xs ys ps.length c) (bL:xs.length<=8) (cL:F.length<=64) (d5:∀(d:Addr) (kvs:List (Key×V)) (L:Nat->List (Nat×List Int)) (H':Hp),aj H H'->i4 H H' ps d 300 kvs L->(∀x y t,(y,t)∈L x↔fI F x y t)->Q (.ref d) H')
section
variable {K:ai}{mg:aX}
abbrev GB:List Str:=["_law_facts","_law_turns_here"]
theorem tP:aQ ["_law_facts","_law_turns_here","_law_found","_law_number","_law_kind","_law_one","_law_other"] GB (aK DW):=.a8
theorem ZbI(F:aL K "_law_nets" "_law_nets" DW f fd)(qV:HasFn P w K mg base 1 "_law_inverse" xn F5)(bl:Bl mg):aH P w K mg base aM 2 f fd GB OT:=by
 refine F.o tP λs H hr h=>?_;obtain⟨fa,td,ps,xs,ys,F,rfl,jZ,ht,kh,fgA,n8,BG,q⟩:=h;refine⟨_,(aq (bY 2 tP.nd tV) (aq (gc PassesOwn.never rfl (fO (K:=K) rfl (pv 0)) (iO (K:=K) (n:=4) rfl rfl (bQ (bA 3 tP.nd) (bQ (bA 4 tP.nd) (bQ (bA 5 tP.nd) (bQ (bA 6 tP.nd) iM))))) (au (aR (bC kN (pv 4) bu) (aq (bZ (jJ (K:=K) rfl (ic plainAttrs_list PySem.F.slot_list_append PySem.F.type_list_append pM (KN (pv 2) (pv 5) (dR ag) ⟨rfl,rfl,rfl,rfl⟩) (aa (dM (aa (pv 6) (aa (cY (bw hr) (pv 1) (pv 4) (λ_ _=>rfl)) ag))) ag)))) (au (bZ (jJ (K:=K) rfl (ic plainAttrs_list PySem.F.slot_list_append PySem.F.type_list_append pM (KN (pv 2) (pv 6) (dR ag) ⟨rfl,rfl,rfl,rfl⟩) (aa (dM (aa (pv 5) (aa (aT qV hr (aa (cY (bw hr) (pv 1) (pv 4) (λ_ _=>rfl)) ag)) ag))) ag)))))) aY))) (au (aG (pv 2))))),?_⟩;refine cq ?_;refine λd H1 nd g1 hd=>?_;obtain⟨as,c9,dI⟩:=id jZ;have al:=cX dI;have sz:(10000:Nat)<=sizeLine:=by rw[sizeLine_eq];omega
 refine hV (λσ H6=>∃(kvs:List (Key×V)) (L:Nat->List (Nat×List Int)) (o1 o2 o3 o4:Option V),aj H H6/\i4 H H6 ps d 300 kvs L/\(∀x y t,(y,t)∈L x↔fI F x y t)/\σ=[some (.ref fa),some (.ref td),some (.ref d),o1,o2,o3,o4]) (λqI gW=>?_) ?_
 ·refine⟨_,rfl,fa,rfl,⟨_,ak.of (g1 _ _ c9)⟩,kF (K:=K) (a:=fa) (xs:=as.map V.ref) (λj σ H6=>∃(kvs:List (Key×V)) (L:Nat->List (Nat×List Int)) (o1 o2 o3 o4:Option V),aj H H6/\i4 H H6 ps d (4*j) kvs L/\(∀x y t,(y,t)∈L x↔fI (F.take j) x y t)/\σ=[some (.ref fa),some (.ref td),some (.ref d),o1,o2,o3,o4])
   ⟨[],λ_=>[],none,none,none,none,g1,⟨hd,Ye _,nd,λx _=>.inl ⟨rfl,rfl⟩,λ_ _ _ _ _ e=>(nomatch e)⟩,λx y t=>⟨λz=>(nomatch z),λz=>absurd z Zan⟩,rfl⟩
   (λj σ H6 _ ⟨_,_,_,_,_,_,g,_⟩=>ak.of (g _ _ c9)) ?_ ?_⟩
  ·rintro j v σ H6 hj ⟨kvs,L,o1,o2,o3,o4,g,ne,ed,rfl⟩;rw[Yd] at hj;obtain⟨c0,ec,rfl⟩:∃c0,as[j]?=some c0/\V.ref c0=v:=by
    cases e:as[j]? with
    |none=>rw[e] at hj;cases hj
    |some c=>rw[e] at hj;exact⟨c,rfl,Ym hj⟩
   obtain⟨c,iE,z,hc⟩:=fX dI ec;have mc:=Yh iE;have fg:=fgA c mc;have ok:=fg.ok;have jl:j<F.length:=(Yi.mp iE).1;have qR:F.take (j+1)=F.take j++[c]:=by rw[Y1,iE];rfl
   refine⟨c0,_,rfl,aA.of (g _ _ hc),rfl,_,_,rfl,bg ⟨_,_,rfl,bg ⟨_,_,rfl,bg ⟨_,_,rfl,bg ⟨rfl,?_⟩⟩⟩⟩⟩;have ev:∀b:Bool,decide (V.str c.k=V.str bF)=b->(b=true↔c.k=bF):=λb e=>by
    rw[←e,decide_eq_true_iff];exact⟨V.str.inj,λz=>by rw[z]⟩
   refine⟨_,rfl,rfl,_,rfl,?_⟩;refine bI (λcc=>?_) (λcc=>aW ?_)
   ·have ns:c.k≠bF:=λz=>by
     rw[(ev _ rfl).mpr z] at cc;cases cc
    obtain⟨tk,u,gG,vu,hu⟩:=ht.get (fg.uw ns);obtain⟨⟨o0,om⟩,ft,tl⟩:=ok.gI ns;have eo:kV (a_ ps c)=.str (av ps c.aJ.toNat):=by rw[iK ns];rfl
    refine LD (ps:=ps) (x:=c.one) (y:=c.aJ.toNat) (t:=c.tn) (λ_ _ h=>⟨_,rfl,h⟩) kh ok.one (λ_ _ h=>⟨_,rfl,h⟩) (λ_ _ h=>⟨_,rfl,by rw[eo];exact h⟩) ne g (by omega) (λH2 Q2 g2 k2=>⟨_,rfl,_,rfl,td,.ref u,rfl,cU (g2 _ _ gG) vu,k2 u H2 (aj.refl _) (g2 _ _ hu)⟩) λv2 ZgC H2 g2 n2=>?_;refine LD (ps:=ps) (x:=c.aJ.toNat) (y:=c.one) (t:=inv c.tn) (λ_ _ h=>⟨_,rfl,h⟩) kh om (λ_ _ h=>⟨_,rfl,by rw[eo];exact h⟩) (λ_ _ h=>⟨_,rfl,h⟩) n2 g2 (by omega) (λH3 Q3 g3 k3=>⟨_,rfl,_,rfl,td,.ref u,rfl,cU (g3 _ _ gG) vu,u,c.tn,rfl,g3 _ _ hu,by omega,ft,λw H4 _ g4 hw=>k3 w H4 g4 hw⟩) λv3 ZeZ H3 g3 n3=>?_;refine⟨ZeZ,_,_,_,_,_,g3,n3,λx y t=>?_,rfl⟩;rw[qR,pS,Mi,Mi,ed]
    grind
   ·have sd:c.k=bF:=by
     by_cases z:c.k=bF;·exact z
     ·cases e:decide (V.str c.k=V.str bF) with
      |true=>exact absurd ((ev _ e).mp rfl) z
      |false=>rw[e] at cc;exact absurd rfl cc
    refine⟨kvs,L,_,_,_,_,g,⟨ne.dict,by have:=ne.len;omega,ne.new,λz hz=>?_,ne.inj⟩,λx y t=>?_,rfl⟩
    ·rcases ne.at_ z hz with w|⟨a,es,w1,w2,w3,w4,w5⟩;·exact .inl w
     ·exact .inr ⟨a,es,w1,w2,w3,by omega,w5⟩
    ·rw[qR,pS,ed];exact⟨.inl,λh=>h.elim id λz=>absurd sd z.1⟩
  ·rintro σ H6 ⟨kvs,L,o1,o2,o3,o4,g,ne,ed,rfl⟩;rw[Ya,al] at ne;rw[Ya,al,Wc] at ed;refine gW _ _ ⟨kvs,L,o1,o2,o3,o4,g,⟨ne.dict,by have:=ne.len;omega,ne.new,λz hz=>?_,ne.inj⟩,ed,rfl⟩;rcases ne.at_ z hz with w|⟨a,es,w1,w2,w3,w4,w5⟩;·exact .inl w
   ·exact .inr ⟨a,es,w1,w2,w3,by omega,w5⟩
 rintro σ H6 ⟨kvs,L,o1,o2,o3,o4,g,ne,ed,rfl⟩;exact⟨_,rfl,q d kvs L H6 g ne ed⟩
end
theorem OU{t:List Int}{z:Int}(h0:0<=z)(h:z<t.length):dw (t.map V.int) z=some (.int (ap t z)):=mQ h0 h
def gN(ps:bK)(g:List (Nat×Int)):List (Key×V):=g.map λp=>(.inr (av ps p.1),.int p.2)
def pH(ps:bK)(g:List (Nat×Int)):List V:=g.map λp=>.str (av ps p.1)
theorem Zc_(ps:bK)(g:List (Nat×Int)):(gN ps g).length=g.length:=Ya _
theorem NH(ps:bK)(g:List (Nat×Int)):(pH ps g).length=g.length:=Ya _
theorem qg(nd:(ps.map (·.1)).Nodup)(hk:k<ps.length):∀{g:List (Nat×Int)},(∀p∈g,p.1<ps.length)->aS (gN ps g) (.inr (av ps k))=(g.lookup k).map V.int
 |[],_=>rfl
 |p::g,lt=>by
  have e0:gN ps (p::g)=(Sum.inr (av ps p.1),V.int p.2)::gN ps g:=rfl;rw[e0,W1];by_cases e:k=p.1
  ·rw[beq_iff_eq.mpr e,fH (p:=((Sum.inr (av ps p.1):Key),V.int p.2)) (by rw[e])];rfl
  ·rw[beq_eq_false_iff_ne.mpr e,eV (p:=((Sum.inr (av ps p.1):Key),V.int p.2)) (λz=>e (wz nd hk (lt p Yg) (Wf (show(Sum.inr (av ps p.1):Key)=Sum.inr (av ps k) from z)).symm))];exact qg nd hk λq hq=>lt q (Ys _ hq)
theorem ZbJ{ps:bK}{g:List (Nat×Int)}{r k:Nat}{v:Int}(h:g[r]?=some (k,v)):dw (pH ps g) (r:Int)=some (.str (av ps k)):=gM (by unfold pH;rw[Yd,h];rfl)
def vF(ps:bK)(d fa fn bq:Addr)(x:Nat)(a:Int)(r:Nat)(o7 o8 o9 gK gL fC fD:Option V):St:=[some (.ref d),some (.ref fa),some (.str (av ps x)),some (.int a),some (.ref fn),some (.ref bq),some (.int (r:Int)),o7,o8,o9,gK,gL,fC,fD]
def muC(m:Nat):St->Hp->Nat:=λσ _=>match List.getD (α:=Option V) σ 6 none with|some (V.int z)=>m+1-z.toNat|_=>0
inductive PK(H:Hp)(F:List Fc)(L:Nat->List (Nat×List Int))(n:Nat)(ps:bK)(d fa fn bq:Addr)(x:Nat)(a:Int)(σ:St)(H6:Hp):Prop
 |mk (g:List (Nat×Int)) (r:Nat) (o7 o8 o9:Option V) (aE:aj H H6) (aU:H6 fn=some (.dK (gN ps g))) (bc:H6 bq=some (.lst (pH ps g))) (bL:BF F n ps.length x a g) (cL:r<=g.length) (d5:(∀r',r'<r->Cl L g r')) (gU:σ=vF ps d fa fn bq x a r o7 o8 o9 none none none none):PK H F L n ps d fa fn bq x a σ H6
def Ze0(H:Hp)(F:List Fc)(L:Nat->List (Nat×List Int))(n:Nat)(ps:bK)(d fa fn bq:Addr)(x:Nat)(a:Int)(σ:St)(H6:Hp):Prop:=PK H F L n ps d fa fn bq x a σ H6
inductive PL(H:Hp)(F:List Fc)(L:Nat->List (Nat×List Int))(n:Nat)(ps:bK)(d fa fn bq:Addr)(x:Nat)(a:Int)(σ:St)(H6:Hp):Prop
 |mk (g:List (Nat×Int)) (r:Nat) (o7 o8 o9:Option V) (aE:aj H H6) (aU:H6 fn=some (.dK (gN ps g))) (bc:BF F n ps.length x a g) (bL:(∀r',r'<g.length->Cl L g r')) (cL:σ=vF ps d fa fn bq x a r o7 o8 o9 none none none none):PL H F L n ps d fa fn bq x a σ H6
def Ze1(H:Hp)(F:List Fc)(L:Nat->List (Nat×List Int))(n:Nat)(ps:bK)(d fa fn bq:Addr)(x:Nat)(a:Int)(σ:St)(H6:Hp):Prop:=PL H F L n ps d fa fn bq x a σ H6
inductive QK(H:Hp)(F:List Fc)(L:Nat->List (Nat×List Int))(n:Nat)(ps:bK)(d fa fn bq:Addr)(x:Nat)(a:Int)(r k:Nat)(v:Int)(g:List (Nat×Int))(al:Addr)(es:List Addr)(j:Nat)(σ:St)(H8:Hp):Prop
 |mk (g' tl:List (Nat×Int)) (o8 o9:Option V) (aE:aj H H8) (aU:H8 al=some (.lst (es.map V.ref))) (bc:H8 fn=some (.dK (gN ps g'))) (bL:H8 bq=some (.lst (pH ps g'))) (cL:BF F n ps.length x a g') (d5:g'=g++tl) (gU:(∀q∈(L k).take j,g'.lookup q.1=some (ap q.2 v))) (jd:σ=vF ps d fa fn bq x a r (some (.str (av ps k))) o8 o9 none none none none):QK H F L n ps d fa fn bq x a r k v g al es j σ H8
def CIn(H:Hp)(F:List Fc)(L:Nat->List (Nat×List Int))(n:Nat)(ps:bK)(d fa fn bq:Addr)(x:Nat)(a:Int)(r k:Nat)(v:Int)(g:List (Nat×Int))(al:Addr)(es:List Addr)(j:Nat)(σ:St)(H8:Hp):Prop:=QK H F L n ps d fa fn bq x a r k v g al es j σ H8
inductive PM(H:Hp)(F:List Fc)(L:Nat->List (Nat×List Int))(n:Nat)(ps:bK)(d fa fn bq:Addr)(x:Nat)(a:Int)(r k:Nat)(v:Int)(g:List (Nat×Int))(σ:St)(H8:Hp):Prop
 |mk (g' tl:List (Nat×Int)) (o8 o9:Option V) (aE:aj H H8) (aU:H8 fn=some (.dK (gN ps g'))) (bc:H8 bq=some (.lst (pH ps g'))) (bL:BF F n ps.length x a g') (cL:g'=g++tl) (d5:(∀q∈L k,g'.lookup q.1=some (ap q.2 v))) (gU:σ=vF ps d fa fn bq x a r (some (.str (av ps k))) o8 o9 none none none none):PM H F L n ps d fa fn bq x a r k v g σ H8
def Ze2(H:Hp)(F:List Fc)(L:Nat->List (Nat×List Int))(n:Nat)(ps:bK)(d fa fn bq:Addr)(x:Nat)(a:Int)(r k:Nat)(v:Int)(g:List (Nat×Int))(σ:St)(H8:Hp):Prop:=PM H F L n ps d fa fn bq x a r k v g σ H8
inductive PN(H:Hp)(F:List Fc)(n:Nat)(ps:bK)(d fa fn bq:Addr)(x:Nat)(a:Int)(r k y:Nat)(u:Addr)(g':List (Nat×Int))(al:Addr)(es:List Addr)(σ:St)(H9:Hp):Prop
 |mk (qS IZ:List (Nat×Int)) (v':Int) (aE:aj H H9) (aU:H9 al=some (.lst (es.map V.ref))) (bc:H9 fn=some (.dK (gN ps qS))) (bL:H9 bq=some (.lst (pH ps qS))) (cL:BF F n ps.length x a qS) (d5:qS=g'++IZ) (gU:qS.lookup y=some v') (jd:σ=vF ps d fa fn bq x a r (some (.str (av ps k))) (some (.str (av ps y))) (some (.ref u)) none none none none):PN H F n ps d fa fn bq x a r k y u g' al es σ H9
def Ze3(H:Hp)(F:List Fc)(n:Nat)(ps:bK)(d fa fn bq:Addr)(x:Nat)(a:Int)(r k y:Nat)(u:Addr)(g':List (Nat×Int))(al:Addr)(es:List Addr)(σ:St)(H9:Hp):Prop:=PN H F n ps d fa fn bq x a r k y u g' al es σ H9
def PQ(ps:bK)(F:List Fc)(H6:Hp)(d fa fn bq:Addr)(x:Nat)(a:Int)(r:Nat)(g:List (Nat×Int))(o7 o8 o9:Option V)(σ:St)(H8:Hp):Prop:=H8=H6/\(∀c∈F,c.k=bF->∀u,g.lookup c.one=some u->u=c.aJ)/\∃gK gL fC fD:Option V,σ=vF ps d fa fn bq x a r o7 o8 o9 gK gL fC fD
inductive LF(vs:List V)(H:Hp)(Q:VK)(E:XK):Prop
 |mk (H0:Hp) (d fa:Addr) (kvs:List (Key×V)) (L:Nat->List (Nat×List Int)) (n:Nat) (ps:bK) (F:List Fc) (x:Nat) (a:Int) (aE:vs=[.ref d,.ref fa,.str (av ps x),.int a]) (nd:(ps.map (·.1)).Nodup) (aU:i4 H0 H ps d 300 kvs L) (bc:(∀x y t,(y,t)∈L x↔fI F x y t)) (bL:FL H ps fa F) (cL:(∀c∈F,dP n ps.length c)) (d5:n<=8) (gU:ps.length<=100) (jd:F.length<=64) (qA:x<ps.length) (xI:(0<=a/\a<(n:Int))) (Gs:((¬∃g,jn n F g/\g x=some a)->∀H',aj H H'->Q .az H')) (Qq:∀(p:Addr) (g:List (Nat×Int)) (H':Hp),aj H H'->H' p=some (.dK (gN ps g))->BF F n ps.length x a g->jn n F (λk=>g.lookup k)->Q (.ref p) H')
section
variable {K:ai}{mg:aX}
abbrev GC:List Str:=["_law_nets_here","_law_facts","_law_name_here","_law_section"]
theorem kB:aQ ["_law_nets_here","_law_facts","_law_name_here","_law_section","_law_found","_law_row_here","_law_at","_law_here","_law_that","_law_turn_here","_law_number","_law_kind","_law_one","_law_said"] GC (aK CN):=.a8
theorem XY(F:aL K "_law_carried" "_law_carried" CN f fd)(bl:Bl mg):aH P w K mg base aM 1 f fd GC LF:=by
 refine F.o kB λs H hr h=>?_;obtain⟨H0,d,fa,kvs,L,n,ps,F,x,a,rfl,kh,AB,ed,jZ,jh,n8,QL,BG,hx,Ze4,q1,q2⟩:=h;refine⟨_,(aq (bY 4 kB.nd (zw (jE (pv 2) (pv 3) zu) rfl rfl (λz=>nomatch z) (Jo rfl))) (aq (bY 5 kB.nd (dR (aa (pv 2) ag))) (aq (bY 6 kB.nd aF) (aq (EC PassesOwn.never (bC mW (pv 6) (df K bl (pv 5))) (aq (bY 7 kB.nd (aP (iL K) (pv 5) (pv 6))) (aq (gc PassesOwn.never rfl (fO (K:=K) rfl (ZR (bw hr) (pv 0) (pv 7) (dR ag) ⟨rfl,rfl,rfl,rfl⟩)) (iO (K:=K) (n:=2) rfl rfl (bQ (bA 8 kB.nd) (bQ (bA 9 kB.nd) iM))) (aq (aR (jH (mF (bw hr) (pv 8) (pv 4)) (by with_unfolding_all rfl)) (aq (oh (bw hr) (pv 4) (pv 8) (aP (iT K) (pv 9) (cY (bw hr) (pv 4) (pv 7) (λ_ _=>rfl)))) (au (bZ (jJ (K:=K) rfl (ic plainAttrs_list PySem.F.slot_list_append PySem.F.type_list_append pM (pv 5) (aa (pv 8) ag)))))) aY) (au (aR (bC kN (cY (bw hr) (pv 4) (pv 8) (λ_ _=>rfl)) (aP (iT K) (pv 9) (cY (bw hr) (pv 4) (pv 7) (λ_ _=>rfl)))) (au (aG lL)) aY)))) (au (NV (i:=6) kB.nd rfl (Or.inl rfl) aF NW))))) (aq (gc PassesOwn.never rfl (fO (K:=K) rfl (pv 1)) (iO (K:=K) (n:=4) rfl rfl (bQ (bA 10 kB.nd) (bQ (bA 11 kB.nd) (bQ (bA 12 kB.nd) (bQ (bA 13 kB.nd) iM))))) (au (aR (PW.pt (pw_and (bC ck (pv 11) bu) (pw_and (jH (zN (bw hr) (pv 12) (pv 4)) (by with_unfolding_all rfl)) (pw_and1 (bC kN (cY (bw hr) (pv 4) (pv 12) (λ_ _=>rfl)) (pv 13)))))) (au (aG lL)) aY))) (au (aG (pv 4)))))))),?_⟩;refine cq ?_;refine λfn BH=>⟨_,rfl,_,rfl,aI,[(.inr (av ps x),.int a)],rfl,(by show 1<=15;omega),?_⟩;obtain⟨H1,qO⟩:∃H1,H1=upd (upd H fn (.dK [])) fn (.dK (oz [] [(.inr (av ps x),.int a)])):=⟨_,rfl⟩;have g1:aj H H1:=λb o e=>by rw[qO,aC (bO e BH),aC (bO e BH)];exact e
 have h1:H1 fn=some (.dK (gN ps [(x,a)])):=by rw[qO,aI];rfl
 rw[←qO];refine cq ?_;refine⟨_,rfl,by show 1<=sizeLine;rw[sizeLine_eq];omega,λbq H2 yn g2 I0=>?_⟩;refine setC ?_;have QM:=g1.free yn;have fr_ne:fn≠bq:=λz=>by rw[←z,h1] at yn;cases yn
 have sz:(10000:Nat)<=sizeLine:=by rw[sizeLine_eq];omega
 have hdH:=AB.dict;obtain⟨as,c9,dI⟩:=id jZ;have al:=cX dI;refine hV (Ze1 H F L n ps d fa fn bq x a) (λqI gW=>?_) ?_
 ·refine ED (Ze0 H F L n ps d fa fn bq x a) (muC ps.length)
   ⟨[(x,a)],0,none,none,none,g1.trans g2,g2 _ _ h1,I0,bf0 hx Ze4,Yw _,λ_ z=>absurd z (Wd _),rfl⟩ ?_ ?_
  ·rintro σ H6 ⟨g,r,o7,o8,o9,g6,sT,nR,bf,rl,cl,rfl⟩;have kl:=NH ps g;have gl:=bf.len;refine⟨_,rfl,_,rfl,bq,_,rfl,.inl (ak.of nR),_,_,rfl,rfl,_,rfl,?_⟩;rw[kl];refine bI (λc=>?_) (λc=>?_)
   ·have vG:r<g.length:=by have:=of_decide_eq_true c;omega
    obtain⟨k,v,I_⟩:∃(k:Nat) (v:Int),g[r]?=some (k,v):=⟨g[r].1,g[r].2,Yb vG⟩;have S_:(k,v)∈g:=Yh I_;have lkv:g.lookup k=some v:=mem_lookup bf.nd S_;obtain⟨km,v0,vn⟩:=bf.lt _ S_;have Ta:=g6 _ _ hdH;refine cq ?_;refine⟨_,rfl,_,rfl,bq,_,_,_,rfl,rfl,ak.of nR,ZbJ I_,?_⟩;refine hV (Ze2 H F L n ps d fa fn bq x a r k v g) (λBu nN=>?_) ?_
    ·refine⟨_,rfl,d,rfl,.inl ⟨_,.inl Ta⟩,_,rfl,by show 0<=sizeLine;exact Yw _,λe0 H7 yo g7 x9=>?_⟩;have fn7:=g7 _ _ sT;have rw7:=g7 _ _ nR;have nf0:e0≠fn:=λz=>by rw[z,sT] at yo;cases yo
     have nr0:e0≠bq:=λz=>by rw[z,nR] at yo;cases yo
     obtain⟨al,es,eal,Tb,Ze5,Ze6,Tc⟩:∃(al:Addr) (es:List Addr),(aS kvs (.inr (av ps k))).getD (.ref e0)=.ref al/\H7 al=some (.lst (es.map V.ref))/\al≠fn/\al≠bq/\Paired (λe (p:Nat×List Int)=>∃u,H e=some (.tup [.str (av ps p.1),.ref u])/\bP H u p.2) es (L k):=by
      rcases AB.at_ k km with⟨z1,z2⟩|⟨a1,es,w1,w2,w3,w4,w5⟩;·exact⟨e0,[],by rw[z1];rfl,x9,nf0,nr0,by rw[z2];exact .nil⟩
      ·exact⟨a1,es,by rw[w1];rfl,g7 _ _ (g6 _ _ w3),bO w3 BH,bO w3 QM,w5⟩
     have esl:=cX Tc;refine⟨_,cU (g7 _ _ Ta) rfl,al,eal,⟨_,ak.of Tb⟩,kF (K:=K) (a:=al) (xs:=es.map V.ref) (CIn H F L n ps d fa fn bq x a r k v g al es)
      ⟨g,[],o8,o9,g6.trans g7,Tb,fn7,rw7,bf,by rw[Wh],λq hq=>(nomatch hq),rfl⟩ (λj σ H8 _ ⟨_,_,_,_,_,h,_,_,_,_,_,_⟩=>ak.of h) ?_ ?_⟩
     ·rintro j w σ H8 hj ⟨g',tl,p8,p9,g8,GD,jx,kq,nS,eg,iG,rfl⟩;rw[Yd] at hj;obtain⟨e,ee,rfl⟩:∃e,es[j]?=some e/\V.ref e=w:=by
       cases z:es[j]? with
       |none=>rw[z] at hj;cases hj
       |some c=>rw[z] at hj;exact⟨c,rfl,Ym hj⟩
      obtain⟨⟨y,t⟩,Td,u,he,hu⟩:=fX Tc ee;have GF:fI F k y t:=(ed _ _ _).mp (Yh Td);obtain⟨_,ym,ft,tl8⟩:=wy jh GF;have JA:g'.lookup k=some v:=by rw[eg];exact yF lkv
      have vb:v<(t.length:Int):=by rw[tl8];exact vn
      have gl8:=nS.len;have he8:H8 e=some (.tup [.str (av ps y),.ref u]):=g8 _ _ he;have IU:(L k).take (j+1)=(L k).take j++[(y,t)]:=by rw[Y1,Td];rfl
      refine⟨e,_,rfl,aA.of he8,rfl,_,_,rfl,bg ⟨_,_,rfl,bg ⟨rfl,?_⟩⟩⟩;refine lO (Ze3 H F n ps d fa fn bq x a r k y u g' al es) (λnM eT=>?_) ?_
      ·refine⟨_,rfl,_,rfl,fn,_,rfl,cU jx (qg kh ym λp hp=>(nS.lt p hp).1),_,rfl,?_⟩;cases ly:g'.lookup y with
       |none=>
        refine cW ?_;refine⟨_,rfl,_,rfl,_,rfl,fn,.int v,rfl,cU jx (by rw[qg kh km λp hp=>(nS.lt p hp).1,JA];rfl),u,_,_,_,rfl,rfl,aA.of (g8 _ _ hu),OU v0 vb,_,rfl,_,rfl,fn,_,.inr (av ps y),rfl,jx,rfl,by rw[Zc_];omega,λH9 b9 e9=>?_⟩;have vn0:aS (gN ps g') (.inr (av ps y))=none:=by rw[qg kh ym λp hp=>(nS.lt p hp).1,ly];rfl
        rw[kG _ vn0] at e9;have sU:=b9 _ _ kq (λz=>fr_ne z.symm);refine⟨_,rfl,.inl ⟨rfl,_,ak.of sU⟩,_,rfl,bq,_,_,rfl,rfl,sU,by rw[NH];omega,λoZ yp pj=>?_⟩;refine eT _ _ ⟨g'++[(y,ap t v)],[(y,ap t v)],ap t v,λc o z=>yp _ _ (b9 _ _ (g8 _ _ z) (bO z BH)) (bO z QM),yp _ _ (b9 _ _ GD Ze5) Ze6,?_,?_,nS.add jh GF JA ly,rfl,KZ ly,rfl⟩;·rw[yp _ _ e9 fr_ne,gN,gN,Yq];rfl
        ·rw[pj,pH,pH,Yq];rfl
       |some v'=>
        refine bR (aW ?_);exact eT _ _ ⟨g',[],v',g8,GD,jx,kq,nS,by rw[Wh],ly,rfl⟩
      ·rintro σ H9 ⟨qS,IZ,v',g9,Ze7,nP,sU,BI,JB,lv,rfl⟩;have Te:qS.lookup k=some v:=by rw[JB];exact yF JA
       refine⟨_,rfl,_,rfl,fn,.int v',rfl,cU nP (by rw[qg kh ym λp hp=>(BI.lt p hp).1,lv];rfl),_,rfl,_,rfl,_,rfl,fn,.int v,rfl,cU nP (by rw[qg kh km λp hp=>(BI.lt p hp).1,Te];rfl),u,_,_,_,rfl,rfl,aA.of (g9 _ _ hu),OU v0 vb,rfl,_,rfl,?_⟩;refine bI (λc=>?_) (λc=>aW ?_)
       ·refine q1 (BI.ZdQ GF Te lv λz=>?_) H9 g9;rw[z] at c;simp at c
       ·have ev:v'=ap t v:=by
         by_cases z:v'=ap t v;·exact z
         ·exact absurd (by simp[z]) c
        refine⟨qS,tl++IZ,_,_,g9,Ze7,nP,sU,BI,by rw[JB,eg,Jr],λq hq=>?_,rfl⟩;rw[IU] at hq;rcases Yv.mp hq with hq|hq;·rw[JB];exact yF (iG q hq)
        ·rw[Yo] at hq;rw[hq,lv,ev]
     ·rintro σ H8 ⟨g',tl,p8,p9,g8,GD,jx,kq,nS,eg,iG,rfl⟩;rw[Ya,esl,Wc] at iG;exact nN _ _ ⟨g',tl,p8,p9,g8,jx,kq,nS,eg,iG,rfl⟩
    ·rintro σ H8 ⟨g',tl,p8,p9,g8,jx,kq,nS,eg,iG,rfl⟩;have rr:r<(g++tl).length:=by rw[Yl];omega
     have ge:(g++tl)[r]?=some (k,v):=by rw[Wb vG];exact I_
     have kZ:((r:Int)+1)=((r+1:Nat):Int):=by omega
     refine⟨_,rfl,_,_,rfl,rfl,?_⟩;refine⟨⟨g',r+1,some (.str (av ps k)),p8,p9,g8,jx,kq,nS,by rw[eg];exact rr,λr' h'=>?_,rfl⟩,?_⟩
     ·rw[eg];by_cases z:r'=r
      ·subst z;intro p hp qq hq;rw[ge] at hp;cases hp;rw[←eg];exact iG qq hq
      ·exact(cl r' (by omega)).app (by omega)
     ·show ps.length+1-((r:Int)+1).toNat<ps.length+1-((r:Int)).toNat;omega
   ·have re:¬((r:Int)<(g.length:Int)):=λz=>c (decide_eq_true z);exact gW _ _ ⟨g,r,o7,o8,o9,g6,sT,bf,λr' h'=>cl r' (by omega),rfl⟩
  ·rintro σ H6 Q1 Q2 mo ⟨v1,w1,v2,w2,v3,v4,w3,w4,v5,v6,w5,w6,v7,w7,h⟩;exact⟨v1,w1,v2,w2,v3,v4,w3,w4,v5,v6,w5,w6,v7,w7,mo _ _ h⟩
 rintro σ H6 ⟨g,r,o7,o8,o9,g6,sT,bf,cl,rfl⟩;refine hV (PQ ps F H6 d fa fn bq x a r g o7 o8 o9) (λqI gW=>?_) ?_
 ·refine⟨_,rfl,fa,rfl,⟨_,ak.of (g6 _ _ c9)⟩,kF (K:=K) (a:=fa) (xs:=as.map V.ref) (λj=>PQ ps (F.take j) H6 d fa fn bq x a r g o7 o8 o9)
   ⟨rfl,λc hc=>(nomatch hc),none,none,none,none,rfl⟩ (λj σ H8 _ ⟨e,_⟩=>by rw[e];exact ak.of (g6 _ _ c9)) ?_ ?_⟩
  ·rintro j v σ H8 hj ⟨rfl,sd,gK,gL,fC,fD,rfl⟩;rw[Yd] at hj;obtain⟨c0,ec,rfl⟩:∃c0,as[j]?=some c0/\V.ref c0=v:=by
    cases e:as[j]? with
    |none=>rw[e] at hj;cases hj
    |some c=>rw[e] at hj;exact⟨c,rfl,Ym hj⟩
   obtain⟨c,iE,z,hc⟩:=fX dI ec;have mc:=Yh iE;have qR:F.take (j+1)=F.take j++[c]:=by rw[Y1,iE];rfl
   refine⟨c0,_,rfl,aA.of (g6 _ _ hc),rfl,_,_,rfl,bg ⟨_,_,rfl,bg ⟨_,_,rfl,bg ⟨_,_,rfl,bg ⟨rfl,?_⟩⟩⟩⟩⟩;have ev:∀b:Bool,decide (V.str c.k=V.str bF)=b->(b=true↔c.k=bF):=λb e=>by
    rw[←e,decide_eq_true_iff];exact⟨V.str.inj,λz=>by rw[z]⟩
   have vH:(c.k=bF->∀u,g.lookup c.one=some u->u=c.aJ)->∃gK gL fC fD:Option V,(H8=H8/\∀c∈F.take (j+1),c.k=bF->∀u,g.lookup c.one=some u->u=c.aJ)/\True:=λh=>⟨none,none,none,none,⟨rfl,λc' m'=>by
    rw[qR] at m';rcases Yv.mp m' with m'|m';·exact sd c' m'
    ·rw[Yo] at m';rw[m'];exact h⟩,trivial⟩
   refine⟨_,rfl,rfl,_,rfl,bI (λcc=>?_) (λcc=>?_)⟩
   ·have sk:=(ev _ rfl).mp cc;have eo:kV (a_ ps c)=.int c.aJ:=by rw[mG sk];rfl
    refine⟨_,rfl,_,rfl,fn,_,rfl,cU sT (qg kh (jh c mc).one λp hp=>(bf.lt p hp).1),_,rfl,?_⟩;cases lk:g.lookup c.one with
    |none=>
     refine bR (bR (aW ?_));obtain⟨_,_,_,_,⟨_,h⟩,_⟩:=vH λ_ u e=>by rw[lk] at e;cases e
     exact⟨rfl,h,_,_,_,_,rfl⟩
    |some u=>
     refine cW ?_;refine⟨_,rfl,_,rfl,fn,.int u,rfl,cU sT (by rw[qg kh (jh c mc).one λp hp=>(bf.lt p hp).1,lk];rfl),_,rfl,by rw[eo];rfl,_,rfl,bI (λc2=>?_) (λc2=>aW ?_)⟩
     ·refine q1 (bf.Zc6 mc sk lk λz=>?_) H8 g6;rw[z,eo] at c2;simp at c2
     ·have eu:u=c.aJ:=by
       by_cases z:u=c.aJ;·exact z
       ·exact absurd (by rw[eo];simp[z]) c2
      obtain⟨_,_,_,_,⟨_,h⟩,_⟩:=vH λ_ u' e=>by rw[lk] at e;rw[←Ym e];exact eu
      exact⟨rfl,h,_,_,_,_,rfl⟩
   ·refine bR (aW ?_);obtain⟨_,_,_,_,⟨_,h⟩,_⟩:=vH λz=>absurd ((ev _ rfl).mpr z) cc;exact⟨rfl,h,_,_,_,_,rfl⟩
  ·rintro σ H8 ⟨rfl,sd,gK,gL,fC,fD,rfl⟩;rw[Ya,al,Wc] at sd;exact gW _ _ ⟨rfl,sd,gK,gL,fC,fD,rfl⟩
 rintro σ H8 ⟨rfl,sd,gK,gL,fC,fD,rfl⟩;exact⟨_,rfl,q2 fn g H8 g6 sT bf (bf.done ed cl sd)⟩
end
inductive zU(vs:List V)(H:Hp)(Q:VK)(E:XK):Prop
 |mk (fa td:Addr) (ps:bK) (xs ys:List Int) (F:List Fc) (x:Nat) (aE:vs=[.ref fa,.ref td,.str (av ps x)]) (aU:FL H ps fa F) (ht:g_ H td xs ys) (nd:(ps.map (·.1)).Nodup) (bc:∀c∈F,eM xs ys ps.length c) (bL:xs.length<=8) (cL:ps.length<=100) (d5:F.length<=64) (gU:x<ps.length) (jd:∀(p:Addr) (H':Hp),H p=none->aj H H'->H' p=some (.lst ((iW F xs.length x).map V.int))->Q (.ref p) H')
inductive NI(vs:List V)(H:Hp)(Q:VK)(E:XK):Prop
 |mk (a b:Addr) (xs ys:List Int) (aE:vs=[.ref a,.ref b]) (aU:bP H a xs) (bc:bP H b ys) (bL:oG xs ys) (cL:∀(p:Addr) (H':Hp),H p=none->aj H H'->g_ H' p xs ys->Q (.ref p) H')
section
variable {K:ai}{mg:aX}
abbrev xp:List Str:=["_law_facts","_law_turns_here","_law_name_here"]
theorem Ks:aQ ["_law_facts","_law_turns_here","_law_name_here","_law_nets_here"] xp (aK DX):=.a8
open Classical in
theorem ZbK(F:aL K "_law_room" "_law_room" DX f fd)(D_:HasFn P w K mg base 2 "_law_nets" GB OT)(CW:HasFn P w K mg base 1 "_law_carried" GC LF)(bl:Bl mg):aH P w K mg base aM 3 f fd xp zU:=by
 refine F.o Ks λs H hr h=>?_;obtain⟨fa,td,ps,xs,ys,F,x,rfl,jZ,ht,kh,fg,n8,QL,BG,hx,q⟩:=h;refine⟨_,(aq (f_ (i:=3) Ks.nd rfl (Or.inr rfl) (aT D_ hr (aa (pv 0) (aa (pv 1) ag)))) (au (aG (iN (x:="_law_at") (fr:=[("_law_nets_here",3),("_law_name_here",2),("_law_facts",0)]) (cl:=[("_law_nets_here",s.heap.objs.size+1+1+1),("_law_name_here",s.heap.objs.size+1+1),("_law_facts",s.heap.objs.size+1)]) rfl (.gH ⟨rfl,⟨rfl,⟨rfl,trivial⟩⟩⟩ ⟨⟨rfl,.inl rfl,.inl rfl,rfl⟩,⟨⟨rfl,.inl rfl,.inl rfl,rfl⟩,⟨⟨rfl,.inl rfl,.inl rfl,rfl⟩,trivial⟩⟩⟩) (nZ rfl bl.jj (aa (df K bl (cY (bw hr) (pv 1) bu (λ_ _=>rfl))) ag)) (λ_ _ _ _=>wu (bC zm (FQ CW hr (by omega) rfl (aa (pv 1) (aa (pv 3) (aa (pv 2) (aa (pv 0) ag))))) lL)) (λ_ _ _ _=>(pv 0)))))),?_⟩;refine cq ?_;refine⟨_,rfl,_,rfl,fa,td,ps,xs,ys,F,rfl,jZ,ht,kh,fg,n8,BG,λd kvs L H1 g1 AB ed=>?_⟩;obtain⟨_,_,_,u0,gG,_,_,_,vI⟩:=id ht;obtain⟨n,en⟩:∃n,n=xs.length:=⟨_,rfl⟩;have jh:∀c∈F,dP n ps.length c:=λc hc=>by rw[en];exact(fg c hc).ok
 rw[←en] at vI n8 q;have ul:((bh n).map V.int).length=n:=by rw[Ya,eQ]
 refine⟨_,rfl,td,.ref u0,rfl,cU (g1 _ _ gG) rfl,u0,_,rfl,.inr (aA.of (g1 _ _ vI)),?_⟩;rw[ul];refine⟨(n:Int),rfl,by omega,by omega,λD hD=>?_⟩;refine WH (lo:=0) (by omega) hD (λi=>decide (∃g,jn n F g/\g x=some (i:Int))) (λi=>V.int (i:Int)) (λi hi H2 g2 _ Kt Kf kt kf=>?_) λH2 g2 h2=>?_
 ·rw[J4];have qE:(i:Nat)<n:=by omega
  refine⟨_,rfl,_,rfl,_,rfl,_,rfl,H,d,fa,kvs,L,n,ps,F,x,(i:Int),rfl,kh,AB.same g2,ed,(jZ.same g1).same g2,jh,n8,QL,BG,hx,⟨by omega,by omega⟩,λno H3 g3=>?_,λp gg H3 g3 Sk bf cl=>?_⟩
  ·refine⟨rfl,_,rfl,?_⟩;rw[decide_eq_true (show V.az=V.az from rfl)];exact bR (kf H3 (decide_eq_false no) g3)
  ·refine⟨rfl,_,rfl,?_⟩;rw[decide_eq_false (show ¬V.ref p=V.az from λz=>nomatch z)];exact cW ⟨_,rfl,kt _ H3 (decide_eq_true ⟨_,cl,bf.hd⟩) g3 rfl⟩
 ·refine q D H2 (g1.free hD) (g1.trans g2) ?_;rw[h2,Y4];have e:iW F n x=((List.range n).filter λi:Nat=>decide (∃g,jn n F g/\g x=some (i:Int))).map λi:Nat=>(i:Int):=by
   unfold iW bh;rw[Jy];rfl
  rw[e,Y9];rfl
abbrev GG:List Str:=["_law_mother","_law_wife"]
theorem Df:aQ ["_law_mother","_law_wife","_law_father","_law_alone"] GG (aK Dx):=.a8
theorem ZaB(F:aL K "_law_turns" "_law_turns" Dx f fd)(qV:HasFn P w K mg base 1 "_law_inverse" xn F5)(DN:HasFn P w K mg base 1 "_law_after" AA (PJ K))(bl:Bl mg):aH P w K mg base aM 2 f fd GG NI:=by
 refine F.o Df λs H hr h=>?_;obtain⟨a,b,xs,ys,rfl,ha,hb,gl,q⟩:=h;obtain⟨fx,fy,le,l2,l8⟩:=id gl;refine⟨_,(aq (bY 2 Df.nd (aT DN hr (aa (pv 1) (aa (pv 0) ag)))) (aq (bY 3 Df.nd (eR (UA rfl) rfl bl.mK mH (aa (eR C2 rfl bl.jj t8 (aa (df K bl (pv 0)) ag)) ag))) (au (aG (zw (jE bu (aT qV hr (aa (pv 0) ag)) (jE bu (aT qV hr (aa (pv 2) ag)) (jE bu (pv 1) (jE bu (pv 3) zu)))) rfl rfl (λz=>nomatch z) (Jo rfl)))))),?_⟩;refine cq ?_;have lv:∀x∈ys,0<=x/\x<(xs.length:Int):=λx hx=>by rw[le];exact pX fy hx
 refine⟨_,rfl,_,rfl,b,a,ys,xs,rfl,aA.of hb,aA.of ha,lv,by omega,λl H1 nl g1 hl=>?_⟩;refine cq ?_;have el:(xs.map V.int).length=xs.length:=Ya _;refine⟨_,rfl,a,_,rfl,.inr (aA.of (g1 _ _ ha)),_,rfl,λrg H2 nrg g2 hrg=>⟨rg,xs.length,rfl,by rw[hrg,el],by omega,λst H3 qF g3 dZ=>?_⟩⟩;have d7:=g2.trans g3;intro d nd;have g4:=cz nd (.dK []);have JC:upd H3 d (.dK []) d=some (.dK []):=aI;generalize upd H3 d (.dK [])=H4 at g4 JC⊢;have Tf:=d7.trans g4;have JD:=g1.trans Tf;refine⟨_,rfl,a,xs,rfl,JD _ _ ha,by omega,fx,λim H5 nim g5 Ik=>?_⟩;refine⟨_,rfl,l,bH xs ys,rfl,g5 _ _ (Tf _ _ hl),by rw[q0];omega,EJ fx fy (by omega),λjf H6 njf g6 Il=>?_⟩;have yq:=g5.trans g6;refine⟨_,rfl,_,rfl,yq _ _ JC,[(.inr "mother",.ref im),(.inr "father",.ref jf),(.inr "wed",.ref b),(.inr "sibling",.ref st)],rfl,by show 4<=15;decide,?_⟩;have b7:ay d H6 (upd H6 d (.dK (uo im jf b st))):=ay.put (ay.of (aj.refl _));have Tg:upd H6 d (.dK (uo im jf b st)) d=some (.dK (uo im jf b st)):=aI;have em:oz [] [((.inr "mother":Key),V.ref im),(.inr "father",.ref jf),(.inr "wed",.ref b),(.inr "sibling",.ref st)]=uo im jf b st:=rfl;rw[em];generalize upd H6 d (.dK (uo im jf b st))=H7 at b7 Tg⊢;have tne:∀{c:Addr} {zs:List Int},bP H6 c zs->c≠d:=λh1 z=>by rw[bP,z,yq _ _ JC] at h1;cases h1
 have k7:∀{c:Addr} {zs:List Int},bP H6 c zs->bP H7 c zs:=λh=>b7 _ _ h (tne h);refine q d H7 (g1.free (d7.free nd)) (λc o e=>b7 _ _ (yq _ _ (JD _ _ e)) (bO e (g1.free (d7.free nd)))) ⟨im,jf,b,st,Tg,k7 (g6 _ _ Ik),k7 Il,k7 (yq _ _ (JD _ _ hb)),k7 (yq _ _ (g4 _ _ dZ))⟩
end
theorem FL.get(h:FL H ps fa F):∃as:List Addr,H fa=some (.lst (as.map V.ref))/\as.length=F.length/\∀(H':Hp) (j:Nat) (v:V),aj H H'->(as.map V.ref)[j]?=some v->∃(c0:Addr) (c:Fc) (z:Int),v=.ref c0/\F[j]?=some c/\F.take (j+1)=F.take j++[c]/\H' c0=some (.tup [.int z,.str c.k,.str (av ps c.one),kV (a_ ps c)]):=by
 obtain⟨as,c9,dI⟩:=h;refine⟨as,c9,cX dI,λH' j v g hj=>?_⟩;rw[Yd] at hj;obtain⟨c0,ec,rfl⟩:∃c0,as[j]?=some c0/\V.ref c0=v:=by
  cases e:as[j]? with
  |none=>grind
  |some c=>grind
 obtain⟨c,iE,z,hc⟩:=fX dI ec;exact⟨c0,c,z,rfl,iE,by rw[Y1,iE];rfl,g _ _ hc⟩
def lZ(ps:bK)(k a:Str)(o:V)(c:Fc):Bool:=decide (c.k=k)&&((decide (av ps c.one=a)&&(decide (kV (a_ ps c)=o)||cI k))||(decide (k="sibling")&&(decide (kV (a_ ps c)=.str a)&&decide (V.str (av ps c.one)=o))))
def oI(ps:bK)(F:List Fc)(k a:Str)(o:V):Bool:=F.any (lZ ps k a o)||(decide (k="sibling")&&decide (V.str a=o))
def Bt(t:TT)(σ:St)(H:Hp)(b:Bool):Prop:=∀k:Bool->Hp->Prop,(∀H',aj H H'->k b H')->t σ H k
def Vt(t:TE)(σ:St)(H:Hp)(v:V):Prop:=∀k:VK,(∀H',aj H H'->k v H')->t σ H k
section
variable {t u:TT}{e1 e2:TE}{σ:St}{H:Hp}{a b:Bool}{x y:V}
theorem Bt.and(h1:Bt t σ H a)(h2:∀H',a=true->aj H H'->Bt u σ H' b):Bt (P2 t u) σ H (a&&b):=λk hk=>h1 _ λH1 g1=>by
 cases a with
 |true=>exact cW (h2 H1 rfl g1 _ λH2 g2=>hk H2 (g1.trans g2))
 |false=>grind
theorem Bt.or(h1:Bt t σ H a)(h2:∀H',a=false->aj H H'->Bt u σ H' b):Bt (Q7 t u) σ H (a||b):=λk hk=>h1 _ λH1 g1=>by
 cases a with
 |true=>grind
 |false=>exact bR (h2 H1 rfl g1 _ λH2 g2=>hk H2 (g1.trans g2))
theorem Vt.var(h:σ[i]?=some (some x)):Vt (gn i) σ H x:=λ_ hk=>⟨x,h,hk H (aj.refl _)⟩
theorem Vt.c:Vt (tC x) σ H x:=λ_ hk=>hk H (aj.refl _)
theorem Vt.test(h:Vt e1 σ H (.bl b)):Bt (FO e1) σ H b:=λk hk=>h _ λH1 g1=>⟨b,rfl,hk H1 g1⟩
theorem Vt.eq(h1:Vt e1 σ H x)(h2:∀H',aj H H'->Vt e2 σ H' y)(sc:wY x y=true):Vt (i8 Ra e1 e2) σ H (.bl (decide (x=y))):=λk hk=>h1 _ λH1 g1=>h2 H1 g1 _ λH2 g2=>⟨sc,hk H2 (g1.trans g2)⟩
theorem Vt.ne(h1:Vt e1 σ H x)(h2:∀H',aj H H'->Vt e2 σ H' y)(sc:wY x y=true):Vt (i8 Rb e1 e2) σ H (.bl (!decide (x=y))):=λk hk=>h1 _ λH1 g1=>h2 H1 g1 _ λH2 g2=>⟨sc,hk H2 (g1.trans g2)⟩
theorem Vt.QN(h1:Vt e1 σ H (.bl a))(h2:∀H',a=true->aj H H'->Vt e2 σ H' (.bl b)):Vt (O8 e1 e2) σ H (.bl (a&&b)):=λk hk=>h1 _ λH1 g1=>⟨a,rfl,by
 cases a with
 |true=>exact cW (h2 H1 rfl g1 _ λH2 g2=>hk H2 (g1.trans g2))
 |false=>exact bR (hk H1 g1)⟩
theorem Vt.orV(h1:Vt e1 σ H (.bl a))(h2:∀H',a=false->aj H H'->Vt e2 σ H' (.bl b)):Vt (P4 e1 e2) σ H (.bl (a||b)):=λk hk=>h1 _ λH1 g1=>⟨a,rfl,by
 cases a with
 |true=>grind
 |false=>exact bR (h2 H1 rfl g1 _ λH2 g2=>hk H2 (g1.trans g2))⟩
theorem Vt.F6{K:ai}(h1:Vt e1 σ H (.str k)):Vt (i8 (xA K false) e1 (wO (gf (tC (V.str "mother")) (gf (tC (V.str "father")) iY)))) σ H (.bl (cI k)):=λq hk=>h1 _ λH1 g1=>by
 refine⟨by show 2<=sizeLine;rw[sizeLine_eq];omega,λp H2 np g2 hp=>⟨p,_,rfl,.inr (aA.of hp),rfl,rfl,?_⟩⟩;have e:e_ (V.str k) [V.str "mother",V.str "father"]=cI k:=by
  rw[Wm];unfold e_ cI;rw[Jp,Jp,List.any_nil,Bool.or_false,JE,JE,decide_eq_true_iff,decide_eq_true_iff];show((("mother":Str)==k)=true\/(("father":Str)==k)=true)↔_
  grind
 rw[e];exact hk H2 (g1.trans g2)
end
def Flat(o:V):Prop:=(∃z,o=.int z)\/∃z,o=.str z
theorem zG(k:Key):Flat (kV k):=by
 cases k with
 |inl z=>exact .inl ⟨z,rfl⟩
 |inr z=>exact .inr ⟨z,rfl⟩
theorem yY(h1:Flat u)(h2:Flat v):wY u v=true:=by
 rcases h1 with⟨_,rfl⟩|⟨_,rfl⟩<;>rcases h2 with⟨_,rfl⟩|⟨_,rfl⟩<;>rfl
inductive MA(vs:List V)(H:Hp)(Q:VK):Prop
 |mk (fa:Addr) (ps:bK) (F:List Fc) (k a:Str) (o:V) (aE:vs=[.ref fa,.str k,.str a,o]) (aU:FL H ps fa F) (fo:Flat o) (q:∀H',aj H H'->Q (.bl (oI ps F k a o)) H'):MA vs H Q
def NJ:Sp:=λvs H Q _=>MA vs H Q
inductive NK(vs:List V)(H:Hp)(Q:VK)(E:XK):Prop
 |mk (sd:Addr) (ps:bK) (k:Str) (i j:Nat) (aE:vs=[.ref sd,.str k,.str (av ps i),.str (av ps j)]) (hs:H sd=some (.dK (fV ps))) (nd:(ps.map (·.1)).Nodup) (hi:i<ps.length) (hj:j<ps.length) (hk:k="mother"\/k="father"\/k="wed"\/k="sibling") (q:∀H',aj H H'->Q (.bl (kL k (fw ps i) (fw ps j))) H')
theorem MB(ok:cM xs ys b):y∈fR b a↔∃c∈b.F,cI c.k=true/\av b.ps c.one=a/\kV (a_ b.ps c)=.str y:=by
 constructor
 ·intro h;obtain⟨v,hv,rfl⟩:=Yf.mp (show y∈(oB b a).map strOf from h);unfold oB at hv;obtain⟨k,_,e⟩:=Jk.mp hv;obtain⟨p,hp,h1,h2,h3,rfl,h5⟩:=NA ok e;have ns:p.2.k≠bF:=λz=>by
   rw[z] at h1;exact absurd h1 (by decide+kernel)
  exact⟨p.2,Yf.mpr ⟨p,hp,rfl⟩,h1,h3,by rw[iK ns];rfl⟩
 ·rintro⟨c,hc,h1,rfl,h3⟩;obtain⟨p,hp,rfl⟩:=Yf.mp (show c∈b.fs.map (·.2) from hc);have mm:(([.inr p.2.k,.inr (av b.ps p.2.one)]:List Key),kV (a_ b.ps p.2))∈cg b.ps b.fs:=Yf.mpr ⟨p,Y5.mpr ⟨hp,h1⟩,rfl⟩;have e:=Nq ok.pr mm;refine Yf.mpr ⟨.str y,?_,rfl⟩;unfold oB;refine Jk.mpr ⟨p.2.k,?_,by rw[e,h3]⟩;unfold cI at h1;rw[JE,decide_eq_true_iff,decide_eq_true_iff] at h1;rcases h1 with z|z<;>rw[z];·exact Yg
  ·exact Ys _ Yg
structure vJ(b:BS)(a:Str)(ks:List Str):Prop where
 nd:ks.Nodup
 sd:∀k∈ks,fM b a k
 ma:a∈ks
theorem vJ.len(u:vJ b a ks)(ok:cM xs ys b)(ma:a∈b.ps.map (·.1)):ks.length<=b.ps.length:=by
 have:=u.nd.length_le_of_subset (l₂:=b.ps.map (·.1)) λk hk=>zh ok ma (u.sd k hk)
 grind
theorem vJ.all(u:vJ b a ks)(cl:∀r,r<ks.length->∀k,ks[r]?=some k->∀p∈fR b k,p∈ks)(z:Str):z∈ks↔fM b a z:=by
 refine⟨u.sd z,λh=>?_⟩;induction h with
 |refl=>exact u.ma
 |step _ hy ih=>
  obtain⟨r,hr,er⟩:=Wu.mp ih;exact cl r hr _ (by rw[Yb hr,er]) _ hy
inductive QO(vs:List V)(H:Hp)(Q:VK)(E:XK):Prop
 |mk (fa:Addr) (xs ys:List Int) (b:BS) (a:Str) (aE:vs=[.ref fa,.str a]) (aU:FL H b.ps fa b.F) (ok:cM xs ys b) (ma:a∈b.ps.map (·.1)) (q:∀(p:Addr) (ks:List Str) (H':Hp),aj H H'->H' p=some (.lst (ks.map V.str))->(∀z,z∈ks↔fM b a z)->Q (.ref p) H')
def muU(m:Nat):St->Hp->Nat:=λσ _=>match List.getD (α:=Option V) σ 3 none with|some (V.int z)=>m+1-z.toNat|_=>0
inductive Th(H:Hp)(b:BS)(a:Str)(fa bq:Addr)(σ:St)(H6:Hp):Prop
 |mk (ks:List Str) (r:Nat) (o4 o5 o6 o7:Option V) (g:aj H H6) (hr:H6 bq=some (.lst (ks.map V.str))) (up:vJ b a ks) (rl:r<=ks.length) (cl:∀r',r'<r->∀k,ks[r']?=some k->∀p∈fR b k,p∈ks) (e:σ=[some (.ref fa),some (.str a),some (.ref bq),some (.int (r:Int)),o4,o5,o6,o7]):Th H b a fa bq σ H6
inductive JG(H:Hp)(b:BS)(a:Str)(fa bq:Addr)(r:Nat)(qN:List Str)(k:Str)(j:Nat)(σ:St)(H6:Hp):Prop
 |mk (ks tl:List Str) (o4 o5 o6 o7:Option V) (g:aj H H6) (hr:H6 bq=some (.lst (ks.map V.str))) (up:vJ b a ks) (ek:ks=qN++tl) (cl:∀c∈b.F.take j,cI c.k=true->av b.ps c.one=k->∀y,kV (a_ b.ps c)=.str y->y∈ks) (e:σ=[some (.ref fa),some (.str a),some (.ref bq),some (.int (r:Int)),o4,o5,o6,o7]):JG H b a fa bq r qN k j σ H6
theorem XZ(h:Flat o):iR o=true:=by
 rcases h with⟨_,rfl⟩|⟨_,rfl⟩<;>rfl
theorem LG(ks:List Str):(ks.map V.str).all iR=true:=by
 rw[Wp];intro v hv;obtain⟨k,_,rfl⟩:=Yf.mp hv;rfl
theorem GH(y:Str)(ks:List Str):e_ (.str y) (ks.map V.str)=true↔y∈ks:=by
 unfold e_;rw[J5];constructor
 ·rintro⟨v,hv,e⟩;obtain⟨k,hk,rfl⟩:=Yf.mp hv;have:(k==y)=true:=e
  grind
 ·intro h;exact⟨.str y,Yf.mpr ⟨y,h,rfl⟩,by show(y==y)=true;rw[beq_iff_eq]⟩
section
variable {K:ai}{mg:aX}
abbrev GI:List Str:=["_law_facts","_law_kind","_law_one","_law_other"]
theorem vV:aQ ["_law_facts","_law_kind","_law_one","_law_other","_law_number","_law_had","_law_here","_law_there"] GI (aK DZ):=.a8
theorem WW(F:aL K "_law_told" "_law_told" DZ f fd):aH P w K mg base aM 1 f fd GI NJ:=by
 refine F.o vV λs H hr h=>?_;obtain⟨fa,ps,F,k,a,o,rfl,jZ,fo,q⟩:=h;refine⟨_,(aq (gc PassesOwn.never rfl (fO (K:=K) rfl (pv 0)) (iO (K:=K) (n:=4) rfl rfl (bQ (bA 4 vV.nd) (bQ (bA 5 vV.nd) (bQ (bA 6 vV.nd) (bQ (bA 7 vV.nd) iM))))) (aq (aR (PW.pt (pw_and (bC ck (pv 5) (pv 1)) (pw_and (bC ck (pv 6) (pv 2)) (pw_and1 (PW.pt (pw_or (bC ck (pv 7) (pv 3)) (pw_or1 (hU (dt (K:=K) rfl) (pv 1) (dM (aa bu (aa bu ag))) (by with_unfolding_all rfl))))))))) (au (aG ib)) aY) (au (aR (PW.pt (pw_and (bC ck (pv 5) (pv 1)) (pw_and (bC ck (pv 1) bu) (pw_and (bC ck (pv 7) (pv 2)) (pw_and1 (bC ck (pv 6) (pv 3))))))) (au (aG ib)) aY)))) (au (aG (oy (eN ck (pv 1) bu) (lM (eN ck (pv 2) (pv 3))))))),?_⟩;obtain⟨as,c9,al,gt⟩:=jZ.get;refine hV (λσ H6=>aj H H6/\F.any (lZ ps k a o)=false/\∃o4 o5 o6 o7:Option V,σ=[some (.ref fa),some (.str k),some (.str a),some o,o4,o5,o6,o7]) (λqI gW=>?_) ?_
 ·refine⟨_,rfl,fa,rfl,⟨_,ak.of c9⟩,kF (K:=K) (a:=fa) (xs:=as.map V.ref) (λj σ H6=>aj H H6/\(F.take j).any (lZ ps k a o)=false/\∃o4 o5 o6 o7:Option V,σ=[some (.ref fa),some (.str k),some (.str a),some o,o4,o5,o6,o7])
   ⟨aj.refl _,rfl,none,none,none,none,rfl⟩ (λj σ H6 _ ⟨g,_⟩=>ak.of (g _ _ c9)) ?_ ?_⟩
  ·rintro j v σ H6 hj ⟨g,no,o4,o5,o6,o7,rfl⟩;obtain⟨c0,c,z,rfl,iE,qR,hc⟩:=gt H6 j v g hj;have hit:lZ ps k a o c=true->oI ps F k a o=true:=λh=>by
    unfold oI;rw[J5.mpr ⟨c,Yh iE,h⟩];rfl
   refine⟨c0,_,rfl,aA.of hc,rfl,_,_,rfl,bg ⟨_,_,rfl,bg ⟨_,_,rfl,bg ⟨_,_,rfl,bg ⟨rfl,?_⟩⟩⟩⟩⟩;refine lO (λσ H7=>aj H H7/\(decide (c.k=k)&&(decide (av ps c.one=a)&&(decide (kV (a_ ps c)=o)||cI k)))=false/\σ=[some (.ref fa),some (.str k),some (.str a),some o,some (.int z),some (.str c.k),some (.str (av ps c.one)),some (kV (a_ ps c))]) (λnM eT=>?_) ?_
   ·refine(Bt.and (Vt.test (Vt.eq (x:=.str c.k) (y:=.str k) (Vt.var rfl) (λ_ _=>Vt.var rfl) rfl)) λ_ _ _=>Bt.and (Vt.test (Vt.eq (x:=.str (av ps c.one)) (y:=.str a) (Vt.var rfl) (λ_ _=>Vt.var rfl) rfl)) λ_ _ _=>Bt.or (Vt.test (Vt.eq (x:=kV (a_ ps c)) (y:=o) (Vt.var rfl) (λ_ _=>Vt.var rfl) (yY (zG _) fo))) λ_ _ _=>Vt.test (Vt.F6 (k:=k) (Vt.var rfl))) _ λH7 g7=>?_;rw[dY,dY];refine bI (λcc=>?_) (λcc=>?_)
    ·have:=hit (by unfold lZ;rw[Wo] at cc⊢;exact⟨cc.1,by rw[cc.2];rfl⟩);rw[this] at q;exact q H7 (g.trans g7)
    ·exact aW (eT _ _ ⟨g.trans g7,J1.mpr cc,rfl⟩)
   ·rintro σ H7 ⟨g7,no1,rfl⟩;refine(Bt.and (Vt.test (Vt.eq (x:=.str c.k) (y:=.str k) (Vt.var rfl) (λ_ _=>Vt.var rfl) rfl)) λ_ _ _=>Bt.and (Vt.test (Vt.eq (x:=.str k) (y:=.str "sibling") (Vt.var rfl) (λ_ _=>Vt.c) rfl)) λ_ _ _=>Bt.and (Vt.test (Vt.eq (x:=kV (a_ ps c)) (y:=.str a) (Vt.var rfl) (λ_ _=>Vt.var rfl) (yY (zG _) (.inr ⟨_,rfl⟩)))) λ_ _ _=>Vt.test (Vt.eq (x:=.str (av ps c.one)) (y:=o) (Vt.var rfl) (λ_ _=>Vt.var rfl) (yY (.inr ⟨_,rfl⟩) fo))) _ λH8 g8=>?_;rw[dY,dY];refine bI (λcc=>?_) (λcc=>aW ?_)
    ·have:=hit (by unfold lZ;rw[Wo] at cc⊢;exact⟨cc.1,by rw[cc.2,Bool.or_true]⟩);rw[this] at q;exact q H8 (g7.trans g8)
    ·refine⟨g7.trans g8,?_,_,_,_,_,rfl⟩;rw[qR,List.any_append,no,J7,Jp,List.any_nil,Bool.or_false];unfold lZ;rw[Bool.and_or_distrib_left,no1,J7];exact J1.mpr cc
  ·rintro σ H6 ⟨g,no,o4,o5,o6,o7,rfl⟩;rw[Ya,al,Wc] at no;exact gW _ _ ⟨g,no,o4,o5,o6,o7,rfl⟩
 rintro σ H6 ⟨g,no,o4,o5,o6,o7,rfl⟩;refine(Vt.QN (Vt.eq (x:=.str k) (y:=.str "sibling") (Vt.var rfl) (λ_ _=>Vt.c) rfl) λ_ _ _=>Vt.eq (x:=.str a) (y:=o) (Vt.var rfl) (λ_ _=>Vt.var rfl) (yY (.inr ⟨_,rfl⟩) fo)) _ λH7 g7=>?_;have e:=q H7 (g.trans g7);unfold oI at e;rw[no,J7] at e;rw[dY];exact e
abbrev AD:List Str:=["_law_sides","_law_kind","_law_one","_law_other"]
theorem VW:aQ AD AD (aK Dy):=.a8
theorem VX(F:aL K "_law_sided" "_law_sided" Dy f fd):aH P w K mg base aM 1 f fd AD NK:=by
 refine F.o VW λs H hr h=>?_;obtain⟨sd,ps,k,i,j,rfl,hs,nd,hi,hj,hk,q⟩:=h;refine⟨_,(aq (aR (bC ck (pv 1) bu) (au (aG (eN ck (cY (bw hr) (pv 0) (pv 3) (λ_ _=>rfl)) bu))) aY) (aq (aR (bC ck (pv 1) bu) (au (aG (eN ck (cY (bw hr) (pv 0) (pv 3) (λ_ _=>rfl)) bu))) aY) (au (aG (FK (eN kN (pv 1) bu) (lM (oy (eN ck (cY (bw hr) (pv 0) (pv 2) (λ_ _=>rfl)) bu) (lM (eN ck (cY (bw hr) (pv 0) (pv 3) (λ_ _=>rfl)) bu))))))))),?_⟩;have gj:=cU hs (mI nd hj);refine⟨_,rfl,rfl,_,rfl,?_⟩;rw[dY];refine bI (λcc=>?_) (λcc=>aW ?_)
 ·have e:k="mother":=of_decide_eq_true cc;refine⟨_,rfl,_,rfl,sd,_,rfl,gj,rfl,?_⟩;rw[dY];unfold kL at q;rw[if_pos e] at q;exact q H (aj.refl _)
 have n1:k≠"mother":=λz=>cc (decide_eq_true z);refine⟨_,rfl,rfl,_,rfl,?_⟩;rw[dY];refine bI (λcc=>?_) (λcc=>aW ?_)
 ·have e:k="father":=of_decide_eq_true cc;refine⟨_,rfl,_,rfl,sd,_,rfl,gj,rfl,?_⟩;rw[dY];unfold kL at q;rw[if_neg n1,if_pos e] at q;exact q H (aj.refl _)
 have n2:k≠"father":=λz=>cc (decide_eq_true z);have e3:(!decide (k="wed"))=decide (k="sibling"):=by
  rcases hk with z|z|z|z;·exact absurd z n1
  ·exact absurd z n2
  ·rw[z];decide+kernel
  ·rw[z];decide+kernel
 refine(Vt.orV (a:=decide (k="sibling")) (b:=decide (fw ps i="man")&&decide (fw ps j="woman")) ?_ λH1 _ g1=>Vt.QN (a:=decide (fw ps i="man")) ?_ λH2 _ g2=>?_) _ λH' g'=>?_
 ·rw[←e3,←dY];exact Vt.ne (Vt.var rfl) (λ_ _=>Vt.c) rfl
 ·rw[←dY];exact Vt.eq (λk hk=>⟨_,rfl,_,rfl,sd,_,rfl,cU (g1 _ _ hs) (mI nd hi),hk _ (aj.refl _)⟩) (λ_ _=>Vt.c) rfl
 ·rw[←dY];exact Vt.eq (λk hk=>⟨_,rfl,_,rfl,sd,_,rfl,cU (g2 _ _ (g1 _ _ hs)) (mI nd hj),hk _ (aj.refl _)⟩) (λ_ _=>Vt.c) rfl
 ·unfold kL at q;rw[if_neg n1,if_neg n2] at q;exact q H' g'
abbrev GJ:List Str:=["_law_facts","_law_name_here"]
theorem pP:aQ ["_law_facts","_law_name_here","_law_row_here","_law_at","_law_number","_law_kind","_law_one","_law_other"] GJ (aK EI):=.a8
theorem Zr(F:aL K "_law_up" "_law_up" EI f fd)(bl:Bl mg):aH P w K mg base aM 1 f fd GJ QO:=by
 refine F.o pP λs H hr h=>?_;obtain⟨fa,xs,ys,b,a,rfl,jZ,ok,ma,q⟩:=h;refine⟨_,(aq (bY 2 pP.nd (dR (aa (pv 1) ag))) (aq (bY 3 pP.nd aF) (aq (EC PassesOwn.never (bC mW (pv 3) (df K bl (pv 2))) (aq (gc PassesOwn.never rfl (fO (K:=K) rfl (pv 0)) (iO (K:=K) (n:=4) rfl rfl (bQ (bA 4 pP.nd) (bQ (bA 5 pP.nd) (bQ (bA 6 pP.nd) (bQ (bA 7 pP.nd) iM))))) (au (aR (PW.pt (pw_and (hU (dt (K:=K) rfl) (pv 5) (dM (aa bu (aa bu ag))) (by with_unfolding_all rfl)) (pw_and (bC ck (pv 6) (aP (iL K) (pv 2) (pv 3))) (pw_and1 (hU (Ft (K:=K) rfl) (pv 7) (pv 2) (by with_unfolding_all rfl)))))) (au (bZ (jJ (K:=K) rfl (ic plainAttrs_list PySem.F.slot_list_append PySem.F.type_list_append pM (pv 2) (aa (pv 7) ag))))) aY))) (au (NV (i:=3) pP.nd rfl (Or.inl rfl) aF NW)))) (au (aG (pv 2)))))),?_⟩;have sz:(10000:Nat)<=sizeLine:=by rw[sizeLine_eq];omega
 obtain⟨as,c9,al,gt⟩:=jZ.get;have JH:=ok.m;refine cq ?_;refine⟨_,rfl,by show 1<=sizeLine;omega,λbq H1 yn g1 I0=>?_⟩;refine setC ?_;refine hV (λσ H6=>∃ks:List Str,aj H H6/\H6 bq=some (.lst (ks.map V.str))/\(∀z,z∈ks↔fM b a z)/\∃o3 o4 o5 o6 o7:Option V,σ=[some (.ref fa),some (.str a),some (.ref bq),o3,o4,o5,o6,o7]) (λqI gW=>?_) ?_
 ·refine ED (Th H b a fa bq) (muU b.ps.length) ⟨[a],0,none,none,none,none,g1,I0,⟨Yy.mpr ⟨(λz=>nomatch z),W4⟩,λk hk=>by rw[Yo.mp hk];exact .refl,Yg⟩,Yw _,λr hr=>absurd hr (Wd _),rfl⟩ ?_ ?_
  ·rintro σ H6 ⟨ks,r,o4,o5,o6,o7,g6,nR,up,rl,cl,rfl⟩;have kl:(ks.map V.str).length=ks.length:=Ya _;have gl:=up.len ok ma;refine⟨_,rfl,_,rfl,bq,_,rfl,.inl (ak.of nR),_,_,rfl,rfl,_,rfl,?_⟩;rw[kl];refine bI (λc=>?_) (λc=>?_)
   ·have vG:r<ks.length:=by have:=of_decide_eq_true c;omega
    obtain⟨k,ek⟩:∃k,ks[r]?=some k:=⟨_,Yb vG⟩;have mk:k∈ks:=Yh ek;refine hV (JG H b a fa bq r ks k b.F.length) (λBu nN=>?_) ?_
    ·refine⟨_,rfl,fa,rfl,⟨_,ak.of (g6 _ _ c9)⟩,kF (K:=K) (a:=fa) (xs:=as.map V.ref) (JG H b a fa bq r ks k) ⟨ks,[],o4,o5,o6,o7,g6,nR,up,by rw[Wh],λc hc=>(nomatch hc),rfl⟩ (λj σ H8 _ ⟨_,_,_,_,_,_,g,_,_,_,_,_⟩=>ak.of (g _ _ c9)) ?_ ?_⟩
     ·rintro j v σ H8 hj ⟨eP,tl,p4,p5,p6,p7,g8,kq,qT,e8,iG,rfl⟩;obtain⟨c0,c,z,rfl,iE,qR,hc⟩:=gt H8 j v g8 hj;have mc:c∈b.F:=Yh iE;have BJ:eP[r]?=some k:=by rw[e8,Wb vG];exact ek
      have gl8:=qT.len ok ma;refine⟨c0,_,rfl,aA.of hc,rfl,_,_,rfl,bg ⟨_,_,rfl,bg ⟨_,_,rfl,bg ⟨_,_,rfl,bg ⟨rfl,?_⟩⟩⟩⟩⟩;refine(Bt.and (Vt.test (Vt.F6 (k:=c.k) (Vt.var rfl))) λHA _ gA=>Bt.and (Vt.test (Vt.eq (x:=.str (av b.ps c.one)) (y:=.str k) (Vt.var rfl) (λHB gB kk hk=>⟨_,rfl,_,rfl,bq,_,_,_,rfl,rfl,ak.of (gB _ _ (gA _ _ kq)),gM (by rw[Yd,BJ];rfl),hk _ (aj.refl _)⟩) rfl)) λHB _ gB=>Vt.test (b:=!e_ (kV (a_ b.ps c)) (eP.map V.str)) λkk hk=>⟨_,rfl,_,rfl,bq,_,rfl,.inl (ak.of (gB _ _ (gA _ _ kq))),XZ (zG _),LG _,hk _ (aj.refl _)⟩) _ λH9 g9=>?_;rw[dY];have vH:∀jy:List Str,(∀x∈eP,x∈jy)->(cI c.k=true->av b.ps c.one=k->∀y,kV (a_ b.ps c)=.str y->y∈jy)->∀c'∈b.F.take (j+1),cI c'.k=true->av b.ps c'.one=k->∀y,kV (a_ b.ps c')=.str y->y∈jy:=λjy sub hh c' m' h1 h2 y h3=>by
       rw[qR] at m';rcases Yv.mp m' with m'|m';·exact sub _ (iG c' m' h1 h2 y h3)
       ·rw[Yo.mp m'] at h1 h2 h3;exact hh h1 h2 y h3
      refine bI (λcc=>?_) (λcc=>aW ?_)
      ·rw[Wo,Wo,decide_eq_true_iff] at cc;obtain⟨c1,c2,c3⟩:=cc;have ns:c.k≠bF:=λz=>by rw[z] at c1;exact absurd c1 (by decide+kernel)
       have eo:kV (a_ b.ps c)=.str (av b.ps c.aJ.toNat):=by rw[iK ns];rfl
       have sU:=g9 _ _ kq;refine⟨_,rfl,.inl ⟨rfl,_,ak.of sU⟩,_,rfl,bq,_,_,rfl,rfl,sU,by rw[Ya];omega,λoZ yp pj=>?_⟩;have no:av b.ps c.aJ.toNat∉eP:=λz=>by
        rw[eo,(GH _ _).mpr z] at c3;cases c3
       refine⟨eP++[av b.ps c.aJ.toNat],tl++[av b.ps c.aJ.toNat],_,_,_,_,λd o e=>yp _ _ (g9 _ _ (g8 _ _ e)) (bO e yn),by rw[pj,Yq,eo];rfl,⟨?_,λx hx=>?_,Yt _ qT.ma⟩,by rw[e8,Jr],vH _ (λx hx=>Yt _ hx) λ_ _ y hy=>?_,rfl⟩
       ·refine Ww.mpr ⟨qT.nd,by simp,λu hu w hw z=>?_⟩;rw[Yo] at hw;rw[z,hw] at hu;exact no hu
       ·rcases Yv.mp hx with hx|hx;·exact qT.sd x hx
        ·rw[Yo.mp hx];exact .step (qT.sd k (Yh BJ)) ((MB ok).mpr ⟨c,mc,c1,c2,eo⟩)
       ·rw[eo] at hy;rw[←V.str.inj hy];exact Yp _ Yg
      ·refine⟨eP,tl,_,_,_,_,g8.trans g9,g9 _ _ kq,qT,e8,vH _ (λ_ h=>h) λh1 h2 y h3=>?_,rfl⟩;rw[h1,Jz,decide_eq_true h2,Jz,h3] at cc;by_cases z:y∈eP;·exact z
       ·exact absurd (by rw[J1.mpr (λw=>z ((GH _ _).mp w))];rfl) cc
     ·grind
    ·rintro σ H8 ⟨eP,tl,p4,p5,p6,p7,g8,kq,qT,e8,iG,rfl⟩;rw[Wc] at iG;have BJ:eP[r]?=some k:=by rw[e8,Wb vG];exact ek
     refine⟨_,rfl,_,_,rfl,rfl,?_⟩;refine⟨⟨eP,r+1,p4,p5,p6,p7,g8,kq,qT,by rw[e8,Yl];omega,λr' h' x hx p hp=>?_,rfl⟩,?_⟩
     ·by_cases z:r'=r
      ·rw[z,BJ] at hx;cases hx;obtain⟨c,mc,h1,h2,h3⟩:=(MB ok).mp hp;exact iG c mc h1 h2 p h3
      ·rw[e8,Wb (by omega)] at hx;rw[e8];exact Yt _ (cl r' (by omega) x hx p hp)
     ·show b.ps.length+1-((r:Int)+1).toNat<b.ps.length+1-((r:Int)).toNat;omega
   ·have re:¬((r:Int)<(ks.length:Int)):=λz=>c (decide_eq_true z);exact gW _ _ ⟨ks,g6,nR,up.all (λr' h'=>cl r' (by omega)),_,_,_,_,_,rfl⟩
  ·rintro σ H6 Q1 Q2 mo ⟨v1,w1,v2,w2,v3,v4,w3,w4,v5,v6,w5,w6,v7,w7,h⟩;exact⟨v1,w1,v2,w2,v3,v4,w3,w4,v5,v6,w5,w6,v7,w7,mo _ _ h⟩
 rintro σ H6 ⟨ks,g6,nR,al,o3,o4,o5,o6,o7,rfl⟩;exact⟨_,rfl,q bq ks H6 g6 nR al⟩
end
open Classical in
noncomputable def mY (n:Nat) (b:BS) (c:Fc):Str:=if c.k≠bF/\kL c.k (fw b.ps c.one) (fw b.ps c.aJ.toNat)=false then"wrong side" else if oI b.ps b.F c.k (av b.ps c.one) (kV (a_ b.ps c))=true then"told twice" else if cI c.k=true/\fM b (av b.ps c.aJ.toNat) (av b.ps c.one) then"own elder" else if iW (b.F++[c]) n c.one=[] then"barred" else""
inductive OV(vs:List V)(H:Hp)(Q:VK)(E:XK):Prop
 |mk (sd fa td ff:Addr) (xs ys:List Int) (b:BS) (c:Fc) (aE:vs=[.ref sd,.ref fa,.ref td,.ref ff]) (hs:H sd=some (.dK (fV b.ps))) (hf:FL H b.ps fa b.F) (ht:g_ H td xs ys) (hc:H ff=some (.tup [.str c.k,.str (av b.ps c.one),kV (a_ b.ps c)])) (ok:cM xs ys b) (fg:eM xs ys b.ps.length c) (q:∀H',aj H H'->Q (.str (mY xs.length b c)) H')
theorem Zda(fg:eM xs ys m c)(ns:c.k≠bF):c.k="mother"\/c.k="father"\/c.k="wed"\/c.k="sibling":=by
 have h:=fg.uw ns
 grind
section
variable {K:ai}{mg:aX}
abbrev GK:List Str:=["_law_sides","_law_facts","_law_turns_here","_law_fact_here"]
theorem yG:aQ ["_law_sides","_law_facts","_law_turns_here","_law_fact_here","_law_kind","_law_one","_law_other"] GK (aK D0):=.a8
open Classical in
theorem WX(F:aL K "_law_word" "_law_word" D0 f fd)(DO:HasFn P w K mg base 1 "_law_sided" AD NK)(Ea:HasFn P w K mg base 1 "_law_told" GI NJ)(ET:HasFn P w K mg base 1 "_law_up" GJ QO)(lI:HasFn P w K mg base 3 "_law_room" xp zU)(bl:Bl mg):aH P w K mg base aM 4 f fd GK OV:=by
 refine F.o yG λs H hr h=>?_;obtain⟨sd,fa,td,ff,xs,ys,b,c,rfl,hs,hf,ht,hc,ok,fg,q⟩:=h;have hu:=hr.ui;refine⟨_,(aq (mP (pv 3) (iO (K:=K) (n:=3) rfl rfl (bQ (bA 4 yG.nd) (bQ (bA 5 yG.nd) (bQ (bA 6 yG.nd) iM))))) (aq (aR (bC ck (pv 4) bu) (aq (aR (jH (mF (bw hr) (pv 5) (pv 0)) (by with_unfolding_all rfl)) (au (aG bu)) aY) (au (aR (PW.pt (pw_or (bC mW (pv 6) aF) (pw_or1 (bC Zdn (pv 6) (df K bl (cY (bw hr) (pv 2) bu (λ_ _=>rfl))))))) (au (aG bu)) aY))) (aq (aR (jH (mF (bw hr) (pv 4) (pv 2)) (by with_unfolding_all rfl)) (au (aG bu)) aY) (aq (aR (PW.pt (pw_or (jH (mF (bw hr) (pv 5) (pv 0)) (by with_unfolding_all rfl)) (pw_or1 (jH (mF (bw hr) (pv 6) (pv 0)) (by with_unfolding_all rfl))))) (au (aG bu)) aY) (au (aR (hX (d9 (aT DO hr (aa (pv 0) (aa (pv 4) (aa (pv 5) (aa (pv 6) ag))))))) (au (aG bu)) aY))))) (aq (aR (d9 (aT Ea hr (aa (pv 1) (aa (pv 4) (aa (pv 5) (aa (pv 6) ag)))))) (au (aG bu)) aY) (aq (aR (PW.pt (pw_and (hU (dt (K:=K) rfl) (pv 4) (dM (aa bu (aa bu ag))) (by with_unfolding_all rfl)) (pw_and1 (hU (dt (K:=K) rfl) (pv 5) (aT ET hr (aa (pv 1) (aa (pv 6) ag))) (by with_unfolding_all rfl))))) (au (aG bu)) aY) (aq (aR (bC (Oc hu) (aT lI hr (aa (aV zx (pv 1) (dR (aa (dM (aa (aV uh aF aF) (aa (pv 4) (aa (pv 5) (aa (pv 6) ag))))) ag))) (aa (pv 2) (aa (pv 5) ag)))) (dR ag)) (au (aG bu)) aY) (au (aG bu))))))),?_⟩;have sz:(10000:Nat)<=sizeLine:=by rw[sizeLine_eq];omega
 have one:=fg.ok.one;have g1:=mI ok.nm one;refine⟨_,rfl,ff,_,rfl,aA.of hc,rfl,_,_,rfl,bg ⟨_,_,rfl,bg ⟨_,_,rfl,bg ⟨rfl,?_⟩⟩⟩⟩;dsimp only;refine lO (λσ H7=>aj H H7/\¬(c.k≠bF/\kL c.k (fw b.ps c.one) (fw b.ps c.aJ.toNat)=false)/\σ=[some (.ref sd),some (.ref fa),some (.ref td),some (.ref ff),some (.str c.k),some (.str (av b.ps c.one)),some (kV (a_ b.ps c))]) (λnM eT=>?_) ?_
 ·refine⟨_,rfl,rfl,_,rfl,?_⟩;rw[dY];refine bI (λcc=>?_) (λcc=>?_)
  ·have sk:c.k=bF:=of_decide_eq_true cc;have eo:kV (a_ b.ps c)=.int c.aJ:=by rw[mG sk];rfl
   refine⟨_,rfl,_,rfl,sd,_,rfl,cU hs g1,_,rfl,bR (aW ?_)⟩;obtain⟨s0,s1⟩:=fg.Gx sk;obtain⟨_,_,_,u0,gG,_,_,_,vI⟩:=id ht;refine(Bt.or (a:=decide (c.aJ<0)) (b:=decide ((((bh xs.length).map V.int).length:Int)<=c.aJ)) (λk hk=>⟨_,rfl,c.aJ,0,eo,rfl,_,rfl,hk _ (aj.refl _)⟩) λH1 _ g1 k hk=>⟨_,rfl,_,rfl,td,.ref u0,rfl,cU (g1 _ _ gG) rfl,u0,_,rfl,.inr (aA.of (g1 _ _ vI)),c.aJ,_,eo,rfl,_,rfl,hk _ (aj.refl _)⟩) _ λH2 g2=>?_;rw[decide_eq_false (by omega),decide_eq_false (by rw[Ya,eQ];omega)];exact bR (aW (eT _ _ ⟨g2,λz=>z.1 sk,rfl⟩))
  ·have ns:c.k≠bF:=λz=>cc (decide_eq_true z);have eo:kV (a_ b.ps c)=.str (av b.ps c.aJ.toNat):=by rw[iK ns];rfl
   obtain⟨tk,u,gG,vu,_⟩:=ht.get (fg.uw ns);have g2:=mI ok.nm (fg.ok.gI ns).1.2;refine⟨_,rfl,_,rfl,td,_,rfl,cU gG vu,_,rfl,bR (aW ?_)⟩;refine(Bt.or (a:=false) (b:=false) (λk hk=>⟨_,rfl,_,rfl,sd,_,rfl,cU hs g1,_,rfl,hk _ (aj.refl _)⟩) λH1 _ g1 k hk=>⟨_,rfl,_,rfl,sd,some (.str (fw b.ps c.aJ.toNat)),rfl,(by rw[eo];exact cU (g1 _ _ hs) g2),_,rfl,hk _ (aj.refl _)⟩) _ λH2 g2=>bR (aW ?_);refine⟨_,rfl,_,rfl,_,rfl,_,rfl,sd,b.ps,c.k,c.one,c.aJ.toNat,by rw[eo];rfl,g2 _ _ hs,ok.nm,one,(fg.ok.gI ns).1.2,Zda fg ns,λH3 g3=>⟨_,rfl,?_⟩⟩;cases es:kL c.k (fw b.ps c.one) (fw b.ps c.aJ.toNat) with
   |true=>exact bR (aW (eT _ _ ⟨g2.trans g3,λz=>by rw[es] at z;exact absurd z.2 (by decide),rfl⟩))
   |false=>
    refine cW ?_;have e:mY xs.length b c="wrong side":=if_pos ⟨ns,es⟩;rw[e] at q;exact q _ (g2.trans g3)
 rintro σ H7 ⟨g7,nw,rfl⟩;refine⟨_,rfl,_,rfl,_,rfl,_,rfl,fa,b.ps,b.F,c.k,av b.ps c.one,kV (a_ b.ps c),rfl,hf.same g7,zG _,λH8 g8=>⟨_,rfl,?_⟩⟩;have JI:=g7.trans g8;unfold mY at q;rw[if_neg nw] at q;refine bI (λct=>?_) (λct=>aW ?_)
 ·rw[if_pos ct] at q;exact q _ JI
 rw[if_neg ct] at q;refine(Bt.and (b:=decide (fM b (av b.ps c.aJ.toNat) (av b.ps c.one))) (Vt.test (Vt.F6 (k:=c.k) (Vt.var rfl))) λH9 ip g9 k hk=>?_) _ λH9 g9=>?_
 ·have ns:c.k≠bF:=λz=>by rw[z] at ip;exact absurd ip (by decide+kernel)
  have eo:kV (a_ b.ps c)=.str (av b.ps c.aJ.toNat):=by rw[iK ns];rfl
  refine⟨_,rfl,_,rfl,_,rfl,fa,xs,ys,b,av b.ps c.aJ.toNat,by rw[eo];rfl,hf.same (JI.trans g9),ok,E9 (fg.ok.gI ns).1.2,λp ks H' g' hp al=>⟨p,_,rfl,.inl (ak.of hp),rfl,LG _,_,rfl,?_⟩⟩;have e:e_ (V.str (av b.ps c.one)) (ks.map V.str)=decide (fM b (av b.ps c.aJ.toNat) (av b.ps c.one)):=by
   rw[Wm,decide_eq_true_iff,GH,al]
  rw[e];exact hk _ g'
 have BK:=JI.trans g9;refine bI (λcu=>?_) (λcu=>aW ?_)
 ·rw[Wo,decide_eq_true_iff] at cu;rw[if_pos cu] at q;exact q _ BK
 rw[Wo,decide_eq_true_iff] at cu;rw[if_neg cu] at q;obtain⟨as,c9,dI⟩:=hf.same BK;have al:=cX dI;have fl:=ok.fl;have Fl:b.F.length=b.fs.length:=Ya _;refine⟨_,rfl,_,_,rfl,rfl,_,rfl,_,rfl,_,rfl,by show 4<=sizeLine;omega,λt Ht nt gt JJ=>⟨by show 1<=sizeLine;omega,λl Hl nl gl hl=>⟨fa,l,_,_,rfl,rfl,gl _ _ (gt _ _ c9),hl,by rw[Ya];show _+1<=_;omega,λp Hp np gp hp=>⟨_,rfl,_,rfl,?_⟩⟩⟩⟩;have JK:=(gt.trans gl).trans gp;refine⟨p,td,b.ps,xs,ys,b.F++[c],c.one,rfl,⟨as++[t],by rw[hp,Yq];rfl,jB (F:=IY Hp b.ps) ⟨-1,gp _ _ (gl _ _ JJ)⟩ (L2.Paired.bB dI λ_ _ ⟨z,e⟩=>⟨z,JK _ _ e⟩)⟩,ht.same (BK.trans JK),ok.nm,λc' qw=>?_,ok.gd.2.2.2.2,by have:=ok.m;omega,by rw[Yl];show _+1<=64;omega,one,λpr Hr npr gr hr2=>⟨by show 0<=sizeLine;omega,λe He ne ge he=>⟨pr,e,_,[],rfl,rfl,ak.of (ge _ _ hr2),ak.of he,_,rfl,?_⟩⟩⟩
 ·rcases Yv.mp qw with h|h
  ·obtain⟨pp,JM,rfl⟩:=Yf.mp (show c'∈b.fs.map (·.2) from h);exact ok.fg pp JM
  ·rw[Yo.mp h];exact fg
 have gE:=(BK.trans JK).trans (gr.trans ge);refine bI (λcr=>?_) (λcr=>aW ?_)
 ·rw[if_pos (of_decide_eq_true cr)] at q;exact q _ gE
 ·rw[if_neg (λz=>cr (decide_eq_true z))] at q;exact q _ gE
end
theorem NL(a b:Str):(L2.ql a b=a/\L2.qm a b=b)\/(L2.ql a b=b/\L2.qm a b=a):=by
 unfold L2.ql L2.qm;by_cases h1:b.cps.toList<a.cps.toList;·grind
 ·rw[if_neg h1];by_cases h2:a.cps.toList<b.cps.toList;·grind
  ·rw[if_neg h2];have e2:a=b:=by
    cases a with|mk ca=>cases b with|mk cb=>
     grind
   grind
theorem MC{b:BS}{c:Fc}(h:oI b.ps b.F c.k (av b.ps c.one) (kV (a_ b.ps c))=false):fk b.ps c∉b.keys/\(cI c.k=true->[.inr c.k,.inr (av b.ps c.one)]∉(cg b.ps b.fs).map (·.1))/\¬(c.k="sibling"/\V.str (av b.ps c.one)=kV (a_ b.ps c)):=by
 unfold oI at h;rw[Bool.or_eq_false_iff] at h;obtain⟨h1,h2⟩:=h;have no:∀p∈b.fs,lZ b.ps c.k (av b.ps c.one) (kV (a_ b.ps c)) p.2=false:=λp hp=>by
  have:=Rc.mp h1 p.2 (Yf.mpr ⟨p,hp,rfl⟩);exact J1.mpr this
 have Ze8:∀{u v:Key},u=v->kV u=kV v:=λe=>by rw[e]
 refine⟨λhk=>?_,λip hp=>?_,λ⟨e1,e2⟩=>?_⟩
 ·obtain⟨p,hp,e⟩:=Yf.mp hk;have n:=no p hp;have hit:p.2.k=c.k->((av b.ps p.2.one=av b.ps c.one/\a_ b.ps p.2=a_ b.ps c)\/(c.k="sibling"/\a_ b.ps p.2=.inr (av b.ps c.one)/\Sum.inr (av b.ps p.2.one)=a_ b.ps c))->False:=λe1 e2=>by
   have:lZ b.ps c.k (av b.ps c.one) (kV (a_ b.ps c)) p.2=true:=by
    unfold lZ;rw[decide_eq_true e1,Jz];rcases e2 with⟨e2,e3⟩|⟨e2,e3,e4⟩;·rw[decide_eq_true e2,decide_eq_true (Ze8 e3)];rfl
    ·rw[decide_eq_true e2,decide_eq_true (show kV (a_ b.ps p.2)=.str (av b.ps c.one) by rw[e3];rfl),decide_eq_true (show V.str (av b.ps p.2.one)=kV (a_ b.ps c) by rw[←e4];rfl)];simp
   rw[this] at n;cases n
  unfold fk at e;cases nT:a_ b.ps p.2 with
  |inl z1=>
   cases mC:a_ b.ps c with
   |inl z2=>
    rw[nT,mC] at e;injection e with e1 e;injection e with e2 e;injection e with e3 _;exact hit (Wf e1) (.inl ⟨Wf e2,by rw[nT,mC,e3]⟩)
   |inr z2=>
    rw[nT,mC] at e;unfold keyOf at e;dsimp only at e;split at e
    ·injection e with e1 e;injection e with e2 e;injection e with e3 _;cases e3
    ·injection e with e1 e;injection e with e2 e;injection e with e3 _;cases e3
  |inr z1=>
   cases mC:a_ b.ps c with
   |inl z2=>
    rw[nT,mC] at e;unfold keyOf at e;dsimp only at e;split at e
    ·injection e with e1 e;injection e with e2 e;injection e with e3 _;cases e3
    ·injection e with e1 e;injection e with e2 e;injection e with e3 _;cases e3
   |inr z2=>
    rw[nT,mC] at e;have ek:p.2.k=c.k:=by
     unfold keyOf at e;dsimp only at e;split at e<;>split at e<;>(injection e with e1 _;exact Wf e1)
    unfold keyOf at e;dsimp only at e;rw[ek] at e;by_cases sb:c.k="sibling"
    ·rw[if_pos sb,if_pos sb] at e;injection e with _ e;injection e with e2 e;injection e with e3 _;have e2:=Wf e2;have e3:=Wf e3;refine hit ek ?_;rcases NL (av b.ps p.2.one) z1 with⟨m1,m2⟩|⟨m1,m2⟩<;>rcases NL (av b.ps c.one) z2 with⟨m3,m4⟩|⟨m3,m4⟩<;>rw[m1,m3] at e2<;>rw[m2,m4] at e3;·exact .inl ⟨e2,by rw[nT,mC,e3]⟩
     ·exact .inr ⟨sb,by rw[nT,e3],by rw[mC,e2]⟩
     ·exact .inr ⟨sb,by rw[nT,e2],by rw[mC,e3]⟩
     ·exact .inl ⟨e3,by rw[nT,mC,e2]⟩
    ·rw[if_neg sb,if_neg sb] at e;injection e with _ e;injection e with e2 e;injection e with e3 _;exact hit ek (.inl ⟨Wf e2,by rw[nT,mC,e3]⟩)
 ·obtain⟨q,hq,e⟩:=Yf.mp hp;unfold cg at hq;obtain⟨p,hp,rfl⟩:=Yf.mp hq;obtain⟨ph,dF⟩:=Y5.mp hp;have n:=no p ph;injection e with e1 e;injection e with e2 _;unfold lZ at n;rw[decide_eq_true (Wf e1),decide_eq_true (Wf e2),ip] at n;simp at n
 ·rw[decide_eq_true e1,decide_eq_true e2] at h2;cases h2
theorem Zs(ok:cM xs ys b)(fg:eM xs ys b.ps.length c)(h:iW (b.F++[c]) xs.length c.one≠[]):∃f,lu xs.length b.ps.length f/\∀c'∈b.F++[c],eS f c':=by
 obtain⟨a,ha⟩:=List.exists_mem_of_ne_nil _ h;obtain⟨_,g,cl,hg⟩:=Eu.mp ha;obtain⟨f0,inr,sat⟩:=ok.lv;have jh:∀c'∈b.F++[c],dP xs.length b.ps.length c':=λc' qw=>by
  rcases Yv.mp qw with h|h
  ·obtain⟨pp,JM,rfl⟩:=Yf.mp (show c'∈b.fs.map (·.2) from h);exact(ok.fg pp JM).ok
  ·rw[Yo.mp h];exact fg.ok
 obtain⟨f,h1,h2,_⟩:=Ki jh inr (λc' qw=>by
  rcases Yv.mp qw with h|h;·grind
  ·rw[Yo.mp h];exact .inl rfl) cl hg
 grind
theorem NM{xs:List Int}{b:BS}{c:Fc}(h:mY xs.length b c=""):¬(c.k≠bF/\kL c.k (fw b.ps c.one) (fw b.ps c.aJ.toNat)=false)/\oI b.ps b.F c.k (av b.ps c.one) (kV (a_ b.ps c))=false/\¬(cI c.k=true/\fM b (av b.ps c.aJ.toNat) (av b.ps c.one))/\iW (b.F++[c]) xs.length c.one≠[]:=by
 unfold mY at h;by_cases h1:c.k≠bF/\kL c.k (fw b.ps c.one) (fw b.ps c.aJ.toNat)=false;·rw[if_pos h1] at h;exact absurd h (by decide+kernel)
 rw[if_neg h1] at h;by_cases h2:oI b.ps b.F c.k (av b.ps c.one) (kV (a_ b.ps c))=true;·rw[if_pos h2] at h;exact absurd h (by decide+kernel)
 rw[if_neg h2] at h;by_cases h3:cI c.k=true/\fM b (av b.ps c.aJ.toNat) (av b.ps c.one);·rw[if_pos h3] at h;exact absurd h (by decide+kernel)
 rw[if_neg h3] at h;by_cases h4:iW (b.F++[c]) xs.length c.one=[];·rw[if_pos h4] at h;exact absurd h (by decide+kernel)
 grind
theorem EU{xs ys:List Int}{b:BS}{c:Fc}(ok:cM xs ys b)(fg:eM xs ys b.ps.length c)(lim:b.fs.length<63)(h:mY xs.length b c=""):Ar xs ys b c:=by
 obtain⟨_,h2,_,h4⟩:=NM h;obtain⟨k1,k2,_⟩:=MC h2;exact⟨fg,k1,k2,Zs ok fg h4,lim⟩
theorem ZaC{xs ys:List Int}{b:BS}{c:Fc}(ok:cM xs ys b)(fg:eM xs ys b.ps.length c)(lim:b.fs.length<63)(h:mY xs.length b c="")(ns:c.k≠bF):F4 xs ys b c:=by
 obtain⟨h1,h2,h3,_⟩:=NM h;obtain⟨k1,k2,k3⟩:=MC h2;have eo:=iK (ps:=b.ps) ns;refine⟨EU ok fg lim h,ns,?_,⟨k2,λ_=>⟨?_,λ⟨e1,e2⟩=>k3 ⟨e1,by rw[eo,e2];rfl⟩⟩⟩,λip an=>h3 ⟨ip,an⟩⟩;·grind
 ·rw[←eo];exact k1
def iH(ps:bK):List V:=ps.map λp=>.str p.1
theorem uf(ps:bK):(iH ps).length=ps.length:=Ya _
theorem OW{ps:bK}{z:Int}(h0:0<=z)(h:z<(ps.length:Int)):dw (iH ps) z=some (.str (av ps z.toNat)):=by
 obtain⟨k,rfl⟩:∃k:Nat,z=(k:Int):=⟨z.toNat,by omega⟩;refine gM ?_;unfold iH av
 grind
theorem uq{z:Int}{n:Nat}(h:0<n):0<=z % (n:Int)/\z % (n:Int)<(n:Int):=⟨Jn _ (by omega),Jd _ (by omega)⟩
theorem Vt.Ff{K:ai}{e:TE}{σ:St}{H:Hp}{nl:Addr}{ps:bK}{z:Int}{i:Nat}(hi:σ[i]?=some (some (.ref nl)))(hn:H nl=some (.lst (iH ps)))(p0:0<ps.length)(he:Vt e σ H (.int z)):Vt (i8 (uz K) (gn i) (i8 (rI (λ_ j=>0<j) λi j=>V.int (i % j)) e (nB (xc K) (gf (gn i) iY)))) σ H (.str (av ps (z % (ps.length:Int)).toNat)):=λk hk=>⟨_,hi,he _ λH1 g1=>by
 have l:=uf ps;have m:=uq (z:=z) p0;exact⟨_,hi,nl,_,rfl,.inl (ak.of (g1 _ _ hn)),_,_,rfl,rfl,by omega,nl,_,_,_,rfl,rfl,ak.of (g1 _ _ hn),by rw[l];exact OW m.1 m.2,hk H1 g1⟩⟩
inductive OX(vs:List V)(H:Hp)(Q:VK)(E:XK):Prop
 |mk (nl sd:Addr) (ps:bK) (z:Int) (s:Str) (aE:vs=[.ref nl,.ref sd,.int z,.str s]) (hn:H nl=some (.lst (iH ps))) (hs:H sd=some (.dK (fV ps))) (nd:(ps.map (·.1)).Nodup) (p0:0<ps.length) (pm:ps.length<=100) (q:∀i,i<ps.length->∀H',aj H H'->Q (.str (av ps i)) H')
theorem ZaD(xs ys:List Int){d:Int}(h:0<=d/\d<4):∃(k:Str) (tn:List Int) (w:Str),dw [V.str "mother",V.str "father",V.str "wed",V.str "sibling"] d=some (.str k)/\(k,tn)∈qi xs ys/\dw [V.str "woman",V.str "man",V.str "woman",V.str ""] d=some (.str w):=by
 have:d=0\/d=1\/d=2\/d=3:=by omega
 rcases this with rfl|rfl|rfl|rfl;·exact⟨_,inv xs,_,rfl,by simp,rfl⟩
 ·exact⟨_,inv (bH xs ys),_,rfl,by simp,rfl⟩
 ·exact⟨_,ys,_,rfl,by simp,rfl⟩
 ·exact⟨_,bh xs.length,_,rfl,by simp,rfl⟩
inductive OY(vs:List V)(H:Hp)(Q:VK)(E:XK):Prop
 |mk (nl sd dr:Addr) (ps:bK) (xs ys:List Int) (d0 d1 d2 d3 d4:Int) (aE:vs=[.ref nl,.ref sd,.ref dr,.int (xs.length:Int)]) (hn:H nl=some (.lst (iH ps))) (hs:H sd=some (.dK (fV ps))) (nd:(ps.map (·.1)).Nodup) (p0:0<ps.length) (pm:ps.length<=100) (hd:H dr=some (.lst ([d0,d1,d2,d3,d4].map V.int))) (b4:0<=d4/\d4<4) (gd:oG xs ys) (q:∀c,eM xs ys ps.length c->∀(ff:Addr) (H':Hp),H ff=none->aj H H'->H' ff=some (.tup [.str c.k,.str (av ps c.one),kV (a_ ps c)])->Q (.ref ff) H')
section
variable {K:ai}{mg:aX}
abbrev GL:List Str:=["_law_names","_law_sides","_law_at","_law_side"]
theorem Ku:aQ ["_law_names","_law_sides","_law_at","_law_side","_law_k"] GL (aK D1):=.a8
theorem WY(F:aL K "_law_pick" "_law_pick" D1 f fd)(bl:Bl mg):aH P w K mg base aM 1 f fd GL OX:=by
 refine F.o Ku λs H hr h=>?_;obtain⟨nl,sd,ps,z,sx,rfl,hn,hs,nd,p0,pm,q⟩:=h;refine⟨_,(aq (gc PassesOwn.never rfl (nZ rfl bl.jj (aa (df K bl (pv 0)) ag)) (bA 4 Ku.nd) (au (aR (PW.pt (pw_or (bC ck (pv 3) bu) (pw_or1 (bC ck (cY (bw hr) (pv 1) (aP (iL K) (pv 0) (aV dW (aV fP (pv 2) (pv 4)) (df K bl (pv 0)))) (λ_ _=>rfl)) (pv 3))))) (au (aG (aP (iL K) (pv 0) (aV dW (aV fP (pv 2) (pv 4)) (df K bl (pv 0)))))) aY))) (au (aG (aP (iL K) (pv 0) (aV dW (pv 2) (df K bl (pv 0))))))),?_⟩;have BM:=uf ps;have at_:∀z:Int,(z % (ps.length:Int)).toNat<ps.length:=λz=>by have:=uq (z:=z) p0;omega
 refine hV (λσ H6=>aj H H6/\∃o4:Option V,σ=[some (.ref nl),some (.ref sd),some (.int z),some (.str sx),o4]) (λqI gW=>?_) ?_
 ·refine⟨_,rfl,nl,_,rfl,.inl (ak.of hn),_,rfl,by omega,by omega,yQ (lo:=0) (n:=(((iH ps).length:Nat):Int).toNat) (λ_ σ H6=>aj H H6/\∃o4:Option V,σ=[some (.ref nl),some (.ref sd),some (.int z),some (.str sx),o4]) ⟨aj.refl _,none,rfl⟩ ?_ (λσ H6 h=>gW _ _ h)⟩;rintro j σ H6 hj ⟨g6,o4,rfl⟩;rw[J4];have vt:∀H7,aj H6 H7->Vt _ _ H7 _:=λH7 g7=>Vt.Ff (K:=K) (i:=0) (σ:=[some (.ref nl),some (.ref sd),some (.int z),some (.str sx),some (.int (j:Int))]) (z:=z+(j:Int)) (e:=i8 (qy λi j=>V.int (i+j)) (gn 2) (gn 4)) rfl (g7 _ _ (g6 _ _ hn)) p0 (λk hk=>⟨_,rfl,_,rfl,_,_,rfl,rfl,hk _ (aj.refl _)⟩);refine(Bt.or (Vt.test (Vt.eq (Vt.var rfl) (λ_ _=>Vt.c) rfl)) λH7 _ g7=>Vt.test (Vt.eq (x:=.str (fw ps ((z+(j:Int)) % (ps.length:Int)).toNat)) (y:=.str sx) (λk hk=>⟨_,rfl,vt H7 g7 _ λH8 g8=>⟨sd,_,rfl,cU (g8 _ _ (g7 _ _ (g6 _ _ hs))) (mI nd (at_ _)),hk H8 g8⟩⟩) (λ_ _=>Vt.var rfl) rfl)) _ λH9 g9=>?_;refine bI (λ_=>?_) (λ_=>aW ⟨g6.trans g9,_,rfl⟩);exact vt H9 g9 _ λHA gA=>q _ (at_ _) HA ((g6.trans g9).trans gA)
 rintro σ H6 ⟨g6,o4,rfl⟩;exact Vt.Ff (K:=K) (i:=0) (z:=z) rfl (g6 _ _ hn) p0 (Vt.var rfl) _ λHA gA=>q _ (at_ _) HA (g6.trans gA)
abbrev GN:List Str:=["_law_names","_law_sides","_law_drawn","_law_size"]
theorem vW:aQ ["_law_names","_law_sides","_law_drawn","_law_size","_law_kind","_law_one","_law_want"] GN (aK D2):=.a8
theorem WZ(F:aL K "_law_fact" "_law_fact" D2 f fd)(yN:HasFn P w K mg base 1 "_law_pick" GL OX)(bl:Bl mg):aH P w K mg base aM 2 f fd GN OY:=by
 refine F.o vW λs H hr h=>?_;obtain⟨nl,sd,dr,ps,xs,ys,d0,d1,d2,d3,d4,rfl,hn,hs,nd,p0,pm,hd,b4,gd,q⟩:=h;refine⟨_,(aq (bY 4 vW.nd (aP (iL K) (dR (aa bu (aa bu (aa bu (aa bu ag))))) (aP (iL K) (pv 2) aF))) (aq (bY 5 vW.nd (aP (iL K) (pv 0) (aV dW (aP (iL K) (pv 2) aF) (df K bl (pv 0))))) (aq (aR (bC FN (aP (iL K) (pv 2) aF) aF) (au (aG (dM (aa bu (aa (pv 5) (aa (aV dW (aP (iL K) (pv 2) aF) (pv 3)) ag)))))) aY) (aq (aR (bC ck (pv 4) bu) (au (bY 5 vW.nd (aT yN hr (aa (pv 0) (aa (pv 1) (aa (aP (iL K) (pv 2) aF) (aa bu ag))))))) aY) (aq (bY 6 vW.nd (aP (iL K) (dR (aa bu (aa bu (aa bu (aa bu ag))))) (aP (iL K) (pv 2) aF))) (au (aG (dM (aa (pv 4) (aa (pv 5) (aa (aT yN hr (aa (pv 0) (aa (pv 1) (aa (aP (iL K) (pv 2) aF) (aa (pv 6) ag))))) ag))))))))))),?_⟩;have sz:(10000:Nat)<=sizeLine:=by rw[sizeLine_eq];omega
 obtain⟨k,tn,wt,ek,hk,ew⟩:=ZaD xs ys b4;have at_:∀z:Int,(z % (ps.length:Int)).toNat<ps.length:=λz=>by have:=uq (z:=z) p0;omega
 obtain⟨_,_,_,l2,l8⟩:=id gd;have Ze9:(0:Int)<(xs.length:Int):=by omega
 refine cq ?_;refine⟨by show 4<=sizeLine;omega,λkl H1 nkl g1 A2=>⟨_,rfl,dr,_,_,_,rfl,rfl,ak.of (g1 _ _ hd),rfl,kl,_,_,_,rfl,rfl,ak.of A2,ek,?_⟩⟩;refine cq ?_;have nN:=g1 _ _ hn;refine Vt.Ff (K:=K) (i:=0) (z:=d1) rfl nN p0 (λkk hk=>⟨_,rfl,dr,_,_,_,rfl,rfl,ak.of (g1 _ _ hd),rfl,hk _ (aj.refl _)⟩) _ λH2 g2=>?_;have lD:=g1.trans g2;refine⟨_,rfl,dr,_,_,_,rfl,rfl,ak.of (lD _ _ hd),rfl,_,_,rfl,rfl,_,rfl,bI (λ_=>?_) (λ_=>aW ?_)⟩
 ·refine⟨_,rfl,_,rfl,dr,_,_,_,rfl,rfl,ak.of (lD _ _ hd),rfl,_,rfl,_,_,rfl,rfl,Ze9,by show 3<=sizeLine;omega,λff H3 BN g3 sV=>?_⟩;have mm:=uq (z:=d3) (n:=xs.length) (by omega);exact q ⟨bF,(d1 % (ps.length:Int)).toNat,d3 % (xs.length:Int),[]⟩ ⟨⟨at_ _,λz=>absurd rfl z⟩,.inl rfl,λ_=>mm⟩ ff H3 (lD.free BN) (lD.trans g3) (by rw[sV,mG rfl];rfl)
 have nk:k≠bF:=λz=>XO (z▸hk);refine lO (λσ H6=>aj H H6/\∃i:Nat,i<ps.length/\σ=[some (.ref nl),some (.ref sd),some (.ref dr),some (.int (xs.length:Int)),some (.str k),some (.str (av ps i)),none]) (λnM eT=>?_) ?_
 ·refine⟨_,rfl,rfl,_,rfl,bI (λ_=>?_) (λ_=>aW (eT _ _ ⟨lD,_,at_ _,rfl⟩))⟩;refine⟨_,rfl,_,rfl,_,rfl,dr,_,_,_,rfl,rfl,ak.of (lD _ _ hd),rfl,nl,sd,ps,d1,"man",rfl,lD _ _ hn,lD _ _ hs,nd,p0,pm,λi hi H3 g3=>bg (eT _ _ ⟨lD.trans g3,i,hi,rfl⟩)⟩
 rintro σ H6 ⟨g6,i,hi,rfl⟩;refine cq ?_;refine⟨by show 4<=sizeLine;omega,λwl H7 SV g7 xC=>⟨_,rfl,dr,_,_,_,rfl,rfl,ak.of (g7 _ _ (g6 _ _ hd)),rfl,wl,_,_,_,rfl,rfl,ak.of xC,ew,?_⟩⟩;have yr:=g6.trans g7;refine⟨_,rfl,_,rfl,_,rfl,_,rfl,_,rfl,dr,_,_,_,rfl,rfl,ak.of (yr _ _ hd),rfl,_,rfl,nl,sd,ps,d2,wt,rfl,yr _ _ hn,yr _ _ hs,nd,p0,pm,λj hj H8 g8=>⟨by show 3<=sizeLine;omega,λff H9 BN g9 sV=>?_⟩⟩;obtain⟨ft,tl⟩:=Zar gd hk;exact q ⟨k,i,(j:Int),tn⟩ ⟨⟨hi,λ_=>⟨⟨by show(0:Int)<=(j:Int);omega,hj⟩,ft,tl⟩⟩,.inr hk,λz=>absurd z nk⟩ ff H9 (yr.free (g8.free BN)) ((yr.trans g8).trans g9) (by rw[sV,iK nk];rfl)
end
def kr(n:Nat):List Nat:=if n<10 then[48+n] else[48+n/10,48+n % 10]
def ku(n:Nat):Str:=.ofString (toString (n:Int))
theorem Fg:∀n<61,(ku n).cps.toList=kr n:=by decide+kernel
def fE(k z:Nat):Nat:=if z/3 % 3=1 then 9 else(k*z+z) % 5
def kz(m:Nat):Str:=Txt.mul "q" (m:Int)
theorem ZbL:∀m<10,(kz m).cps.toList=List.replicate m 113:=by decide+kernel
def sW:Str:="abcdefghijklmnopqrstuvwxyz"
theorem FI:∀i<26,dw sW.cps.toList ((i:Nat):Int)=some (97+i):=by decide+kernel
def pI(i:Nat):Str:=⟨#[97+i]⟩
def dm(z k:Nat):Str:=if z % 3=0 then(pI ((k*7+z) % 26)++ku (k/26))++kz (fE k z) else if z % 3=1 then(pI (z % 26)++kz (fE k z))++ku ((k*17+z) % 61) else(pI (z % 26)++ku ((k*17+z) % 61))++kz (fE k z)
theorem FJ(k z:Nat):fE k z<10:=by
 unfold fE;split<;>omega
theorem ug(a b:Str):(a++b).cps.toList=a.cps.toList++b.cps.toList:=Array.toList_append
theorem Ez(z k:Nat)(hk:k<60):(dm z k).cps.toList=if z % 3=0 then[97+(k*7+z) % 26,48+k/26]++List.replicate (fE k z) 113 else if z % 3=1 then(97+z % 26)::(List.replicate (fE k z) 113++kr ((k*17+z) % 61)) else(97+z % 26)::(kr ((k*17+z) % 61)++List.replicate (fE k z) 113):=by
 have f:=ZbL _ (FJ k z);unfold dm;split
 ·rw[ug,ug,f,Fg _ (by omega)];unfold kr;rw[if_pos (by omega)];rfl
 split
 ·rw[ug,ug,f,Fg _ (by omega)];rfl
 ·rw[ug,ug,f,Fg _ (by omega)];rfl
def JN(l:List Nat):Nat:=l.foldl (λa c=>10*a+(c-48)) 0
theorem z8:JN (kr n)=n:=by
 unfold kr;split
 ·show 10*0+(48+n-48)=n;omega
 ·show 10*(10*0+(48+n/10-48))+(48+n % 10-48)=n;omega
theorem OZ(h:n<61):∀c∈kr n,48<=c/\c<58:=by
 unfold kr
 grind
theorem yO(h:n<61):(kr n).filter (λc=>decide (c<58))=kr n:=List.filter_eq_self.mpr λc hc=>decide_eq_true (OZ h c hc).2
theorem yP(m:Nat):(List.replicate m 113).filter (λc=>decide (c<58))=[]:=by
 grind
theorem Zt(hk:k<60)(xP:k'<60)(e:dm z k=dm z k'):k=k':=by
 have e:(dm z k).cps.toList=(dm z k').cps.toList:=by rw[e]
 rw[Ez z k hk,Ez z k' xP] at e;by_cases h0:z % 3=0
 ·rw[if_pos h0,if_pos h0] at e;injection e with e1 e;injection e with e2 _;omega
 rw[if_neg h0,if_neg h0] at e;have key:(k*17+z) % 61=(k'*17+z) % 61->k=k':=λh=>by omega
 by_cases h1:z % 3=1
 ·rw[if_pos h1,if_pos h1] at e;injection e with _ e;have e2:=congrArg (List.filter λc=>decide (c<58)) e;rw[Wt,Wt,yP,yP,yO (by omega),yO (by omega),RJ,RJ] at e2;have e3:=congrArg JN e2;rw[z8,z8] at e3;exact key e3
 ·rw[if_neg h1,if_neg h1] at e;injection e with _ e;have e2:=congrArg (List.filter λc=>decide (c<58)) e;rw[Wt,Wt,yP,yP,yO (by omega),yO (by omega),Wh,Wh] at e2;have e3:=congrArg JN e2;rw[z8,z8] at e3;exact key e3
theorem O0:∀i<26,fL oo (97+i)=true/\fL lP (97+i)=true:=by decide+kernel
theorem O1:∀i<10,fL lP (48+i)=true:=by decide+kernel
theorem Ze_:fL lP 113=true:=by decide+kernel
theorem X0(hk:k<60):rQ (dm z k)=true/\(dm z k).length<=12:=by
 have fl:=FJ k z;have rep:(List.replicate (fE k z) 113).all (fL lP)=true:=Wp.mpr λc hc=>by rw[List.eq_of_mem_replicate hc];exact Ze_
 have dg:∀n,n<61->(kr n).all (fL lP)=true/\(kr n).length<=2:=λn hn=>by
  refine⟨Wp.mpr λc hc=>?_,?_⟩
  ·have:=OZ hn c hc;have e:=O1 (c-48) (by omega)
   grind
  ·unfold kr;split<;>simp
 have len:(dm z k).length=(dm z k).cps.toList.length:=rfl;have c:=Ez z k hk;have main:∃(i:Nat) (r:List Nat),i<26/\(dm z k).cps.toList=(97+i)::r/\r.length<=11/\r.all (fL lP)=true:=by
  by_cases h0:z % 3=0
  ·rw[if_pos h0] at c;refine⟨_,_,by omega,c,?_,?_⟩
   ·show((48+k/26)::List.replicate (fE k z) 113).length<=11
    grind
   ·show((48+k/26)::List.replicate (fE k z) 113).all (fL lP)=true;rw[Ji,rep,O1 _ (by omega)];rfl
  grind
 obtain⟨i,r,hi,e,lr,ar⟩:=main;have Bv:(dm z k).length<=12:=by
  grind
 refine⟨?_,Bv⟩;rw[LB e,decide_eq_true Bv,(O0 i hi).1,Ji,(O0 i hi).2,ar];rfl
theorem ZbM:∀m<10,(kz m).length<=9:=by decide+kernel
theorem NN:∀n<61,(ku n).length<=2:=by decide+kernel
theorem Fh(a b:Str):(a++b).length=a.length+b.length:=Array.size_append
inductive O2(vs:List V)(H:Hp)(Q:VK)(E:XK):Prop
 |mk (k z:Nat) (aE:vs=[.int (k:Int),.int (z:Int)]) (hk:k<60) (hz:z<97) (q:Q (.str (dm z k)) H)
section
variable {K:ai}{mg:aX}
abbrev GO:List Str:=["_law_k","_law_salt"]
theorem vX:aQ ["_law_k","_law_salt","_law_letters","_law_fill","_law_number"] GO (aK DY):=.a8
theorem W_(F:aL K "_law_name" "_law_name" DY f fd)(bl:Bl mg):aH P w K mg base aM 1 f fd GO O2:=by
 refine F.o vX λs H hr h=>?_;obtain⟨k,z,rfl,hk,hz,q⟩:=h;refine⟨_,(aq (bY 2 vX.nd bu) (aq (bY 3 vX.nd (aV M9 bu (aV dW (aV fP (aV lN (pv 0) (pv 1)) (pv 1)) aF))) (aq (bY 4 vX.nd (aV dW (aV fP (aV lN (pv 0) aF) (pv 1)) aF)) (aq (aR (bC ck (aV dW (aV wo (pv 1) aF) aF) aF) (au (bY 3 vX.nd (aV M9 bu aF))) aY) (aq (aR (bC ck (aV dW (pv 1) aF) aF) (au (aG (aV tQ (aV tQ (aP wB (pv 2) (aV dW (aV fP (aV lN (pv 0) aF) (pv 1)) aF)) (eR C0 rfl bl.wM wD (aa (aV wo (pv 0) aF) ag))) (pv 3)))) aY) (aq (aR (bC ck (aV dW (pv 1) aF) aF) (au (aG (aV tQ (aV tQ (aP wB (pv 2) (aV dW (pv 1) aF)) (pv 3)) (eR C0 rfl bl.wM wD (aa (pv 4) ag))))) aY) (au (aG (aV tQ (aV tQ (aP wB (pv 2) (aV dW (pv 1) aF)) (eR C0 rfl bl.wM wD (aa (pv 4) ag))) (pv 3)))))))))),?_⟩;have cm:wX (k:Int) (z:Int):=.inl ⟨by omega,by omega⟩;have Ti:∀j:Int,wX (k:Int) j:=λj=>.inl ⟨by omega,by omega⟩;have c3:Gb (z:Int) 3:=⟨by omega,by omega⟩;have c26:Gb (k:Int) 26:=⟨by omega,by omega⟩;have sz:(10000:Nat)<=sizeLine:=by rw[sizeLine_eq];omega
 have Tj:((k:Int)*17+(z:Int)) % 61=(((k*17+z) % 61:Nat):Int):=by omega
 have m26:((k:Int)*7+(z:Int)) % 26=(((k*7+z) % 26:Nat):Int):=by omega
 have Tn:(z:Int) % 26=((z % 26:Nat):Int):=by omega
 have d26:(k:Int)/26=((k/26:Nat):Int):=by omega
 have e5:((k:Int)*(z:Int)+(z:Int)) % 5=(((k*z+z) % 5:Nat):Int):=by rw[Int.natCast_emod,Int.natCast_add,Int.natCast_mul];rfl
 refine setC ?_;refine cq ?_;refine⟨_,rfl,_,rfl,_,_,rfl,rfl,cm,_,rfl,_,_,rfl,rfl,_,_,rfl,rfl,by omega,"q",(k*z+z) % 5,rfl,congrArg V.int e5,by decide+kernel,by omega,?_⟩;refine cq ?_;refine⟨_,rfl,_,_,rfl,rfl,Ti _,_,rfl,_,_,rfl,rfl,_,_,rfl,rfl,by omega,?_⟩;refine lO (λσ H6=>H6=H/\σ=[some (.int (k:Int)),some (.int (z:Int)),some (.str sW),some (.str (kz (fE k z))),some (.int (((k*17+z) % 61:Nat):Int))]) (λnM eT=>?_) ?_
 ·refine⟨_,rfl,_,_,rfl,rfl,c3,_,_,rfl,rfl,by omega,rfl,_,rfl,bI (λc=>?_) (λc=>aW ?_)⟩
  ·have c:=V.int.inj (of_decide_eq_true c);have c1:z/3 % 3=1:=by omega
   have fe:fE k z=9:=if_pos c1;refine⟨"q",9,rfl,rfl,by decide+kernel,by omega,bg (eT _ _ ⟨rfl,?_⟩)⟩;rw[fe,←Tj];rfl
  ·have c1:¬z/3 % 3=1:=λw=>c (decide_eq_true (congrArg V.int (by omega)));have fe:fE k z=(k*z+z) % 5:=if_neg c1;refine eT _ _ ⟨rfl,?_⟩;rw[fe,←Tj];rfl
 rintro σ H6 ⟨rfl,rfl⟩;have ls:=ZbM _ (FJ k z);have ll:sW.length<=sizeLine:=Y6 (show sW.length<=100 by decide+kernel) (by omega);have lg:∀n:Nat,n<61->(n:Int).natAbs.log2<1920:=λn hn=>Jc (Nat.log2_le_self _) (by omega);refine⟨_,rfl,_,_,rfl,rfl,by omega,rfl,_,rfl,bI (λc=>?_) (λc=>aW ?_)⟩
 ·have h0:z % 3=0:=by have:=V.int.inj (of_decide_eq_true c);omega
  have ld:=NN (k/26) (by omega);refine⟨_,rfl,_,rfl,_,_,rfl,rfl,Ti _,_,rfl,_,_,rfl,rfl,_,_,rfl,rfl,by omega,sW,_,_,rfl,congrArg V.int m26,ll,FI _ (by omega),_,rfl,_,_,rfl,rfl,c26,((k/26:Nat):Int),congrArg (λi=>[V.int i]) d26,lg _ (by omega),_,_,rfl,rfl,?_,_,rfl,_,_,rfl,rfl,?_,?_⟩
  ·show 1+(ku (k/26)).length<=sizeLine;omega
  ·show(pI ((k*7+z) % 26)++ku (k/26)).length+(kz (fE k z)).length<=sizeLine;rw[Fh];show 1+_+_<=_;omega
  ·have e:dm z k=(pI ((k*7+z) % 26)++ku (k/26))++kz (fE k z):=if_pos h0;rw[e] at q;exact q
 have h0:¬z % 3=0:=λw=>c (decide_eq_true (congrArg V.int (by omega)));have ld:=NN ((k*17+z) % 61) (by omega);refine⟨_,rfl,_,_,rfl,rfl,by omega,rfl,_,rfl,bI (λc=>?_) (λc=>aW ?_)⟩
 ·have h1:z % 3=1:=by have:=V.int.inj (of_decide_eq_true c);omega
  refine⟨_,rfl,_,rfl,_,_,rfl,rfl,by omega,sW,_,_,rfl,congrArg V.int Tn,ll,FI _ (by omega),_,rfl,_,_,rfl,rfl,?_,_,rfl,_,rfl,lg _ (by omega),_,_,rfl,rfl,?_,?_⟩
  ·show 1+(kz (fE k z)).length<=sizeLine;omega
  ·show(pI (z % 26)++kz (fE k z)).length+(ku ((k*17+z) % 61)).length<=sizeLine;rw[Fh];show 1+_+_<=_;omega
  ·have e:dm z k=(pI (z % 26)++kz (fE k z))++ku ((k*17+z) % 61):=(if_neg h0).trans (if_pos h1);rw[e] at q;exact q
 have h1:¬z % 3=1:=λw=>c (decide_eq_true (congrArg V.int (by omega)));refine⟨_,rfl,_,rfl,_,_,rfl,rfl,by omega,sW,_,_,rfl,congrArg V.int Tn,ll,FI _ (by omega),_,rfl,_,rfl,lg _ (by omega),_,_,rfl,rfl,?_,_,rfl,_,_,rfl,rfl,?_,?_⟩
 ·show 1+(ku ((k*17+z) % 61)).length<=sizeLine;omega
 ·show(pI (z % 26)++ku ((k*17+z) % 61)).length+(kz (fE k z)).length<=sizeLine;rw[Fh];show 1+_+_<=_;omega
 ·have e:dm z k=(pI (z % 26)++ku ((k*17+z) % 61))++kz (fE k z):=(if_neg h0).trans (if_neg h1);rw[e] at q;exact q
end
inductive PR(C CL CJ:Addr)(vs:List V)(H:Hp)(Q:VK)(E:XK):Prop
 |mk (l:BL) (b:BS) (xs ys:List Int) (c:Fc) (ff:Addr) (aE:vs=[.ref l.h,.ref ff]) (ba:bj H C CL CJ l xs ys b) (ok:cM xs ys b) (hf:H ff=some (.tup [.str c.k,.str (av b.ps c.one),kV (a_ b.ps c)])) (fg:eM xs ys b.ps.length c) (lim:b.fs.length<63) (hw:mY xs.length b c="") (dl:b.dn.length<200) (q:∀(l':BL) (H':Hp),cy H H' l l'->bj H' C CL CJ l' xs ys (b.wU c)->Q (.int (b.co:Int)) H')
structure fN(C CL CJ:Addr)(H:Hp)(xs ys:List Int)(z j:Nat)(td:Addr)(l:BL)(b:BS)(nl sd fl st:Addr):Prop where
 ba:bj H C CL CJ l xs ys b
 ok:cM xs ys b
 names:H nl=some (.lst (iH b.ps))
 n1:nl∉l.fp
 cV:H sd=some (.dK (fV b.ps))
 n2:sd∉l.fp
 facts:∃as:List Addr,H fl=some (.lst (as.map V.ref))/\Paired (di H b.ps) as b.fs
 n3:fl∉l.fp
 tup:H st=some (.tup [.ref nl,.ref sd,.ref fl,.int (b.co:Int)])
 turns:g_ H td xs ys
 n4:td∉l.fp
 nm:b.ps.map (·.1)=(List.range b.ps.length).map (dm z)
 so:(b.fs.map (·.1)).Pairwise (·<·)
 cp:b.ps.length<=j
 cf:b.ps.length+b.fs.length<=j
 cd:b.dn.length<=j
section
variable {H H':Hp}{xs ys:List Int}{z j:Nat}{td:Addr}{l l':BL}{b b':BS}{nl sd fl st:Addr}
theorem fN.same(g:aj H H')(s:fN C CL CJ H xs ys z j td l b nl sd fl st):fN C CL CJ H' xs ys z j td l b nl sd fl st:=
 ⟨s.ba.same g,s.ok,g _ _ s.names,s.n1,g _ _ s.cV,s.n2,let⟨as,h1,h2⟩:=s.facts;⟨as,g _ _ h1,L2.Paired.bB h2 λ_ _ e=>g _ _ e⟩,s.n3,g _ _ s.tup,s.turns.same g,s.n4,s.nm,s.so,s.cp,s.cf,s.cd⟩
theorem fN.more(s:fN C CL CJ H xs ys z j td l b nl sd fl st):fN C CL CJ H xs ys z (j+1) td l b nl sd fl st:=
 ⟨s.ba,s.ok,s.names,s.n1,s.cV,s.n2,s.facts,s.n3,s.tup,s.turns,s.n4,s.nm,s.so,W8 s.cp,W8 s.cf,W8 s.cd⟩
theorem fN.FL(s:fN C CL CJ H xs ys z j td l b nl sd fl st):FL H b.ps fl b.F:=by
 obtain⟨as,h1,h2⟩:=s.facts;refine⟨as,h1,?_⟩;have:∀{as:List Addr} {fs:List (Nat×Fc)},Paired (di H b.ps) as fs->Paired (IY H b.ps) as (fs.map (·.2)):=λh=>by
  induction h with
  |nil=>exact .nil
  |cons e _ ih=>exact .cons ⟨_,e⟩ ih
 exact this h2
theorem cy.off(w:cy H H' l l')(h:H a=some o)(n:a∉l.fp):H' a=some o/\a∉l'.fp:=
 ⟨w.out _ _ h n,λz=>(w.grow a z).elim n λq=>by rw[h] at q;cases q⟩
theorem cy.bP(w:cy H H' l l')(ba:bj H C CL CJ l xs ys b)(h:H a=some (.tup us)):H' a=some (.tup us):=w.out _ _ h (ba.tup h)
theorem cy.g_(w:cy H H' l l')(ba:bj H C CL CJ l xs ys b)(h:g_ H td xs ys)(n:td∉l.fp):g_ H' td xs ys:=by
 obtain⟨m,f,w1,s,h1,h2,h3,h4,h5⟩:=h;exact⟨m,f,w1,s,w.out _ _ h1 n,w.bP ba h2,w.bP ba h3,w.bP ba h4,w.bP ba h5⟩
theorem yZ(w:cy H H' l l')(ba:bj H C CL CJ l xs ys b)(h:Paired (di H ps) as fs):Paired (di H' ps) as fs:=L2.Paired.bB h λ_ _ e=>w.bP ba e
theorem bj.fresh(ba:bj H C CL CJ l xs ys b)(h:H a=none):a∉l.fp:=λz=>ba.there z h
theorem di.ext(fg:eM xs ys ps.length p.2)(h:di H ps a p):di H (ps++[(n,s)]) a p:=by
 have e1:∀i,i<ps.length->av (ps++[(n,s)]) i=av ps i:=λi hi=>by
  unfold av
  grind
 unfold di dQ at h⊢;have e2:a_ (ps++[(n,s)]) p.2=a_ ps p.2:=by
  by_cases k:p.2.k=bF;·rw[mG k,mG k]
  ·rw[iK k,iK k,e1 _ (fg.ok.gI k).1.2]
 rw[e1 _ fg.ok.one,e2];exact h
theorem fN.fresh(s:fN C CL CJ H xs ys z j td l b nl sd fl st)(h60:j<60)(vK:Str)(hs:FG vK=true):Gy b (dm z b.ps.length) vK:=by
 have c:=s.cp;obtain⟨f1,f2⟩:=X0 (k:=b.ps.length) (by omega);refine⟨f1,hs,λm=>?_,by omega,by omega⟩;rw[s.nm] at m;obtain⟨i,hi,e⟩:=Yf.mp m;have hi:=Wl.mp hi;have:=Zt (by omega) (by omega) e;omega
theorem nm_more(h:b.ps.map (·.1)=(List.range b.ps.length).map (dm z))(s:Str):(b.ps++[(dm z b.ps.length,s)]).map (·.1)=(List.range (b.ps++[(dm z b.ps.length,s)]).length).map (dm z):=by
 rw[Yq,h,Yl];show _++[dm z b.ps.length]=(List.range (b.ps.length+1)).map (dm z);rw[Rx,Yq];rfl
end
inductive NO(C CL CJ:Addr)(vs:List V)(H:Hp)(Q:VK)(E:XK):Prop
 |mk (xs ys:List Int) (z j:Nat) (cell:Int) (td:Addr) (l:BL) (b:BS) (nl sd fl st:Addr) (aE:vs=[.ref l.h,.ref st,.int cell,.ref td,.int (z:Int)]) (si:fN C CL CJ H xs ys z j td l b nl sd fl st) (hz:z<97) (hj:j<60) (q:∀(l':BL) (b':BS) (JO vK u6 aN:Addr) (H':Hp),cy H H' l l'->fN C CL CJ H' xs ys z (j+1) td l' b' JO vK u6 aN->0<b'.ps.length->Q (.ref aN) H')
theorem Xa{P Q:α->β->Prop}(h:∀a b,b∈bs->P a b->Q a b)(p:Paired P as bs):Paired Q as bs:=by
 induction p with
 |nil=>exact .nil
 |cons e _ ih=>exact .cons (h _ _ Yg e) (ih λa b hb=>h a b (Ys _ hb))
theorem X1(fs:List α)(p:α->Bool):((List.range fs.length).filter λi=>(fs[i]?.map p).getD false).map (λi=>fs[i]?)=(fs.filter p).map some:=by
 have e:(List.range fs.length).map (λi=>fs[i]?)=fs.map some:=Wj λi=>by
  grind
 have h:=Jy (f:=λi=>fs[i]?) (l:=List.range fs.length) (p:=λo:Option α=>(o.map p).getD false);rw[e,Jy] at h;exact h.symm
theorem NP:∀{l:List (Nat×α)},(l.map (·.1)).Nodup->∀{p q:Nat×α},p∈l->q∈l->p.1=q.1->p=q
 |[],_,_,_,h,_,_=>nomatch h
 |a::l,nd,p,q,hp,hq,e=>by
  obtain⟨n1,n2⟩:=Yy.mp (show(a.1::l.map (·.1)).Nodup from nd);rcases Yn.mp hp with e1|h1<;>rcases Yn.mp hq with e2|h2;·rw[e1,e2]
  ·grind
  ·grind
  ·exact NP n2 h1 h2 e
theorem O3(ks:List Key):(ks.map kV).all nF=true:=by
 rw[Wp];intro v hv;obtain⟨k,_,rfl⟩:=Yf.mp hv;cases k<;>rfl
theorem ZbN:∃s:Str,dw [V.str "man",V.str "woman"] (d % 2)=some (.str s)/\FG s=true:=by
 have:d % 2=0\/d % 2=1:=by omega
 rcases this with e|e<;>rw[e];·exact⟨_,rfl,by decide+kernel⟩
 ·exact⟨_,rfl,by decide+kernel⟩
section
variable {K:ai}{mg:aX}
abbrev AE:List Str:=["_law_book","_law_fact_here"]
theorem X2:aQ AE AE (aK Ep):=.a8
theorem X3(F:aL K "_law_put" "_law_put" Ep f fd)(Dg:bT P w K mg base 12 "say" C Az (OS C CL CJ))(Dh:bT P w K mg base 12 "tie" C oN (OR C CL CJ)):aH P w K mg base aM 13 f fd AE (PR C CL CJ):=by
 refine F.o X2 λs H hr h=>?_;obtain⟨l,b,xs,ys,c,ff,rfl,ba,ok,hf,fg,lim,hw,dl,q⟩:=h;refine⟨_,(aq (aR (bC ck (aP (iT K) (pv 1) aF) bu) (au (aG (cH Dg hr (by omega) (pv 0) (aa (aP (iT K) (pv 1) aF) (aa (aP (iT K) (pv 1) aF) ag))))) aY) (au (aG (cH Dh hr (by omega) (pv 0) (aa (aP (iT K) (pv 1) aF) (aa (aP (iT K) (pv 1) aF) (aa (aP (iT K) (pv 1) aF) ag))))))),?_⟩;obtain⟨dx,ho⟩:=ba.obj;refine⟨_,rfl,ff,_,_,_,rfl,rfl,aA.of hf,rfl,rfl,_,rfl,?_⟩;rw[dY];refine bI (λcc=>?_) (λcc=>aW ?_)
 ·have sk:c.k=bF:=of_decide_eq_true cc;have eo:kV (a_ b.ps c)=.int c.aJ:=by rw[mG sk];rfl
  exact⟨_,rfl,l.h,dx,_,rfl,ho,rfl,_,rfl,ff,_,_,_,rfl,rfl,aA.of hf,rfl,_,rfl,ff,_,_,_,rfl,rfl,aA.of hf,rfl,l,b,xs,ys,c,by rw[eo];rfl,ba,ok,⟨EU ok fg lim hw,sk⟩,dl,λl' H' wt JP=>q l' H' wt JP⟩
 ·have ns:c.k≠bF:=λz=>cc (decide_eq_true z);have eo:kV (a_ b.ps c)=.str (av b.ps c.aJ.toNat):=by rw[iK ns];rfl
  exact⟨_,rfl,l.h,dx,_,rfl,ho,rfl,_,rfl,ff,_,_,_,rfl,rfl,aA.of hf,rfl,_,rfl,ff,_,_,_,rfl,rfl,aA.of hf,rfl,_,rfl,ff,_,_,_,rfl,rfl,aA.of hf,rfl,l,b,xs,ys,c,by rw[eo];rfl,ba,ok,ZaC ok fg lim hw ns,dl,λl' H' wt JP=>q l' H' wt JP⟩
abbrev GP:List Str:=["_law_book","_law_state","_law_cell_here","_law_turns_here","_law_salt"]
theorem lH:aQ ["_law_book","_law_state","_law_cell_here","_law_turns_here","_law_salt","_law_names","_law_sides","_law_facts","_law_after_here","_law_drawn","_law_name_here","_law_side","_law_fact_here","_law_out"] GP (aK D3):=.a8
theorem Xb(F:aL K "_law_step" "_law_step" D3 f fd)(kC:HasFn P w K mg base 1 "_law_draws" xR (zt K))(Eb:HasFn P w K mg base 1 "_law_name" GO O2)(Ec:HasFn P w K mg base 2 "_law_fact" GN OY)(Ed:HasFn P w K mg base 4 "_law_word" GK OV)(EA:HasFn P w K mg base 13 "_law_put" AE (PR C CL CJ))(Cq:bT P w K mg base 11 "person" C Au (Mu C CL CJ))(CY:bT P w K mg base 11 "take" C xh (OO C CL CJ))(bl:Bl mg):aH P w K mg base aM 14 f fd GP (NO C CL CJ):=by
 refine F.o lH λs H hr h=>?_;obtain⟨xs,ys,z,j,cell,td,l,b,nl,sd,fl,st,rfl,si,hz,hj,q⟩:=h;have hu:=hr.ui;refine⟨_,(aq (mP (pv 1) (iO (K:=K) (n:=4) rfl rfl (bQ (bA 5 lH.nd) (bQ (bA 6 lH.nd) (bQ (bA 7 lH.nd) (bQ (bA 8 lH.nd) iM)))))) (aq (bY 9 lH.nd (aT kC hr (aa (pv 2) (aa (dR (aa aF (aa aF (aa aF (aa aF (aa aF ag)))))) ag)))) (aq (aR (PW.pt (pw_or (bC mW (df K bl (pv 5)) aF) (pw_or1 (bC mW (aP (iL K) (pv 9) aF) aF)))) (aq (bY 10 lH.nd (aT Eb hr (aa (df K bl (pv 5)) (aa (pv 4) ag)))) (aq (bY 11 lH.nd (aP (iL K) (dR (aa bu (aa bu ag))) (aV dW (aP (iL K) (pv 9) aF) aF))) (aq (bZ (cH Cq hr (by omega) (pv 0) (aa (pv 10) (aa (pv 11) ag)))) (aq (bY 6 lH.nd (eR WK rfl bl.Zcg Zbb (aa (pv 6) ag))) (aq (oh (bw hr) (pv 6) (pv 10) (pv 11)) (au (aG (dM (aa (aV zx (pv 5) (dR (aa (pv 10) ag))) (aa (pv 6) (aa (pv 7) (aa (pv 8) ag)))))))))))) aY) (aq (aR (bC mW (aP (iL K) (pv 9) aF) aF) (aq (bY 12 lH.nd (aT Ec hr (aa (pv 5) (aa (pv 6) (aa (pv 9) (aa (df K bl (cY (bw hr) (pv 3) bu (λ_ _=>rfl))) ag)))))) (aq (aR (bC kN (aT Ed hr (aa (pv 6) (aa (pv 7) (aa (pv 3) (aa (pv 12) ag))))) bu) (au (aG (pv 1))) aY) (aq (bZ (aT EA hr (aa (pv 0) (aa (pv 12) ag)))) (au (aG (dM (aa (pv 5) (aa (pv 6) (aa (aV zx (pv 7) (dR (aa (aV ZaQ (dM (aa (pv 8) ag)) (pv 12)) ag))) (aa (aV fP (pv 8) aF) ag)))))))))) aY) (aq (aR (bC (M7 (K:=K) rfl (ZcK hu)) (pv 7) (dR ag)) (au (aG (pv 1))) aY) (aq (f_ (i:=13) lH.nd rfl (Or.inr rfl) (aP (iL K) (pv 7) (aV dW (aP (iL K) (pv 9) aF) (df K bl (pv 7))))) (aq (bZ (cH CY hr (by omega) (pv 0) (aa (aP (iT K) (pv 13) aF) ag))) (au (aG (dM (aa (pv 5) (aa (pv 6) (aa (iN (x:="_law_one") (fr:=[("_law_out",13)]) (cl:=[("_law_out",s.heap.objs.size+1)]) rfl (.gH ⟨rfl,trivial⟩ ⟨⟨rfl,.inl rfl,.inl rfl,rfl⟩,trivial⟩) (fO (K:=K) rfl (pv 7)) (λ_ _ _ _=>wu (bC (ZcX (K:=K) rfl hu) (pv 0) (pv 1))) (λ_ _ _ _=>(pv 0))) (aa (pv 8) ag)))))))))))))),?_⟩;have sz:(10000:Nat)<=sizeLine:=by rw[sizeLine_eq];omega
 refine⟨_,rfl,st,_,rfl,aA.of si.tup,rfl,_,_,rfl,bg ⟨_,_,rfl,bg ⟨_,_,rfl,bg ⟨_,_,rfl,bg ⟨rfl,?_⟩⟩⟩⟩⟩;dsimp only;refine cq ?_;refine⟨_,rfl,by show 5<=sizeLine;omega,λpp H1 np g1 hp=>⟨cell,pp,[16,61,59,8,4],rfl,ak.of hp,by decide,by decide,λdr ds H2 nd g2 h2 bd=>?_⟩⟩;obtain⟨d0,d1,d2,d3,d4,rfl,_,_,_,_,b4⟩:=Zbh bd;have lD:=g1.trans g2;have s2:=si.same lD;obtain⟨dx,ho⟩:=s2.ba.obj;have BM:=uf b.ps;have cp:=si.cp;have cf:=si.cf;have cd:=si.cd;have JH:=si.ok.m;have To:=si.ok.fl;have ix:∀{i:Int} {v:Int} {H9:Hp},aj H2 H9->dw ([d0,d1,d2,d3,d4].map V.int) i=some (.int v)->∀σ:St,σ[9]?=some (some (.ref dr))->Vt (i8 (uz K) (gn 9) (tC (V.int i))) σ H9 (.int v):=λg e σ hσ kk hk=>⟨_,hσ,dr,_,_,_,rfl,rfl,ak.of (g _ _ h2),e,hk _ (aj.refl _)⟩;refine(Bt.or (a:=decide (((iH b.ps).length:Int)<2)) (b:=decide (d0<5)) (λkk hk=>⟨_,rfl,nl,_,rfl,.inl (ak.of s2.names),_,_,rfl,rfl,_,rfl,hk _ (aj.refl _)⟩) λH3 _ g3 kk hk=>ix g3 rfl _ rfl _ λH4 g4=>⟨_,_,rfl,rfl,_,rfl,hk _ g4⟩) _ λH3 g3=>?_;have s3:=s2.same g3;have mn:=lD.trans g3;rw[BM];refine bI (λcc=>?_) (λcc=>aW ?_)
 ·refine cq ?_;refine⟨_,rfl,nl,_,rfl,.inl (ak.of s3.names),_,rfl,b.ps.length,z,by rw[BM];rfl,by omega,hz,?_⟩;refine cq ?_;obtain⟨sx,es,so⟩:=ZbN (d:=d1);refine⟨by show 2<=sizeLine;omega,λsl H4 IC g4 hsl=>ix (g3.trans g4) rfl _ rfl _ λH5 g5=>⟨_,_,rfl,rfl,by omega,sl,_,_,_,rfl,rfl,ak.of (g5 _ _ hsl),es,?_⟩⟩;have s5:=(s3.same g4).same g5;have BO:=(mn.trans g4).trans g5;obtain⟨JQ,JR⟩:=s5.ba.obj;refine⟨_,rfl,l.h,JQ,_,rfl,JR,rfl,_,rfl,_,rfl,l,b,xs,ys,dm z b.ps.length,sx,rfl,s5.ba,s5.ok,s5.fresh hj sx so,by omega,λl' H6 wt pJ=>?_⟩;have JT:=s5.fresh hj sx so;dsimp only;refine cq ?_;have off:=λ{a:Addr} {o:HO} (h:H5 a=some o) (n:a∉l.fp)=>wt.off h n;obtain⟨yt,AF⟩:=off s5.cV s5.n2;obtain⟨yu,AG⟩:=off s5.names s5.n1;obtain⟨as,nU,dI⟩:=s5.facts;obtain⟨vL,GQ⟩:=off nU s5.n3;refine⟨_,rfl,sd,_,rfl,yt,λs' H7 cv g7 pd=>?_⟩;have vn:aS (fV b.ps) (.inr (dm z b.ps.length))=none:=qX λhm=>JT.new (by
   obtain⟨p,hp,e⟩:=Yf.mp hm;obtain⟨p',hp',rfl⟩:=Yf.mp hp;exact Yf.mpr ⟨p',hp',Wf e⟩)
  refine⟨_,rfl,_,rfl,_,rfl,s',_,.inr (dm z b.ps.length),rfl,pd,rfl,by rw[Ya];omega,λH8 b8 e8=>?_⟩;have kA:aj H6 H8:=λc o e=>b8 _ _ (g7 _ _ e) (bO e cv);rw[kG _ vn] at e8;refine⟨_,rfl,_,rfl,by show 1<=sizeLine;omega,λt H9 nt g9 ht=>⟨nl,t,_,_,rfl,rfl,g9 _ _ (kA _ _ yu),ht,by rw[BM];show _+1<=_;omega,λn' HA nn' gA uM=>⟨_,rfl,_,rfl,_,rfl,by show 4<=sizeLine;omega,λaN HB qF gB dZ=>?_⟩⟩⟩;have yv:=(g9.trans gA).trans gB;have lE:=kA.trans yv;have pe:(b.F2 (dm z b.ps.length) sx).ps=b.ps++[(dm z b.ps.length,sx)]:=rfl;obtain⟨tm,tf,tw,ts,gG,_⟩:=id s5.turns;refine q l' (b.F2 (dm z b.ps.length) sx) n' s' fl aN HB ((cy.after BO wt).same lE) ⟨pJ.same lE,si.ok.ZeQ JT.new JT.lim (Ye _) (by rw[Yl];show _+1<=200;omega) (Yw _),?_,((pJ.same kA).same g9).fresh nn',?_,pJ.fresh cv,⟨as,lE _ _ vL,?_⟩,GQ,dZ,(wt.g_ s5.ba s5.turns s5.n4).same lE,(off gG s5.n4).2,nm_more si.nm sx,si.so,?_,?_,?_⟩ (by rw[pe,Yl];exact Nat.succ_pos _)
  ·rw[gB _ _ uM,pe,iH,iH,Yq];rfl
  ·rw[yv _ _ e8,pe];show _=some (HO.dK ((b.ps++[(dm z b.ps.length,sx)]).map _));rw[Yq];rfl
  ·have:=yZ wt s5.ba dI;refine Xa (λa p hp e=>?_) this;exact di.ext (si.ok.fg p hp) (lE _ _ e)
  ·rw[pe,Yl];show _+1<=_;omega
  ·rw[pe,Yl];show _+1+b.fs.length<=_;omega
  ·show(b.dn++[_]).length<=_;rw[Yl];show _+1<=_;omega
 have p0:0<b.ps.length:=by
  rw[JE,decide_eq_true_iff] at cc;omega
 refine⟨_,rfl,dr,_,_,_,rfl,rfl,ak.of (g3 _ _ h2),rfl,_,_,rfl,rfl,_,rfl,?_⟩;refine bI (λcc2=>?_) (λcc2=>aW ?_)
 ·refine cq ?_;obtain⟨tm,tf,tw,u0,gG,_,_,_,vI⟩:=id s3.turns;refine⟨_,rfl,_,rfl,_,rfl,_,rfl,td,.ref u0,rfl,cU gG rfl,u0,_,rfl,.inr (aA.of vI),nl,sd,dr,b.ps,xs,ys,d0,d1,d2,d3,d4,by rw[Ya,eQ];rfl,s3.names,s3.cV,si.ok.nm,p0,by omega,g3 _ _ h2,b4,si.ok.gd,λc fg ff H4 BN g4 sV=>?_⟩;have s4:=s3.same g4;refine⟨_,rfl,_,rfl,_,rfl,_,rfl,sd,fl,td,ff,xs,ys,b,c,rfl,s4.cV,s4.FL,s4.turns,sV,si.ok,fg,λH5 g5=>⟨rfl,_,rfl,?_⟩⟩;have s5:=s4.same g5;have BO:=(mn.trans g4).trans g5;rw[dY];refine bI (λcw=>?_) (λcw=>aW ?_);·exact⟨_,rfl,q l b nl sd fl st H5 (cy.of BO) s5.more p0⟩
  have hw:mY xs.length b c="":=by
   by_cases e:mY xs.length b c="";·exact e
   ·rw[decide_eq_false e] at cw;exact absurd rfl cw
  have nf:=EU si.ok fg (by omega) hw;refine⟨_,rfl,_,rfl,l,b,xs,ys,c,ff,rfl,s5.ba,si.ok,g5 _ _ sV,fg,by omega,hw,by omega,λl' H6 wt pJ=>?_⟩;have off:=λ{a:Addr} {o:HO} (h:H5 a=some o) (n:a∉l.fp)=>wt.off h n;obtain⟨yt,AF⟩:=off s5.cV s5.n2;obtain⟨yu,AG⟩:=off s5.names s5.n1;obtain⟨as,nU,dI⟩:=s5.facts;obtain⟨vL,GQ⟩:=off nU s5.n3;have ff6:=wt.bP s5.ba (g5 _ _ sV);have al:=cX dI;refine⟨_,rfl,_,rfl,_,rfl,_,rfl,by show 1<=sizeLine;omega,λt1 H7 nt1 g7 JJ=>⟨_,rfl,t1,ff,_,_,rfl,rfl,aA.of JJ,aA.of (g7 _ _ ff6),by simp,by show 1+3<=sizeLine;omega,λe=>(by cases e),λ_ t2 nt2=>?_⟩⟩;obtain⟨H8,e8⟩:∃H8,H8=upd H7 t2 (.tup ([V.int (b.co:Int)]++[V.str c.k,V.str (av b.ps c.one),kV (a_ b.ps c)])):=⟨_,rfl⟩;have g8:aj H7 H8:=by rw[e8];exact cz nt2 _
  have ht2:di H8 b.ps t2 (b.co,c):=by
   show H8 t2=_;rw[e8,aI];rfl
  rw[←e8];have kA:=g7.trans g8;refine⟨by show 1<=sizeLine;omega,λl1 H9 nl1 g9 hl1=>⟨fl,l1,_,_,rfl,rfl,g9 _ _ (kA _ _ vL),hl1,by rw[Ya];show _+1<=_;omega,λu6 HA AH gA Zfa=>⟨_,rfl,_,_,rfl,rfl,by show 4<=sizeLine;omega,λaN HB qF gB dZ=>?_⟩⟩⟩;have yv:=(g9.trans gA).trans gB;have lE:=kA.trans yv;obtain⟨tm,tf,tw,ts,GR,_⟩:=id s5.turns;have Tp:=si.ok.lt;refine q l' (b.wU c) nl sd u6 aN HB ((cy.after BO wt).same lE) ⟨pJ.same lE,?_,lE _ _ yu,AG,lE _ _ yt,AF,⟨as++[t2],?_,?_⟩,((pJ.same kA).same g9).fresh AH,dZ,(wt.g_ s5.ba s5.turns s5.n4).same lE,(off GR s5.n4).2,si.nm,?_,W8 cp,?_,?_⟩ p0
  ·exact si.ok.ZeR fg (λm=>by
    obtain⟨p,hp,e⟩:=Yf.mp m;have:=Tp p hp;omega) nf.nk nf.np nf.lv (by omega) (co:=b.co+1) (Nat.le_succ _) (Wg _) (by rw[Yl];show _+1<=200;omega) (Yw _)
  ·rw[gB _ _ Zfa,Yq];rfl
  ·exact jB (F:=di HB b.ps) (yv _ _ ht2) (L2.Paired.bB (yZ wt s5.ba dI) λ_ _ e=>lE _ _ e)
  ·show((b.fs++[(b.co,c)]).map (·.1)).Pairwise _;rw[Yq];refine List.pairwise_append.mpr ⟨si.so,by simp,λu hu v hv=>?_⟩;obtain⟨p,hp,rfl⟩:=Yf.mp hu;have:v=b.co:=by simpa using hv
   rw[this];exact Tp p hp
  ·show _+(b.fs++[_]).length<=_;rw[Yl];show b.ps.length+(_+1)<=_;omega
  ·show(b.dn++[_]).length<=_;rw[Yl];show _+1<=_;omega
 obtain⟨as,nU,dI⟩:=s3.facts;have al:=cX dI;refine⟨_,rfl,by show 0<=sizeLine;omega,λe0 H4 yo g4 x9=>⟨fl,e0,_,rfl,rfl,ak.of (g4 _ _ nU),ak.of x9,_,rfl,bI (λce=>?_) (λce=>aW ?_)⟩⟩;·exact⟨_,rfl,q l b nl sd fl st H4 (cy.of (mn.trans g4)) (s3.same g4).more p0⟩
 refine cq ?_;have s4:=s3.same g4;have f0:0<as.length:=by
  cases e:as with
  |nil=>rw[e] at ce;exact absurd rfl ce
  |cons _ _=>exact Nat.succ_pos _
 have mi:=uq (z:=d1) f0;refine⟨_,rfl,ix (g3.trans g4) rfl _ rfl _ λH5 g5=>?_⟩;have s5:=s4.same g5;have GS:=g5 _ _ (g4 _ _ nU);obtain⟨i,ei⟩:∃i:Nat,d1 % (as.length:Int)=(i:Int):=⟨(d1 % (as.length:Int)).toNat,by omega⟩;have hi:i<as.length:=by omega
 obtain⟨ao,Tq⟩:∃ao,as[i]?=some ao:=⟨_,Yb hi⟩;obtain⟨⟨z0,c0⟩,Tr,IW⟩:=fX dI Tq;have QP:=g5 _ _ (g4 _ _ IW);refine⟨_,rfl,fl,_,rfl,.inl (ak.of GS),_,_,rfl,rfl,by rw[Ya];omega,fl,_,_,.ref ao,rfl,rfl,ak.of GS,?_,?_⟩
 ·rw[Ya,ei];exact gM (by rw[Yd,Tq];rfl)
 obtain⟨JQ,JR⟩:=s5.ba.obj;refine⟨_,rfl,l.h,JQ,_,rfl,JR,rfl,_,rfl,ao,_,_,_,rfl,rfl,aA.of QP,rfl,l,b,xs,ys,z0,c0,rfl,s5.ba,si.ok,Yh Tr,by omega,λl' H6 wt pJ=>?_⟩;have off:=λ{a:Addr} {o:HO} (h:H5 a=some o) (n:a∉l.fp)=>wt.off h n;obtain⟨yt,AF⟩:=off s5.cV s5.n2;obtain⟨yu,AG⟩:=off s5.names s5.n1;obtain⟨vL,GQ⟩:=off GS s5.n3;have Zfb:Paired (di H5 b.ps) as b.fs:=L2.Paired.bB dI λ_ _ e=>g5 _ _ (g4 _ _ e);have QQ:=yZ wt s5.ba Zfb;have al5:=cX dI;have ao6:=wt.bP s5.ba QP;refine⟨_,rfl,_,rfl,_,rfl,fl,rfl,⟨_,ak.of vL⟩,λD hD=>?_⟩;have qe:∀p∈b.fs,p.1=z0->p=(z0,c0):=λp hp e=>NP si.ok.zs hp (Yh Tr) e;refine yH (K:=K) (ak.of vL) (by rw[Ya];omega) hD (λi=>(b.fs[i]?.map λp=>decide (p.1≠z0)).getD false) (λi y _=>∃a,as[i]?=some a/\y=.ref a) (λ_ _ _ _ _ h=>h) (λi v hi H7 g7 _ Kt Kf kt kf=>?_) λus H7 g7 h7 pr=>?_
 ·rw[Yd] at hi;obtain⟨a,ea,rfl⟩:∃a,as[i]?=some a/\V.ref a=v:=by
   cases e:as[i]? with
   |none=>rw[e] at hi;cases hi
   |some c=>rw[e] at hi;exact⟨c,rfl,Ym hi⟩
  obtain⟨p,ep,hp⟩:=fX QQ ea;have mp:=Yh ep;have pb:(b.fs[i]?.map λp=>decide (p.1≠z0)).getD false=decide (p.1≠z0):=by rw[ep];rfl
  rw[pb] at kt kf;refine⟨_,rfl,_,rfl,a,ao,_,_,rfl,rfl,aA.of (g7 _ _ hp),aA.of (g7 _ _ ao6),O3 _,O3 _,_,rfl,?_⟩;have ed:(!decide ((dQ b.ps p.1 p.2).map kV=(dQ b.ps z0 c0).map kV))=decide (p.1≠z0):=by
   by_cases e:p.1=z0
   ·rw[qe p mp e];simp
   ·rw[decide_eq_true e,decide_eq_false (λh=>e ?_)];·rfl
    ·injection h with h1 _;have:=V.int.inj h1;omega
  show(if(!decide ((dQ b.ps p.1 p.2).map kV=(dQ b.ps z0 c0).map kV))=true then _ else _);rw[ed];cases e:decide (p.1≠z0) with
  |true=>exact cW ⟨_,rfl,kt _ H7 e (aj.refl _) ⟨a,ea,rfl⟩⟩
  |false=>exact bR (kf H7 e (aj.refl _))
 rw[Ya,al5] at pr;obtain⟨gF,rfl,Zfc⟩:∃gF:List Addr,us=gF.map V.ref/\Paired (di H7 b.ps) gF (cS z0 b.fs):=by
  have aux:∀{ys:List V} {is:List Nat} {gs:List (Nat×Fc)},Paired (λy i=>∃a,as[i]?=some a/\y=.ref a) ys is->is.map (λi=>b.fs[i]?)=gs.map some->∃as:List Addr,ys=as.map V.ref/\Paired (di H7 b.ps) as gs:=by
   intro ys is gs pr;induction pr generalizing gs with
   |nil=>
    intro e;cases gs with
    |nil=>exact⟨[],rfl,.nil⟩
    |cons _ _=>cases e
   |cons f _ ih=>
    intro e;cases gs with
    |nil=>cases e
    |cons g gs=>
     obtain⟨a,e1,e2⟩:=f;obtain⟨p,ep,hp⟩:=fX QQ e1;injection e with e4 e5;obtain⟨as,r1,r2⟩:=ih e5;exact⟨a::as,by rw[e2,r1];rfl,.cons (by rw[←Ym (ep.symm.trans e4)];exact g7 _ _ hp) r2⟩
  exact aux pr (X1 b.fs λp=>decide (p.1≠z0))
 refine⟨_,rfl,by show 4<=sizeLine;omega,λaN H8 qF g8 dZ=>?_⟩;have kA:=g7.trans g8;obtain⟨tm,tf,tw,ts,GR,_⟩:=id s5.turns;have sub:(cS z0 b.fs).Sublist b.fs:=List.filter_sublist;refine q l' (b.without z0 c0) nl sd D aN H8 ((cy.after (((mn.trans g4).trans g5)) wt).same kA) ⟨pJ.same kA,si.ok.drop z0 (Ye _) (by rw[Yl];show _+1<=200;omega) (Yw _),kA _ _ yu,AG,kA _ _ yt,AF,⟨gF,g8 _ _ h7,L2.Paired.bB Zfc λ_ _ e=>g8 _ _ e⟩,pJ.fresh hD,dZ,(wt.g_ s5.ba s5.turns s5.n4).same kA,(off GR s5.n4).2,si.nm,si.so.sublist (sub.map _),W8 cp,W8 (Y6 (Nat.add_le_add_left sub.length_le _) cf),?_⟩ p0;show(b.dn++[_]).length<=_;rw[Yl];show _+1<=_;omega
end
theorem cM.nil(gd:oG xs ys):cM xs ys ⟨[],[],0,[],[]⟩:=
 ⟨gd,W4,Yw _,Yw _,λ_ h=>(nomatch h),W4,λ_ h=>(nomatch h),W4,W4,⟨λ_=>0,λ_ h=>absurd h (Wd _),λ_ h=>(nomatch h)⟩,Yw _,Yw _⟩
theorem fN.QR{C CL CJ:Addr}{H H':Hp}{xs ys:List Int}{z j:Nat}{td:Addr}{l l':BL}{b:BS}{nl sd fl st:Addr}(s:fN C CL CJ H xs ys z j td l b nl sd fl st)(w:cy H H' l l')(ba:bj H' C CL CJ l' xs ys b):fN C CL CJ H' xs ys z j td l' b nl sd fl st:=by
 obtain⟨a1,c1⟩:=w.off s.names s.n1;obtain⟨a2,c2⟩:=w.off s.cV s.n2;obtain⟨as,h1,h2⟩:=s.facts;obtain⟨a3,c3⟩:=w.off h1 s.n3;obtain⟨_,_,_,_,gG,_⟩:=id s.turns;exact⟨ba,s.ok,a1,c1,a2,c2,⟨as,a3,yZ w s.ba h2⟩,c3,w.bP s.ba s.tup,w.g_ s.ba s.turns s.n4,(w.off gG s.n4).2,s.nm,s.so,s.cp,s.cf,s.cd⟩
theorem fN.good{C CL CJ:Addr}{H:Hp}{xs ys:List Int}{z j:Nat}{td:Addr}{l:BL}{b:BS}{nl sd fl st:Addr}(s:fN C CL CJ H xs ys z j td l b nl sd fl st):(∀c∈b.F,eM xs ys b.ps.length c)/\b.F.length<=64:=by
 refine⟨λc hc=>?_,?_⟩
 ·obtain⟨p,hp,rfl⟩:=Yf.mp (show c∈b.fs.map (·.2) from hc);exact s.ok.fg p hp
 ·show(b.fs.map (·.2)).length<=64;rw[Ya];exact W8 s.ok.fl
theorem ZbO{ps:bK}{j:Nat}(h:j<ps.length):(iH ps)[j]?=some (.str (av ps j)):=by
 unfold iH av;rw[Yd,Yb h,Yj,Yb h];rfl
inductive MD(C CL CJ:Addr)(vs:List V)(H:Hp)(Q:VK)(E:XK):Prop
 |mk (l:BL) (b:BS) (xs ys:List Int) (i:Nat) (aE:vs=[.ref l.h,.str (av b.ps i)]) (ba:bj H C CL CJ l xs ys b) (nm:(b.ps.map (·.1)).Nodup) (hi:i<b.ps.length) (q:Q (.int (i:Int)) H)
inductive Fi(C CL CJ:Addr)(vs:List V)(H:Hp)(Q:VK)(E:XK):Prop
 |mk (l:BL) (b:BS) (xs ys:List Int) (i:Nat) (aE:vs=[.ref l.h,.str (av b.ps i)]) (ba:bj H C CL CJ l xs ys b) (ok:cM xs ys b) (hi:i<b.ps.length) (q:∀(l':BL) (H1:Hp) (p:Addr) (H':Hp),cy H H1 l l'->bj H1 C CL CJ l' xs ys b->(l.rk≠.az->H1=H/\l'=l)->H1 p=none->aj H1 H'->H' p=some (.lst ((iW b.F xs.length i).map V.int))->Q (.ref p) H')
section
variable {K:ai}{mg:aX}
theorem T4:aQ jr jr (aK B5):=.a8
theorem Xc(F:aL K "place_of" "Hearth.place_of" B5 f fd)(hc:eX K C):aH P w K mg base aM 1 f fd jr (MD C CL CJ):=by
 refine F.o T4 λs H hr h=>?_;obtain⟨l,b,xs,ys,i,rfl,ba,nm,hi,q⟩:=h;refine⟨_,(aq (aR (jH (mF (bw hr) (pv 1) (pF K 0)) (by with_unfolding_all rfl)) fG aY) (au (aG (cY (bw hr) (pF K 0) (pv 1) (λ_ _=>rfl))))),?_⟩;obtain⟨dx,h1⟩:=ba.obj;have pg:=rq nm hi;exact⟨_,rfl,_,rfl,l.h,C,dx,_,_,rfl,h1,hc.cls,hc.ra,rfl,l.pl,some _,rfl,cU ba.places pg,_,rfl,bR (aW ⟨_,rfl,l.h,C,dx,_,_,rfl,h1,hc.cls,hc.ra,rfl,_,rfl,l.pl,_,rfl,cU ba.places pg,q⟩)⟩
theorem X4:aQ qu qu (aK En):=.a8
theorem X5(F:aL K "open_of" "open_of" En f fd)(s_:bT P w K mg base 8 "joins" C gu (Fb C CL CJ))(B7:bT P w K mg base 1 "place_of" C jr (MD C CL CJ))(jA:bT P w K mg base 2 "open_at" CJ uC (wj CJ)):aH P w K mg base aM 9 f fd qu (Fi C CL CJ):=by
 refine F.o X4 λs H hr h=>?_;obtain⟨l,b,xs,ys,i,rfl,ba,ok,hi,q⟩:=h;refine⟨_,(au (aG (cH jA hr (by omega) (qb s_ hr (by omega) (pv 0)) (aa (cH B7 hr (by omega) (pv 0) (aa (pv 1) ag)) ag)))),?_⟩;obtain⟨dx,ho⟩:=ba.obj;refine⟨_,rfl,l.h,dx,_,rfl,ho,rfl,l,b,xs,ys,rfl,ba,ok,λl' jl st H1 w1 cN e1 e2 ja me len fK sm=>?_⟩;obtain⟨dy,hj⟩:=ja.obj;obtain⟨qJ,sD⟩:=cN.obj;rw[w1.h] at sD;have iD:i<st.hd.length:=by rw[len];exact hi
 have one:=me.wf.one ok.gd.2.2.2.2 iD;refine⟨jl.J,dy,_,rfl,hj,rfl,_,rfl,l.h,qJ,_,rfl,sD,rfl,_,rfl,l',b,xs,ys,i,by rw[w1.h];rfl,cN,ok.nm,hi,jl,st,xs.length,i,_,_,_,rfl,ja,one.hd,one.ld,one.fr,one.fh,one.iC,λp ns H2 np g2 pm so hp=>?_⟩;rw[me.opn iD pm so] at hp;exact q l' H1 p H2 w1 cN sm np g2 hp
end
def BP:Key->Dt
 |.inl i=>.int i
 |.inr z=>.str z
def Ts(ps:bK)(fs:List (Nat×Fc)):Dt:=.lst (fs.map λp=>.tup ((dQ ps p.1 p.2).map BP))
theorem Zdb(H:Hp)(m:Nat)(k:Key):At H m (kV k) (BP k):=by
 cases k<;>(unfold BP At;rfl)
theorem NQ(H:Hp)(m:Nat):∀ks:List Key,Paired (At H m) (ks.map kV) (ks.map BP)
 |[]=>.nil
 |k::ks=>.cons (Zdb H m k) (NQ H m ks)
theorem NR(h:H p=some (.lst (as.map V.ref)))(pr:Paired (di H ps) as fs)(l:fs.length<=1000):At H 3 (.ref p) (Ts ps fs):=by
 refine⟨p,_,rfl,h,by rw[Ya];exact l,?_⟩;clear h l;induction pr with
 |nil=>exact .nil
 |cons e _ ih=>
  exact .cons ⟨_,_,rfl,e,by show 4<=1000;omega,NQ H 1 _⟩ ih
theorem ZdX{fs de:List (Nat×Fc)}(pm:de.Perm fs)(h1:(de.map (·.1)).Pairwise (·<·))(h2:(fs.map (·.1)).Pairwise (·<·)):de=fs:=by
 rw[Ws] at h1 h2;exact List.Perm.eq_of_pairwise (λa b _ _ h1 h2=>by omega) h1 h2 pm
theorem O4{H:Hp}{m:Nat}:∀ps:bK,Paired (At H m) (iH ps) (ps.map λp=>Dt.str p.1)
 |[]=>.nil
 |p::ps=>.cons (Zcu _) (O4 ps)
theorem y6{H:Hp}{ps:bK}{p:Addr}(h:H p=some (.lst (iH ps)))(l:ps.length<=1000):At H 3 (.ref p) (.lst (ps.map λp=>.str p.1)):=Om h (by rw[Ya];exact l) (O4 ps)
theorem zH{H:Hp}{p:Addr}{is:List Int}(h:H p=some (.lst (is.map V.int)))(l:is.length<=1000):At H 3 (.ref p) (.lst (is.map Dt.int)):=Om h (by rw[Ya];exact l) (MZ is)
theorem ME(F:List Fc){n:Nat}(n8:n<=8)(i:Nat):(iW F n i).length<=1000:=by
 have:=yB (n:=n) (Mj F n i).2 λa ha=>(Eu.mp ha).1;omega
inductive MF(C CL CJ:Addr)(vs:List V)(H:Hp)(Q:VK)(E:XK):Prop
 |mk (xs ys:List Int) (z j:Nat) (td:Addr) (l:BL) (b:BS) (nl sd fl st:Addr) (aE:vs=[.ref l.h,.ref st,.ref td]) (si:fN C CL CJ H xs ys z j td l b nl sd fl st) (q:∀H',Q (.bl true) H')
def JU(h st td nl sd fl:Addr)(co:Int)(o7:Option V):St:=[some (.ref h),some (.ref st),some (.ref td),some (.ref nl),some (.ref sd),some (.ref fl),some (.int co),o7]
section
variable {K:ai}{mg:aX}
abbrev GU:List Str:=["_law_book","_law_state","_law_turns_here"]
theorem tG:aQ ["_law_book","_law_state","_law_turns_here","_law_names","_law_sides","_law_facts","_law_after_here","_law_name_here"] GU (aK C5):=.a8
theorem Zu(F:aL K "_law_stands" "_law_stands" C5 f fd)(jC:HasFn P w K mg base 4 "_law_same" mf (qc 4))(lI:HasFn P w K mg base 3 "_law_room" xp zU)(pQ:HasFn P w K mg base 9 "open_of" qu (Fi C CL CJ))(lF:bT P w K mg base 1 "people" C gu (ze C CL CJ))(CZ:bT P w K mg base 1 "kept" C gu (OL C CL CJ))(mD:bT P w K mg base 1 "side_of" C jr (zf C CL CJ))(bl:Bl mg):aH P w K mg base aM 10 f fd GU (MF C CL CJ):=by
 refine F.o tG λs H hr h=>?_;obtain⟨xs,ys,z,j,td,l,b,nl,sd,fl,st,rfl,si,q⟩:=h;refine⟨_,(aq (mP (pv 1) (iO (K:=K) (n:=4) rfl rfl (bQ (bA 3 tG.nd) (bQ (bA 4 tG.nd) (bQ (bA 5 tG.nd) (bQ (bA 6 tG.nd) iM)))))) (aq (aR (PW.pt (pw_or (hX (d9 (aT jC hr (aa (qb lF hr (by omega) (pv 0)) (aa (pv 3) ag))))) (pw_or1 (hX (d9 (aT jC hr (aa (qb CZ hr (by omega) (pv 0)) (aa (pv 5) ag)))))))) (au (aG ib)) aY) (aq (gc PassesOwn.never rfl (fO (K:=K) rfl (pv 3)) (bA 7 tG.nd) (aq (aR (bC kN (cH mD hr (by omega) (pv 0) (aa (pv 7) ag)) (cY (bw hr) (pv 4) (pv 7) (λ_ _=>rfl))) (au (aG ib)) aY) (au (aR (hX (d9 (aT jC hr (aa (aT pQ hr (aa (pv 0) (aa (pv 7) ag))) (aa (aT lI hr (aa (pv 5) (aa (pv 2) (aa (pv 7) ag)))) ag))))) (au (aG ib)) aY)))) (au (aG ib))))),?_⟩;have sz:(10000:Nat)<=sizeLine:=by rw[sizeLine_eq];omega
 have ok:=si.ok;have JH:=ok.m;have To:=ok.fl;refine⟨_,rfl,st,_,rfl,aA.of si.tup,rfl,_,_,rfl,bg ⟨_,_,rfl,bg ⟨_,_,rfl,bg ⟨_,_,rfl,bg ⟨rfl,?_⟩⟩⟩⟩⟩;dsimp only;have n8:=ok.gd.2.2.2.2;obtain⟨as,nU,dI⟩:=si.facts;refine lO (λσ H'=>aj H H'/\σ=JU l.h st td nl sd fl b.co none) (λnx hn=>?_) ?_
 ·obtain⟨dx,ho⟩:=si.ba.obj;refine⟨_,rfl,l.h,dx,_,rfl,ho,rfl,l,b,xs,ys,rfl,si.ba,λp H1 np g1 hp=>?_⟩;refine⟨_,rfl,_,_,.lst _,3,rfl,rfl,y6 hp (by omega),y6 (g1 _ _ si.names) (by omega),λH2 g2=>⟨_,rfl,bR ?_⟩⟩;have mj:=g1.trans g2;have s2:=si.same mj;obtain⟨vA,uR⟩:=s2.ba.obj;refine⟨_,rfl,l.h,vA,_,rfl,uR,rfl,l,b,xs,ys,rfl,s2.ba,ok.zs,To,λkp ka de H3 IK g3 pm so9 hk pk=>?_⟩;obtain rfl:=ZdX pm so9 si.so;have d7:=mj.trans g3;exact⟨_,rfl,_,_,Ts b.ps b.fs,3,rfl,rfl,NR hk pk (by omega),NR (d7 _ _ nU) (L2.Paired.bB dI λ_ _ e=>d7 _ _ e) (by omega),λH4 g4=>⟨_,rfl,bR (aW (hn _ _ ⟨d7.trans g4,rfl⟩))⟩⟩
 rintro σ H1 ⟨g1,rfl⟩;have s1:=si.same g1;refine hV (λ_ _=>True) (λnx hn=>?_) ?_
 ·refine⟨_,rfl,nl,rfl,⟨_,ak.of s1.names⟩,kF (K:=K) (a:=nl) (xs:=iH b.ps) (λi σ H'=>∃(l':BL) (o7:Option V),fN C CL CJ H' xs ys z j td l' b nl sd fl st/\l'.h=l.h/\σ=JU l.h st td nl sd fl b.co o7) ⟨l,none,s1,rfl,rfl⟩ (λi σ H' _ ⟨_,_,s,_⟩=>ak.of s.names) ?_ (λσ H' _=>hn _ _ trivial)⟩;rintro i v σ H2 hi ⟨l',o7,s2,e',rfl⟩;have im:i<b.ps.length:=by
   have:=(Yi.mp hi).1;rw[uf] at this;exact this
  obtain rfl:V.str (av b.ps i)=v:=Ym ((ZbO im).symm.trans hi);refine bg ?_;have sg:=mI ok.nm im;obtain⟨dx,ho⟩:=s2.ba.obj;rw[e'] at ho;refine lO (λσ H'=>aj H2 H'/\σ=JU l.h st td nl sd fl b.co (some (.str (av b.ps i)))) (λnM eT=>?_) ?_
  ·refine⟨_,rfl,l.h,dx,_,rfl,ho,rfl,_,rfl,l',b,xs,ys,av b.ps i,_,by rw[e'];rfl,s2.ba,sg,_,rfl,_,rfl,sd,_,rfl,cU s2.cV sg,rfl,_,rfl,?_⟩;rw[decide_eq_true rfl];exact bR (aW (eT _ _ ⟨aj.refl _,rfl⟩))
  rintro _ H3 ⟨g3,rfl⟩;have s3:=s2.same g3;refine⟨_,rfl,_,rfl,l',b,xs,ys,i,by rw[e'];rfl,s3.ba,ok,im,λl4 H4 p H5 w4 IP _ _ g5 hp=>?_⟩;have s5:=(s3.QR w4 IP).same g5;refine⟨_,rfl,_,rfl,_,rfl,fl,td,b.ps,xs,ys,b.F,i,rfl,s5.FL,s5.turns,ok.nm,s5.good.1,n8,by omega,s5.good.2,im,λrm H6 _ g6 JV=>?_⟩;have rl:=ME b.F n8 i;exact⟨_,_,.lst _,3,rfl,rfl,zH (g6 _ _ hp) rl,zH JV rl,λH7 g7=>⟨_,rfl,bR (aW ⟨l4,_,s5.same (g6.trans g7),w4.h.trans e',rfl⟩)⟩⟩
 rintro σ H2 _;exact q H2
end
structure Rec where
 xs:List Int
 ys:List Int
 z:Nat
 td:Addr
 l:BL
 b:BS
 nl:Addr
 sd:Addr
 fl:Addr
 st:Addr
def gQ(C CL CJ:Addr)(j:Nat)(V:Hp)(r:Rec):Prop:=fN C CL CJ V r.xs r.ys r.z j r.td r.l r.b r.nl r.sd r.fl r.st/\r.z<97
def jz(R:Nat->Rec)(k:Nat)(r:Rec):Nat->Rec:=λi=>if i=k then r else R i
theorem rb{R:Nat->Rec}{k:Nat}{r:Rec}:jz R k r k=r:=if_pos rfl
theorem wL{R:Nat->Rec}{k i:Nat}{r:Rec}(h:i≠k):jz R k r i=R i:=if_neg h
def dJ(n:Nat)(f:Nat->V):HO:=.lst ((List.range n).map f)
theorem zk{n:Nat}{f g:Nat->V}(h:∀i,i<n->g i=f i):dJ (n+1) g=.lst ((List.range n).map f++[g n]):=by
 unfold dJ;rw[Rx,Yq]
 congr 2
 exact Wx λi hi=>h i (Wl.mp hi)
theorem ia{n k:Nat}{f:Nat->V}(h:k<n):dw ((List.range n).map f) (k:Int)=some (f k):=gM (by rw[Yd,Ja h];rfl)
def KS(bo sa ro za s1:Addr)(ms:List Int)(n:Nat)(R:Nat->Rec):List (Addr×HO):=[(za,dJ n λi=>.int ((R i).z:Int)),(ro,dJ n λi=>.ref (R i).td),(sa,dJ n λi=>.ref (R i).st),(bo,dJ n λi=>.ref (R i).l.h),(s1,.lst (ms.map V.int))]
theorem KS.b{bo sa ro za s1:Addr}{ms:List Int}{n:Nat}{R:Nat->Rec}:(bo,dJ n λi=>.ref (R i).l.h)∈KS bo sa ro za s1 ms n R:=by unfold KS;simp
theorem KS.s{bo sa ro za s1:Addr}{ms:List Int}{n:Nat}{R:Nat->Rec}:(s1,.lst (ms.map V.int))∈KS bo sa ro za s1 ms n R:=by unfold KS;simp
theorem jo{us:List V}:∀xs,HO.lst us≠.tup xs:=λ_ z=>nomatch z
theorem KS.z{bo sa ro za s1:Addr}{ms:List Int}{n:Nat}{R:Nat->Rec}:(za,dJ n λi=>.int ((R i).z:Int))∈KS bo sa ro za s1 ms n R:=by unfold KS;simp
theorem KS.r{bo sa ro za s1:Addr}{ms:List Int}{n:Nat}{R:Nat->Rec}:(ro,dJ n λi=>.ref (R i).td)∈KS bo sa ro za s1 ms n R:=by unfold KS;simp
theorem KS.a{bo sa ro za s1:Addr}{ms:List Int}{n:Nat}{R:Nat->Rec}:(sa,dJ n λi=>.ref (R i).st)∈KS bo sa ro za s1 ms n R:=by unfold KS;simp
theorem rS{α:Type}{R:Nat->Rec}{k:Nat}{r:Rec}(g:Rec->α)(h:g r=g (R k)):(λi=>g (jz R k r i))=λi=>g (R i):=funext λi=>by
 by_cases c:i=k;·rw[c,rb];exact h
 ·rw[wL c]
theorem ZbP{n k:Nat}{f g:Nat->V}(h:∀i,i≠k->g i=f i):HO.lst (((List.range n).map f).set k (g k))=dJ n g:=by
 unfold dJ
 congr 1
 refine Wj λi=>?_;rw[List.getElem?_set,Yd];by_cases c:k=i
 ·subst c;rw[if_pos rfl,Ya,We];by_cases l:k<n;·rw[if_pos l,Yd,Ja l];rfl
  ·rw[if_neg l,Yd,Y3 (by rw[We];omega)];rfl
 ·rw[if_neg c,Yd];cases e:(List.range n)[i]? with
  |none=>rfl
  |some x=>
   have:x=i:=by
    have l:=(Yi.mp e).1;rw[We] at l;rw[Ja l] at e;exact(Ym e).symm
   rw[this];exact congrArg some (h i λz=>c z.symm).symm
section
variable {bo sa ro za s1:Addr}{ms:List Int}{pre:List (Addr×HO)}{R:Nat->Rec}{U:Nat->Hp}{H H' W:Hp}{j k:Nat}{r:Rec}
theorem gQ.all(ok:∀i,i<2->gQ C CL CJ j (U i) (R i))(h:gQ C CL CJ j W r){U':Nat->Hp}(e:U' k=W)(ne:∀i,i≠k->U' i=U i):∀i,i<2->gQ C CL CJ j (U' i) (jz R k r i):=λi hi=>by
 by_cases c:i=k;·rw[c,e,rb];exact h
 ·rw[ne i c,wL c];exact ok i hi
theorem yw.call(v:Vw 2 U (pre++KS bo sa ro za s1 ms 2 R) H)(ok:∀i,i<2->gQ C CL CJ j (U i) (R i))(hk:k<2)(fr:Framed (U k) W H H')(h:gQ C CL CJ j W r)(eh:r.l.h=(R k).l.h)(es:r.st=(R k).st)(et:r.td=(R k).td)(ez:r.z=(R k).z):∃(U':Nat->Hp) (R':Nat->Rec),Vw 2 U' (pre++KS bo sa ro za s1 ms 2 R') H'/\(∀i,i<2->gQ C CL CJ j (U' i) (R' i))/\U' k=W/\R' k=r:=by
 refine⟨fU U k W,jz R k r,?_,gQ.all ok h kH λ_=>jk,kH,rb⟩;have e:KS bo sa ro za s1 ms 2 (jz R k r)=KS bo sa ro za s1 ms 2 R:=by
  unfold KS;rw[rS (λr=>V.int (r.z:Int)) (by rw[ez]),rS (λr=>V.ref r.td) (by rw[et]),rS (λr=>V.ref r.st) (by rw[es]),rS (λr=>V.ref r.l.h) (by rw[eh])]
 rw[e];exact v.call hk fr
end
theorem ZaE(xs:List V){k:Nat}(h:k<=xs.length):qk xs (some (k:Int)) none=xs.drop k:=by
 unfold qk;have e:HT.gS xs.length 0 (some (k:Int))=k:=by
  show(if(k:Int)<0 then((k:Int)+(xs.length:Int)).toNat else min ((k:Int)).toNat xs.length)=k;rw[if_neg (by omega),Y4];omega
 rw[e];show List.take (xs.length-k) _=_;rw[Wk (by rw[Jj];omega)]
def z9(K:ai):Sp:=λvs H Q _=>∃(a:Addr) (ns:List Int),vs=[.ref a]/\ak K H a (ns.map V.int)/\ns.length<=63/\∀H',Q (.bl true) H'
def yx(s1 bo sa ro za:Addr)(o5 o6 o7 o8 o9 gK gL fC fD:Option V):St:=[some (.ref s1),some (.ref bo),some (.ref sa),some (.ref ro),some (.ref za),o5,o6,o7,o8,o9,gK,gL,fC,fD]
section
variable {K:ai}{mg:aX}
abbrev AI:List Str:=["_law_script"]
theorem iQ:aQ ["_law_script","_law_books","_law_states","_law_rows","_law_salts","_law_k","_law_size","_law_mother","_law_wife","_law_cell_here","_law_drawn","_law_at","_law_names","_law_name_here"] AI (aK rO):=.a8
theorem Zdc(F:aL K "law" "law" rO f fd)(q5:HasFn P w K mg base 1 "_law_cell" A7 (Og K))(kC:HasFn P w K mg base 1 "_law_draws" xR (zt K))(t4:HasFn P w K mg base 2 "_law_row" GA PH)(vY:HasFn P w K mg base 2 "_law_turns" GG NI)(jC:HasFn P w K mg base 4 "_law_same" mf (qc 4))(lI:HasFn P w K mg base 3 "_law_room" xp zU)(wa:HasFn P w K mg base 14 "_law_step" GP (NO C CL CJ))(pQ:HasFn P w K mg base 9 "open_of" qu (Fi C CL CJ))(tK:HasFn P w K mg base 10 "_law_stands" GU (MF C CL CJ))(lF:bT P w K mg base 1 "people" C gu (ze C CL CJ))
  (wc:HasFn P w K mg base 7 "land_of" Ba (Md CL))(wm:oE P w K mg base 1 "Hearth" C Av (Nz C CL CJ))(bl:Bl mg):aH P w K mg base (nE P w) 16 f fd AI (z9 K):=by
 refine F.okX iQ (λvs H Q E h=>?_) (λb_ A outer s H vs Q E hr h=>?_)
 ·obtain⟨a,ns,rfl,_⟩:=h;rfl
 obtain⟨a,ns,rfl,hs,hlen,q⟩:=h;have hu:=hr.ui;have kC:=kC.frame;have t4:=t4.frame;have vY:=vY.frame;have jC:=jC.frame;have lI:=lI.frame;have wa:=wa.frame;have pQ:=pQ.frame;have tK:=tK.frame;have lF:=lF.frame;have wc:=wc.frame;have wm:=wm.frame;refine⟨_,(aq (bY 0 iQ.nd (LL MU (pv 0) MR (MS aF))) (aq (bY 1 iQ.nd (jI ag)) (aq (bY 2 iQ.nd (jI ag)) (aq (bY 3 iQ.nd (jI ag)) (aq (bY 4 iQ.nd (jI ag)) (aq (gc Qg rfl (nZ rfl bl.jj (aa aF ag)) (bA 5 iQ.nd) (aq (bY 6 iQ.nd (aV fP aF (aV dW (aV wo (aT q5 hr (aa (pv 0) (aa aF ag))) (aV fP aF (aV lN aF (pv 5)))) aF))) (aq (bY 7 iQ.nd (aT t4 hr (aa (aT q5 hr (aa (pv 0) (aa (aV fP aF (pv 5)) ag))) (aa (pv 6) ag)))) (aq (bY 8 iQ.nd (aT t4 hr (aa (aT q5 hr (aa (pv 0) (aa (aV fP aF (pv 5)) ag))) (aa (pv 6) ag)))) (aq (bZ (jJ (K:=K) rfl (ic plainAttrs_list PySem.F.slot_list_append PySem.F.type_list_append n5 (pv 1) (aa (FR wm hr (by omega) rfl (aa (aT wc hr (aa (pv 7) (aa (pv 8) ag))) ag)) ag)))) (aq (bZ (jJ (K:=K) rfl (ic plainAttrs_list PySem.F.slot_list_append PySem.F.type_list_append n5 (pv 3) (aa (aT vY hr (aa (pv 7) (aa (pv 8) ag))) ag)))) (aq (bZ (jJ (K:=K) rfl (ic plainAttrs_list PySem.F.slot_list_append PySem.F.type_list_append n5 (pv 2) (aa (Zb4 (aa (jI ag) (aa LX (aa (jI ag) (aa aF ag))))) ag)))) (au (bZ (jJ (K:=K) rfl (ic plainAttrs_list PySem.F.slot_list_append PySem.F.type_list_append n5 (pv 4) (aa (aP (iL K) (aT kC hr (aa (aT q5 hr (aa (pv 0) (aa aF ag))) (aa (jI (aa aF (aa aF ag))) ag))) (aV lN (pv 5) (aV dW (aV dW (aT q5 hr (aa (pv 0) (aa aF ag))) aF) aF))) ag)))))))))))) (aq (gc Qg rfl (fO (K:=K) rfl (LL MU (pv 0) (MS aF) MR)) (bA 9 iQ.nd) (aq (bY 10 iQ.nd (aT kC hr (aa (aV fP (pv 9) aF) (aa (jI (aa aF (aa aF ag))) ag)))) (aq (bY 11 iQ.nd (aP (iL K) (pv 10) aF)) (aq (E3 (pv 2) (pv 11) set_list (aT wa hr (aa (aP (iL K) (pv 1) (pv 11)) (aa (aP (iL K) (pv 2) (pv 11)) (aa (pv 9) (aa (aP (iL K) (pv 3) (pv 11)) (aa (aP (iL K) (pv 4) (pv 11)) ag))))))) (aq (bY 12 iQ.nd (aP (iT K) (aP (iL K) (pv 2) (pv 11)) aF)) (aq (bY 13 iQ.nd (aP (iL K) (pv 12) (aV dW (aP (iL K) (pv 10) aF) (df K bl (pv 12))))) (aq (aR (hX (d9 (aT jC hr (aa (aT pQ hr (aa (aP (iL K) (pv 1) (pv 11)) (aa (pv 13) ag))) (aa (aT lI hr (aa (aP (iT K) (aP (iL K) (pv 2) (pv 11)) aF) (aa (aP (iL K) (pv 3) (pv 11)) (aa (pv 13) ag)))) ag))))) (au (aG ib)) aY) (au (aR (hX (d9 (aT jC hr (aa (qb lF hr (by omega) (aP (iL K) (pv 1) (aV uh aF (pv 11)))) (aa (aP (iT K) (aP (iL K) (pv 2) (aV uh aF (pv 11))) aF) ag))))) (au (aG ib)) aY))))))))) (au (aG (oy (aT tK hr (aa (aP (iL K) (pv 1) aF) (aa (aP (iL K) (pv 2) aF) (aa (aP (iL K) (pv 3) aF) ag)))) (lM (aT tK hr (aa (aP (iL K) (pv 1) aF) (aa (aP (iL K) (pv 2) aF) (aa (aP (iL K) (pv 3) aF) ag))))))))))))))),?_⟩;have sz:(10000:Nat)<=sizeLine:=by rw[sizeLine_eq];omega
 obtain⟨ms,em⟩:=LP ns none (some 63);have lms:ms.length<=ns.length:=by
  have:=Dk (ns.map V.int) none (some 63);rw[em,Ya,Ya] at this;exact this
 have v0:Vw 0 (λ_ _=>none) [] H:=⟨λi hi=>absurd hi (Wd _),λi _ hi=>absurd hi (Wd _),λp hp=>(nomatch hp),W4⟩;refine cq ?_;refine⟨_,rfl,_,rfl,a,_,rfl,hs,λs1 n1=>?_⟩;rw[em];have v1:=v0.lay (o:=.lst (ms.map V.int)) n1 rfl jo;generalize upd H s1 _=H1 at v1⊢;refine cq ?_;refine⟨by show 0<=sizeLine;omega,λbo nbo=>?_⟩;have v2:=v1.lay (o:=.lst []) nbo rfl jo;generalize upd H1 bo _=H2 at v2⊢;refine cq ?_;refine⟨by show 0<=sizeLine;omega,λsa nsa=>?_⟩;have v3:=v2.lay (o:=.lst []) nsa rfl jo;generalize upd H2 sa _=H3 at v3⊢;refine cq ?_;refine⟨by show 0<=sizeLine;omega,λro nro=>?_⟩;have v4:=v3.lay (o:=.lst []) nro rfl jo;generalize upd H3 ro _=H4 at v4⊢;refine cq ?_;refine⟨by show 0<=sizeLine;omega,λza nza=>?_⟩;have v5:=v4.lay (o:=.lst []) nza rfl jo;generalize upd H4 za _=H5 at v5⊢;refine hV (λσ H'=>∃(U:Nat->Hp) (R:Nat->Rec) (o5 o6 o7 o8:Option V),Vw 2 U (KS bo sa ro za s1 ms 2 R) H'/\(∀i,i<2->gQ C CL CJ 0 (U i) (R i))/\Own H'/\σ=yx s1 bo sa ro za o5 o6 o7 o8 none none none none none) (λqI gW=>?_) ?_
 ·refine⟨2,rfl,by decide,by decide,yQ (lo:=0) (n:=(2:Int).toNat) (λn σ H'=>∃(U:Nat->Hp) (R:Nat->Rec) (o5 o6 o7 o8:Option V),Vw n U (KS bo sa ro za s1 ms n R) H'/\(∀i,i<n->gQ C CL CJ 0 (U i) (R i))/\(0<n->Own H')/\σ=yx s1 bo sa ro za o5 o6 o7 o8 none none none none none)
   ⟨λ_ _=>none,λ_=>⟨[],[],0,0,⟨0,0,0,0,0,0,0,0,0,.az,[],[],[],[]⟩,⟨[],[],0,[],[]⟩,0,0,0,0⟩,none,none,none,none,v5,(λi hi=>absurd hi (Wd _)),(λh=>absurd h (Y8 _)),rfl⟩ ?_ ?_⟩
  ·rintro i σ H6 hi ⟨U,R,o5,o6,o7,o8,v,ok,_,rfl⟩;rw[J4];have i2:i<2:=hi;refine bg ?_;have Tt:H6 s1=some (.lst (ms.map V.int)):=v.at KS.s;refine cq ?_;refine⟨_,rfl,s1,ms,0,rfl,ak.of Tt,Int.le_refl 0,λc0=>⟨_,rfl,_,_,rfl,rfl,.inl ⟨by decide,by decide⟩,_,_,rfl,rfl,_,_,rfl,rfl,⟨by omega,by omega⟩,_,_,rfl,rfl,(by show(0:Int)<7;decide),_,_,rfl,rfl,?_⟩⟩;dsimp only;have m0:=Jn (c0/(1+6*(i:Int))) (show(7:Int)≠0 by decide);have m1:=Jd (c0/(1+6*(i:Int))) (show(0:Int)<7 by decide);obtain⟨n,en⟩:∃n:Nat,2+c0/(1+6*(i:Int)) % 7=(n:Int):=⟨(2+c0/(1+6*(i:Int)) % 7).toNat,by omega⟩;rw[en];have n2:2<=n:=by omega
   have n8:n<=8:=by omega
   have il:=Wg i;have va:=v.nil;obtain⟨Ua,ka⟩:∃Ua,Ua=fU U i λ_=>none:=⟨_,rfl⟩;rw[←ka] at va;have ka:∀k,k≠i->Ua k=U k:=λk h=>by rw[ka];exact jk h
   refine cq ?_;refine⟨_,rfl,_,rfl,_,_,rfl,rfl,s1,ms,1+(i:Int),rfl,ak.of Tt,by omega,λc1=>⟨_,rfl,Ua i,va.bV i il,c1,n,rfl,by omega,by omega,λm xs W nm g hM px Hb fr=>?_⟩⟩;obtain⟨Ub,rfl,kb,vb⟩:=va.calls il fr;have kb:∀k,k≠i->Ub k=U k:=λk h=>(kb k h).trans (ka k h);have hM:=fr.bV.sub _ _ hM;clear fr va ka;refine cq ?_;refine⟨_,rfl,_,rfl,_,_,rfl,rfl,s1,ms,3+(i:Int),rfl,ak.of (vb.at KS.s),by omega,λc2=>⟨_,rfl,Ub i,vb.bV i il,c2,n,rfl,by omega,by omega,λwi ys W nw g hW py Hc fr=>?_⟩⟩;have hM:=fr.tup _ _ hM;obtain⟨Uc,rfl,kc,vc⟩:=vb.calls il fr;have kc:∀k,k≠i->Uc k=U k:=λk h=>(kc k h).trans (kb k h);have hW:=fr.bV.sub _ _ hW;have Zfd:=fr.own;clear fr vb kb;have lx:xs.length=n:=by rw[px.length_eq,eQ]
   have ly:ys.length=n:=by rw[py.length_eq,eQ]
   have gd:oG xs ys:=⟨rf px,rf py,by omega,by omega,by omega⟩;have tt:∀{U':Nat->Hp} {ks:List (Addr×HO)} {Hx:Hp} {a:Addr} {us:List V},Vw (i+1) U' ks Hx->Hx a=some (.tup us)->m8 (U' i) Hx a=some (.tup us):=λv e=>L7 (v.bV i il).sub e;refine⟨_,rfl,.inl ⟨rfl,_,ak.of (vc.at KS.b)⟩,_,rfl,_,rfl,Uc i,vc.bV i il,m,wi,xs,ys,rfl,tt vc hM,tt vc hW,gd.1,gd.2.1,gd.2.2.1,gd.2.2.2.1,gd.2.2.2.2,λLd W _ la Hd fr=>λx dx nx qG nd=>?_⟩;have hM:=fr.tup _ _ hM;have hW:=fr.tup _ _ hW;obtain⟨Ud,rfl,kd,vd⟩:=vc.calls il fr;have kd:∀k,k≠i->Ud k=U k:=λk h=>(kd k h).trans (kc k h);have GV:=fr.own;clear fr vc kc Zfd;have ve:=vd.make (C:=C) il GV nx qG (λz=>nd z.symm) [];have QS:=GV.make (C:=C) nx qG (λz=>nd z.symm) [];have dxs:=(vd.bV i il).sub.free nx;have ddx:=(vd.bV i il).sub.free qG;obtain⟨Ue,eU⟩:∃Ue,Ue=fU Ud i (upd (upd (Ud i) dx (.own x)) x (.ins C dx [])):=⟨_,rfl⟩;rw[←eU] at ve;have ei:Ue i=upd (upd (Ud i) dx (.own x)) x (.ins C dx []):=by rw[eU];exact kH
   have ke:∀k,k≠i->Ue k=U k:=λk h=>by rw[eU,jk h];exact kd k h
   clear eU;have Tu:aj (Ud i) (Ue i):=λc o e=>by
    rw[ei,aC (λz=>by rw[z,dxs] at e;cases e),aC (λz=>by rw[z,ddx] at e;cases e)];exact e
   have Tv:Ue i x=some (.ins C dx []):=by rw[ei];exact aI
   have sX:∀{c:Addr} {us:List V},Hd c=some (.tup us)->upd (upd Hd dx (.own x)) x (.ins C dx []) c=some (.tup us):=λe=>by rw[aC (bO e nx),aC (bO e qG)];exact e
   have hM:=sX hM;have hW:=sX hW;clear sX ei;generalize upd (upd Hd dx (.own x)) x (.ins C dx [])=He at ve QS hM hW⊢;refine⟨Ue i,ve.bV i il,x,dx,Ld,xs,ys,rfl,eK _ _ Tv,(la.same Tu).same eK,λl W eh _ _ ba Hf fr=>⟨rfl,?_⟩⟩;subst eh;have hM:=fr.tup _ _ hM;have hW:=fr.tup _ _ hW;obtain⟨Uf,rfl,kf,vf⟩:=ve.calls il fr;have kf:∀k,k≠i->Uf k=U k:=λk h=>(kf k h).trans (ke k h);have QT:=fr.own;clear fr ve ke QS Tu Tv vd kd GV;refine⟨bo,_,_,rfl,rfl,vf.at KS.b,by rw[Ya,We];omega,?_⟩;have vg:Vw (i+1) Uf [(za,dJ i λi=>.int ((R i).z:Int)),(ro,dJ i λi=>.ref (R i).td),(sa,dJ i λi=>.ref (R i).st),(bo,.lst ((List.range i).map (λi=>V.ref (R i).l.h)++[.ref l.h])),(s1,.lst (ms.map V.int))] _:=Vw.put (l₁:=[_,_,_]) vf rfl jo;have QU:=QT.upd (a:=bo) (o:=.lst ((List.range i).map (λi=>V.ref (R i).l.h)++[.ref l.h])) rfl (λy e=>by rw[vf.at KS.b] at e;cases e);have sX:∀{c:Addr} {us:List V},Hf c=some (.tup us)->upd Hf bo (.lst ((List.range i).map (λi=>V.ref (R i).l.h)++[.ref l.h])) c=some (.tup us):=λ{c us} e=>by rw[aC (λz=>by rw[z,vf.at KS.b] at e;cases e)];exact e
   have hM:=sX hM;have hW:=sX hW;clear sX;generalize upd Hf bo _=Hg at vg QU hM hW⊢;refine⟨_,rfl,.inl ⟨rfl,_,ak.of (xs:=(List.range i).map λi=>V.ref (R i).td) (vg.at (by simp[dJ]))⟩,_,rfl,_,rfl,Uf i,vg.bV i il,m,wi,xs,ys,rfl,tt vg hM,tt vg hW,gd,λtd W Tw gt ht Hh fr=>?_⟩;have Iv:td∉l.fp:=(ba.same eK).fresh Tw;have ba0:=ba.same (eK (H:=Hg));have ba:=ba0.same gt;have Zfe:td∉l.fp:=Iv;obtain⟨Ug,rfl,kg,vh⟩:=vg.calls il fr;have kg:∀k,k≠i->Ug k=U k:=λk h=>(kg k h).trans (kf k h);have Zff:=fr.own;clear fr vg kf QU gt Tw QT hM hW vf;have Tx:Hh ro=some (.lst ((List.range i).map λi=>V.ref (R i).td)):=vh.at (by simp[dJ]);refine⟨ro,_,_,rfl,rfl,Tx,by rw[Ya,We];omega,?_⟩;have vi:Vw (i+1) Ug [(za,dJ i λi=>.int ((R i).z:Int)),(ro,.lst ((List.range i).map (λi=>V.ref (R i).td)++[.ref td])),(sa,dJ i λi=>.ref (R i).st),(bo,.lst ((List.range i).map (λi=>V.ref (R i).l.h)++[.ref l.h])),(s1,.lst (ms.map V.int))] _:=Vw.put (l₁:=[_]) vh rfl jo;have GW:=Zff.upd (a:=ro) (o:=.lst ((List.range i).map (λi=>V.ref (R i).td)++[.ref td])) rfl (λy e=>by rw[Tx] at e;cases e);generalize upd Hh ro _=Hi at vi GW⊢;refine⟨_,rfl,.inl ⟨rfl,_,ak.of (xs:=(List.range i).map λi=>V.ref (R i).st) (vi.at (by simp[dJ]))⟩,by show 0<=sizeLine;omega,λnl pG=>?_⟩;obtain⟨Uj,ej,kj,vj⟩:=vi.adds (o:=.lst []) il GW pG rfl;have pG:=(vi.bV i il).sub.free pG;have sj:aj (Ug i) (Uj i):=λc o e=>by rw[ej,aC (bO e pG)];exact e
   have IX:Uj i nl=some (.lst []):=by rw[ej];exact aI
   have GX:=GW.upd (a:=nl) (o:=.lst []) rfl (λy e=>by rw[‹Hi nl=none›] at e;cases e);generalize upd Hi nl _=Hj at vj GX⊢;refine λsd JW=>?_;obtain⟨Uk,ek,kk,vk⟩:=vj.adds (o:=.dK []) il GX JW rfl;have QV:=(vj.bV i il).sub.free JW;have sk:aj (Uj i) (Uk i):=λc o e=>by rw[ek,aC (bO e QV)];exact e
   have j9:Uk i sd=some (.dK []):=by rw[ek];exact aI
   have GY:=GX.upd (a:=sd) (o:=.dK []) rfl (λy e=>by rw[JW] at e;cases e);generalize upd Hj sd _=Hk at vk GY⊢;refine⟨by show 0<=sizeLine;omega,λfl JX=>?_⟩;obtain⟨Ul,el,kl,vl⟩:=vk.adds (o:=.lst []) il GY JX rfl;have AH:=(vk.bV i il).sub.free JX;have sl:aj (Uk i) (Ul i):=λc o e=>by rw[el,aC (bO e AH)];exact e
   have nU:Ul i fl=some (.lst []):=by rw[el];exact aI
   have GZ:=GY.upd (a:=fl) (o:=.lst []) rfl (λy e=>by rw[JX] at e;cases e);generalize upd Hk fl _=Hl at vl GZ⊢;refine⟨by show 4<=sizeLine;omega,λst qF=>?_⟩;obtain⟨Um,em,km,vm⟩:=vl.adds (o:=.tup [.ref nl,.ref sd,.ref fl,.int 0]) il GZ qF rfl;have Zfg:=(vl.bV i il).sub.free qF;have sm:aj (Ul i) (Um i):=λc o e=>by rw[em,aC (bO e Zfg)];exact e
   have dZ:Um i st=some (.tup [.ref nl,.ref sd,.ref fl,.int 0]):=by rw[em];exact aI
   have QW:=GZ.upd (a:=st) (o:=.tup [.ref nl,.ref sd,.ref fl,.int 0]) rfl (λy e=>by rw[qF] at e;cases e);generalize upd Hl st _=Hm at vm QW⊢;have km:∀k,k≠i->Um k=U k:=λk h=>by rw[km k h,kl k h,kk k h,kj k h,kg k h]
   have Tz:Hm sa=some (.lst ((List.range i).map λi=>V.ref (R i).st)):=vm.at (by simp[dJ]);refine⟨sa,_,_,rfl,rfl,Tz,by rw[Ya,We];omega,?_⟩;have vn:Vw (i+1) Um [(za,dJ i λi=>.int ((R i).z:Int)),(ro,.lst ((List.range i).map (λi=>V.ref (R i).td)++[.ref td])),(sa,.lst ((List.range i).map (λi=>V.ref (R i).st)++[.ref st])),(bo,.lst ((List.range i).map (λi=>V.ref (R i).l.h)++[.ref l.h])),(s1,.lst (ms.map V.int))] _:=Vw.put (l₁:=[_,_]) vm rfl jo;have QX:=QW.upd (a:=sa) (o:=.lst ((List.range i).map (λi=>V.ref (R i).st)++[.ref st])) rfl (λy e=>by rw[Tz] at e;cases e);generalize upd Hm sa _=Hn at vn QX⊢;refine⟨_,rfl,.inl ⟨rfl,_,ak.of (xs:=(List.range i).map λi=>V.int ((R i).z:Int)) (vn.at (by simp[dJ]))⟩,_,rfl,s1,ms,5,rfl,ak.of (vn.at (by simp)),by decide,λc5=>⟨by show 2<=sizeLine;omega,λpl nO=>?_⟩⟩;have vo:=(vn.lay (o:=.lst [.int 97,.int 97]) nO rfl jo).one (QX.upd (o:=.lst [.int 97,.int 97]) rfl (λy e=>by rw[nO] at e;cases e)) rfl (λ_ z=>nomatch z);generalize upd Hn pl _=Ho at vo⊢;obtain⟨Uo,eo⟩:∃Uo,Uo=fU Um (i+1) (only pl (.lst [.int 97,.int 97])):=⟨_,rfl⟩;rw[←eo] at vo;have cE:Uo (i+1) pl=some (.lst [.int 97,.int 97]):=by rw[eo,kH];exact aI
   have ko:∀k,k<i+1->Uo k=Um k:=λk h=>by rw[eo];exact jk (by omega)
   clear eo;refine⟨Uo (i+1),vo.bV (i+1) (Wg _),c5,pl,[97,97],rfl,ak.of (eK _ _ cE),by decide,by decide,λdr ds W _ _ vM bd Hp fr=>?_⟩;obtain⟨Up,rfl,kp,vp⟩:=vo.calls (Wg _) fr;have kp:∀k,k<i+1->Up k=Um k:=λk h=>(kp k (by omega)).trans (ko k h);have Zfh:=fr.own;have vM:=fr.bV.sub _ _ vM;have vp:=vp.cut;clear fr vo ko cE;obtain⟨d0,d1,rfl,b0,b1⟩:∃d0 d1,ds=[d0,d1]/\Bd d0 97/\Bd d1 97:=by
    cases bd with
    |cons r t=>cases t with|cons r2 t2=>cases t2;exact⟨_,_,rfl,r,r2⟩
   refine⟨_,rfl,_,rfl,s1,ms,5,rfl,ak.of (vp.at (by simp)),by decide,λc6=>⟨_,_,rfl,rfl,(by show(0:Int)<3;decide),_,_,rfl,rfl,(by show(0:Int)<2;decide),_,_,rfl,rfl,.inl ⟨by omega,by omega⟩,?_⟩⟩;obtain⟨zz,ez,hz⟩:∃zz:Nat,dw ([d0,d1].map V.int) ((i:Int)*(c6 % 3 % 2))=some (.int (zz:Int))/\zz<97:=by
    have e0:((d0.toNat:Nat):Int)=d0:=Wy b0.1;have e1:((d1.toNat:Nat):Int)=d1:=Wy b1.1;have c:(i:Int)*(c6 % 3 % 2)=0\/(i:Int)*(c6 % 3 % 2)=1:=by
     have h01:c6 % 3 % 2=0\/c6 % 3 % 2=1:=by omega
     have:i=0\/i=1:=by omega
     rcases this with rfl|rfl;·left;exact Int.zero_mul _
     ·rcases h01 with h|h<;>rw[h];·left;rfl
      ·right;rfl
    rcases c with c|c<;>rw[c];·exact⟨d0.toNat,by rw[e0];rfl,by have:=b0.2;omega⟩
    ·exact⟨d1.toNat,by rw[e1];rfl,by have:=b1.2;omega⟩
   have TB:Hp za=some (.lst ((List.range i).map λi=>V.int ((R i).z:Int))):=vp.at (by simp[dJ]);refine⟨dr,_,_,.int (zz:Int),rfl,rfl,ak.of vM,ez,za,_,_,rfl,rfl,TB,by rw[Ya,We];omega,?_⟩;have vq:Vw (i+1) Up [(za,.lst ((List.range i).map (λi=>V.int ((R i).z:Int))++[.int (zz:Int)])),(ro,.lst ((List.range i).map (λi=>V.ref (R i).td)++[.ref td])),(sa,.lst ((List.range i).map (λi=>V.ref (R i).st)++[.ref st])),(bo,.lst ((List.range i).map (λi=>V.ref (R i).l.h)++[.ref l.h])),(s1,.lst (ms.map V.int))] _:=vp.write rfl jo;have Zfi:=Zfh.upd (a:=za) (o:=.lst ((List.range i).map (λi=>V.int ((R i).z:Int))++[.int (zz:Int)])) rfl (λy e=>by rw[TB] at e;cases e);refine⟨Up,jz R i ⟨xs,ys,zz,td,l,⟨[],[],0,[],[]⟩,nl,sd,fl,st⟩,_,_,_,_,?_,λk hk=>?_,λ_=>Zfi,rfl⟩
   ·have ne:∀{k:Nat},k<i->jz R i ⟨xs,ys,zz,td,l,⟨[],[],0,[],[]⟩,nl,sd,fl,st⟩ k=R k:=λh=>wL (by omega);unfold KS;rw[zk (f:=λi=>V.int ((R i).z:Int)) (λk h=>by rw[ne h]),zk (f:=λi=>V.ref (R i).td) (λk h=>by rw[ne h]),zk (f:=λi=>V.ref (R i).st) (λk h=>by rw[ne h]),zk (f:=λi=>V.ref (R i).l.h) (λk h=>by rw[ne h]),rb];exact vq
   ·rw[kp k hk];by_cases c:k=i
    ·subst c;rw[rb];have g1:=sj.trans (sk.trans (sl.trans sm));have TC:=ba.same sj;have bak:=TC.same sk;exact⟨⟨ba.same g1,cM.nil gd,sm _ _ (sl _ _ (sk _ _ IX)),ba.fresh pG,sm _ _ (sl _ _ j9),TC.fresh QV,⟨[],sm _ _ nU,.nil⟩,bak.fresh AH,dZ,ht.same g1,Zfe,rfl,List.Pairwise.nil,Yw _,Yw _,Yw _⟩,hz⟩
    ·rw[km k c,wL c];exact ok k (by omega)
  ·rintro σ H6 ⟨U,R,o5,o6,o7,o8,v,ok,own,rfl⟩;exact gW _ _ ⟨U,R,o5,o6,o7,o8,v,ok,own (by decide),rfl⟩
 rintro σ H6 ⟨U,R,o5,o6,o7,o8,v,ok,own,rfl⟩;obtain⟨cs,ec⟩:=LP ms (some 6) none;have lcs:cs.length<=59:=by
  by_cases c:6<=ms.length
  ·have e:=congrArg List.length (ZaE (ms.map V.int) (k:=6) (by rw[Ya];exact c));rw[show((6:Nat):Int)=6 from rfl,ec,Ya,Jj,Ya] at e;omega
  ·have:=Dk (ms.map V.int) (some 6) none;rw[ec,Ya,Ya] at this;omega
 refine hV (λσ H'=>∃(U:Nat->Hp) (R:Nat->Rec) (ca:Addr) (o5 o6 o7 o8 o9 gK gL fC fD:Option V),Vw 2 U ([(ca,.lst (cs.map V.int))]++KS bo sa ro za s1 ms 2 R) H'/\(∀i,i<2->gQ C CL CJ cs.length (U i) (R i))/\σ=yx s1 bo sa ro za o5 o6 o7 o8 o9 gK gL fC fD) (λBu nN=>?_) ?_
 ·refine⟨_,rfl,_,rfl,s1,_,rfl,ak.of (v.at KS.s),λca JY=>?_⟩;rw[ec];have v7:=v.lay (o:=.lst (cs.map V.int)) JY rfl jo;have G0:=own.upd (o:=.lst (cs.map V.int)) rfl (λy e=>by rw[JY] at e;cases e);generalize upd H6 ca _=H7 at v7 G0⊢;refine⟨ca,rfl,⟨_,ak.of (v7.at Yg)⟩,?_⟩;refine kF (K:=K) (a:=ca) (xs:=cs.map V.int) (λj σ H'=>∃(U:Nat->Hp) (R:Nat->Rec) (o5 o6 o7 o8 o9 gK gL fC fD:Option V),Vw 2 U ([(ca,.lst (cs.map V.int))]++KS bo sa ro za s1 ms 2 R) H'/\(∀i,i<2->gQ C CL CJ j (U i) (R i))/\Own H'/\σ=yx s1 bo sa ro za o5 o6 o7 o8 o9 gK gL fC fD)
   ⟨U,R,o5,o6,o7,o8,none,none,none,none,none,v7,ok,G0,rfl⟩ (λj σ H' _ ⟨_,_,_,_,_,_,_,_,_,_,_,v,_⟩=>ak.of (v.at Yg)) ?_ ?_
  ·clear v ok own v7 G0 JY;rintro j c σ HA hj ⟨U,R,o5,o6,o7,o8,o9,gK,gL,fC,fD,v,ok,own,rfl⟩;obtain⟨x,rfl,hx⟩:=mJ hj;have jl:j<cs.length:=(Yi.mp hx).1;refine bg ?_;refine cq ?_;refine⟨_,rfl,_,_,rfl,rfl,by show 2<=sizeLine;omega,λpl nO=>?_⟩;have vo:=(v.lay (o:=.lst [.int 2,.int 61]) nO rfl jo).one (own.upd (o:=.lst [.int 2,.int 61]) rfl (λy e=>by rw[nO] at e;cases e)) rfl (λ_ z=>nomatch z);generalize upd HA pl _=HB at vo⊢;obtain⟨Uo,eo⟩:∃Uo,Uo=fU U 2 (only pl (.lst [.int 2,.int 61])):=⟨_,rfl⟩;rw[←eo] at vo;have cE:Uo 2 pl=some (.lst [.int 2,.int 61]):=by rw[eo,kH];exact aI
   have ko:∀k,k<2->Uo k=U k:=λk h=>by rw[eo];exact jk (by omega)
   clear eo;refine⟨Uo 2,vo.bV 2 (by omega),x+5,pl,[2,61],rfl,ak.of (eK _ _ cE),by decide,by decide,λdr ds W _ _ vM bd HC fr=>?_⟩;obtain⟨Up,rfl,kp,vp⟩:=vo.calls (k:=2) (by omega) fr;have BQ:∀i,i<2->gQ C CL CJ j (Up i) (R i):=λi h=>by rw[kp i (by omega),ko i h];exact ok i h
   have vp:=vp.keep vM jo;clear fr vo ko cE kp vM v ok;obtain⟨d0,d1,rfl,b0,b1⟩:∃d0 d1,ds=[d0,d1]/\Bd d0 2/\Bd d1 61:=by
    cases bd with
    |cons r t=>cases t with|cons r2 t2=>cases t2;exact⟨_,_,rfl,r,r2⟩
   obtain⟨k,rfl⟩:∃k:Nat,d0=(k:Int):=⟨d0.toNat,(Wy b0.1).symm⟩;have k2:k<2:=by have:=b0.2;omega
   refine cq ?_;refine⟨_,rfl,dr,_,_,.int (k:Int),rfl,rfl,ak.of (vp.at Yg),rfl,?_⟩;have dt:∀{p:Addr×HO} {R:Nat->Rec} {e1 e2:Addr×HO},p∈KS bo sa ro za s1 ms 2 R->p∈e1::([e2]++KS bo sa ro za s1 ms 2 R):=λh=>Ys _ (Ys _ h);obtain⟨S,hz⟩:=BQ k k2;refine⟨_,rfl,_,rfl,bo,_,_,_,rfl,rfl,ak.of (vp.at (dt KS.b)),ia k2,_,rfl,_,rfl,sa,_,_,_,rfl,rfl,ak.of (vp.at (dt KS.a)),ia k2,_,rfl,_,rfl,_,rfl,ro,_,_,_,rfl,rfl,ak.of (vp.at (dt KS.r)),ia k2,_,rfl,_,rfl,za,_,_,_,rfl,rfl,ak.of (vp.at (dt KS.z)),ia k2,Up k,vp.bV k k2,(R k).xs,(R k).ys,(R k).z,j,x,(R k).td,(R k).l,(R k).b,(R k).nl,(R k).sd,(R k).fl,(R k).st,rfl,S.same eK,hz,by omega,λl' b' JO vK u6 aN W wt QY p0 HD fr=>?_⟩;have vq:=vp.call k2 fr;obtain⟨r,er⟩:∃r:Rec,r=⟨(R k).xs,(R k).ys,(R k).z,(R k).td,l',b',JO,vK,u6,aN⟩:=⟨_,rfl⟩;have rs:gQ C CL CJ (j+1) W r:=by rw[er];exact⟨QY,hz⟩
   have yy:∀i,i<2->gQ C CL CJ (j+1) (fU Up k W i) (jz R k r i):=gQ.all (λi h=>⟨(BQ i h).1.more,(BQ i h).2⟩) rs kH λ_=>jk;refine⟨_,rfl,_,rfl,sa,_,_,k,rfl,rfl,vq.at (dt KS.a),by rw[Ya,We,zK (by omega) (by omega),Y4],?_⟩;dsimp only;have p0:0<(jz R k r k).b.ps.length:=by rw[rb,er];exact p0
   have vr:Vw 2 (fU Up k W) ((dr,.lst ([(k:Int),d1].map V.int))::([(ca,.lst (cs.map V.int))]++KS bo sa ro za s1 ms 2 (jz R k r))) (upd HD sa (.lst (((List.range 2).map λi=>V.ref (R i).st).set k (.ref aN)))):=by
    have e:KS bo sa ro za s1 ms 2 (jz R k r)=[(za,dJ 2 λi=>.int ((R i).z:Int)),(ro,dJ 2 λi=>.ref (R i).td),(sa,.lst (((List.range 2).map λi=>V.ref (R i).st).set k (.ref aN))),(bo,dJ 2 λi=>.ref (R i).l.h),(s1,.lst (ms.map V.int))]:=by
     have es:=ZbP (n:=2) (k:=k) (f:=λi=>V.ref (R i).st) (g:=λi=>V.ref (jz R k r i).st) (λi h=>by rw[wL h]);rw[rb,show r.st=aN by rw[er]] at es;unfold KS;rw[es,rS (R:=R) (k:=k) (r:=r) (λr=>V.int (r.z:Int)) (by rw[er]),rS (R:=R) (k:=k) (r:=r) (λr=>V.ref r.td) (by rw[er]),rS (R:=R) (k:=k) (r:=r) (λr=>V.ref r.l.h) (by rw[er];exact congrArg V.ref wt.h)]
    rw[e];exact Vw.put (l₁:=[_,_,_,_]) vq rfl jo
   generalize upd HD sa _=HE at vr⊢;generalize fU Up k W=U2 at vr yy;generalize jz R k r=R2 at vr yy p0;clear vq vp BQ fr S hz QY wt rs;obtain⟨S2,hz2⟩:=yy k k2;have sub:=(vr.bV k k2).sub;have m:=uq (z:=d1) p0;have JH:=S2.ok.m;obtain⟨q1,eq1,TH⟩:∃q1:Nat,q1=(d1 % ((R2 k).b.ps.length:Int)).toNat/\q1<(R2 k).b.ps.length:=⟨_,rfl,by omega⟩;refine cq ?_;refine⟨_,rfl,_,rfl,sa,_,_,_,rfl,rfl,ak.of (vr.at (dt KS.a)),ia k2,(R2 k).st,_,_,.ref (R2 k).nl,rfl,rfl,aA.of (sub _ _ S2.tup),rfl,?_⟩;refine cq ?_;refine⟨_,rfl,_,rfl,dr,_,_,.int d1,rfl,rfl,ak.of (vr.at Yg),rfl,_,rfl,(R2 k).nl,_,rfl,.inl (ak.of (sub _ _ S2.names)),_,_,rfl,rfl,(by show(0:Int)<_;rw[uf];omega),(R2 k).nl,_,_,.str (av (R2 k).b.ps q1),rfl,rfl,ak.of (sub _ _ S2.names),by rw[uf,eq1];exact OW m.1 m.2,?_⟩;clear m eq1;refine lO (λσ H'=>∃(U:Nat->Hp) (R:Nat->Rec) (fC fD:Option V),Vw 2 U ((dr,.lst ([(k:Int),d1].map V.int))::([(ca,.lst (cs.map V.int))]++KS bo sa ro za s1 ms 2 R)) H'/\(∀i,i<2->gQ C CL CJ (j+1) (U i) (R i))/\σ=yx s1 bo sa ro za o5 o6 o7 o8 (some (.int x)) (some (.ref dr)) (some (.int (k:Int))) fC fD) (λnM eT=>?_) ?_
   ·refine⟨_,rfl,_,rfl,bo,_,_,_,rfl,rfl,ak.of (vr.at (dt KS.b)),ia k2,_,rfl,U2 k,vr.bV k k2,(R2 k).l,(R2 k).b,(R2 k).xs,(R2 k).ys,q1,rfl,(S2.same eK).ba,S2.ok,TH,λl5 V5 p W5 w5 ba5 _ _ g5 hp HF oU=>?_⟩;obtain⟨U5,R5,v5,TK,rfl,e5⟩:=yw.call (pre:=[_,_]) (r:={R2 k with l:=l5}) vr yy k2 oU ⟨((S2.same eK).QR w5 ba5).same g5,hz2⟩ w5.h rfl rfl rfl;obtain⟨S5,hz5⟩:=TK k k2;have Zfj:=(v5.bV k k2).sub;have yz:=S5.same (eK (H:=HF));have m5:=S5.ok.m;have n8:=S5.ok.gd.2.2.2.2;have eb:(R5 k).b=(R2 k).b:=by rw[e5]
    have ex:(R5 k).xs=(R2 k).xs:=by rw[e5]
    refine⟨_,rfl,_,rfl,sa,_,_,_,rfl,rfl,ak.of (v5.at (dt KS.a)),ia k2,(R5 k).st,_,_,.ref (R5 k).fl,rfl,rfl,aA.of (Zfj _ _ S5.tup),rfl,_,rfl,_,rfl,ro,_,_,_,rfl,rfl,ak.of (v5.at (dt KS.r)),ia k2,_,rfl,U5 k,v5.bV k k2,(R5 k).fl,(R5 k).td,(R5 k).b.ps,(R5 k).xs,(R5 k).ys,(R5 k).b.F,q1,by rw[eb];rfl,yz.FL,yz.turns,S5.ok.nm,yz.good.1,n8,by omega,yz.good.2,by rw[eb];exact TH,λrm W6 _ g6 JV HG fr6=>?_⟩;obtain⟨U6,R6,v6,TL,rfl,e6⟩:=yw.call (pre:=[_,_]) (r:=R5 k) v5 TK k2 fr6 ⟨yz.same g6,hz5⟩ rfl rfl rfl rfl;have rl:=ME (R5 k).b.F n8 q1;rw[←eb,←ex] at hp;refine⟨U6 k,v6.bV k k2,_,_,.lst _,3,rfl,rfl,zH (eK _ _ (g6 _ _ (eK _ _ hp))) rl,zH (eK _ _ JV) rl,λW7 g7 HH xF=>⟨_,rfl,bR (aW (eT _ _ ?_))⟩⟩;obtain⟨S6,hz6⟩:=TL k k2;obtain⟨U7,R7,v7,ok7,_,_⟩:=yw.call (pre:=[_,_]) (r:=R6 k) v6 TL k2 xF ⟨(S6.same eK).same g7,hz6⟩ rfl rfl rfl rfl;exact⟨U7,R7,_,_,v7,ok7,rfl⟩
   rintro _ HF ⟨U8,R8,fC,fD,v8,TM,rfl⟩;clear vr yy S2 sub;obtain⟨o,eo,o2⟩:∃o:Nat,(1:Int)-(k:Int)=(o:Int)/\o<2:=⟨1-k,by omega,by omega⟩;obtain⟨S8,hz8⟩:=TM o o2;obtain⟨dx,ho⟩:=S8.ba.obj;refine⟨_,rfl,_,rfl,_,_,rfl,rfl,bo,_,_,_,rfl,rfl,ak.of (v8.at (dt KS.b)),by rw[eo];exact ia o2,(R8 o).l.h,dx,_,rfl,(v8.bV o o2).sub _ _ ho,rfl,U8 o,v8.bV o o2,(R8 o).l,(R8 o).b,(R8 o).xs,(R8 o).ys,rfl,(S8.same eK).ba,λp W9 _ g9 hp HG fr9=>?_⟩;obtain⟨U9,R9,v9,TN,rfl,e9⟩:=yw.call (pre:=[_,_]) (r:=R8 o) v8 TM o2 fr9 ⟨(S8.same eK).same g9,hz8⟩ rfl rfl rfl rfl;obtain⟨S9,hz9⟩:=TN o o2;have m9:=S9.ok.m;rw[←e9] at hp;refine⟨_,rfl,_,rfl,_,_,rfl,rfl,sa,_,_,_,rfl,rfl,ak.of (v9.at (dt KS.a)),by rw[eo];exact ia o2,(R9 o).st,_,_,.ref (R9 o).nl,rfl,rfl,aA.of ((v9.bV o o2).sub _ _ S9.tup),rfl,U9 o,v9.bV o o2,_,_,.lst _,3,rfl,rfl,y6 (eK _ _ hp) (by omega),y6 (eK _ _ S9.names) (by omega),λW10 pC HH QZ=>⟨_,rfl,bR (aW ?_)⟩⟩;obtain⟨U10,R10,v10,Zfk,_,_⟩:=yw.call (pre:=[_,_]) (r:=R9 o) v9 TN o2 QZ ⟨(S9.same eK).same pC,hz9⟩ rfl rfl rfl rfl;exact⟨U10,R10,_,_,_,_,_,_,_,_,_,v10.tail,Zfk,QZ.own,rfl⟩
  ·rintro σ H' ⟨U,R,o5,o6,o7,o8,o9,gK,gL,fC,fD,v,ok,own,rfl⟩;rw[Ya] at ok;exact nN _ _ ⟨U,R,ca,o5,o6,o7,o8,o9,gK,gL,fC,fD,v,ok,rfl⟩
 rintro σ H7 ⟨U,R,ca,o5,o6,o7,o8,o9,gK,gL,fC,fD,v,ok,rfl⟩;have dt:∀{p:Addr×HO} {R:Nat->Rec} {e:Addr×HO},p∈KS bo sa ro za s1 ms 2 R->p∈[e]++KS bo sa ro za s1 ms 2 R:=λh=>Ys _ h;have z2:0<2:=by decide
 have o2:1<2:=by decide
 refine⟨_,rfl,bo,_,_,_,rfl,rfl,ak.of (v.at (dt KS.b)),ia (k:=0) z2,_,rfl,sa,_,_,_,rfl,rfl,ak.of (v.at (dt KS.a)),ia (k:=0) z2,_,rfl,ro,_,_,_,rfl,rfl,ak.of (v.at (dt KS.r)),ia (k:=0) z2,U 0,v.bV 0 z2,(R 0).xs,(R 0).ys,(R 0).z,cs.length,(R 0).td,(R 0).l,(R 0).b,(R 0).nl,(R 0).sd,(R 0).fl,(R 0).st,rfl,(ok 0 z2).1.same eK,λW H8 fr=>⟨true,rfl,cW ?_⟩⟩;have v8:=v.call z2 fr;have e1:fU U 0 W 1=U 1:=jk (by decide);exact⟨_,rfl,bo,_,_,_,rfl,rfl,ak.of (v8.at (dt KS.b)),ia (k:=1) o2,_,rfl,sa,_,_,_,rfl,rfl,ak.of (v8.at (dt KS.a)),ia (k:=1) o2,_,rfl,ro,_,_,_,rfl,rfl,ak.of (v8.at (dt KS.r)),ia (k:=1) o2,fU U 0 W 1,v8.bV 1 o2,(R 1).xs,(R 1).ys,(R 1).z,cs.length,(R 1).td,(R 1).l,(R 1).b,(R 1).nl,(R 1).sd,(R 1).fl,(R 1).st,rfl,by rw[e1];exact(ok 1 o2).1.same eK,λW H9 _=>q H9⟩
end
theorem all_mk{l:PySem.W.OpenLaw}{w:World}{K:ai}{h:Heap}{mg:aX}{fa:Addr}(X:K.In h)(G:h.Ns mainGlobals mg)(c9:mg "law"=some (.ref fa))
  (p1:bU K "is_turn" Ek f1)
  (p2:bU K "still" E4 f2)
  (p3:bU K "behind" EG f3)
  (p4:bU K "back" Fx f4)
  (p5:bU K "check_turn" C3 f5)
  (p6:bU K "check_rows" C4 f6)
  (p7:bU K "check_parents" Cd f7)
  (p8:bU K "land_of" El f8)
  (p9:bU K "followed" DS f9)
  (p10:bU K "turned_back" CK HL)
  (p11:bU K "lines_up" DT f11)
  (p12:bU K "is_tie" EH f12)
  (p13:bU K "tie_turn" DU f13)
  (p14:bU K "fact_key" DV f14)
  (p15:bU K "keep_fact" Dp f15)
  (p16:bU K "fact_fits" Dq f16)
  (p17:bU K "is_name" Em f17)
  (p18:bU K "check_person" Cr f18)
  (p19:bU K "check_tie" Dr f19)
  (p20:bU K "sides_fit" Du f20)
  (p21:bU K "told_already" Cs f21)
  (p22:bU K "check_elders" Ct f22)
  (p23:bU K "check_saying" Cu f23)
  (p24:bU K "check_section" Ce f24)
  (p25:bU K "is_person" Dv f25)
  (p26:bU K "open_of" En f26)
  (p27:bU K "_law_cell" KQ f27)
  (p28:bU K "_law_draws" Ko f28)
  (p29:bU K "_law_turn" KR f29)
  (p30:bU K "_law_row" Eo f30)
  (p31:bU K "_law_inverse" CM f31)
  (p32:bU K "_law_after" Dw f32)
  (p33:bU K "_law_turns" Dx f33)
  (p34:bU K "_law_same" yI f34)
  (p35:bU K "_law_nets" DW f35)
  (p36:bU K "_law_carried" CN f36)
  (p37:bU K "_law_room" DX f37)
  (p38:bU K "_law_name" DY f38)
  (p39:bU K "_law_up" EI f39)
  (p40:bU K "_law_told" DZ f40)
  (p41:bU K "_law_sided" Dy f41)
  (p42:bU K "_law_word" D0 f42)
  (p43:bU K "_law_pick" D1 f43)
  (p44:bU K "_law_fact" D2 f44)
  (p45:bU K "_law_put" Ep f45)
  (p46:bU K "_law_step" D3 f46)
  (p47:bU K "_law_stands" C5 f47)
  (p48:bU K "law" rO f48)
  (z:qD K ["len","abs","list","range","tuple","any","all","isinstance","bool","int","str","sorted","min","max","sum","dict","reversed","ValueError"])
  (Vp:nsIn K mainGlobals "LEAST_SIZE"=some (some (.int (2) ZfE)))
  (VY:nsIn K mainGlobals "MOST_SIZE"=some (some (.int (8) ZfL)))
  (UJ:nsIn K mainGlobals "LONGEST_NAME"=some (some (.int (12) Zfw)))
  (Zv:nsIn K mainGlobals "PUT_IN"=some (some (.int (1) Zf5)))
  (VZ:nsIn K mainGlobals "TAKEN_OUT"=some (some (.int (-1) ZfM)))
  (UZ:nsIn K mainGlobals "TIE_LETTERS"=some (some (.ref mE)))
  (Kb:PyProof.Rows.KTD.tabLook PyProof.Rows.KTD.flatLooks (λb=>K.lookup b) mE [("mother",PyData.str "m"),("father",PyData.str "f"),("wed",PyData.str "w"),("sibling",PyData.str "s")]=true)
  (X6:nsIn K mainGlobals "PARENTS"=some (some (.ref dA)))
  (X7:K.lookup dA=some ⟨.type "tuple",Zf1,.seq #[.str "mother" ZfN,.str "father" ZfO] Zf2,Zf3⟩)
  (Zdd:nsIn K mainGlobals "MAN"=some (some (.str "man" Zgc)))
  (ZaF:nsIn K mainGlobals "WOMAN"=some (some (.str "woman" Zf8)))
  (TZ:nsIn K mainGlobals "LETTERS_OF_NAMES"=some (some (.str "abcdefghijklmnopqrstuvwxyz" Zfm)))
  (T_:nsIn K mainGlobals "SIGNS_OF_NAMES"=some (some (.str "abcdefghijklmnopqrstuvwxyz0123456789" Zfq)))
  (ZbQ:nsIn K mainGlobals "SAID"=some (some (.str "said" Zf9)))
  (X8:nsIn K mainGlobals "SIBLING"=some (some (.str "sibling" Zf4)))
  (Zde:xQ K "Land" cR)
  (lc:uv K cR)
  (Xd:cQ K cR "__init__" "Land.__init__" Dz ZfV)
  (Xe:cQ K cR "step" "Land.step" DA ZfW)
  (ZbR:xQ K "Joins" cA)
  (jc:mS K cA)
  (V0:cQ K cA "__init__" "Joins.__init__" C6 ZfP)
  (Xf:cQ K cA "add" "Joins.add" DB ZfX)
  (Xg:cQ K cA "tie" "Joins.tie" DC ZfY)
  (Xh:cQ K cA "say" "Joins.say" DD ZfZ)
  (UK:cQ K cA "open_at" "Joins.open_at" Cf Zfx)
  (V1:cQ K cA "left" "Joins.left" C7 ZfQ)
  (Uw:cQ K cA "together" "Joins.together" B8 Zft)
  (Vq:cQ K cA "pairs" "Joins.pairs" CO ZfF)
  (U0:cQ K cA "narrow" "Joins.narrow" Cv ZfB)
  (TR:cQ K cA "bring_together" "Joins.bring_together" BR Zfl)
  (V2:cQ K cA "move" "Joins.move" C8 ZfR)
  (ZaG:xQ K "Hearth" dh)
  (hc:eX K dh)
  (Vr:cQ K dh "__init__" "Hearth.__init__" CP ZfG)
  (UL:cQ K dh "person" "Hearth.person" Cg Zfy)
  (V3:cQ K dh "tie" "Hearth.tie" C9 ZfS)
  (V4:cQ K dh "say" "Hearth.say" C_ ZfT)
  (Vs:cQ K dh "keep" "Hearth.keep" CQ ZfH)
  (Vu:cQ K dh "take" "Hearth.take" CS ZfI)
  (UM:cQ K dh "people" "Hearth.people" Ci Zfz)
  (Ux:cQ K dh "side_of" "Hearth.side_of" B9 Zfu)
  (Vv:cQ K dh "kept" "Hearth.kept" CT ZfJ)
  (V6:cQ K dh "has" "Hearth.has" Dc ZfU)
  (T5:cQ K dh "parent_of" "Hearth.parent_of" BX Zfo)
  (T3:cQ K dh "parents_of" "Hearth.parents_of" BV Zfn)
  (U1:cQ K dh "joins" "Hearth.joins" Cw ZfC)
  (Uy:cQ K dh "do_deed" "Hearth.do_deed" B_ Zfv)
  (U3:cQ K dh "shift" "Hearth.shift" Cy ZfD)
  (UN:cQ K dh "put_in" "Hearth.put_in" Cj ZfA)
  (T6:cQ K dh "note_fact" "Hearth.note_fact" BY Zfp)
  (Uh:cQ K dh "take_out" "Hearth.take_out" B4 Zfr)
  (Ui:cQ K dh "place_of" "Hearth.place_of" B5 Zfs)
  :∃fd:FuncData,(∀(s:Shared) (v:Value),BindsTo s fd ⟨[v],[]⟩ [("_law_script",v)])/\∀base:Heap,K.In base->base.Ns mainGlobals mg->aH l.prog w K mg base (nE l.prog w) 16 fa fd AI (z9 K):=by
 obtain @⟨od,an,sl,oc,kV,dc,pm,cd,ct,ax,lx,cx,kx⟩:=p48;have e:=c9.symm.trans (mg_of X G ax);cases e;have bl:=z.bl X G;have Dd:=mg_of X G Vp;have DE:=mg_of X G VY;have CB:=mg_of X G UJ;have oj:=mg_of X G Zv;have DK:=mg_of X G VZ;have tE:=mg_of X G UZ;have iI:=mg_of X G X6;have we:∀H,aA K H dA [.str "mother",.str "father"]:=λ_=>.inr ⟨_,_,_,X7,rfl,rfl,by show 2<=sizeLine;decide,(.cons ⟨_,rfl⟩ (.cons ⟨_,rfl⟩ .nil))⟩;have rR:=mg_of X G Zdd;have rB:=mg_of X G ZaF;have B0:=mg_of X G TZ;have Cc:=mg_of X G T_;have kK:=mg_of X G ZbQ;have og:=mg_of X G X8;have Zdf:=lc.cls;have mN:=jc.cls;have fY:=hc.cls;refine⟨fnOf "law" "law" (oq rO) (kJ rO) (aK rO) .none kV dc pm an cd ct,λs v=>.of_eq rfl,λbase _ _=>?_⟩;have F:=wC (st:=rO) lx cx kx;have D:k_ l.prog w K mg base:=⟨X,G⟩;have q5:=D.d p27 (λ_ F=>Zbf F bl.zZ);have kC:=D.d p28 (λ_ F=>Z_ F bl.Zdw);have tW:=D.d p1 (λ_ F=>XD F bl);have pN:=D.d p9 (λ_ F=>WN F bl);have nX:=D.d p10 (λ_ F=>UT F bl);have ud:=D.d p2 (λ_ F=>Zac F bl);have DG:=D.m Zdf Xe (λ_ F=>Zbl F lc);have Fd:=D.j ZbR V0 (λ_ F=>Zag F jc bl);have sY:=D.m mN Uw (λ_ F=>WO F jc bl);have jA:=D.m mN UK (λ_ F=>XH F jc bl);have sZ:=D.m mN U0 (λ_ F=>Zh F jc bl);have ua:=D.d p12 (λ_ F=>Zm F tE Kb);have nY:=D.d p14 (λ_ F=>WT F og bl);have lF:=D.m fY UM (λ_ F=>Zn (CL:=cR) (CJ:=cA) F hc bl);have mD:=D.m fY Ux (λ_ F=>XR (CL:=cR) (CJ:=cA) F hc bl);have tM:=D.d p25 (λ_ F=>VN F bl);have B3:=D.m fY T5 (λ_ F=>VO (CL:=cR) (CJ:=cA) F hc);have BW:=D.m fY T3 (λ_ F=>Vm (CL:=cR) (CJ:=cA) F hc iI we);have CZ:=D.m fY Vv (λ_ F=>Zbv (CL:=cR) (CJ:=cA) F hc bl);have Ex:=D.d p17 (λ_ F=>XU F CB B0 Cc bl);have wm:=D.j ZaG Vr (λ_ F=>Zaz (CL:=cR) (CJ:=cA) F hc);have DL:=D.d p20 (λ_ F=>VQ F rR rB og);have Cp:=D.d p24 (λ_ F=>Uv (C:=dh) (CL:=cR) (CJ:=cA) F hc lc bl);have DN:=D.d p32 (λ_ F=>VU F bl);have qV:=D.d p31 (λ_ F=>XX F bl);have CW:=D.d p36 (λ_ F=>XY F bl);have Ea:=D.d p40 (λ_ F=>WW F);have DO:=D.d p41 (λ_ F=>VX F);have ET:=D.d p39 (λ_ F=>Zr F bl);have yN:=D.d p43 (λ_ F=>WY F bl);have Eb:=D.d p38 (λ_ F=>W_ F bl);have B7:=D.m fY Ui (λ_ F=>Xc (CL:=cR) (CJ:=cA) F hc);have D9:=D.d p29 (λ_ F=>Zbg F bl.uj bl.jj bl.mK);have jC:HasFn l.prog w K mg base 4 "_law_same" mf (qc 4):=let⟨_,F,b,k,m⟩:=D.p (ps:=mf) p34;⟨_,_,Nc F b k m bl 4,b,k,m⟩;have qW:=D.d p5 (λ_ F=>Zc0 F tW);have tH:=D.d p6 (λ_ F=>Zbj F tW Dd DE bl);have tN:=D.m mN Xf (λ_ F=>Zc1 F jc ud bl);have DH:=D.m mN Xh (λ_ F=>Zc2 F jA sZ bl);have yA:=D.m mN V2 (λ_ F=>Zbn F jc pN nX bl);have CV:=D.m mN Vq (λ_ F=>Zak F jc sY jA bl);have tS:=D.d p13 (λ_ F=>WR (CL:=cR) F tE Kb lc ua DG);have tJ:=D.m fY V6 (λ_ F=>Zc8 (CL:=cR) (CJ:=cA) F hc nY);have BZ:=D.m fY T6 (λ_ F=>ZbA (CL:=cR) (CJ:=cA) F hc iI we nY);have B6:=D.m fY Uh (λ_ F=>WU (CL:=cR) (CJ:=cA) F hc iI we tM nY);have CC:=D.d p18 (λ_ F=>UD (C:=dh) (CL:=cR) (CJ:=cA) F Ex rR rB lF);have D8:=D.d p11 (λ_ F=>WV (C:=dh) (CL:=cR) (CJ:=cA) F BW);have t4:=D.d p30 (λ_ F=>XW F kC D9 bl);have D_:=D.d p35 (λ_ F=>ZbI F qV bl);have vY:=D.d p33 (λ_ F=>ZaB F qV DN bl);have Ec:=D.d p44 (λ_ F=>WZ F yN bl);have t_:=D.d p3 (λ_ F=>ZdO F qW pN bl);have wJ:=D.d p4 (λ_ F=>ZdP F qW nX bl);have BU:=D.m mN TR (λ_ F=>Zaj F jc nX yA bl);have tI:=D.m mN V1 (λ_ F=>Zbo F CV bl);have CD:=D.d p21 (λ_ F=>ZbE (C:=dh) (CL:=cR) (CJ:=cA) F og iI we B3 tJ);have CF:=D.d p22 (λ_ F=>UG (C:=dh) (CL:=cR) (CJ:=cA) F D8);have CG:=D.d p23 (λ_ F=>UI (C:=dh) (CL:=cR) (CJ:=cA) F kK mD Cp tJ);have lI:=D.d p37 (λ_ F=>ZbK F D_ CW bl);have Ck:=D.d p7 (λ_ F=>XE F t_ bl);have DI:=D.m mN Xg (λ_ F=>Zc5 F jc tI sY BU sZ bl);have DJ:=D.d p16 (λ_ F=>VL (CL:=cR) (CJ:=cA) F kK tS jA tI);have DM:=D.d p19 (λ_ F=>VS (C:=dh) (CL:=cR) (CJ:=cA) F iI we ua DL mD CD CF);have Ed:=D.d p42 (λ_ F=>WX F DO Ea ET lI bl);have Fz:=D.j Zde Xd (λ_ F=>Zbk F lc tH Ck wJ ud bl);have tO:=D.d p15 (λ_ F=>VJ (CL:=cR) (CJ:=cA) F kK tS DH DI);have wc:=D.d p8 (λ_ F=>XG (C:=cR) F tH t_ Fz);have Cn:=D.m fY UN (λ_ F=>Zp (CL:=cR) (CJ:=cA) F hc tM tN BZ tO bl);have s_:=D.m fY U1 (λ_ F=>Zax (CL:=cR) (CJ:=cA) F hc lc Fd tN tO);have CA:=D.m fY U3 (λ_ F=>Zaw (CL:=cR) (CJ:=cA) F hc oj Cn B6);have pQ:=D.d p26 (λ_ F=>X5 (C:=dh) (CL:=cR) (CJ:=cA) F s_ B7 jA);have nW:=D.m fY Uy (λ_ F=>XS (CL:=cR) (CJ:=cA) F hc CA);have tK:=D.d p47 (λ_ F=>Zu (C:=dh) (CL:=cR) (CJ:=cA) F jC lI pQ lF CZ mD bl);have Cq:=D.m fY UL (λ_ F=>Zq (CL:=cR) (CJ:=cA) F hc oj CC nW);have tF:=D.m fY Vs (λ_ F=>ZbC (CL:=cR) (CJ:=cA) F hc oj DJ s_ nW);have CY:=D.m fY Vu (λ_ F=>ZbD (CL:=cR) (CJ:=cA) F hc DK nW);have Dh:=D.m fY V3 (λ_ F=>ZbF (CL:=cR) (CJ:=cA) F hc DM tF);have Dg:=D.m fY V4 (λ_ F=>ZbG (CL:=cR) (CJ:=cA) F hc kK CG tF);have EA:=D.d p45 (λ_ F=>X3 (C:=dh) (CL:=cR) (CJ:=cA) F Dg Dh);have wa:=D.d p46 (λ_ F=>Xb (C:=dh) (CL:=cR) (CJ:=cA) F kC Eb Ec Ed EA Cq CY bl);exact Zdc F q5 kC t4 vY jC lI wa pQ tK lF wc wm bl
theorem walk{l:PySem.W.OpenLaw}{q:Program}{loose:List Str}{XP:(Str->Option Value)->Heap->Prop}{YP:World->Heap->Prop}{d:DefRec}{K:Params->ai}(hn:l.most=some 63)(xD:d.params.defaults=[])
  (hY:∀(w:World) (h:Heap),YP w h->(K w.params).In h)
  (F:∀(w:World) (mg:aX) (fa:Addr) (h:Heap),(K w.params).In h->h.Ns mainGlobals mg->mg d.name=some (.ref fa)->
   ∃fd:FuncData,(∀(s:Shared) (u:Value),BindsTo s fd ⟨[u],[]⟩ [("_law_script",u)])/\∀base:Heap,(K w.params).In base->base.Ns mainGlobals mg->aH l.prog w (K w.params) mg base (nE l.prog w) 16 fa fd AI (z9 (K w.params))):
  PySem.W.WalkO q loose XP YP l.row.toRowW d [] (λf vs=>PySem.call f vs):=
 L2.ZaT (n:=63) (k:=16) (x:="_law_script") (CX:=λw=>nE l.prog w) (sp:=λw=>z9 (K w.params)) hn (by decide) xD ⟨rfl,by decide,by decide,rfl⟩ hY F (λ_ _ a ns hl _ hS=>⟨a,ns,rfl,hS,hl,λ_=>rfl⟩) λ_ _ _ _ _ h=>by obtain⟨_,_,_,_,_,_,_,_,_,_,_,_,_,_,z⟩:=h;exact z
end HY
namespace PySem.W.Fast
def tw18227242702259732749:=0
def tw5666070030935735068:=0
def tw3529766512507180608:=0
def tw14104405431798276928:=0
def tw14079485048661978113:=0
def tw7322101050212421793:=0
def tw9564925581234227425:=0
def tw18061515591455775650:=0
def tw1282030219480740963:=0
def tw15621730077466916707:=0
def tw2611311678162405444:=0
def tw13336469884542090692:=0
def tw1484814626426581892:=0
def tw16088777043055197797:=0
def tw6162153406763241413:=0
def tw6875042956427131398:=0
def tw11052338519658184518:=0
def tw15484009470283029576:=0
def tw17308230977305719177:=0
def tw4257672582752684489:=0
def tw4727382377454027369:=0
def tw4113479148592025449:=0
def tw10435101753907864170:=0
def tw18202257165323731786:=0
def tw17582681884886098794:=0
def tw8858406850121259083:=0
def tw4079393122325792011:=0
def tw764542632110757228:=0
def tw16853435662253685100:=0
def tw8449523351674189292:=0
def tw1931068222258095565:=0
def tw2539310522497436557:=0
def tw12633578172751798062:=0
def tw4320956301996374287:=0
def tw16860361526411282735:=0
def tw3304736440542091663:=0
def tw7279500501871960272:=0
def tw12529166905546956112:=0
def tw11157708284503443440:=0
def tw1221626677944339281:=0
def tw9094580060113598130:=0
def tw9105245545017982866:=0
def tw2034727322344548148:=0
def tw6178229974246165077:=0
def tw4211688579154300057:=0
def tw6172691646876332282:=0
def tw10729980834200008122:=0
def tw10045786085065897754:=0
def tw15150592538850354970:=0
def tw1037385894085528635:=0
def tw17762505229803875291:=0
def tw1634610100297693500:=0
def tw17283998588683414269:=0
def tw10997990830338197405:=0
def tw10571471059882099677:=0
def tw4571971010211538494:=0
def tw5461809988858394590:=0
def tw16830552486638374150:=0
def tw7896139672645979329:=0
def tw2561715892401265654:=0
def tw11208722518598436415:=0
def tw4348354553055109040:=0
def tw7603555945468155890:=0
def tw17183005948997818291:=0
def tw17517792342025921463:=0
def tw1513830786001556912:=0
def tw11013772384632023117:=0
def tw7739059376832473555:=0
def tw16191848383139113273:=0
def tw7709628390605336515:=0
def tw11669634199847771672:=0
def tw12852044973168361026:=0
def tw5091011331114951867:=0
def tw17446936262132128723:=0
def tw15985667916528018374:=0
def tw9108216848024548481:=0
def tw15283697324983372760:=0
def tw80645036072342450:=0
def tw18140025381849587248:=0
def tw3573888937131338908:=0
def tw3710154629377342544:=0
def tw10255363906799503483:=0
def tw16952197520323672481:=0
def tw14314893615779434319:=0
def tw4447677379424690008:=0
def tw10233863746955454811:=0
def tw2382533519905616119:=0
def tw1177292625500282025:=0
def tw11231766263264833782:=0
def tw18294430844892046907:=0
def tw13055098376332045040:=0
def tw5483842273611686480:=0
def tw15373131634188835508:=0
def tw11595006913293022005:=0
def tw4279518191787891665:=0
def tw4421955209953359233:=0
def tw8938370688185822950:=0
def tw311625267743852604:=0
def tw18131310806881248814:=0
def tw5409744278729997087:=0
def tw11687769527083345442:=0
def tw8297235476870070561:=0
def tw16550222034622684124:=0
def tw14923651995778667135:=0
def tw5729392978124832009:=0
def tw14203106302374951345:=0
def tw13431111696153561539:=0
def tw11234715641991908742:=0
def tw1630158915605464232:=0
def tw18294685589441578530:=0
def tw4323918081581263642:=0
def tw5458966649971092715:=0
def tw17257378889167785775:=0
def tw1265908025021412376:=0
def tw9606895830264255990:=0
def tw464983117261164343:=0
def tw1830824534723050748:=0
def tw2036779952833893659:=0
def tw7923610121217320413:=0
def tw7373855531061111905:=0
def tw5246348056316084797:=0
def tw3175955310262293432:=0
def tw12333827963276458423:=0
def tw14936810141745211349:=0
def tw10488588142076573471:=0
def tw16610296811281090707:=0
def tw13571216825500270708:=0
def tw4514898175845981449:=0
def tw9421595531582596700:=0
def tw15228739865839820:=0
def tw986021541117933471:=0
def tw5612262696707651361:=0
def tw6965764838095145340:=0
def tw4583740766601099149:=0
def tw12361320755622762152:=0
def tw6368033169554193068:=0
def tw16141832946861083486:=0
def tw17456490572929267357:=0
def tw12894444268651508746:=0
def tw13548793910182652089:=0
def tw7897478464462176804:=0
def tw2302510240460154740:=0
def tw16876272197743310913:=0
def tw11560264078323388062:=0
def tw703717096141463926:=0
def tw7263222660050682197:=0
def tw2887510438755103411:=0
def tw8783145093744356557:=0
def tw11221632455347338538:=0
def tw541123254133743701:=0
def tw2487085642045396801:=0
def tw16274558713935402286:=0
def tw11019960962990838081:=0
def tw8999238267018684265:=0
def tw10267430861862098749:=0
def tw13454721719571417502:=0
def tw16145279852555540654:=0
def tw3588880263841023532:=0
def tw8333853447124539319:=0
def tw1384289970600085873:=0
def tw12922418045113101077:=0
def tw2988598592016828726:=0
def tw13369091822609269838:=0
def tw6038987788028736183:=0
def tw3942928282684501250:=0
def tw13436680678863327439:=0
def tw9872416520882783214:=0
def tw10489815022527643413:=0
def tw5914752716970738118:=0
def tw5630914934243222997:=0
def tw5327448711063774039:=0
def tw1687471198345746953:=0
def tw4219228675389618306:=0
def tw4098715913887735199:=0
def tw3309771827872150882:=0
def tw6101015318238714535:=0
def tw3762187231456419313:=0
def tw16964880071685265769:=0
def tw17205002607807104411:=0
def tw11051154159522960757:=0
def tw17736640007147561903:=0
def tw11443394980510692499:=0
def tw15401955563639502992:=0
def tw7220712213762027784:=0
def tw8334204442828800885:=0
def tw13353609587742888517:=0
def tw4626145250215098364:=0
def tw3563409957671892214:=0
def tw2005888896284815093:=0
def tw9793668066794111429:=0
def tw15143337909486762000:=0
def tw12020790084916622770:=0
def tw14907530889979076019:=0
def tw4660066410756782906:=0
def tw6899641585085064844:=0
def tw5530617245042981075:=0
def tw6252348620435119311:=0
def tw13500291972760764761:=0
def tw2856666334643707311:=0
def tw14730178500084475878:=0
def tw16067859722015050561:=0
def tw4129397740283703466:=0
def tw16028860857705623968:=0
def tw7789291602533183993:=0
def tw4581149462281881776:=0
def tw11492206723161179211:=0
def tw8482722571351513344:=0
def tw869481016897655600:=0
def tw4690054067104527945:=0
def tw2764902029888623732:=0
def tw16361966841101725990:=0
def tw9757041036430957412:=0
def tw4141739574208479393:=0
def tw12079770046415723204:=0
def tw460042442003321221:=0
def tw5839550396011588107:=0
def tw1222715272648357947:=0
def tw528574978298983198:=0
def tw3598901442875332579:=0
def tw7408114830641413403:=0
def tw4508181572061031257:=0
def tw16925697972981454853:=0
def tw5596726084756379257:=0
def tw14247761762493242515:=0
def tw5758774184042098456:=0
def tw9293425562007995154:=0
def tw2139627957270956257:=0
def tw10348200227197945479:=0
def tw2184174080483935117:=0
def tw2000077048845585516:=0
def tw8336705588646546837:=0
def tw68151876791958312:=0
def tw4993610560269384520:=0
def tw14855810033922254354:=0
def tw2859279467143972973:=0
def tw5865480015412931870:=0
def tw13659348670308793657:=0
def tw4224887482645230449:=0
def tw14821201227184463054:=0
def tw16191908280064837069:=0
def tw6952804101716212146:=0
def tw12931914601316289123:=0
def tw16717067728995426596:=0
def tw8537151460765411418:=0
def tw14024225955243510835:=0
def tw1235002715496915012:=0
def tw11985294757778235223:=0
def tw1466238962568259453:=0
def tw1717642174614012996:=0
def tw9702277110450755936:=0
def tw6510762078655389419:=0
def tw18112055802244828339:=0
def tw15415792762166217990:=0
def tw1982882749033582031:=0
def tw18020684740947362969:=0
def tw9904942514652011778:=0
def tw2915429137290120415:=0
def tw10778795781761301019:=0
def tw8554223565127534247:=0
def tw7933577171560296022:=0
def tw18351227431410618160:=0
def tw14857111367132092965:=0
def tw10567695081917261358:=0
def tw16177324167551351748:=0
def tw10225212995972521112:=0
def tw515967695410200090:=0
def tw10413028278361451232:=0
def tw17965065429815988301:=0
def tw1069758255182250415:=0
def tw7485099566189602314:=0
def tw9809973289233105415:=0
def tw8639495791276066320:=0
def tw1753701586575874318:=0
def tw5323915264716735313:=0
def tw13767932734769520071:=0
def tw7169867098422879363:=0
def tw7256454150684319467:=0
def tw4734024391036287624:=0
def tw12100541951618651231:=0
def tw18302665785275059502:=0
def tw11156035667877426497:=0
def tw10712491512533405848:=0
def tw9202395509984862801:=0
def tw2413683246262660745:=0
def tw16709293415073750192:=0
def tw16037013076576015666:=0
def tw13298383641758476971:=0
def tw11503484502141289543:=0
def tw13041140099754400270:=0
def tw8910826666037517376:=0
def tw14162991442562970938:=0
def tw9537784831530546802:=0
def tw4013616195953591163:=0
def tw12792798350593193315:=0
def tw14846571603435990020:=0
def tw15826374776535588489:=0
def tw15740057837810919666:=0
def tw11308973784678856224:=0
def tw11845545569609972725:=0
def tw4506907336462039160:=0
def tw10144231871179390138:=0
def tw8293423010450288189:=0
def tw5488204326389085879:=0
def tw14838026171016538911:=0
def tw13293685879868403321:=0
def tw12813046449494286426:=0
def tw11005252148784944423:=0
def tw6029000315035167119:=0
def tw18011346212281255366:=0
def tw12463756123656572413:=0
def tw5142856766393006823:=0
def tw12928180815409237329:=0
def tw2613372679696852592:=0
def tw3699293810564082519:=0
def tw18379950660232155139:=0
def tw143424275438789416:=0
def tw9182845118885446226:=0
def tw5884378229976721803:=0
def tw3910949935113522056:=0
def tw1498406361713384771:=0
def tw2719471694747845561:=0
def tw9520125992603086847:=0
def tw18236271184410231566:=0
def tw11003089895254789653:=0
def tw15724543014210252416:=0
def tw9240808548187102921:=0
def tw6846654142653931328:=0
def tw6206800673457233909:=0
def tw3430717081496650:=0
def tw959195269989789596:=0
def tw6266339726595462905:=0
def tw12959208091459854377:=0
def tw3604513824830366574:=0
def tw2266128382501675588:=0
def tw2792776439130596066:=0
def tw7804002602594472690:=0
def tw17732616762199489025:=0
def tw1377339708485262930:=0
def tw11728226043282517767:=0
def tw6740716056168159939:=0
def tw3782144521852769367:=0
def tw2095723122204096072:=0
def tw1377750671920583097:=0
def tw16516000079660195067:=0
def tw15081758697299212216:=0
def tw11501740652922790648:=0
def tw8742893858340071366:=0
def tw860321791912926850:=0
def tw7930450121912540034:=0
def tw7827414397875947122:=0
def tw4050733956041821442:=0
def tw3305359028352257637:=0
def tw2892795327500429469:=0
def tw2351795838024984195:=0
def tw17684999434894967723:=0
def tw2494511548529063909:=0
def tw10139878721865333915:=0
def tw12793482878149214037:=0
def tw1757093946656950448:=0
def tw2365417390665390795:=0
def tw6862911082569479666:=0
def tw14963138260025495302:=0
def tw9349309280795614154:=0
def tw8157425121603875294:=0
def tw3605017659089022737:=0
def tw2409280539184973614:=0
def tw14239128122238763790:=0
def tw12543435413362121241:=0
def tw12256757905991039716:=0
def tw11113862004810530794:=0
def tw10460898928160717904:=0
def tw6952092831878752114:=0
def tw6559679032665347031:=0
def tw14427772670004780672:=0
def tw1076501028899585115:=0
def tw9689360773383091280:=0
def tw6841966428033662256:=0
def tw17625880075343956432:=0
def tw13123171009197405903:=0
def tw9171759957495003224:=0
def tw4763524510092767058:=0
def tw8139655276217479326:=0
def tw3359976709746396051:=0
def tw18092009633520387856:=0
def tw16066290374982248604:=0
def tw1241983283227944432:=0
def tw12366414835363287904:=0
def tw9397004817777323589:=0
def tw3857201806043641093:=0
def tw10867700594422424782:=0
def tw16985080022989441860:=0
def tw14072875694749566893:=0
def tw13222040951333370365:=0
def tw6503005210289991400:=0
def tw5768283523927452964:=0
def tw3227667349414585123:=0
def tw215472476490812702:=0
def tw15761855452414586789:=0
def tw13682852168832807140:=0
def tw9817356386330687187:=0
def tw4448334624071448264:=0
def tw2232397912206687573:=0
def tw11441033027198388474:=0
def tw10578130327977700509:=0
def tw1582626399250351540:=0
def tw1491638644595632165:=0
def tw2480443939293224247:=0
def tw2438328582357075453:=0
def tw1551864887900943269:=0
def tw10195647214521196245:=0
def tw7116091982507275517:=0
def tw8946978140152961734:=0
def tw11503512412403906930:=0
def tw5090625302523084548:=0
def tw16158655589448684873:=0
def tw6328498610619839719:=0
def tw9573009296632429791:=0
def tw6395973481581679605:=0
def tw18289410194601703212:=0
def tw7112338938055060934:=0
def tw6160376585043715462:=0
def tw13240859116588790385:=0
def tw2107484688830861986:=0
def tw10207685345784079952:=0
def tw9412716346934191484:=0
def tw8808082016780249902:=0
def tw7780307208661016174:=0
def tw2781695116854276930:=0
def tw16920495207422213823:=0
def tw16362879644306189863:=0
def tw12160160095369286492:=0
def tw11145299846296029369:=0
def tw10810097654192853059:=0
def tw10728340932883825623:=0
def tw5782458716297527442:=0
def tw8898404189147029766:=0
def tw16324465881518411208:=0
def tw7988435958641415237:=0
def tw627728717463788890:=0
def tw11970516467410823294:=0
def tw9457077168998553366:=0
def tw816507062547352057:=0
def tw15722864707612801350:=0
def tw13376804517846520213:=0
def tw5114907721516729787:=0
def tw9478322216988916637:=0
def tw17001234401458712265:=0
def tw14834579021846682677:=0
def tw12675729778228397901:=0
def tw2288314446750837159:=0
def tw5263001077302082160:=0
def tw15840730166318827836:=0
def tw14467111943221108638:=0
def tw8797014071312980587:=0
def tw1606723999100584152:=0
def tw1564734792288483073:=0
def tw16383321196257761953:=0
def tw14528138409943284376:=0
def tw1405013719001176748:=0
def tw13977026685301167851:=0
def tw1369772504487117304:=0
def tw9451847609500557826:=0
def tw8539137458257210968:=0
def tw7330523269802792838:=0
def tw6098455685168108209:=0
def tw5135430978681871935:=0
def tw3798287099987557503:=0
def tw276314286841644438:=0
def tw2442680469231834862:=0
def tw16148786034409055895:=0
def tw13942776708998828031:=0
def tw12437779755230374999:=0
def tw10699270018140136110:=0
def tw9728961055900462756:=0
def tw8365321937190051411:=0
def tw5215798064343294990:=0
def tw4815710318653799560:=0
def tw3002626658623974330:=0
def tw228112001009766309:=0
def tw18354321763117987044:=0
def tw18353506903199293651:=0
def tw1819509772631174897:=0
def tw17947205822378880559:=0
def tw14948820449065890921:=0
def tw1359782049493232251:=0
def tw13371835748037866529:=0
def tw11616945623061650602:=0
def tw11233922242352015159:=0
def tw10724759745138386198:=0
def tw12646297612996298352:=0
def tw1301813129747876593:=0
def tw15274930905635300521:=0
def tw13665501909322709823:=0
def tw11509497927232694481:=0
def tw5965081069368172358:=0
def tw1995618588500055254:=0
def tw15324204000993693591:=0
def tw13716178407445219453:=0
def tw13047101285937340611:=0
def tw7533933130684926638:=0
def tw8573304913292861921:=0
def tw1792324628437839902:=0
def tw14175280346001722545:=0
def tw13417380954417066140:=0
def tw12030094401491247625:=0
def tw1188878603943374754:=0
def tw13617341638237055533:=0
def tw6946432299812665608:=0
def tw18395633431574268280:=0
def tw7815851790744452347:=0
def tw9761182861962674969:=0
def tw9235096225289873366:=0
def tw9220138674396661024:=0
def tw8387529268697966172:=0
def tw5676741945642976676:=0
def tw5514224125946043526:=0
def tw3749536069334114477:=0
def tw2720604910518963661:=0
def tw2420063062699208118:=0
def tw17297143712249616184:=0
def tw1498636837851852416:=0
def tw13522779742312379126:=0
def tw11915523185093051858:=0
def tw9651379418926975950:=0
def tw9609674940217391672:=0
def tw9319505450595457612:=0
def tw9050597606988674936:=0
def tw6127554525623672634:=0
def tw4529548517186596424:=0
def tw3801241127068641870:=0
def tw2259182270338883114:=0
def tw2069236803545756662:=0
def tw17668508081630061656:=0
def tw17018086106802947218:=0
def tw16944836307332595635:=0
def tw14879580651917480910:=0
def tw13939497728241335060:=0
def tw12974162267024635483:=0
def tw12296942957950902095:=0
def tw3336874090499875748:=0
def tw16419750758184252791:=0
def tw9041270518169715691:=0
def tw8346517804251525264:=0
def tw7576872104512653107:=0
def tw5778094166632684427:=0
def tw5504187877615856198:=0
def tw5162099050526842688:=0
def tw4667406874097516046:=0
def tw4085145812042171341:=0
def tw2505642509465630657:=0
def tw2164571386603932728:=0
def tw1874841075651507023:=0
def tw18274195977497590883:=0
def tw18016801903430719547:=0
def tw17834651963035263333:=0
def tw17534996305744539854:=0
def tw17020813798818027863:=0
def tw16992012645485457957:=0
def tw16856589078030970178:=0
def tw16352771622266640807:=0
def tw14676110378126244445:=0
def tw13155487441325596540:=0
def tw11968292884374947542:=0
def tw11215290603759357278:=0
def tw10741119636199751409:=0
def tw3091855100262431789:=0
def tw3274767579327079609:=0
def tw13070391433143434699:=0
def tw14648984518960063272:=0
def tw2244831127288918183:=0
def tw18397288228994908980:=0
def tw5685564539000891443:=0
def tw17875093409390610323:=0
def tw56164343623273657:=0
def tw4762309476628726332:=0
def tw11636001067313469087:=0
def tw9621199010066513638:=0
def tw9299894496803803447:=0
def tw8368545451447397424:=0
def tw7746103272613569553:=0
def tw6426512292167484100:=0
def tw3168870334319167497:=0
def tw14799256106196034619:=0
def tw13989228306390250594:=0
def tw1329427265352405397:=0
def tw11355627969333437182:=0
def tw5131970922758788804:=0
def tw3514243107222300882:=0
def tw12232577213868400038:=0
def tw9591229380171407605:=0
def tw8808465250442400090:=0
def tw7160125823379833147:=0
def tw670086807553898129:=0
def tw6343029413803457347:=0
def tw3392362478385051547:=0
def tw18331395611935202326:=0
def tw12612113661267752658:=0
def tw11833397532596873401:=0
def tw7058357459035111676:=0
def tw6838444640237000133:=0
def tw18130880139270646542:=0
def tw13772026736252632489:=0
def tw16365418385183211390:=0
def tw7186129718851943681:=0
def tw147851578079364952:=0
def tw12779487100494014388:=0
def tw12601888062223399544:=0
def tw5063401922321579036:=0
def tw6909827021355183136:=0
def tw6175553527048402005:=0
def tw4152844174189913726:=0
def tw17058412219908613833:=0
def tw16723031548311822993:=0
def tw15839194685850368854:=0
def tw14934824976739666861:=0
def tw10421950252795152466:=0
def tw993927689153686650:=0
def tw9185149065434244770:=0
def tw6873691454117353730:=0
def tw6465956618244326508:=0
def tw5624238902218461747:=0
def tw4542909512873805624:=0
def tw3112241218783807859:=0
def tw1976718395788672074:=0
def tw1803353315155271422:=0
def tw16804134557469948068:=0
def tw16709576454275458090:=0
def tw15920410139879212105:=0
def tw15686528109008322476:=0
def tw15541743973961922581:=0
def tw15068038862096769885:=0
def tw13901888093127416957:=0
def tw13877317210984473668:=0
def tw13660912511976732408:=0
def tw13581059060174019772:=0
def tw13119243301246933726:=0
def tw12794763970911082078:=0
def tw1278110567856906053:=0
def tw12176724408162493744:=0
def tw10107247934266474905:=0
def tw17915062676881453340:=0
def tw3298447145107895829:=0
def tw9341473380070805809:=0
def tw9321675058820255111:=0
def tw8429860112623171864:=0
def tw6247210795616620864:=0
def tw4542390345236927749:=0
def tw4307481955370745375:=0
def tw3617828324712641933:=0
def tw2787592188216105268:=0
def tw17204888470648757026:=0
def tw15440757013691593201:=0
def tw1421050920695659170:=0
def tw13507029637161069300:=0
def tw1282172018421358672:=0
def tw12558140038635620368:=0
def tw10911369368314546460:=0
def tw6362650010851361710:=0
def tw6253550716864520521:=0
def tw5682219287250326168:=0
def tw4207292511150177680:=0
def tw3028002724970354954:=0
def tw18318119132326712201:=0
def tw17970274134748959535:=0
def tw3868144507201458309:=0
def tw8232519500355507710:=0
def tw17789735165603724113:=0
def tw6582042408902653136:=0
def tw6151741560724209839:=0
def tw8155088870407322239:=0
def tw8013781501609794279:=0
def tw7216816185627325650:=0
def tw6599154665001108036:=0
def tw4346953994042445702:=0
def tw18410623278250379903:=0
def tw17576209100815688485:=0
def tw15231822941227800057:=0
def tw14235627071459272152:=0
def tw13310729920048234246:=0
def tw11912986442263548253:=0
def tw11541387255243225299:=0
def tw10364045281149875373:=0
def tw7720566863749717721:=0
def tw986282269306525795:=0
def tw9715490556740762833:=0
def tw9617486123714639710:=0
def tw943063427462139248:=0
def tw9384522183744989805:=0
def tw9153164373133101458:=0
def tw9115442063949139165:=0
def tw9102038060507591687:=0
def tw9037674952974040242:=0
def tw897582043308508820:=0
def tw8854713607195538734:=0
def tw8828000129212667250:=0
def tw8769524519292901716:=0
def tw8616076838282413968:=0
def tw8601051735033704145:=0
def tw822012139665777580:=0
def tw8171589108264871526:=0
def tw7961562773277534644:=0
def tw7957398745578923499:=0
def tw7893068423135341230:=0
def tw7884476334299712944:=0
def tw7833679430566784241:=0
def tw7644456365245230020:=0
def tw7603530930901294001:=0
def tw7331355903594874339:=0
def tw7222104361620262973:=0
def tw7109339243017794439:=0
def tw7020290460390154175:=0
def tw6839213997751632647:=0
def tw6757120903126563588:=0
def tw6736877961698075035:=0
def tw6604318318349096060:=0
def tw6518315177615579351:=0
def tw6378284372323319127:=0
def tw6370460989102894348:=0
def tw6356237673401703225:=0
def tw629198508210172658:=0
def tw6284959765361398448:=0
def tw6235602475140955619:=0
def tw6121312664759544234:=0
def tw6085822766472173230:=0
def tw6081245454721827178:=0
def tw6068629697587925959:=0
def tw6065095937723768858:=0
def tw6034053275667869023:=0
def tw5977770410413020330:=0
def tw5909369076423663198:=0
def tw5817672691901308899:=0
def tw5770282893090573253:=0
def tw575789764478942443:=0
def tw5584047461815170862:=0
def tw5554840476733548085:=0
def tw542219963864150735:=0
def tw5394694386459319452:=0
def tw5350657506706949277:=0
def tw5329685932315940837:=0
def tw5301012705655064610:=0
def tw5282947678176612133:=0
def tw5261457346443349586:=0
def tw5252524721530585658:=0
def tw5227890574305199315:=0
def tw5030721304917923591:=0
def tw4944827047433296696:=0
def tw4898663431656217865:=0
def tw4898475141406067021:=0
def tw4610433436850849906:=0
def tw4609035771036040191:=0
def tw4532942642937147107:=0
def tw4345062654736856147:=0
def tw4322107094728776492:=0
def tw4228141117655790994:=0
def tw4145676205535248932:=0
def tw4074331608891945708:=0
def tw4041337559168761381:=0
end PySem.W.Fast
open PySem PySem.W PyProof.Rows
set_option maxRecDepth 100000 in
set_option maxHeartbeats 0 in
theorem PySem.Challenge.cw_kinhearth_k56_two_books_in_turn_holds : PySem.Challenge.rw_kinhearth_k56_two_books_in_turn.Holds := by
 w_on; o_law; k_head; (case hw=>w_witness2)
 k_fill
 refine HY.walk (l:=PySem.Challenge.rw_kinhearth_k56_two_books_in_turn) rfl rfl (λ w h Y=>kIn_of Y) ?F
 case F=>
  intro w mg fa h KX G xE
  apply HY.all_mk KX G xE <;> repeat' first | k_is | (show _=_; k_is) | kernel_rfl | constructor
