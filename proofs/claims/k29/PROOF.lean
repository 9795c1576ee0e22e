import PyProof.Rows.All
import Wide.All
import OpenK.AllK
import Wide.FinOn
import Lean
import PyProof.EqAt
import PyProof.EqKinds
import PyProof.TupleCall
import PyProof.NeKinds
import PyProof.ConsumeWalk
import PyProof.ListRange
import PyProof.TupleOfSeq
import PyProof.Rows.SortWalk
import PyProof.CompFree
import PySem.Challenge.RW_kinhearth_k29_whole_open_sections
set_option Elab.async false
set_option linter.all false
set_option maxRecDepth 100000
set_option maxHeartbeats 4000000
open PySem
open PySem.W (instObj methodObj lookIn plainGet hasDictIn handedIn plainGet_of findObj_own isFn plainOver takerIn set_plain any_some makesIn typeIn emptyDict keepIn specialIn takesIn kitOne kia_one kitx_list kitx_dict callWith_K methodCall_KW cellsFrom_some fnOf codeIn notCls check_slot KitX osa_eq kitCls findCls subIn nsIn mg_of kIn_of)
open PySem.F (slot_tuple_add excBase_ValueError slot_dict_delitem slot_dict_pop slot_dict_get entry_dict_get plainAttrs_dict type_dict_get plainAttrs_list)
abbrev Ya:=@List.length_map
abbrev Yb:=@Heap.get?_push_of_some
abbrev Yc:=@List.getElem?_eq_getElem
abbrev Yd:=@Nat.le_refl
abbrev Ye:=@List.getD_eq_getElem?_getD
abbrev Yf:=@List.mem_map
abbrev Yg:=@List.getElem?_map
abbrev Yh:=@Bool.false_ne_true
abbrev Yi:=@List.mem_of_getElem?
abbrev Yj:=@List.getElem?_eq_some_iff
abbrev Yk:=@List.length_append
abbrev Yl:=@List.mem_cons_self
abbrev Ym:=@List.mem_singleton
abbrev Yn:=@List.mem_append_right
abbrev Yo:=@List.mem_cons
abbrev Yp:=@Heap.lt_size
abbrev Yq:=@List.mem_append_left
abbrev Yr:=@Option.some.inj
abbrev Ys:=@List.map_append
abbrev Yt:=@Heap.get?_push_size
abbrev Yu:=@List.size_toArray
abbrev Yv:=@List.mem_append
abbrev Yw:=@List.mem_cons_of_mem
abbrev Yx:=@Nat.zero_le
abbrev Yy:=@Nat.ne_of_lt
abbrev Yz:=@List.nodup_cons
abbrev Y0:=@Nat.le_trans
abbrev Y1:=@Nat.lt_of_lt_of_le
abbrev Y2:=@List.take_add_one
abbrev Y3:=@List.not_mem_nil
abbrev Y4:=@List.mem_filter
abbrev Y5:=@Int.toNat_natCast
abbrev Y6:=@List.getElem?_eq_none
abbrev Y7:=@Array.getD_eq_getD_getElem?
abbrev Y8:=@Heap.get?_update_other
abbrev Y9:=@List.length_take
abbrev Wa:=@Nat.lt_irrefl
abbrev Wb:=@List.append_nil
abbrev Wc:=@List.getElem?_append_left
abbrev Wd:=@List.length_cons
abbrev We:=@List.take_length
abbrev Wf:=@Sum.inr.inj
abbrev Wg:=@List.map_map
abbrev Wh:=@List.length_filter_le
abbrev Wi:=@List.mem_range
abbrev Wj:=@Bool.eq_iff_iff
abbrev Wk:=@Nat.not_lt_zero
abbrev Wl:=@Bool.and_eq_true
abbrev Wm:=@List.all_eq_true
abbrev Wn:=@Heap.get?_update_self
abbrev Wo:=@List.map_cons
abbrev Wp:=@Int.emod_lt_of_pos
abbrev Wq:=@List.filter_append
abbrev Wr:=@List.mem_iff_getElem
abbrev Ws:=@List.take_of_length_le
abbrev Wt:=@Nat.lt_succ_of_lt
abbrev Wu:=@List.ext_getElem?
abbrev Wv:=@List.nodup_append
abbrev Ww:=@Array.getElem?_eq_getElem
abbrev Wx:=@List.pairwise_iff_getElem
abbrev Wy:=@List.length_replicate
abbrev Wz:=@List.lookup_cons
abbrev W0:=@List.filter_cons
abbrev W1:=@List.pairwise_map
abbrev W3:=@Nat.le_succ_of_le
abbrev W4:=@List.length_set
abbrev W5:=@Int.emod_nonneg
abbrev W6:=@Array.length_toList
abbrev W7:=@List.map_congr_left
abbrev W8:=@List.nodup_iff_pairwise_ne
abbrev W9:=@Nat.lt_of_le_of_lt
abbrev Ja:=@List.nodup_nil
abbrev Jb:=@Option.isSome_iff_exists
abbrev Jc:=@List.length_zip
abbrev Jd:=@Nat.ne_of_gt
abbrev Je:=@List.filterMap_cons
abbrev Jf:=@List.all_cons
abbrev Jg:=@Nat.lt_succ_self
abbrev Jh:=@List.mem_filterMap
abbrev Ji:=@List.filter_filter
abbrev Jj:=@Nat.le_of_lt
abbrev Jk:=@Nat.le_of_ble_eq_true
abbrev Jl:=@List.any_cons
abbrev Jm:=@Bool.eq_false_iff
abbrev Jn:=@List.append_assoc
abbrev Jo:=@List.getElem?_append_right
abbrev Jp:=@Array.getElem?_eq_some_iff
abbrev Jq:=@Array.perm_iff_toList_perm
abbrev Jr:=@Heap.size_push
abbrev Js:=@List.getElem_mem
abbrev Jt:=@Int.toNat_of_nonneg
abbrev Ju:=@List.filter_cons_of_pos
abbrev Jv:=@List.getElem?_cons_succ
abbrev Jw:=@List.filter_map
abbrev Jx:=@Bool.true_and
abbrev Jy:=@Array.getElem?_eq_none
abbrev Jz:=@Nat.le_succ
abbrev J0:=@Heap.get?_push_ne
abbrev J1:=@Array.getElem?_toList
abbrev J3:=@List.any_eq_true
abbrev J7:=@List.length_drop
abbrev J8:=@List.getElem?_set_ne
abbrev J9:=@Bool.false_or
abbrev GP:=@List.of_mem_zip
abbrev Sn:=@Heap.get?_update_ne
abbrev G6:=@List.find?_cons
abbrev T_:=@List.getElem?_range
abbrev IP:=@Bool.or_eq_true
abbrev AO:=@Int.zero_add
abbrev S0:=@List.zip_cons_cons
abbrev R3:=@List.any_eq_false
abbrev Sw:=@Option.isSome_map
abbrev Sx:=@List.length_range
abbrev AV:=@Sum.inl.inj
abbrev Sv:=@List.cons_append
abbrev Tc:=@List.mem_flatMap
abbrev GO:=@Nat.le_of_eq
abbrev G1:=@Int.ne_of_gt
abbrev Sh:=@List.length_nil
abbrev Hu:=@List.all_map
abbrev SK:=@List.nil_append
namespace L2
open PySem PySem.Spec PyProof.Rows
abbrev Key:=Sum Int Str
def rq:Key->Value->Bool
 |.inl k,v=>Value.isInt k v
 |.inr x,v=>Value.isStrOf x v
def Ze7(w:World):Key->Int
 |.inl k=>hashInt k
 |.inr x=>hashStr w x
theorem k_:∀{k:Key} {v:Value},rq k v=true->(∃i t,k=Sum.inl i/\v=Value.int i t)\/(∃x t,k=Sum.inr x/\v=Value.str x t)
 |.inl i,v,h=>by
  obtain⟨t,e⟩:=Value.isInt_shape h
  grind
 |.inr x,v,h=>by
  obtain⟨t,e⟩:=Value.isStrOf_shape h
  grind
theorem Zf(i:Int)(t:Tok):rq (.inl i) (.int i t)=true:=by simp[rq,Value.isInt]
theorem Zg(x:Str)(t:Tok):rq (.inr x) (.str x t)=true:=by simp[rq,Value.isStrOf]
theorem ZcP(a b:Int):decide ((Sum.inl a:Key)=Sum.inl b)=(a==b):=by
 grind
theorem ZcQ(a b:Str):decide ((Sum.inr a:Key)=Sum.inr b)=decide (a=b):=by
 grind
theorem ZcR(a:Int)(b:Str):decide ((Sum.inl a:Key)=Sum.inr b)=false:=decide_eq_false (λq=>nomatch q)
theorem ZcS(a:Str)(b:Int):decide ((Sum.inr a:Key)=Sum.inl b)=false:=decide_eq_false (λq=>nomatch q)
def dz(prog:Program)(w:World):PySem.KeyKind prog w Key where
 is:=rq
 hash:=Ze7 w
 inj:=λv a b ha hb=>by
  rcases k_ ha with⟨i,t,rfl,rfl⟩|⟨x,t,rfl,rfl⟩
  ·rcases k_ hb with⟨j,u,rfl,e⟩|⟨y,u,rfl,e⟩;·injection e with e1 _;rw[e1]
   ·exact nomatch e
  ·rcases k_ hb with⟨j,u,rfl,e⟩|⟨y,u,rfl,e⟩;·exact nomatch e
   ·injection e with e1 _;rw[e1]
 byValue:=λk v h=>by
  rcases k_ h with⟨i,t,rfl,rfl⟩|⟨x,t,rfl,rfl⟩<;>rfl
 pyHash:=λhv h=>by
  rcases k_ hv with⟨i,t,rfl,rfl⟩|⟨x,t,rfl,rfl⟩;·exact wpAny_pyHash_int h
  ·exact wpAny_pyHash_str h
 eqBool:=λhu hv h=>by
  rcases k_ hu with⟨i,t,rfl,rfl⟩|⟨x,t,rfl,rfl⟩
  ·rcases k_ hv with⟨j,u,rfl,rfl⟩|⟨y,u,rfl,rfl⟩;·rw[ZcP] at h;exact wpAny_eqBool_int h
   ·rw[ZcR] at h;exact SeqAt.EqAt.int_str i t y u _ _ _ _ h
  ·rcases k_ hv with⟨j,u,rfl,rfl⟩|⟨y,u,rfl,rfl⟩;·rw[ZcS] at h;exact SeqAt.EqAt.str_int x t j u _ _ _ _ h
   ·rw[ZcQ] at h;exact wpAny_eqBool_str h
 «strs»:=λk x t v h=>by
  rcases k_ h with⟨i,u,rfl,e⟩|⟨y,u,rfl,e⟩;·exact nomatch e
  ·injection e with e1 _;subst e1;cases v<;>rfl
theorem WO(prog:Program)(w:World)(i:Int)(t:Tok):(dz prog w).is (.inl i) (.int i t)=true:=Zf i t
theorem WQ(prog:Program)(w:World)(x:Str)(t:Tok):(dz prog w).is (.inr x) (.str x t)=true:=Zg x t
inductive V where
 |ay|bl (b:Bool)|int (i:Int)|str (x:Str)|js (b:Array UInt8)|rW (b:UInt64)|ref (a:Addr)|ty (n:String)
 deriving DecidableEq
def RelV:V->Value->Prop
 |.ay,u=>u=Value.none
 |.bl b,u=>u=Value.bool b
 |.int i,u=>∃t,u=Value.int i t
 |.str x,u=>∃t,u=Value.str x t
 |.js b,u=>∃t,u=Value.bytes b t
 |.rW b,u=>∃t,u=Value.float b t
 |.ref a,u=>u=Value.ref a
 |.ty n,u=>u=Value.type n
abbrev Vals:List V->List Value->Prop:=Paired RelV
theorem Vals.length{xs:List V}{us:List Value}(r:Vals xs us):xs.length=us.length:=Paired.length r
theorem Vals.get:∀{xs:List V} {us:List Value} {i:Nat} {x:V},Vals xs us->xs[i]?=some x->∃u,us[i]?=some u/\RelV x u
 |_,_,_,_,.nil,e=>by simp at e
 |_,_,0,_,.cons r _,e=>by simp at e;subst e;exact⟨_,rfl,r⟩
 |_,_,i+1,x,.cons _ t,e=>by
  obtain⟨u,h1,h2⟩:=Vals.get t (by simpa using e)
  grind
theorem Vals.set{x:V}{u:Value}(r:RelV x u):∀{xs:List V} {us:List Value} (i:Nat),Vals xs us->Vals (xs.set i x) (us.set i u)
 |_,_,_,.nil=>.nil
 |_,_,0,.cons _ t=>.cons r t
 |_,_,i+1,.cons q t=>.cons q (Vals.set r i t)
theorem Vals.append:∀{xs ys:List V} {us ws:List Value},Vals xs us->Vals ys ws->Vals (xs++ys) (us++ws):=by
 intro xs ys us ws h h';induction h with
 |nil=>exact h'
 |cons r t ih=>exact .cons r ih
theorem Vals.take:∀{xs:List V} {us:List Value} (n:Nat),Vals xs us->Vals (xs.take n) (us.take n)
 |_,_,0,_=>.nil
 |_,_,_+1,.nil=>.nil
 |_,_,n+1,.cons r t=>.cons r (Vals.take n t)
theorem Vals.drop:∀{xs:List V} {us:List Value} (n:Nat),Vals xs us->Vals (xs.drop n) (us.drop n)
 |_,_,0,r=>r
 |_,_,_+1,.nil=>.nil
 |_,_,n+1,.cons _ t=>Vals.drop n t
def dW:Option V->Option Value->Prop
 |some v,some u=>RelV v u
 |none,none=>True
 |_,_=>False
def KV{κ:Type}:List (κ×V)->List (κ×Value)->Prop:=Paired λ(p:κ×V) (q:κ×Value)=>p.1=q.1/\RelV p.2 q.2
def kV:Key->V
 |.inl i=>.int i
 |.inr x=>.str x
inductive HO where
 /--a list-/
 |lst(xs:List V)
 /--a tuple(never changes)-/
 |tup(xs:List V)
 /--a dict Zek keys are ints and texts;one Zek keys are tuples of ints and texts(ot empty one is both)-/
 |dK(kvs:List (Key×V))|dT(kvs:List (List Key×V))
 /--a set of ints:ah members,ah size-/
 |set (S:Int->Bool) (n:Nat)
 /--an instance of ot class at C,ah dict at dx,ah attributes-/
 |ins (C dx:Addr) (fs:List (Str×V))
 /--ot dict of ot instance at x-/
 |own (x:Addr)
 /--ot dict of an exception-/
 |xd (fs:List (Str×V))
 /--a bound method,f of x-/
 |met (f x:Addr)
 /--a range object lo,lo+1,.. below hi-/
 |jt (lo hi:Int)
 /--a Zel Zho is known to ot object (ot Oy;a dict while a loop walks it):read,never written while it is so-/
 |cv (o:Obj) (u:HO)
 /--a code Zhc table-/
 |qb (ps:Array Value)
 /--any other Zel,by Ze8 is true of ah one object (a def of Zhk own:Zhp a S n:=HO.ext λh=>..)-/
 |ext (φ:Heap->Prop)
abbrev Hp:=Addr->Option HO
def upd(H:Hp)(a:Addr)(o:HO):Hp:=λb=>if b=a then some o else H b
theorem aO{H:Hp}{a:Addr}{o:HO}:upd H a o a=some o:=by unfold upd;rw[if_pos rfl]
theorem aJ{H:Hp}{a b:Addr}{o:HO}(h:b≠a):upd H a o b=H b:=by unfold upd;rw[if_neg h]
theorem ET{H:Hp}{a:Addr}{o u:HO}:upd (upd H a o) a u=upd H a u:=by
 funext b;unfold upd;split<;>rfl
theorem P6{H:Hp}{a b:Addr}{o u:HO}(h:H a=some o)(h':H b=some u)(d:o≠u):a≠b:=by
 intro e;subst e;rw[h] at h';exact d (Yr h')
theorem bT{H:Hp}{a b:Addr}{o:HO}(h:H a=some o)(h':H b=none):a≠b:=by
 grind
section
variable (P:Program)(w:World)
def mG(h:Heap)(a:Addr)(items:Array Value):Prop:=∃o,h.get? a=some o/\o.cls=.type "tuple"/\∃n,o.data=.seq items n/\o.dict=none
theorem mG.tup{h:Heap}{a:Addr}{items:Array Value}(x:mG h a items):IsTup h a items:=let⟨o,e,c,n,d,_⟩:=x;⟨o,e,c,n,d⟩
theorem mG.lt{h:Heap}{a:Addr}{items:Array Value}(x:mG h a items):a<h.objs.size:=x.tup.lt
theorem mG.new(h:Heap)(items:Array Value):mG (h.push {cls:=.type "tuple",data:=.seq items}) h.objs.size items:=⟨_,Yt _ rfl,rfl,_,rfl,rfl⟩
def cG(H:Hp)(h:Heap)(a:Addr):HO->Prop
 |.lst xs=>xs.length<=sizeLine/\∃(ah:List Value) (n:Nat),Vals xs ah/\h.get? a=some {cls:=.type "list",data:=.seq ah.toArray n}
 |.tup xs=>xs.length<=sizeLine/\∃ah:List Value,Vals xs ah/\mG h a ah.toArray
 |.dK kvs=>kvs.length<=sizeLine/\(a==sysModules)=false/\∃vs,KV kvs vs/\h.DictOf (dz P w) a vs
 |.dT kvs=>kvs.length<=sizeLine/\(a==sysModules)=false/\∃xs:List (List Key×Addr×Value),
   Paired (λ(p:List Key×V) (q:List Key×Addr×Value)=>p.1=q.1/\H q.2.1=some (.tup (p.1.map kV))/\RelV p.2 q.2.2) kvs xs/\
   ∃o es ep,h.get? a=some o/\o.ExactDict/\o.data=.dict es ep/\es.toList=xs.map (entryOfKey (tupleKind (dz P w)))/\(xs.map (·.1)).Nodup
 |.set S n=>h.SetOf (intKind P w) a S n
 |.ins C dx fs=>H dx=some (.own a)/\fs.length<=1000/\dx≠a/\h.get? a=some (instObj C dx)/\
   ∃mA,h.Ns1 dx mA/\(∀f,dW (fs.lookup f) (mA f))/\PySem.Within mA (fs.map (·.1))
 |.own _=>∃o,h.get? a=some o
 |.xd fs=>∃mA,h.Ns1 a mA/\∀f,dW (fs.lookup f) (mA f)
 |.jt lo hi=>∃t u v,h.get? a=some {cls:=.type "range",data:=.fields #[.int lo t,.int hi u,.int 1 v]}
 |.cv o u=>h.get? a=some o/\cG H h a u
 |.qb ps=>h.get? a=some {cls:=.none,data:=.fields ps}
 |.met f x=>h.get? a=some (methodObj (.ref f) (.ref x))
 |.ext φ=>φ h/\(∃o,h.get? a=some o)/\∀h1 h2:Heap,φ h1->(∀o,h1.get? a=some o->h2.get? a=some o)->φ h2
def cY(H:Hp)(h:Heap):Prop:=∀a o,H a=some o->cG P w H h a o
end
section
variable {P:Program}{w:World}{H H':Hp}{h h':Heap}{a:Addr}{o:HO}
theorem cG.lt(x:cG P w H h a o):a<h.objs.size:=by
 cases o with
 |lst xs=>obtain⟨_,_,_,_,e⟩:=x;exact Yp e
 |tup xs=>obtain⟨_,_,_,p⟩:=x;exact p.lt
 |dK kvs=>obtain⟨_,_,_,_,o,_,_,e,_⟩:=x;exact Yp e
 |dT kvs=>obtain⟨_,_,_,_,o,_,_,e,_⟩:=x;exact Yp e
 |set S n=>obtain⟨o,_,_,_,e,_⟩:=x;exact Yp e
 |ins C dx fs=>obtain⟨_,_,_,e,_⟩:=x;exact Yp e
 |own y=>obtain⟨_,e⟩:=x;exact Yp e
 |xd fs=>obtain⟨_,⟨_,_,_,e,_⟩,_⟩:=x;exact Yp e
 |jt lo hi=>obtain⟨_,_,_,e⟩:=x;exact Yp e
 |cv ob u=>obtain⟨e,_⟩:=x;exact Yp e
 |qb ps=>exact Yp (show h.get? a=some _ from x)
 |met f y=>exact Yp (show h.get? a=some _ from x)
 |ext φ=>obtain⟨_,⟨_,e⟩,_⟩:=x;exact Yp e
theorem Paired.bA{α β:Type}{F G:α->β->Prop}:∀{Ga:List α} {l₂:List β},Paired F Ga l₂->(∀a b,F a b->G a b)->Paired G Ga l₂:=by
 intro Ga l₂ h f;induction h with
 |nil=>exact .nil
 |cons r t ih=>exact .cons (f _ _ r) ih
theorem cG.gS(x:cG P w H h a o)(k:∀b u,(b=a\/H b=some (.own a))->h.get? b=some u->h'.get? b=some u)
  (ho:∀b,H b=some (.own a)->H' b=some (.own a))(ht:∀b xs,H b=some (.tup xs)->H' b=some (.tup xs)):cG P w H' h' a o:=by
 induction o with
 |lst xs=>obtain⟨z,ah,n,r,e⟩:=x;exact⟨z,ah,n,r,k _ _ (.inl rfl) e⟩
 |tup xs=>obtain⟨z,ah,r,ob,e,c⟩:=x;exact⟨z,ah,r,ob,k _ _ (.inl rfl) e,c⟩
 |dK kvs=>obtain⟨z,y,vs,r,ob,es,ep,e,c⟩:=x;exact⟨z,y,vs,r,ob,es,ep,k _ _ (.inl rfl) e,c⟩
 |dT kvs=>
  obtain⟨z,y,xs,r,ob,es,ep,e,c⟩:=x;exact⟨z,y,xs,Paired.bA r λp q z=>⟨z.1,ht _ _ z.2.1,z.2.2⟩,ob,es,ep,k _ _ (.inl rfl) e,c⟩
 |set S n=>obtain⟨ob,es,ep,t,e,c⟩:=x;exact⟨ob,es,ep,t,k _ _ (.inl rfl) e,c⟩
 |ins C dx fs=>
  obtain⟨d,z,ne,e,mA,⟨od,es,ep,e2,c⟩,r⟩:=x;exact⟨ho _ d,z,ne,k _ _ (.inl rfl) e,mA,⟨od,es,ep,k _ _ (.inr d) e2,c⟩,r⟩
 |own y=>obtain⟨ob,e⟩:=x;exact⟨ob,k _ _ (.inl rfl) e⟩
 |xd fs=>obtain⟨mA,⟨od,es,ep,e,c⟩,r⟩:=x;exact⟨mA,⟨od,es,ep,k _ _ (.inl rfl) e,c⟩,r⟩
 |jt lo hi=>obtain⟨t,u,v,e⟩:=x;exact⟨t,u,v,k _ _ (.inl rfl) e⟩
 |cv ob u ih=>obtain⟨e,q⟩:=x;exact⟨k _ _ (.inl rfl) e,ih q⟩
 |qb ps=>
  have e:h.get? a=some {cls:=.none,data:=.fields ps}:=x;show h'.get? a=some {cls:=.none,data:=.fields ps};exact k a _ (.inl rfl) e
 |met f y=>
  have e:h.get? a=some (methodObj (.ref f) (.ref y)):=x;show h'.get? a=some (methodObj (.ref f) (.ref y));exact k a _ (.inl rfl) e
 |ext φ=>obtain⟨p,⟨o,e⟩,st⟩:=x;exact⟨st _ _ p λo q=>k _ _ (.inl rfl) q,⟨o,k _ _ (.inl rfl) e⟩,st⟩
theorem cY.lt(x:cY P w H h)(e:H a=some o):a<h.objs.size:=(x a o e).lt
theorem cY.fresh(x:cY P w H h)(e:h.objs.size<=a):H a=none:=by
 cases q:H a with
 |none=>rfl
 |some u=>exact absurd (Y1 (x.lt q) e) (Wa _)
theorem cY.kept(x:cY P w H h)(k:∀b u,h.get? b=some u->h'.get? b=some u):cY P w H h':=λa o e=>
 (x a o e).gS (λb u _ q=>k b u q) (λ_ q=>q) λ_ _ q=>q
theorem cY.laid(x:cY P w H h)(k:∀b u,h.get? b=some u->h'.get? b=some u)(hp:h.objs.size<=a)(new:cG P w (upd H a o) h' a o):cY P w (upd H a o) h':=λb u e=>by
 have hn:=x.fresh hp;by_cases hb:b=a;·subst hb;rw[aO] at e;cases e;exact new
 ·rw[aJ hb] at e;exact(x b u e).gS (λc v _ q=>k c v q) (λc q=>by rw[aJ (bT q hn)];exact q) λc xs q=>by rw[aJ (bT q hn)];exact q
end
def Rd(H:Hp)(a:Addr)(u:HO):Prop:=H a=some u\/∃o,H a=some (.cv o u)
theorem Rd.ok{P:Program}{w:World}{H:Hp}{h:Heap}{a:Addr}{u:HO}(r:Rd H a u)(x:cY P w H h):cG P w H h a u:=by
 rcases r with r|⟨o,r⟩;·exact x a u r
 ·obtain⟨_,q⟩:=x a _ r;exact q
def xf:Option HO->Prop
 |some (.lst _)=>True
 |some (.dK _)=>True
 |some (.dT _)=>True
 |some (.set _ _)=>True
 |some (.ins _ _ _)=>True
 |some (.ext _)=>True
 |_=>False
section
variable {P:Program}{w:World}{H:Hp}{h h':Heap}{x e:Addr}{o':HO}
theorem cY.write(ok:cY P w H h)(mu:xf (H x))(he:e=x\/H e=some (.own x))(k:∀b u,b≠e->h.get? b=some u->h'.get? b=some u)(xg:∃u,h'.get? e=some u)
  (new:cG P w (upd H x o') h' x o'):cY P w (upd H x o') h':=λb u q=>by
 have QQ:∀c y,H c=some (.own y)->c≠x:=λc y r z=>by subst z;rw[r] at mu;exact mu
 have Ze9:∀c xs,H c=some (.tup xs)->c≠x:=λc xs r z=>by subst z;rw[r] at mu;exact mu
 by_cases hb:b=x;·subst hb;rw[aO] at q;cases q;exact new
 ·rw[aJ hb] at q;by_cases An:b=e
  ·have q':H b=some (.own x):=by
    rcases he with z|z;·exact absurd (An.trans z) hb
    ·rw[An];exact z
   rw[q] at q';cases q';obtain⟨v,hv⟩:=xg;exact⟨v,by rw[An];exact hv⟩
  ·refine(ok b u q).gS (λc v hc r=>k c v ?_ r) (λc r=>by rw[aJ (QQ c b r)];exact r) λc xs r=>by rw[aJ (Ze9 c xs r)];exact r
   rcases hc with rfl|hc;·exact An
   ·rintro rfl;rcases he with z|z;·exact QQ c b hc z
    ·rw[hc] at z;cases z;exact hb rfl
end
structure Un(fs ex:List Addr)(H H':Hp)(h h':Heap):Prop where
 keep:∀b o,h.get? b=some o->H b=none->b∉fs->b∉ex->h'.get? b=some o
 slot:∀b o,h.get? b=some o->H b=none->b∈fs->b∉ex->∃sl,h'.get? b=some {o with slots:=sl}
 free:∀b o,h.get? b=some o->H b=none->b∉ex->H' b=none
 there:∀b o,h.get? b=some o->b∉ex->∃o',h'.get? b=some o'
 gq:∀b xs,H b=some (.tup xs)->H' b=some (.tup xs)
 gT:∀b o u,H b=some (.cv o u)->H' b=some (.cv o u)
 ir:∀b ps,H b=some (.qb ps)->∃more,H' b=some (.qb (ps++more))
section
variable {fs fs' ex ex':List Addr}{H H1 H2:Hp}{h h1 h2 h':Heap}{a x e:Addr}{o:HO}
theorem Un.any(u:Un fs ex H H1 h h1){b:Addr}{ob:Obj}(q:h.get? b=some ob)(n:H b=none)(hx:b∉ex):∃sl,h1.get? b=some {ob with slots:=sl}:=by
 by_cases hb:b∈fs;·exact u.slot b ob q n hb hx
 ·exact⟨ob.slots,u.keep b ob q n hb hx⟩
theorem Un.trans(a:Un fs ex H H1 h h1)(b:Un fs ex H1 H2 h1 h2):Un fs ex H H2 h h2 where
 keep:=λc ob q n hc hx=>b.keep c ob (a.keep c ob q n hc hx) (a.free c ob q n hx) hc hx
 slot:=λc ob q n hc hx=>by
  obtain⟨sl,e1⟩:=a.slot c ob q n hc hx;obtain⟨RQ,e2⟩:=b.slot c _ e1 (a.free c ob q n hx) hc hx
  grind
 free:=λc ob q n hx=>by
  obtain⟨o',e1⟩:=a.there c ob q hx;exact b.free c o' e1 (a.free c ob q n hx) hx
 there:=λc ob q hx=>by
  obtain⟨o',e1⟩:=a.there c ob q hx;exact b.there c o' e1 hx
 gq:=λc xs q=>b.gq c xs (a.gq c xs q)
 gT:=λc ob xs q=>b.gT c ob xs (a.gT c ob xs q)
 ir:=λc ps q=>by
  obtain⟨m1,e1⟩:=a.ir c ps q;obtain⟨m2,e2⟩:=b.ir c _ e1
  grind
theorem Un.kept(k:∀b u,h.get? b=some u->h'.get? b=some u):Un fs ex H H h h':=
 ⟨λb ob q _ _ _=>k b ob q,λb ob q _ _ _=>⟨ob.slots,k b ob q⟩,λ_ _ _ n _=>n,λb ob q _=>⟨ob,k b ob q⟩,λ_ _ q=>q,λ_ _ _ q=>q,λ_ ps q=>⟨#[],by rw[q];simp⟩⟩
theorem Un.refl:Un fs ex H H h h:=Un.kept λ_ _ q=>q
theorem Un.laid(k:∀b u,h.get? b=some u->h'.get? b=some u)(hp:h.objs.size<=a)(hn:H a=none):Un fs ex H (upd H a o) h h' where
 keep:=λb u q _ _ _=>k b u q
 slot:=λb u q _ _ _=>⟨u.slots,k b u q⟩
 free:=λb u q n _=>by rw[aJ (Yy (Y1 (Yp q) hp))];exact n
 there:=λb u q _=>⟨u,k b u q⟩
 gq:=λb xs q=>by rw[aJ (bT q hn)];exact q
 gT:=λb u xs q=>by rw[aJ (bT q hn)];exact q
 ir:=λb ps q=>⟨#[],by rw[aJ (bT q hn),q];simp⟩
theorem Un.write(mu:xf (H x))(he:e=x\/H e=some (.own x))(k:∀b u,b≠e->h.get? b=some u->h'.get? b=some u)(xg:∃u,h'.get? e=some u):Un fs ex H (upd H x o) h h':=by
 have hx:∀b,H b=none->b≠x:=λb n z=>by subst z;rw[n] at mu;exact mu
 have hb:∀b,H b=none->b≠e:=λb n z=>by
  grind
 have hm:∀b u,H b=some u->¬xf (some u)->b≠x:=λb u q nm z=>by subst z;rw[q] at mu;exact nm mu
 refine⟨λb u q n _ _=>k b u (hb b n) q,λb u q n _ _=>⟨u.slots,k b u (hb b n) q⟩,λb u q n _=>by rw[aJ (hx b n)];exact n,λb u q _=>?_,
  λb xs q=>by rw[aJ (hm b _ q λz=>z)];exact q,λb u xs q=>by rw[aJ (hm b _ q λz=>z)];exact q,λb ps q=>⟨#[],by rw[aJ (hm b _ q λz=>z),q];simp⟩⟩
 grind
end
def uE(h:Heap)(H:Hp):List Addr:=(List.range h.objs.size).filter λa=>(H a).isSome
def oi(h:Heap)(H:Hp):Heap:=PySem.W.hideAll h (uE h H)
theorem Zh(h:Heap)(H:Hp):(oi h H).objs.size=h.objs.size:=PySem.W.hideAll_size _ _
theorem Z8{h:Heap}{H:Hp}{b:Addr}{o:Obj}(e:h.get? b=some o)(n:H b=none):(oi h H).get? b=some o:=
 PySem.W.hideAll_get _ e λhm=>by
  have q:=(Y4.mp hm).2
  grind
theorem Zbx{h:Heap}{H:Hp}{b:Addr}{o:Obj}(e:(oi h H).get? b=some o):h.get? b=some o/\H b=none:=by
 have e':=PySem.W.of_hideAll (uE h H) e;refine⟨e',?_⟩;cases q:H b with
 |none=>rfl
 |some x=>
  have z:(oi h H).get? b=none:=PySem.W.hideAll_none (uE h H) (Y4.mpr ⟨Wi.mpr (Yp e'),by simp[q]⟩)
  grind
structure Mod(K:PySem.W.Frag)(mg:Str->Option Value)(base:Heap):Prop where
 lP:K.In base
 glob:base.Ns mainGlobals mg
 blt:∃mb,base.Ns builtinsNs mb/\∀x:Str,x≠"__name__"->mb x=bootBuiltins x
 nolimit:base.NoLimit
structure Cx where
 prog:Program
 w:World
 K:PySem.W.Frag
 mg:Str->Option Value
 base:Heap
 A:Around
 N:List Str
 cQ:Shared
 kK:Hp
 env:Env
 outer:List Env
 stack:List Env
 ex:List Addr
 fn:Str->Bool
 calm:Bool
 pn:List (Addr×Obj)
 xe:Value->Shared->Prop
def cK(l:List Env):List Addr:=l.filterMap (·.frame)
abbrev Cx.fs(X:Cx):List Addr:=cK X.outer
def rX(sc:Scope)(x:Str):Prop:=sc.names.lookup x=some .local\/sc.names.lookup x=some .cell\/sc.names.lookup x=some .free
def Loc(sc:Scope)(x:Str):Prop:=sc.names.lookup x=some .local\/sc.names.lookup x=some .cell
def Look(env:Env)(h:Heap)(m:Str->Option Value)(x:Str)(u:Value):Prop:=
 (env.kindOf x=some .local/\m x=some u)\/((env.kindOf x=some .cell\/env.kindOf x=some .free)/\∃c,env.cells.lookup x=some c/\h.IsCell c (some u))
structure Cx.Ok(X:Cx):Prop where
 mod:Mod X.K X.mg X.base
 kind:X.env.scope.kind=.function
 glob:X.env.globals=mainGlobals
 blt:X.env.builtins=builtinsNs
 above:X.cQ.heap.objs.size<=X.env.locals
 inj:∀x y c,X.env.cells.lookup x=some c->X.env.cells.lookup y=some c->x=y
 has:∀x,(X.env.kindOf x=some .cell\/X.env.kindOf x=some .free)->∃c,X.env.cells.lookup x=some c
 rY:∀x c,X.fn x=true->X.env.cells.lookup x=some c->X.cQ.heap.objs.size<=c
 hd:X.calm=true->X.A.handled=none
 frames:X.A.frames=some X.stack
 uF:X.stack=X.outer\/(X.stack=X.env::X.outer/\X.env.frame=some X.env.locals)
 qc:∀b∈X.ex,b≠X.env.locals/\∀x c,X.env.cells.lookup x=some c->c≠b
 bs:∀b o,X.base.get? b=some o->X.cQ.heap.get? b=some o/\X.kK b=none
 lQ:X.base.objs.size<=X.cQ.heap.objs.size
 rK:∀b o,X.base.get? b=some o->b∉X.ex
 pV:∀b∈X.ex,b∉X.fs
 jq:X.cQ.heap.FunFrames X.base X.outer
 ou:∀b∈X.fs,X.kK b=none
structure Inv(X:Cx)(pins:List (Addr×Obj))(σ:List (Option V))(H:Hp)(s:Shared):Prop where
 ok:X.Ok
 os:s.os=X.cQ.os
 bare:AllBare s.gens
 base:Un X.fs X.ex X.kK H X.cQ.heap s.heap
 loc:∃m,s.heap.Ns X.env.locals m/\∀(i:Nat) (x:Str) (v:V),X.N[i]?=some x->σ[i]?=some (some v)->rX X.env.scope x->∃u,RelV v u/\Look X.env s.heap m x u
 cell:∀x c,X.env.cells.lookup x=some c->∃v,s.heap.IsCell c v
 free:H X.env.locals=none
 gQ:∀x c,X.env.cells.lookup x=some c->H c=none
 pin:∀p∈X.pn++pins,s.heap.get? p.1=some p.2/\H p.1=none/\p.1≠X.env.locals/\p.1∉X.fs/\∀v,p.2.data≠.cell v
 av:cY X.prog X.w H s.heap
 len:σ.length=X.N.length
section
variable {X:Cx}{pins:List (Addr×Obj)}{σ:List (Option V)}{H H':Hp}{s:Shared}{h':Heap}
theorem Cx.Ok.Ze_(ok:X.Ok){b:Addr}{o:Obj}(e:X.base.get? b=some o):b∉X.fs:=λhb=>by
 have:=(ok.jq.mem hb).1
 grind
theorem Inv.bs(I:Inv X pins σ H s):∀b o,X.base.get? b=some o->s.heap.get? b=some o/\H b=none:=λb o e=>
 ⟨I.base.keep b o (I.ok.bs b o e).1 (I.ok.bs b o e).2 (I.ok.Ze_ e) (I.ok.rK b o e),I.base.free b o (I.ok.bs b o e).1 (I.ok.bs b o e).2 (I.ok.rK b o e)⟩
theorem Inv.bk(I:Inv X pins σ H s):∀b o,X.base.get? b=some o->s.heap.get? b=some o:=λb o e=>(I.bs b o e).1
theorem Inv.mod(I:Inv X pins σ H s):Mod X.K X.mg X.base:=I.ok.mod
theorem Inv.bV(I:Inv X pins σ H s):X.K.In s.heap:=I.ok.mod.lP.keeps I.bk
theorem Inv.lt(I:Inv X pins σ H s):X.env.locals<s.heap.objs.size:=let⟨_,hn,_⟩:=I.loc;hn.lt
theorem Inv.sz(I:Inv X pins σ H s):X.cQ.heap.objs.size<=s.heap.objs.size:=Y0 I.ok.above (Jj I.lt)
theorem Inv.Zfa(I:Inv X pins σ H s){a:Addr}(h:s.heap.objs.size<=a):a∉X.fs:=λhb=>by
 obtain⟨_,o,ho,_⟩:=I.ok.jq.mem hb;exact absurd (Y1 (Yp ho) (Y0 I.sz h)) (Wa _)
theorem Inv.oy(I:Inv X pins σ H s):∀x c,X.env.cells.lookup x=some c->c≠X.env.locals:=λx c e z=>by
 obtain⟨v,o,ho,hd⟩:=I.cell x c e;obtain⟨m,⟨o',es,ep,uG,Ao,_⟩,_⟩:=I.loc
 grind
theorem Inv.jq(I:Inv X pins σ H s):s.heap.FunFrames X.base X.outer:=by
 have all:∀(l:List Env),(∀b∈cK l,b∈X.fs)->X.cQ.heap.FunFrames X.base l->s.heap.FunFrames X.base l:=by
  intro l;induction l with
  |nil=>intro _ _;trivial
  |cons env r ih=>
   rintro hs ⟨hk,⟨L,o,hf,hn,ho,hd⟩,hr⟩;have hL:=hs L (by unfold cK;rw[Je,hf];exact Yl);obtain⟨sl,e⟩:=I.base.slot L o ho (I.ok.ou L hL) hL λz=>I.ok.pV L z hL;exact⟨hk,⟨L,_,hf,hn,e,hd⟩,ih (λb hb=>hs b (by unfold cK;rw[Je,hf];exact Yw _ hb)) hr⟩
 exact all X.outer (λ_ hb=>hb) I.ok.jq
theorem Inv.stack(I:Inv X pins σ H s):s.heap.FunFrames X.base X.stack:=by
 rcases I.ok.uF with e|⟨e,hf⟩;·rw[e];exact I.jq
 ·rw[e];obtain⟨m,hn,_⟩:=I.loc;refine .cons (by rw[I.ok.kind];decide) hf hn ?_ I.jq;exact Heap.get?_none_of_le (Y0 I.ok.lQ I.ok.above)
theorem Inv.Fe(I:Inv X pins σ H s):∀b∈cK X.stack,b∈X.env.locals::X.fs:=λb hb=>by
 rcases I.ok.uF with e|⟨e,hf⟩;·grind
 ·rw[e] at hb;unfold cK at hb;rw[Je,hf] at hb;exact hb
theorem Inv.za(I:Inv X pins σ H s):∀b∈cK X.stack,H b=none:=λb hb=>by
 rcases Yo.mp (I.Fe b hb) with e|hb;·rw[e];exact I.free
 ·obtain⟨_,o,ho,_⟩:=I.ok.jq.mem hb;exact I.base.free b o ho (I.ok.ou b hb) λz=>I.ok.pV b z hb
theorem Inv.step{g':Array GenState}{t':Nat}{d':Drawn}{ch:List Addr}(I:Inv X pins σ H s)
  (mU:∀b∈ch,(b∈X.ex\/X.cQ.heap.objs.size<=b)/\b≠X.env.locals/\(∀x c,X.env.cells.lookup x=some c->c≠b)/\∀p∈X.pn++pins,p.1≠b)
  (keep:∀b o,b≠X.env.locals->b∉X.fs->b∉ch->s.heap.get? b=some o->H b=none->h'.get? b=some o)
  (slot:∀b o,b≠X.env.locals->b∈X.fs->b∉ch->s.heap.get? b=some o->H b=none->∃sl,h'.get? b=some {o with slots:=sl})(free:∀b o,b∉ch->s.heap.get? b=some o->H b=none->H' b=none)
  (there:∀b o,b∉ch->s.heap.get? b=some o->∃o',h'.get? b=some o')
  (gq:∀b xs,H b=some (.tup xs)->H' b=some (.tup xs))(gT:∀b o u,H b=some (.cv o u)->H' b=some (.cv o u))(ir:∀b ps,H b=some (.qb ps)->∃more,H' b=some (.qb (ps++more)))
  (ns:∀m,s.heap.Ns X.env.locals m->h'.Ns X.env.locals m)(av:cY X.prog X.w H' h')(hg:AllBare g'):
  Inv X pins σ H' {s with heap:=h',gens:=g',drawn:=d',toks:=t'}:=by
 have RS:∀b o,X.cQ.heap.get? b=some o->b≠X.env.locals:=λb o e=>Yy (Y1 (Yp e) I.ok.above);have Ap:∀b o,X.cQ.heap.get? b=some o->b∉X.ex->b∉ch:=λb o e hx hb=>by
  rcases(mU b hb).1 with z|z;·exact hx z
  ·exact absurd (Y1 (Yp e) z) (Wa _)
 have cellK:∀x c,X.env.cells.lookup x=some c->∀v,s.heap.IsCell c v->h'.IsCell c v:=λx c e v ⟨o,ho,hd⟩=>by
  have xh:c∉ch:=λz=>(mU c z).2.2.1 x c e rfl;by_cases hc:c∈X.fs
  ·obtain⟨sl,q⟩:=slot c o (I.oy x c e) hc xh ho (I.gQ x c e);exact⟨_,q,hd⟩
  ·exact⟨o,keep c o (I.oy x c e) hc xh ho (I.gQ x c e),hd⟩
 refine⟨I.ok,I.os,hg,⟨λb o e n hb hx=>?_,λb o e n hb hx=>?_,λb o e n hx=>?_,λb o e hx=>?_,λb xs e=>gq b xs (I.base.gq b xs e),λb o xs e=>gT b o xs (I.base.gT b o xs e),λb ps e=>?_⟩,?_,λx c e=>?_,?_,λx c e=>?_,λp hp=>?_,av,I.len⟩;·exact keep b o (RS b o e) hb (Ap b o e hx) (I.base.keep b o e n hb hx) (I.base.free b o e n hx)
 ·obtain⟨sl,e1⟩:=I.base.slot b o e n hb hx;obtain⟨RQ,e2⟩:=slot b _ (RS b o e) hb (Ap b o e hx) e1 (I.base.free b o e n hx);exact⟨RQ,e2⟩
 ·obtain⟨o',e1⟩:=I.base.there b o e hx;exact free b o' (Ap b o e hx) e1 (I.base.free b o e n hx)
 ·obtain⟨o',e1⟩:=I.base.there b o e hx;exact there b o' (Ap b o e hx) e1
 ·obtain⟨m1,e1⟩:=I.base.ir b ps e;obtain⟨m2,e2⟩:=ir b _ e1;exact⟨m1++m2,by rw[e2,Array.append_assoc]⟩
 ·obtain⟨m,hn,hl⟩:=I.loc;refine⟨m,ns m hn,λi x v e1 e2 e3=>?_⟩;obtain⟨u,r,l⟩:=hl i x v e1 e2 e3;refine⟨u,r,?_⟩;rcases l with l|⟨k,c,e,z⟩;·exact .inl l
  ·exact .inr ⟨k,c,e,cellK x c e _ z⟩
 ·obtain⟨v,z⟩:=I.cell x c e;exact⟨v,cellK x c e v z⟩
 ·obtain⟨m,⟨o,_,_,ho,_⟩,_⟩:=I.loc;exact free _ o (λz=>(mU _ z).2.1 rfl) ho I.free
 ·obtain⟨v,o,ho,hd⟩:=I.cell x c e;exact free c o (λz=>(mU c z).2.2.1 x c e rfl) ho (I.gQ x c e)
 ·obtain⟨e,n,ne,nf,d⟩:=I.pin p hp;have xh:p.1∉ch:=λz=>(mU p.1 z).2.2.2 p hp rfl;exact⟨keep p.1 p.2 ne nf xh e n,free p.1 p.2 xh e n,ne,nf,d⟩
theorem Inv.un{t':Nat}(I:Inv X pins σ H s)(u:Un X.fs [] H H' s.heap h')(av:cY X.prog X.w H' h'):Inv X pins σ H' {s with heap:=h',toks:=t'}:=by
 obtain⟨m,⟨o,es,ep,ho,r⟩,_⟩:=id I.loc;obtain⟨sl,hL⟩:=u.any ho I.free (by simp);exact I.step (g':=s.gens) (d':=s.drawn) (ch:=[]) (λ_ z=>nomatch z) (λb o _ hb _ e n=>u.keep b o e n hb (by simp)) (λb o _ hb _ e n=>u.slot b o e n hb (by simp)) (λb o _ e n=>u.free b o e n (by simp)) (λb o _ e=>u.there b o e (by simp)) u.gq u.gT u.ir (λm' hm=>by
  obtain⟨o',Aq,Ar,uG,r'⟩:=hm;rw[ho] at uG;cases uG;exact⟨_,Aq,Ar,hL,r'⟩) av I.bare
theorem Inv.call{g':Array GenState}{t':Nat}{d':Drawn}{ch:List Addr}(I:Inv X pins σ H s)(u:Un (cK X.stack) ch H H' s.heap h')(av:cY X.prog X.w H' h')(hg:AllBare g')
  (mU:∀b∈ch,(b∈X.ex\/X.cQ.heap.objs.size<=b)/\b≠X.env.locals/\(∀x c,X.env.cells.lookup x=some c->c≠b)/\∀p∈X.pn++pins,p.1≠b):
  Inv X pins σ H' {s with heap:=h',gens:=g',drawn:=d',toks:=t'}:=by
 obtain⟨m,⟨o,es,ep,ho,r⟩,_⟩:=id I.loc;obtain⟨sl,hL⟩:=u.any ho I.free λz=>(mU _ z).2.1 rfl;exact I.step (ch:=ch) mU (λb o hL hb hc e n=>u.keep b o e n (λz=>(Yo.mp (I.Fe b z)).elim hL hb) hc) (λb o _ _ hc e n=>u.any e n hc) (λb o hc e n=>u.free b o e n hc) (λb o hc e=>u.there b o e hc) u.gq u.gT u.ir (λm' hm=>by
  obtain⟨o',Aq,Ar,uG,r'⟩:=hm;rw[ho] at uG;cases uG;exact⟨_,Aq,Ar,hL,r'⟩) av hg
theorem Inv.turned{t':Nat}{it:Addr}(I:Inv X pins σ H s)(k:∀b o,b≠it->s.heap.get? b=some o->h'.get? b=some o)(hn:H it=none)(hL:it≠X.env.locals)
  (h1:it∈X.ex\/X.cQ.heap.objs.size<=it)(h2:∀x c,X.env.cells.lookup x=some c->c≠it)(h3:∀p∈X.pn++pins,p.1≠it):Inv X pins σ H {s with heap:=h',toks:=t'}:=by
 have RT:∀b u,H b=some u->b≠it:=λb u e z=>by rw[z,hn] at e;cases e
 refine I.step (g':=s.gens) (d':=s.drawn) (ch:=[it]) (λb hb=>?_) (λb o _ _ hc e _=>k b o (λz=>hc (by simp[z])) e) (λb o _ _ hc e _=>⟨o.slots,k b o (λz=>hc (by simp[z])) e⟩) (λ_ _ _ _ n=>n)
  (λb o hc e=>⟨o,k b o (λz=>hc (by simp[z])) e⟩) (λ_ _ e=>e) (λ_ _ _ e=>e) (λb ps e=>⟨#[],by rw[e];simp⟩) (λm hm=>?_) (λb u e=>?_) I.bare
 ·have e:b=it:=by simpa using hb
  subst e;exact⟨h1,hL,h2,h3⟩
 ·obtain⟨o,es,ep,ho,r⟩:=hm;exact⟨o,es,ep,k _ o (Ne.symm hL) ho,r⟩
 ·refine(I.av b u e).gS (λc v hc q=>k c v ?_ q) (λ_ q=>q) λ_ _ q=>q;rcases hc with z|z;·rw[z];exact RT b u e
  ·exact RT c _ z
theorem Inv.tok(I:Inv X pins σ H s)(t:Nat):Inv X pins σ H {s with toks:=t}:=I.un (h':=s.heap) (t':=t) Un.refl I.av
theorem Inv.kept{t':Nat}(I:Inv X pins σ H s)(k:∀b u,s.heap.get? b=some u->h'.get? b=some u):Inv X pins σ H {s with heap:=h',toks:=t'}:=I.un (Un.kept k) (I.av.kept k)
theorem Inv.laid{a:Addr}{o:HO}{t':Nat}(I:Inv X pins σ H s)(k:∀b u,s.heap.get? b=some u->h'.get? b=some u)(hp:s.heap.objs.size<=a)(new:cG X.prog X.w (upd H a o) h' a o):
  Inv X pins σ (upd H a o) {s with heap:=h',toks:=t'}:=I.un (Un.laid k hp (I.av.fresh hp)) (I.av.laid k hp new)
theorem Inv.write{x e:Addr}{o:HO}{t':Nat}(I:Inv X pins σ H s)(mu:xf (H x))(he:e=x\/H e=some (.own x))(k:∀b u,b≠e->s.heap.get? b=some u->h'.get? b=some u)(xg:∃u,h'.get? e=some u)
  (new:cG X.prog X.w (upd H x o) h' x o):Inv X pins σ (upd H x o) {s with heap:=h',toks:=t'}:=I.un (Un.write mu he k xg) (I.av.write mu he k xg new)
theorem Inv.M0{FN:List (Addr×Obj)}(I:Inv X pins σ H s)(h:∀p∈FN,s.heap.get? p.1=some p.2/\H p.1=none/\p.1≠X.env.locals/\p.1∉X.fs/\∀v,p.2.data≠.cell v):Inv X FN σ H s:=
 ⟨I.ok,I.os,I.bare,I.base,I.loc,I.cell,I.free,I.gQ,λp hp=>(Yv.mp hp).elim (λz=>I.pin p (Yq _ z)) (h p),I.av,I.len⟩
theorem Et{N:List Str}(hN:N.Nodup){i j:Nat}{x:Str}(a:N[i]?=some x)(b:N[j]?=some x):i=j:=by
 obtain⟨h1,e1⟩:=Yj.mp a;obtain⟨h2,e2⟩:=Yj.mp b;exact(List.getElem_inj hN).mp (e1.trans e2.symm)
theorem Zi{M:Model}{A:Around}{E:Value->Shared->Prop}{i:Nat}{x:Str}{v:V}{u:Value}{Q:Unit->Shared->Prop}(I:Inv X pins σ H s)(hN:X.N.Nodup)(hi:X.N[i]?=some x)(hx:Loc X.env.scope x)(r:RelV v u)
  (h:∀s',Inv X pins (σ.set i (some v)) H s'->(∃a,Heap.SameBut a s.heap s'.heap/\(a=X.env.locals\/X.env.cells.lookup x=some a))->Q () s')(hf:X.fn x=true\/X.env.scope.names.lookup x=some .local:=by first|exact .inl rfl|exact .inr rfl|assumption):wpAny M A (storeName X.env x u) Q E s:=by
 obtain⟨m,hn,hl⟩:=id I.loc;have Zfb:(X.env.scope.kind==.class||(X.env.scope.kind==.module&&X.env.locals !=X.env.globals))=false:=by rw[I.ok.kind];rfl
 have QR:i<σ.length:=by rw[I.len];exact(Yj.mp hi).1
 have oy:=I.oy;have tracked:∀{a:Addr} {h':Heap},(∃o,s.heap.get? a=some o/\H a=none)->Heap.SameBut a s.heap h'->cY X.prog X.w H h':=λ{a h'} ha hs b ob e=>by
  obtain⟨_,_,P7⟩:=ha;refine(I.av b ob e).gS (λc w' hc q=>(hs.2 c ?_).trans q) (λ_ q=>q) λ_ _ q=>q;rintro rfl;rcases hc with rfl|hc;·rw[P7] at e;cases e
  ·rw[P7] at hc;cases hc
 rcases hx with hk|hk
 ·refine wpAny_storeName_local hk hn (λh' uH hs=>?_) Zfb;obtain⟨oL,_,_,oz,_⟩:=id hn;refine h _ ⟨I.ok,I.os,I.bare,⟨λb o e n hb hx=>?_,λb o e n hb hx=>?_,I.base.free,λb o e hx=>?_,I.base.gq,I.base.gT,I.base.ir⟩,⟨_,uH,λj y v' e1 e2 e3=>?_⟩,λy c e=>?_,I.free,I.gQ,λp hp=>?_,tracked ⟨oL,oz,I.free⟩ hs,by simpa using I.len⟩ ⟨_,hs,.inl rfl⟩;·exact(hs.2 b (Yy (Y1 (Yp e) I.ok.above))).trans (I.base.keep b o e n hb hx)
  ·obtain⟨sl,e1⟩:=I.base.slot b o e n hb hx;exact⟨sl,(hs.2 b (Yy (Y1 (Yp e) I.ok.above))).trans e1⟩
  ·obtain⟨o',e1⟩:=I.base.there b o e hx;exact⟨o',(hs.2 b (Yy (Y1 (Yp e) I.ok.above))).trans e1⟩
  ·by_cases hj:j=i
   ·subst hj;rw[hi] at e1;cases e1;rw[List.getElem?_set_self QR] at e2;cases e2;exact⟨u,r,.inl ⟨hk,by simp⟩⟩
   ·rw[J8 (Ne.symm hj)] at e2;obtain⟨u',r',q⟩:=hl j y v' e1 e2 e3;refine⟨u',r',?_⟩;rcases q with⟨k,e⟩|⟨k,c,e,z⟩
    ·refine .inl ⟨k,?_⟩;have:y≠x:=λe=>hj (Et hN e1 (e▸hi));simp[this,e]
    ·exact .inr ⟨k,c,e,z.sameBut hs (oy y c e)⟩
  ·obtain⟨w',z⟩:=I.cell y c e;exact⟨w',z.sameBut hs (oy y c e)⟩
  ·obtain⟨e,n,ne,nf,d⟩:=I.pin p hp;exact⟨(hs.2 p.1 ne).trans e,n,ne,nf,d⟩
 ·have GL:X.fn x=true:=by
   rcases hf with z|z;·exact z
   ·rw[z] at hk;cases hk
  obtain⟨c,hc⟩:=I.ok.has x (.inl hk);obtain⟨w',z⟩:=I.cell x c hc;refine wpAny_storeName_cell I.ok.kind hk hc z (λh' qf hs=>?_);obtain⟨oc,RU,Zfc⟩:=id z;refine h {s with heap:=h'} ⟨I.ok,I.os,I.bare,⟨λb o e n hb hx=>?_,λb o e n hb hx=>?_,I.base.free,λb o e hx=>?_,I.base.gq,I.base.gT,I.base.ir⟩,⟨m,hn.sameBut hs (Ne.symm (oy x c hc)),λj y v' e1 e2 e3=>?_⟩,λy c' e=>?_,I.free,I.gQ,λp hp=>?_,tracked ⟨oc,RU,I.gQ x c hc⟩ hs,by simpa using I.len⟩ ⟨c,hs,.inr hc⟩;·exact(hs.2 b (Yy (Y1 (Yp e) (I.ok.rY x c GL hc)))).trans (I.base.keep b o e n hb hx)
  ·obtain⟨sl,e1⟩:=I.base.slot b o e n hb hx;exact⟨sl,(hs.2 b (Yy (Y1 (Yp e) (I.ok.rY x c GL hc)))).trans e1⟩
  ·obtain⟨o',e1⟩:=I.base.there b o e hx;exact⟨o',(hs.2 b (Yy (Y1 (Yp e) (I.ok.rY x c GL hc)))).trans e1⟩
  ·by_cases hj:j=i
   ·subst hj;rw[hi] at e1;cases e1;rw[List.getElem?_set_self QR] at e2;cases e2;exact⟨u,r,.inr ⟨.inl hk,c,hc,qf⟩⟩
   ·rw[J8 (Ne.symm hj)] at e2;obtain⟨u',r',q⟩:=hl j y v' e1 e2 e3;refine⟨u',r',?_⟩;rcases q with q|⟨k,c',e,z'⟩;·exact .inl q
    ·refine .inr ⟨k,c',e,z'.sameBut hs ?_⟩;rintro rfl;exact hj (Et hN e1 (I.ok.inj _ _ _ e hc▸hi))
  ·by_cases RV:c'=c;·subst RV;exact⟨_,qf⟩
   ·obtain⟨w2,z2⟩:=I.cell y c' e;exact⟨w2,z2.sameBut hs RV⟩
  ·obtain⟨e,n,ne,nf,d⟩:=I.pin p hp;refine⟨(hs.2 p.1 ?_).trans e,n,ne,nf,d⟩;intro q;rw[q,RU] at e;have q':oc=p.2:=Yr e;exact d w' (by rw[←q'];exact Zfc)
theorem yW{M:Model}{A:Around}{E:Value->Shared->Prop}{i:Nat}{x:Str}{v:V}{u:Value}{Q:Unit->Shared->Prop}(I:Inv X pins σ H s)(hN:X.N.Nodup)(hi:X.N[i]?=some x)(hx:Loc X.env.scope x)(r:RelV v u)
  (h:∀s',Inv X pins (σ.set i (some v)) H s'->Q () s')(hf:X.fn x=true\/X.env.scope.names.lookup x=some .local:=by first|exact .inl rfl|exact .inr rfl|assumption):wpAny M A (storeName X.env x u) Q E s:=
 Zi I hN hi hx r (λs' I' _=>h s' I') hf
theorem Inv.FO{s':Shared}{ch:List Addr}(I:Inv X pins σ H s)(ho:s'.os=s.os)(u:Un (cK X.stack) ch H H' s.heap s'.heap)(av:cY X.prog X.w H' s'.heap)(hg:AllBare s'.gens)
  (mU:∀b∈ch,(b∈X.ex\/X.cQ.heap.objs.size<=b)/\b≠X.env.locals/\(∀x c,X.env.cells.lookup x=some c->c≠b)/\∀p∈X.pn++pins,p.1≠b):Inv X pins σ H' s':=by
 obtain⟨h',g',d',t',o'⟩:=s';have e:o'=s.os:=ho;subst e;exact I.call (g':=g') (t':=t') (d':=d') u av hg mU
end
abbrev XK:=Value->Option Addr->Hp->Prop
abbrev St:=List (Option V)
abbrev VK:=V->Hp->Prop
abbrev TE:=St->Hp->VK->Prop
abbrev TT:=St->Hp->(Bool->Hp->Prop)->Prop
abbrev TA:=St->Hp->(List V->Hp->Prop)->Prop
structure Ends where
 nx:St->Hp->Prop
 rt:VK
 bk:St->Hp->Prop:=λ_ _=>False
 ct:St->Hp->Prop:=λ_ _=>False
abbrev TS:=Ends->St->Hp->Prop
inductive QS(X:Cx)(pins:List (Addr×Obj))(σ:St)(Q:VK)(u:Value)(s':Shared):Prop
 |mk (v H') (aC:Inv X pins σ H' s') (aR:RelV v u) (a8:Q v H'):QS X pins σ Q u s'
def EP(X:Cx)(pins:List (Addr×Obj))(σ:St)(Q:VK)(u:Value)(s':Shared):Prop:=QS X pins σ Q u s'
inductive QT(X:Cx)(pins:List (Addr×Obj))(σ:St)(R:Hp->Prop)(s':Shared):Prop
 |mk (H':Hp) (aC:Inv X pins σ H' s') (aR:R H'):QT X pins σ R s'
def TP(X:Cx)(pins:List (Addr×Obj))(σ:St)(Q:Bool->Hp->Prop)(b:Bool)(s':Shared):Prop:=QT X pins σ (Q b) s'
inductive QU(X:Cx)(pins:List (Addr×Obj))(σ:St)(Q:List V->Hp->Prop)(us:List Value)(s':Shared):Prop
 |mk (vs H') (aC:Inv X pins σ H' s') (aR:Vals vs us) (a8:Q vs H'):QU X pins σ Q us s'
def AP(X:Cx)(pins:List (Addr×Obj))(σ:St)(Q:List V->Hp->Prop)(us:List Value)(s':Shared):Prop:=QU X pins σ Q us s'
inductive rL(X:Cx)(pins:List (Addr×Obj))(Q:St->Hp->Prop)(s':Shared):Prop
 |mk (aF:St) (H':Hp) (aC:Inv X pins aF H' s') (aR:Q aF H'):rL X pins Q s'
inductive QV(X:Cx)(pins:List (Addr×Obj))(Q:VK)(u:Value)(s':Shared):Prop
 |mk (v:V) (aF:St) (H':Hp) (aC:Inv X pins aF H' s') (aR:RelV v u) (a8:Q v H'):QV X pins Q u s'
def SP(X:Cx)(pins:List (Addr×Obj))(D:Ends)(f:Flow)(s':Shared):Prop:=
 match f with
 |.next=>rL X pins D.nx s'
 |.brk=>rL X pins D.bk s'
 |.cont=>rL X pins D.ct s'
 |.ret u=>QV X pins D.rt u s'
def PE(X:Cx)(e:Expr)(t:TE):Prop:=
 ∀(pins:List (Addr×Obj)) (s:Shared) (σ:St) (H:Hp) (Q:VK),Inv X pins σ H s->t σ H Q->wpAny (model X.prog X.w) X.A (eval e X.env) (EP X pins σ Q) X.xe s
def PT(X:Cx)(e:Expr)(t:TT):Prop:=
 ∀(pins:List (Addr×Obj)) (s:Shared) (σ:St) (H:Hp) (Q:Bool->Hp->Prop),Inv X pins σ H s->t σ H Q->wpAny (model X.prog X.w) X.A (isTrue e X.env (eval e X.env)) (TP X pins σ Q) X.xe s
def PW(X:Cx)(e:Expr)(t:TT):Prop:=
 ∀(whole:Sem Value) (pins:List (Addr×Obj)) (s:Shared) (σ:St) (H:Hp) (Q:Bool->Hp->Prop),Inv X pins σ H s->t σ H Q->wpAny (model X.prog X.w) X.A (isTrue e X.env whole) (TP X pins σ Q) X.xe s
theorem PW.pt{X:Cx}{e:Expr}{t:TT}(h:PW X e t):PT X e t:=h _
def PA(X:Cx)(es:List Expr)(t:TA):Prop:=
 ∀(pos:Pos) (pins:List (Addr×Obj)) (s:Shared) (σ:St) (H:Hp) (Q:List V->Hp->Prop),Inv X pins σ H s->t σ H Q->wpAny (model X.prog X.w) X.A (spliced (backTo pos (starEach es X.env))) (AP X pins σ Q) X.xe s
def PS(X:Cx)(st:Stmt)(t:TS):Prop:=
 ∀(pins:List (Addr×Obj)) (s:Shared) (σ:St) (H:Hp) (D:Ends),Inv X pins σ H s->t D σ H->wpAny (model X.prog X.w) X.A (exec st X.env) (SP X pins D) X.xe s
def eU(X:Cx)(st:List Stmt)(t:TS):Prop:=
 ∀(pins:List (Addr×Obj)) (s:Shared) (σ:St) (H:Hp) (D:Ends),Inv X pins σ H s->t D σ H->wpAny (model X.prog X.w) X.A (execs st X.env) (SP X pins D) X.xe s
theorem aw{α:Type}{t:Sem α}{Q Q':α->Shared->Prop}{M:Model}{A:Around}{E:Value->Shared->Prop}{s:Shared}(h:wpAny M A t Q E s)(hQ:∀a s,Q a s->Q' a s):wpAny M A t Q' E s:=wpAny_mono h hQ λ_ _ x=>x
section
variable {X:Cx}
inductive Oz(i:Nat)(σ:St)(H:Hp)(Q:VK):Prop
 |mk (v) (aC:σ[i]?=some (some v)) (aR:Q v H):Oz i σ H Q
def fD(i:Nat):TE:=λσ H Q=>Oz i σ H Q
def tC(v:V):TE:=λ_ H Q=>Q v H
theorem ZcT{i:Nat}{x:Str}{pos:Pos}(hN:X.N[i]?=some x)(hv:rX X.env.scope x)(hd:(x==("__debug__":Str))=false:=by decide)(eV:(x==("__classdict__":Str))=false:=by decide):PE X (.Name x pos) (fD i):=by
 rintro pins s σ H Q I ⟨v,e,h⟩;obtain⟨m,hn,hl⟩:=I.loc;obtain⟨u,r,l⟩:=hl i x v hN e hv;have fin:EP X pins σ Q u s:=⟨v,H,I,r,h⟩;rcases l with⟨hk,hm⟩|⟨hk,c,hc,zO⟩;·exact wpAny_Name (wpAny_loadName_local I.ok.kind hk hn hm fin) hd
 ·rcases hk with hk|hk;·exact wpAny_Name (wpAny_loadName_cell I.ok.kind hk hc zO fin) hd
  ·exact wpAny_Name (wpAny_loadName_free I.ok.kind hk hc zO fin eV) hd
theorem aN{i j pos}:PE X (.Constant (.int i) j pos) (tC (.int i)):=λ_ _ _ H _ I h=>wpAny_Constant_int ⟨.int i,H,I.tok _,⟨_,rfl⟩,h⟩
theorem iS{b j pos}:PE X (.Constant (.bool b) j pos) (tC (.bl b)):=λ_ _ _ H _ I h=>Constant_bool ⟨.bl b,H,I,rfl,h⟩
theorem lC{j pos}:PE X (.Constant .none j pos) (tC .ay):=λ_ _ _ H _ I h=>Constant_none ⟨.ay,H,I,rfl,h⟩
theorem a9{x j pos}:PE X (.Constant (.str x) j pos) (tC (.str x)):=λ_ _ _ H _ I h=>Calls.Constant_str ⟨.str x,H,I.tok _,⟨_,rfl⟩,h⟩
def Gl(X:Cx)(x:Str):Prop:=X.env.kindOf x=some .globalImplicit
theorem qU{E:Value->Shared->Prop}{pins:List (Addr×Obj)}{s:Shared}{σ:St}{H:Hp}{x:Str}{u:Value}{pos:Pos}{Q:Value->Shared->Prop}(I:Inv X pins σ H s)(hg:Gl X x)(hm:X.mg x=some u)(h:Q u s)
  (hd:(x==("__debug__":Str))=false:=by decide):wpAny (model X.prog X.w) X.A (eval (.Name x pos) X.env) Q E s:=
 Calls.Name_function_global I.ok.kind hg (Calls.loadGlobal_global (by rw[I.ok.glob];exact I.mod.glob.keeps I.bk) hm h) hd
theorem wb{E:Value->Shared->Prop}{pins:List (Addr×Obj)}{s:Shared}{σ:St}{H:Hp}{x:Str}{u:Value}{pos:Pos}{Q:Value->Shared->Prop}(I:Inv X pins σ H s)(hg:Gl X x)(hm:X.mg x=none)(hv:bootBuiltins x=some u)(h:Q u s)
  (hn:x≠"__name__":=by decide)(hd:(x==("__debug__":Str))=false:=by decide):wpAny (model X.prog X.w) X.A (eval (.Name x pos) X.env) Q E s:=by
 obtain⟨mb,h1,h2⟩:=I.mod.blt;exact Calls.Name_function_global I.ok.kind hg (Calls.loadGlobal_builtin (by rw[I.ok.glob];exact I.mod.glob.keeps I.bk) hm (by rw[I.ok.blt];exact h1.keeps I.bk) ((h2 x hn).trans hv) h) hd
theorem dk{x:Str}{v:V}{u:Value}{pos:Pos}(hg:Gl X x)(hm:X.mg x=some u)(r:RelV v u)(hd:(x==("__debug__":Str))=false:=by decide):PE X (.Name x pos) (tC v):=
 λ_ _ _ H _ I h=>qU I hg hm ⟨v,H,I,r,h⟩ hd
theorem Zby{x:Str}{v:V}{u:Value}{pos:Pos}(hg:Gl X x)(hm:X.mg x=none)(hv:bootBuiltins x=some u)(r:RelV v u)(hn:x≠"__name__":=by decide)(hd:(x==("__debug__":Str))=false:=by decide):PE X (.Name x pos) (tC v):=
 λ_ _ _ H _ I h=>wb I hg hm hv ⟨v,H,I,r,h⟩ hn hd
variable {a b:Expr}{ta tb:TE}{pos:Pos}
def PC(X:Cx)(op:CmpOp)(a b:Expr)(t:TE):Prop:=
 ∀(pins:List (Addr×Obj)) (s:Shared) (σ:St) (H:Hp) (Q:VK),Inv X pins σ H s->t σ H Q->
  wpAny (model X.prog X.w) X.A (eval a X.env) (λv bu=>wpAny (model X.prog X.w) X.A (eval b X.env) (λu dY=>wpAny (model X.prog X.w) X.A (compareOp op v u) (EP X pins σ Q) X.xe dY) X.xe bu) X.xe s
inductive QW(Q:Bool->Hp->Prop)(x:V)(H1:Hp):Prop
 |mk (c) (aC:x=.bl c) (aR:Q c H1):QW Q x H1
def tB(t:TE):TT:=λσ H Q=>t σ H λx H1=>QW Q x H1
theorem ZcU{op:CmpOp}{t:TE}(h:PC X op a b t)(h1:behindInMarks op b=false:=by first|exact Z9 _ (by decide) (by decide)|rfl):PE X (.Compare a [op] [b] pos) t:=λpins s σ H Q I hw=>wpAny_Compare1 (h pins s σ H Q I hw) h1
theorem jK{op:CmpOp}{t:TE}(h:PC X op a b t)(h1:behindInMarks op b=false:=by first|exact Z9 _ (by decide) (by decide)|rfl):PT X (.Compare a [op] [b] pos) (tB t):=by
 intro pins s σ H Q I hw;refine wpAny_isTrue_Compare1 (aw (h pins s σ H _ I hw) λv s1 h1=>aw h1 λu s2 h2=>aw h2 λc s3 zq=>?_) h1;obtain⟨x,H1,I1,r1,q1⟩:=zq;obtain⟨d,rfl,q⟩:=q1;cases r1;exact wpAny_truthy_bool ⟨H1,I1,q⟩
theorem eO{e:Expr}{t:TE}(h:PE X e t)(he:∀whole,isTrue e X.env whole=(do let v←whole;standAt e.pos;holding [v] (truthy v)):=by intro _;rfl):PT X e (tB t):=by
 intro pins s σ H Q I hw;refine isTrue_plain (aw (h pins s σ H _ I hw) λv s1 zq=>?_) (he _);obtain⟨x,H1,I1,r1,q1⟩:=zq;obtain⟨d,rfl,q⟩:=q1;cases r1;exact wpAny_truthy_bool ⟨H1,I1,q⟩
variable {tA As:TT}{rest:List Expr}
def QX(t u:TT):TT:=λσ H Q=>t σ H λc H1=>if c=true then u σ H1 Q else Q false H1
def RW(t u:TT):TT:=λσ H Q=>t σ H λc H1=>if c=true then Q true H1 else u σ H1 Q
def Zfd(t:TT):TT:=λσ H Q=>t σ H λc H1=>Q (!c) H1
theorem pw_and1(ha:PT X a tA):PW X (.BoolOp .And [a] pos) tA:=by
 intro wh pins s σ H Q I h;refine isTrue_and (aw (ha pins s σ H Q I h) λc s1 e=>?_);cases c with
 |true=>exact isTrue_and_nil e
 |false=>exact e
theorem pw_or1(ha:PT X a tA):PW X (.BoolOp .Or [a] pos) tA:=by
 intro wh pins s σ H Q I h;refine isTrue_or (aw (ha pins s σ H Q I h) λc s1 e=>?_);cases c with
 |false=>exact isTrue_or_nil e
 |true=>exact e
theorem pw_and(ha:PT X a tA)(hb:PW X (.BoolOp .And (b::rest) pos) As):PW X (.BoolOp .And (a::b::rest) pos) (QX tA As):=by
 intro wh pins s σ H Q I h;refine isTrue_and (aw (ha pins s σ H _ I h) λc s1 zq=>?_);obtain⟨H1,I1,q1⟩:=zq;cases c with
 |true=>exact hb wh pins s1 σ H1 Q I1 q1
 |false=>exact⟨H1,I1,q1⟩
theorem pw_or(ha:PT X a tA)(hb:PW X (.BoolOp .Or (b::rest) pos) As):PW X (.BoolOp .Or (a::b::rest) pos) (RW tA As):=by
 intro wh pins s σ H Q I h;refine isTrue_or (aw (ha pins s σ H _ I h) λc s1 zq=>?_);obtain⟨H1,I1,q1⟩:=zq;cases c with
 |true=>exact⟨H1,I1,q1⟩
 |false=>exact hb wh pins s1 σ H1 Q I1 q1
theorem jk(ha:PT X a tA):PT X (.UnaryOp .Not a pos) (Zfd tA):=by
 intro pins s σ H Q I h;exact isTrue_not (ha pins s σ H (λc H1=>Q (!c) H1) I h)
def P8(ta tb:TE):TE:=λσ H Q=>ta σ H λx H1=>∃c,x=.bl c/\if c=true then tb σ H1 Q else Q (.bl false) H1
def QY(ta tb:TE):TE:=λσ H Q=>ta σ H λx H1=>∃c,x=.bl c/\if c=true then Q (.bl true) H1 else tb σ H1 Q
def Zem(ta:TE):TE:=λσ H Q=>ta σ H λx H1=>∃c,x=.bl c/\Q (.bl (!c)) H1
theorem mH{op}{t:TE}(h:PE X a t):PE X (.BoolOp op [a] pos) t:=λpins s σ H Q I hw=>BoolOp_one (h pins s σ H Q I hw)
theorem pL(ha:PE X a ta)(hb:PE X (.BoolOp .And (b::rest) pos) tb):PE X (.BoolOp .And (a::b::rest) pos) (P8 ta tb):=by
 intro pins s σ H Q I h;refine BoolOp_and (aw (ha pins s σ H _ I h) λv s1 zq=>?_);obtain⟨x,H1,I1,r1,q1⟩:=zq;obtain⟨c,rfl,q1⟩:=q1;cases r1;refine wpAny_truthy_bool ?_;cases c with
 |true=>exact hb pins s1 σ H1 Q I1 q1
 |false=>exact⟨.bl false,H1,I1,rfl,q1⟩
theorem FP(ha:PE X a ta)(hb:PE X (.BoolOp .Or (b::rest) pos) tb):PE X (.BoolOp .Or (a::b::rest) pos) (QY ta tb):=by
 intro pins s σ H Q I h;refine BoolOp_or (aw (ha pins s σ H _ I h) λv s1 zq=>?_);obtain⟨x,H1,I1,r1,q1⟩:=zq;obtain⟨c,rfl,q1⟩:=q1;cases r1;refine wpAny_truthy_bool ?_;cases c with
 |false=>exact hb pins s1 σ H1 Q I1 q1
 |true=>exact⟨.bl true,H1,I1,rfl,q1⟩
theorem ZcV(ha:PE X a ta):PE X (.UnaryOp .Not a pos) (Zem ta):=by
 intro pins s σ H Q I h;refine UnaryOp_ (aw (ha pins s σ H _ I h) λv s1 zq=>?_);obtain⟨x,H1,I1,r1,q1⟩:=zq;obtain⟨c,rfl,q1⟩:=q1;cases r1;exact not_of (wpAny_truthy_bool ⟨.bl (!c),H1,I1,rfl,q1⟩)
def tIf(t:TT)(ta tb:TE):TE:=λσ H Q=>t σ H λc H1=>if c=true then ta σ H1 Q else tb σ H1 Q
theorem Z_{c:Expr}(hc:PT X c tA)(ha:PE X a ta)(hb:PE X b tb):PE X (.IfExp c a b pos) (tIf tA ta tb):=by
 intro pins s σ H Q I h;refine wpAny_IfExp (aw (hc pins s σ H _ I h) λd s1 zq=>?_);obtain⟨H1,I1,q1⟩:=zq;cases d with
 |true=>exact ha pins s1 σ H1 Q I1 q1
 |false=>exact hb pins s1 σ H1 Q I1 q1
end
def ak(K:PySem.W.Frag)(H:Hp)(a:Addr)(xs:List V):Prop:=
 Rd H a (.lst xs)\/
  ∃(o:Obj) (ah:Array Value) (n:Nat),K.lookup a=some o/\o.cls=.type "list"/\o.dict=none/\o.data=.seq ah n/\ah.size<=sizeLine/\Vals xs ah.toList
def aB(K:PySem.W.Frag)(H:Hp)(a:Addr)(xs:List V):Prop:=
 Rd H a (.tup xs)\/
  ∃(o:Obj) (ah:Array Value) (n:Nat),K.lookup a=some o/\o.cls=.type "tuple"/\o.data=.seq ah n/\ah.size<=sizeLine/\Vals xs ah.toList
def Zfe:Value->Option V
 |.none=>some .ay
 |.bool b=>some (.bl b)
 |.int i _=>some (.int i)
 |.str x _=>some (.str x)
 |.bytes b _=>some (.js b)
 |.float b _=>some (.rW b)
 |.ref a=>some (.ref a)
 |.type n=>some (.ty n)
 |_=>none
theorem RelV.abs{x:V}{u:Value}(r:RelV x u):Zfe u=some x:=by
 cases x with
 |ay=>cases r;rfl
 |bl _=>cases r;rfl
 |int _=>obtain⟨t,rfl⟩:=r;rfl
 |str _=>obtain⟨t,rfl⟩:=r;rfl
 |js _=>obtain⟨t,rfl⟩:=r;rfl
 |rW _=>obtain⟨t,rfl⟩:=r;rfl
 |ref _=>cases r;rfl
 |ty _=>cases r;rfl
theorem RelV.inj{x y:V}{u:Value}(r:RelV x u)(q:RelV y u):x=y:=Yr (r.abs.symm.trans q.abs)
theorem Vals.inj:∀{xs ys:List V} {us:List Value},Vals xs us->Vals ys us->xs=ys:=by
 intro xs ys us h;induction h generalizing ys with
 |nil=>intro h';cases h';rfl
 |cons r t ih=>
  intro h';cases h' with
  |cons r' t'=>rw[r.inj r',ih t']
section
variable {X:Cx}{pins:List (Addr×Obj)}{σ:St}{H:Hp}{s:Shared}{a:Addr}{xs ys:List V}
theorem ak.of{K:PySem.W.Frag}(h:H a=some (.lst xs)):ak K H a xs:=.inl (.inl h)
theorem aB.of{K:PySem.W.Frag}(h:H a=some (.tup xs)):aB K H a xs:=.inl (.inl h)
theorem Inv.list(I:Inv X pins σ H s)(h:ak X.K H a xs):∃ah:List Value,Vals xs ah/\PlainL s.heap a ah.toArray/\xs.length<=sizeLine:=by
 rcases h with h|⟨o,ah,n,hk,hc,hd,hs,hz,r⟩
 ·obtain⟨z,ah,n,r,e⟩:=h.ok I.av;exact⟨ah,r,⟨_,n,e,rfl,rfl,rfl⟩,z⟩
 ·refine⟨ah.toList,r,⟨o,n,I.bV a o hk,hc,hd,by simpa using hs⟩,?_⟩;have e:=r.length
  grind
theorem Inv.tuple(I:Inv X pins σ H s)(h:aB X.K H a xs):∃ah:List Value,Vals xs ah/\IsTup s.heap a ah.toArray/\xs.length<=sizeLine:=by
 rcases h with h|⟨o,ah,n,hk,hc,hs,hz,r⟩
 ·obtain⟨z,ah,r,p⟩:=h.ok I.av;exact⟨ah,r,p.tup,z⟩
 ·refine⟨ah.toList,r,⟨o,I.bV a o hk,hc,n,by simpa using hs⟩,?_⟩;have e:=r.length
  grind
theorem Inv.Zaa(I:Inv X pins σ H s)(h:ak X.K H a xs)(h':ak X.K H a ys):xs=ys:=by
 obtain⟨ah,r,⟨o,n,e,_,_,d⟩,_⟩:=I.list h;obtain⟨its',r',⟨o',n',e',_,_,d'⟩,_⟩:=I.list h';rw[e] at e';cases e';rw[d] at d';injection d' with d1 _;have:ah=its':=by simpa using congrArg Array.toList d1
 subst this;exact r.inj r'
theorem Inv.Zj(I:Inv X pins σ H s)(h:aB X.K H a xs)(h':aB X.K H a ys):xs=ys:=by
 obtain⟨ah,r,⟨o,e,_,n,d⟩,_⟩:=I.tuple h;obtain⟨its',r',⟨o',e',_,n',d'⟩,_⟩:=I.tuple h';rw[e] at e';cases e';rw[d] at d';injection d' with d1 _;have:ah=its':=by simpa using congrArg Array.toList d1
 subst this;exact r.inj r'
end
abbrev Cx.jN(X:Cx)(E:Value->Shared->Prop):Cx:={X with xe:=E}
abbrev Cx.mV(X:Cx):Cx:=X.jN λ_ _=>False
theorem Cx.Ok.jN{X:Cx}(ok:X.Ok)(E:Value->Shared->Prop):(X.jN E).Ok:=
 ⟨ok.mod,ok.kind,ok.glob,ok.blt,ok.above,ok.inj,ok.has,ok.rY,ok.hd,ok.frames,ok.uF,ok.qc,ok.bs,ok.lQ,ok.rK,ok.pV,ok.jq,ok.ou⟩
theorem Cx.Ok.pM{X:Cx}{E:Value->Shared->Prop}(ok:(X.jN E).Ok):X.Ok:=
 ⟨ok.mod,ok.kind,ok.glob,ok.blt,ok.above,ok.inj,ok.has,ok.rY,ok.hd,ok.frames,ok.uF,ok.qc,ok.bs,ok.lQ,ok.rK,ok.pV,ok.jq,ok.ou⟩
section
variable {X:Cx}{pins:List (Addr×Obj)}{σ:St}{H:Hp}{s:Shared}{E:Value->Shared->Prop}
theorem Inv.jN(I:Inv X pins σ H s)(E:Value->Shared->Prop):Inv (X.jN E) pins σ H s:=⟨I.ok.jN E,I.os,I.bare,I.base,I.loc,I.cell,I.free,I.gQ,I.pin,I.av,I.len⟩
theorem Inv.pM(I:Inv (X.jN E) pins σ H s):Inv X pins σ H s:=⟨I.ok.pM,I.os,I.bare,I.base,I.loc,I.cell,I.free,I.gQ,I.pin,I.av,I.len⟩
theorem SP.pM{D:Ends}{f:Flow}{s':Shared}(h:SP (X.jN E) pins D f s'):SP X pins D f s':=by
 cases f with
 |next=>obtain⟨aF,H',I,q⟩:=h;exact⟨aF,H',I.pM,q⟩
 |brk=>obtain⟨aF,H',I,q⟩:=h;exact⟨aF,H',I.pM,q⟩
 |cont=>obtain⟨aF,H',I,q⟩:=h;exact⟨aF,H',I.pM,q⟩
 |ret u=>obtain⟨v,aF,H',I,r,q⟩:=h;exact⟨v,aF,H',I.pM,r,q⟩
theorem eU.mV{st:List Stmt}{t:TS}(h:eU X.mV st t):eU X st t:=λpins s σ H D I hw=>
 wpAny_mono (h pins s σ H D (I.jN _) hw) (λ_ _ q=>q.pM) λ_ _ z=>False.elim z
end
section
variable {X:Cx}{st:Stmt}{rest:List Stmt}{t u:TS}{e:Expr}{te:TE}{pos:Pos}
def P9:TS:=λD σ H=>D.nx σ H
def wN(t u:TS):TS:=λD σ H=>t {D with nx:=u D} σ H
theorem aW:eU X [] P9:=λ_ _ σ H _ I h=>wpAny_execs_nil ⟨σ,H,I,h⟩
theorem aj(h1:PS X st t)(h2:eU X rest u):eU X (st::rest) (wN t u):=by
 intro pins s σ H D I h;refine wpAny_execs_cons (aw (h1 pins s σ H {D with nx:=u D} I h) λf s1 q=>?_);cases f with
 |next=>
  obtain⟨aF,H',I',q⟩:=q;exact h2 pins s1 aF H' D I' q
 |ret v=>exact q
 |brk=>exact q
 |cont=>exact q
theorem aq(h1:PS X st t):eU X [st] t:=by
 intro pins s σ H D I h;refine wpAny_execs_cons (aw (h1 pins s σ H D I h) λf s1 q=>?_);cases f with
 |next=>exact wpAny_execs_nil q
 |ret v=>exact q
 |brk=>exact q
 |cont=>exact q
theorem Inv.quiet{pins:List (Addr×Obj)}{σ:St}{H:Hp}{s:Shared}(I:Inv X pins σ H s):interactive X.env=false:=by simp[interactive,I.ok.kind]
def Zen(te:TE):TS:=λD σ H=>te σ H λ_ H1=>D.nx σ H1
theorem bU(he:PE X e te)(hs:swapsWith e none pos.line X.env=pure false:=by rfl):PS X (.Expr e pos) (Zen te):=by
 intro pins s σ H D I h;exact wpAny_Expr_any (aw (he pins s σ H _ I h) λv s1 ⟨x,H1,I1,r1,q1⟩=>⟨σ,H1,I1,q1⟩) I.quiet hs
def Zff(te:TE):TS:=λD σ H=>te σ H D.rt
theorem aI(he:PE X e te):PS X (.Return (some e) pos) (Zff te):=by
 intro pins s σ H D I h;exact wpAny_Return_some (aw (he pins s σ H _ I h) λv s1 ⟨x,H1,I1,r1,q1⟩=>⟨x,σ,H1,I1,r1,q1⟩)
def Gb(c:TT)(t u:TS):TS:=λD σ H=>c σ H λb H1=>if b=true then t D σ H1 else u D σ H1
theorem aS{c:Expr}{a b:List Stmt}{tc:TT}(hc:PT X c tc)(ha:eU X a t)(hb:eU X b u):PS X (.If c a b pos) (Gb tc t u):=by
 intro pins s σ H D I h;refine wpAny_If (aw (hc pins s σ H _ I h) λd s1 zq=>?_);obtain⟨H1,I1,q1⟩:=zq;cases d with
 |true=>exact ha pins s1 σ H1 D I1 q1
 |false=>exact hb pins s1 σ H1 D I1 q1
def ZcW:TS:=λ_ _ _=>False
theorem fM{sts:List Stmt}:eU X sts ZcW:=λ_ _ _ _ _ _ h=>h.elim
end
abbrev TG:=V->St->Hp->(St->Hp->Prop)->Prop
abbrev mW:=List V->St->Hp->(St->Hp->Prop)->Prop
def PG(X:Cx)(target:Expr)(t:TG):Prop:=
 ∀(pins:List (Addr×Obj)) (s:Shared) (σ:St) (H:Hp) (v:V) (u:Value) (Q:St->Hp->Prop),Inv X pins σ H s->RelV v u->t v σ H Q->
  wpAny (model X.prog X.w) X.A (assign target X.env u) (λ_ s'=>rL X pins Q s') X.xe s
def xk(X:Cx)(ts:List Expr)(t:mW):Prop:=
 ∀(pins:List (Addr×Obj)) (s:Shared) (σ:St) (H:Hp) (vs:List V) (us:List Value) (Q:St->Hp->Prop),Inv X pins σ H s->Vals vs us->t vs σ H Q->
  wpAny (model X.prog X.w) X.A (assignInOrder ((assignEach ts X.env).map (·.2)) us) (λ_ s'=>rL X pins Q s') X.xe s
abbrev Gd:=V->V->V->Hp->(Hp->Prop)->Prop
def rM(X:Cx)(t:Gd):Prop:=
 ∀(pins:List (Addr×Obj)) (s:Shared) (σ:St) (H:Hp) (o i v:V) (ov iv u:Value) (Q:Hp->Prop),Inv X pins σ H s->RelV o ov->RelV i iv->RelV v u->t o i v H Q->
  wpAny (model X.prog X.w) X.A (setItem ov iv u) (λ_ s'=>∃H',Inv X pins σ H' s'/\Q H') X.xe s
abbrev Au:=V->V->Hp->VK->Prop
def RX(X:Cx)(op:Operator)(t:Au):Prop:=
 ∀(pins:List (Addr×Obj)) (s:Shared) (σ:St) (H:Hp) (x y:V) (v u:Value) (Q:VK),Inv X pins σ H s->RelV x v->RelV y u->t x y H Q->
  wpAny (model X.prog X.w) X.A (inplaceOp op v u) (EP X pins σ Q) X.xe s
section
variable {X:Cx}{pos:Pos}
def rA(i:Nat):TG:=λv σ H Q=>Q (σ.set i (some v)) H
theorem pH{i:Nat}{x:Str}(hN:X.N.Nodup)(hi:X.N[i]?=some x)(hx:Loc X.env.scope x)(hf:X.fn x=true\/X.env.scope.names.lookup x=some .local:=by first|exact .inl rfl|exact .inr rfl|assumption):PG X (.Name x pos) (rA i):=by
 intro pins s σ H v u Q I r h;exact wpAny_assign_Name (yW I hN hi hx r (λs' I'=>⟨_,H,I',h⟩) hf)
def Zfg:mW:=λvs σ H Q=>vs=[]/\Q σ H
inductive M3(t:TG)(u:mW)(vs:List V)(σ:St)(H:Hp)(Q:St->Hp->Prop):Prop
 |mk (v r) (aC:vs=v::r) (aR:t v σ H λaF H'=>u r aF H' Q):M3 t u vs σ H Q
def Zeo(t:TG)(u:mW):mW:=λvs σ H Q=>M3 t u vs σ H Q
theorem jh:xk X [] Zfg:=by
 rintro pins s σ H vs us Q I r ⟨e,h⟩;subst e;exact assignInOrder_nil ⟨σ,H,I,h⟩
theorem bR{e:Expr}{es:List Expr}{t:TG}{u:mW}(h1:PG X e t)(h2:xk X es u)
  (hs:(assignEach (e::es) X.env).map (·.2)=assign e X.env::(assignEach es X.env).map (·.2):=by rfl):xk X (e::es) (Zeo t u):=by
 rintro pins s σ H vs us Q I r ⟨v,vr,e1,h⟩;subst e1;cases r with
 |cons r rr=>
  rw[hs];exact assignInOrder_cons (aw (h1 pins s σ H _ _ _ I r h) λ_ s1 ⟨uI,H1,I1,q1⟩=>h2 pins s1 uI H1 _ _ Q I1 rr q1)
inductive OA(K:PySem.W.Frag)(n:Nat)(t:mW)(v:V)(σ:St)(H:Hp)(Q:St->Hp->Prop):Prop
 |mk (a xs) (aC:v=.ref a) (aR:aB K H a xs) (a8:xs.length=n) (bC:t xs σ H Q):OA K n t v σ H Q
def QZ(K:PySem.W.Frag)(n:Nat)(t:mW):TG:=λv σ H Q=>OA K n t v σ H Q
theorem ZcX{es:List Expr}{k:Nat}{t:mW}{n:Nat}(hc:X.calm=true)(h:xk X es t)
  (hn:(assignEach es X.env).length=n:=by rfl)(c7:(assignEach es X.env).findIdx? (·.1)=none:=by rfl):PG X (.Tuple es k pos) (QZ X.K n t):=by
 rintro pins s σ H v u Q I r ⟨a,xs,e1,hq,hl,hw⟩;subst e1;cases r;obtain⟨ah,rv,ht,hz⟩:=I.tuple hq;exact assign_Tuple_tuple (I.ok.hd hc) ht (by simp[hn,←hl,rv.length]) c7 λh' hx=>h pins _ σ H xs _ Q (I.kept λb o e=>hx b o (Yy (Yp e)) e) (by simpa using rv) hw
def Q0(to ti:TE)(t:Gd):TG:=λv σ H Q=>to σ H λo H1=>ti σ H1 λi H2=>t o i v H2 λH3=>Q σ H3
theorem ZcY{o i:Expr}{to ti:TE}{t:Gd}(ho:PE X o to)(hi:PE X i ti)(hs:rM X t)
  (ha:∀v,assign (.Subscript o i pos) X.env v=(do
   let ov←holding [v] (eval o X.env);let iv←holding [v,ov] (eval i X.env)
   standAt pos
   holding [v,ov,iv] (setItem ov iv v)
   release [v,ov,iv] []):=by intro _;rfl):PG X (.Subscript o i pos) (Q0 to ti t):=by
 intro pins s σ H v u Q I r h;exact wpAny_bind (wpAny_holding (aw (ho pins s σ H _ I h) λov s1 ⟨x,H1,I1,r1,q1⟩=>wpAny_bind (wpAny_holding (aw (hi pins s1 σ H1 _ I1 q1) λiv s2 ⟨y,H2,I2,r2,q2⟩=>wpAny_bind (wpAny_standAt (wpAny_bind (wpAny_holding (aw (hs pins s2 σ H2 x y v ov iv u _ I2 r1 r2 r q2) λ_ s3 ⟨H3,I3,q3⟩=>wpAny_release ⟨σ,H3,I3,q3⟩))))))))
def uw(te:TE)(g:TG):TS:=λD σ H=>te σ H λx H1=>g x σ H1 D.nx
theorem nQ{tg e:Expr}{te:TE}{g:TG}(he:PE X e te)(hg:PG X tg g)(hs:swapsWithSole [tg] e pos.line X.env=pure false:=by rfl)(hw:swappedStores [tg] e X.env=pure none:=by rfl)
  (h1:(assignEach [tg] X.env).map (·.2)=[assign tg X.env]:=by rfl):PS X (.Assign [tg] e pos) (uw te g):=by
 intro pins s σ H D I h;refine wpAny_Assign_stores (aw (he pins s σ H _ I h) λv s1 zq=>?_) hs hw;obtain⟨x,H1,I1,r1,q1⟩:=zq;rw[h1];exact aw (hg pins s1 σ H1 x v _ I1 r1 q1) λ_ s2 q=>q
theorem gc{i:Nat}{x:Str}{e:Expr}{te:TE}{pos':Pos}(hN:X.N.Nodup)(hi:X.N[i]?=some x)(hx:Loc X.env.scope x)(he:PE X e te)(hs:swapsWith e (some (.Name x pos')) pos.line X.env=pure false:=by rfl)(hf:X.fn x=true\/X.env.scope.names.lookup x=some .local:=by first|exact .inl rfl|exact .inr rfl|assumption):
  PS X (.Assign [.Name x pos'] e pos) (uw te (rA i)):=by
 intro pins s σ H D I h;refine wpAny_Assign_Name (aw (he pins s σ H _ I h) λv s1 zq=>?_) hs;obtain⟨y,H1,I1,r1,q1⟩:=zq;exact yW I1 hN hi hx r1 (λs2 I2=>⟨_,H1,I2,q1⟩) hf
def Zfh(i:Nat)(te:TE)(ti:Au):TS:=λD σ H=>∃x,σ[i]?=some (some x)/\te σ H λy H1=>ti x y H1 λz H2=>D.nx (σ.set i (some z)) H2
theorem OB{i:Nat}{x:Str}{e:Expr}{te:TE}{op:Operator}{ti:Au}{pos':Pos}(hN:X.N.Nodup)(hi:X.N[i]?=some x)(hx:Loc X.env.scope x)(he:PE X e te)(ho:RX X op ti)(hf:X.fn x=true\/X.env.scope.names.lookup x=some .local:=by first|exact .inl rfl|exact .inr rfl|assumption):
  PS X (.AugAssign (.Name x pos') op e pos) (Zfh i te ti):=by
 rintro pins s σ H D I ⟨v,e1,h⟩;obtain⟨m,hn,hl⟩:=I.loc;have GN:rX X.env.scope x:=by rcases hx with k|k;exact .inl k;exact .inr (.inl k)
 obtain⟨u,r,l⟩:=hl i x v hi e1 GN;refine wpAny_AugAssign_Name ?_;have go:wpAny (model X.prog X.w) X.A (eval e X.env) (λw dY=>wpAny (model X.prog X.w) X.A (inplaceOp op u w) (λr dN=>wpAny (model X.prog X.w) X.A (storeName X.env x r) (λ_=>SP X pins D .next) X.xe dN) X.xe dY) X.xe s:=aw (he pins s σ H _ I h) λw s1 ⟨y,H1,I1,r1,q1⟩=>aw (ho pins s1 σ H1 v y u w _ I1 r r1 q1) λz s2 ⟨zv,H2,I2,r2,q2⟩=>yW I2 hN hi hx r2 (λs3 I3=>⟨_,H2,I3,q2⟩) hf;rcases l with⟨hk,hm⟩|⟨hk,c,hc,zO⟩;·exact wpAny_loadName_local I.ok.kind hk hn hm go
 ·rcases hk with hk|hk;·exact wpAny_loadName_cell I.ok.kind hk hc zO go
  ·rcases hx with k|k
   ·have:X.env.scope.names.lookup x=some .free:=hk
    grind
   ·have:X.env.scope.names.lookup x=some .free:=hk
    grind
inductive P_(f:Int->Int->Int)(x:V)(y:V)(H:Hp)(Q:VK):Prop
 |mk (i j) (aC:x=.int i) (aR:y=.int j) (a8:Q (.int (f i j)) H):P_ f x y H Q
def ipI(f:Int->Int->Int):Au:=λx y H Q=>P_ f x y H Q
theorem OC:RX X .Add (ipI λi j=>i+j):=by
 rintro pins s σ H x y v u Q I r1 r2 ⟨i,j,e1,e2,q⟩;subst e1;subst e2;obtain⟨t,rfl⟩:=r1;obtain⟨t',rfl⟩:=r2;exact iadd_int ⟨.int _,H,I.tok _,⟨_,rfl⟩,q⟩
end
section
variable {X:Cx}{pos:Pos}
def OD(c:TT)(tb:TS):TS:=λD σ H=>∃W:Nat->St->Hp->Prop,(∃m,W m σ H)/\∀m σ H,W m σ H->
 c σ H λb H1=>if b=true then ∃N:St->Hp->Prop,(∀aF H',N aF H'->∃m',m'<m/\W m' aF H')/\tb {D with nx:=N,ct:=N,bk:=D.nx} σ H1 else D.nx σ H1
theorem Eu{c:Expr}{body:List Stmt}{tc:TT}{tb:TS}(hp:PassesOwn (model X.prog X.w) X.A X.env X.xe)(hc:PT X c tc)(hb:eU X body tb):PS X (.While c body [] pos) (OD tc tb):=by
 intro pins s σ H D I h;obtain⟨W,⟨m0,w0⟩,turn⟩:=h;refine wpAny_While (codeAny_whileLoop (λn s'=>rL X pins (W n) s') ?_ m0 ⟨σ,H,I,w0⟩);rintro n s1 ⟨uI,H1,I1,w1⟩;refine wpAny_passesOwn hp (aw (hc pins s1 uI H1 _ I1 (turn n uI H1 w1)) λb s2 zq=>?_);obtain⟨H2,I2,q2⟩:=zq;cases b with
 |true=>
  obtain⟨N,hN,q2⟩:=q2;rw[if_pos rfl];refine wpAny_passesOwn hp (aw (hb pins s2 uI H2 _ I2 q2) λf s3 q3=>?_);cases f with
  |next=>
   obtain⟨cL,H3,I3,n3⟩:=q3;obtain⟨m',hm,w3⟩:=hN cL H3 n3;exact⟨m',hm,cL,H3,I3,w3⟩
  |cont=>
   obtain⟨cL,H3,I3,n3⟩:=q3;obtain⟨m',hm,w3⟩:=hN cL H3 n3;exact⟨m',hm,cL,H3,I3,w3⟩
  |brk=>exact q3
  |ret v=>exact q3
 |false=>
  rw[if_neg Yh];exact wpAny_execs_nil ⟨uI,H2,I2,q2⟩
end
structure It where
 go:Nat->Hp->Prop
 qg:Nat->Hp->V->Hp->Prop
 stop:Nat->Hp->Prop
def iu(X:Cx)(pins:List (Addr×Obj))(H:Hp)(b:Addr):Prop:=
 H b=none/\b≠X.env.locals/\b∉X.fs/\(b∈X.ex\/X.cQ.heap.objs.size<=b)/\(∀x c,X.env.cells.lookup x=some c->c≠b)/\∀p∈X.pn++pins,p.1≠b
theorem Inv.pW{X:Cx}{pins:List (Addr×Obj)}{σ:St}{H H':Hp}{s:Shared}{b:Addr}(I:Inv X pins σ H s)(hb:s.heap.objs.size<=b)(hn:H' b=none):iu X pins H' b:=by
 refine⟨hn,Jd (Y1 I.lt hb),I.Zfa hb,.inr (Y0 I.sz hb),λx c e z=>?_,λp hp z=>?_⟩
 ·obtain⟨v,q⟩:=I.cell x c e;exact absurd (Y1 q.lt (by rw[z];exact hb)) (Wa _)
 ·exact absurd (Y1 (Yp (I.pin p hp).1) (by rw[z];exact hb)) (Wa _)
structure Turn(P:Program)(w:World)(K:PySem.W.Frag)(tg:Expr)(J:It)(fp:List Addr)(it:Addr)(tn:Nat->Heap->Prop):Prop where
 mem:it∈fp
 obj:∀i h,tn i h->∀b∈fp,∃o,h.get? b=some o/\∀v,o.data≠.cell v
 keep:∀i h h',tn i h->(∀b∈fp,∀o,h.get? b=some o->h'.get? b=some o)->tn i h'
 item:∀(X:Cx),X.prog=P->X.w=w->X.K=K->X.calm=true->∀(i:Nat) (pins:List (Addr×Obj)) (s:Shared) (σ:St) (H:Hp) (E:Value->Shared->Prop),Inv X pins σ H s->(∀b∈fp,iu X pins H b)->tn i s.heap->J.go i H->
  wpAny (model P w) X.A (pyNext (.ref it)) (λr s1=>∃u,r=some u/\
   wpAny (model P w) X.A (letOwnedTupleGo tg (.ref it) u) (λ_ s2=>∃x H',Inv X pins σ H' s2/\RelV x u/\J.qg i H x H'/\tn (i+1) s2.heap/\∀b∈fp,H' b=none) E s1) E s
 done:∀(X:Cx),X.prog=P->X.w=w->X.K=K->X.calm=true->∀(i:Nat) (pins:List (Addr×Obj)) (s:Shared) (σ:St) (H:Hp) (E:Value->Shared->Prop),Inv X pins σ H s->(∀b∈fp,iu X pins H b)->tn i s.heap->J.stop i H->
  wpAny (model P w) X.A (pyNext (.ref it)) (λr s1=>r=none/\Inv X pins σ H s1) E s
 self:∀(A:Around) (i:Nat) (s:Shared) (Q:Value->Shared->Prop) (E:Value->Shared->Prop),tn i s.heap->Q (.ref it) s->wpAny (model P w) A (pyIter (.ref it)) Q E s
abbrev TI:=St->Hp->(It->Hp->Prop)->Prop
def RY(X:Cx)(pins:List (Addr×Obj))(σ:St)(tg:Expr)(R:It->Hp->Prop)(uJ:Value)(s2:Shared):Prop:=
 ∃(it:Addr) (fp:List Addr) (tn:Nat->Heap->Prop) (J:It) (H':Hp),uJ=.ref it/\Inv X pins σ H' s2/\Turn X.prog X.w X.K tg J fp it tn/\tn 0 s2.heap/\(∀b∈fp,iu X pins H' b)/\R J H'
def PI(X:Cx)(tg iter:Expr)(wi:TI):Prop:=
 ∀(pins:List (Addr×Obj)) (s:Shared) (σ:St) (H:Hp) (R:It->Hp->Prop),Inv X pins σ H s->wi σ H R->
  wpAny (model X.prog X.w) X.A (eval iter X.env) (λv s1=>wpAny (model X.prog X.w) X.A (pyIter v) (RY X pins σ tg R) X.xe s1) X.xe s
theorem rB{M:Model}{A:Around}{E:Value->Shared->Prop}{s:Shared}{tg:Expr}{it:Addr}{u:Value}{o:Obj}{n:String}{vs:Array Value}{Q:Unit->Shared->Prop}(ho:s.heap.get? it=some o)(hc:o.cls=.type n)(hd:o.data=.fields vs)
    (hn:["enumerate","zip","dict_itemiterator","dict_reverseitemiterator","odict_iterator","itertools.zip_longest","itertools.pairwise"].contains n=false)(hQ:Q () s):wpAny M A (letOwnedTupleGo tg (.ref it) u) Q E s:=by
  unfold letOwnedTupleGo;cases tg <;> first
    | exact wpAny_pure hQ
    | (cases u <;> first
        | exact wpAny_pure hQ
        | (refine wpAny_bind (wpAny_load ho ?_)
           rw [hc,hd];show wpAny M A (if (["enumerate","zip","dict_itemiterator","dict_reverseitemiterator","odict_iterator","itertools.zip_longest","itertools.pairwise"].contains n&&vs[0]? == some (rawInt _))=true then _ else _) Q E s;rw [if_neg (by intro h; rw [hn,Bool.false_and] at h; cases h)];exact wpAny_pure hQ))
def ju(K:PySem.W.Frag)(a:Addr):It:=
 ⟨λi H=>∃xs x,ak K H a xs/\xs[i]?=some x,λi H x H'=>H'=H/\∀xs,ak K H a xs->xs[i]?=some x,λi H=>∃xs,ak K H a xs/\xs.length<=i⟩
def uK(K:PySem.W.Frag)(a:Addr):It:=
 ⟨λi H=>∃xs x,aB K H a xs/\xs[i]?=some x,λi H x H'=>H'=H/\∀xs,aB K H a xs->xs[i]?=some x,λi H=>∃xs,aB K H a xs/\xs.length<=i⟩
def oA(lo:Int)(n:Nat):It:=⟨λi _=>i<n,λi H x H'=>H'=H/\x=.int (lo+i),λi _=>n<=i⟩
theorem K1{P:Program}{w:World}{K:PySem.W.Frag}{tg:Expr}(a it:Addr):Turn P w K tg (ju K a) [it] it (λi h=>h.IsListIter it a i) where
 mem:=by simp
 obj:=λi h st b hb=>by
  have e:b=it:=by simpa using hb
  obtain⟨o,e,c,d⟩:=st
  grind
 keep:=λi h h' st k=>st.at λo e=>k it (by simp) o e
 item:=by
  intro X hP hw hK hc i pins s σ H E I hf st hg;subst hP hw hK;obtain⟨xs,x,hq,hx⟩:=hg;obtain⟨ah,rv,p,hz⟩:=I.list hq;obtain⟨u,hu,ru⟩:=rv.get hx;obtain⟨f0,f1,f2,f3,f4,f5⟩:=hf it (by simp);refine wpAny_pyNext_list_item st p.isList (by simpa using hu) λh' aK sb=>?_;obtain⟨o,e,c,d⟩:=id aK;exact⟨u,rfl,rB e c d (by decide) ⟨x,H,(I.turned (λb o hb e=>(sb.2 b hb).trans e) f0 f1 f3 f4 f5),ru,⟨rfl,λys hy=>by rw[I.Zaa hy hq];exact hx⟩,aK,λb hb=>(hf b hb).1⟩⟩
 done:=by
  intro X hP hw hK hc i pins s σ H E I hf st hg;subst hP hw hK;obtain⟨xs,hq,hx⟩:=hg;obtain⟨ah,rv,p,hz⟩:=I.list hq;obtain⟨f0,f1,f2,f3,f4,f5⟩:=hf it (by simp);have hl:=rv.length;exact wpAny_pyNext_list_end (I.ok.hd hc) st p.isList (by simp;omega) λh' eb=>⟨rfl,I.turned (λb o hb e=>eb b o hb e) f0 f1 f3 f4 f5⟩
 self:=λ_ _ _ _ _ st h=>wpAny_pyIter_listiter st h
theorem Kk{P:Program}{w:World}{K:PySem.W.Frag}{tg:Expr}(a it:Addr):Turn P w K tg (uK K a) [it] it (λi h=>h.IsTupleIter it a i) where
 mem:=by simp
 obj:=λi h st b hb=>by
  have e:b=it:=by simpa using hb
  obtain⟨o,e,c,d⟩:=st
  grind
 keep:=λi h h' st k=>st.at λo e=>k it (by simp) o e
 item:=by
  intro X hP hw hK hc i pins s σ H E I hf st hg;subst hP hw hK;obtain⟨xs,x,hq,hx⟩:=hg;obtain⟨ah,rv,p,hz⟩:=I.tuple hq;obtain⟨u,hu,ru⟩:=rv.get hx;obtain⟨f0,f1,f2,f3,f4,f5⟩:=hf it (by simp);refine wpAny_pyNext_tuple_item st (show s.heap.IsTuple a ah.toArray from p) (by simpa using hu) λh' aK sb=>?_;obtain⟨o,e,c,d⟩:=id aK;exact⟨u,rfl,rB e c d (by decide) ⟨x,H,(I.turned (λb o hb e=>(sb.2 b hb).trans e) f0 f1 f3 f4 f5),ru,⟨rfl,λys hy=>by rw[I.Zj hy hq];exact hx⟩,aK,λb hb=>(hf b hb).1⟩⟩
 done:=by
  intro X hP hw hK hc i pins s σ H E I hf st hg;subst hP hw hK;obtain⟨xs,hq,hx⟩:=hg;obtain⟨ah,rv,p,hz⟩:=I.tuple hq;obtain⟨f0,f1,f2,f3,f4,f5⟩:=hf it (by simp);have hl:=rv.length;exact wpAny_pyNext_tuple_end (I.ok.hd hc) st (show s.heap.IsTuple a ah.toArray from p) (by simp;omega) λh' eb=>⟨rfl,I.turned (λb o hb e=>eb b o hb e) f0 f1 f3 f4 f5⟩
 self:=λ_ _ _ _ _ st h=>wpAny_pyIter_tupleiter st h
theorem XH{P:Program}{w:World}{K:PySem.W.Frag}{tg:Expr}(it:Addr)(lo:Int)(n:Nat):Turn P w K tg (oA lo n) [it] it (λi h=>IsRangeIter h it (lo+(i:Nat)*1) ((n:Int)-(i:Nat)) 1) where
 mem:=by simp
 obj:=λi h st b hb=>by
  grind
 keep:=λi h h' st k=>k it (by simp) _ st
 item:=by
  intro X hP hw hK hc i pins s σ H E I hf st hg;subst hP hw hK;obtain⟨f0,f1,f2,f3,f4,f5⟩:=hf it (by simp);refine(Walks.range (I.ok.hd hc) it lo 1 n).item i s _ _ hg st λv h' tk hv aK kk=>?_;obtain⟨t,rfl⟩:=hv;refine⟨_,rfl,rB aK rfl rfl (by decide) ⟨.int (lo+i),H,(I.turned (λb o hb e=>kk b o (by simpa using hb) e) f0 f1 f3 f4 f5),⟨t,?_⟩,⟨rfl,rfl⟩,aK,λb hb=>(hf b hb).1⟩⟩;rw[Int.mul_one]
 done:=by
  intro X hP hw hK hc i pins s σ H E I hf st hg;subst hP hw hK;obtain⟨f0,f1,f2,f3,f4,f5⟩:=hf it (by simp);exact wpAny_pyNext_range_end (I.ok.hd hc) st (by have:n<=i:=hg;omega) λh' eb=>⟨rfl,I.turned (λb o hb e=>eb b o hb e) f0 f1 f3 f4 f5⟩
 self:=λ_ _ _ _ _ st h=>wpAny_pyIter_rangeiter st h
section
variable {X:Cx}{tg:Expr}
inductive M4(K:PySem.W.Frag)(R:It->Hp->Prop)(x:V)(H1:Hp):Prop
 |mk (a) (aC:x=.ref a) (aR:(∃xs,ak K H1 a xs)) (a8:R (ju K a) H1):M4 K R x H1
def Qa(K:PySem.W.Frag)(tl:TE):TI:=λσ H R=>tl σ H λx H1=>M4 K R x H1
inductive OE(K:PySem.W.Frag)(R:It->Hp->Prop)(x:V)(H1:Hp):Prop
 |mk (a) (aC:x=.ref a) (aR:(∃xs,aB K H1 a xs)) (a8:R (uK K a) H1):OE K R x H1
def Zfi(K:PySem.W.Frag)(tl:TE):TI:=λσ H R=>tl σ H λx H1=>OE K R x H1
theorem M5{l:Expr}{tl:TE}(hl:PE X l tl):PI X tg l (Qa X.K tl):=by
 intro pins s σ H R I h;refine aw (hl pins s σ H _ I h) λv s1 zq=>?_;obtain⟨x,H1,I1,r1,q1⟩:=zq;obtain⟨a,e,⟨xs,hq⟩,q⟩:=q1;subst e;cases r1;obtain⟨ah,rv,p,hz⟩:=I1.list hq;refine wpAny_pyIter_list p.isList ⟨s1.heap.objs.size,[s1.heap.objs.size],_,_,H1,rfl,I1.kept λb o e=>Yb _ e,K1 a _,⟨_,Yt _ rfl,rfl,rfl⟩,λb hb=>?_,q⟩;have e:b=s1.heap.objs.size:=by simpa using hb
 subst e;exact I1.pW (Yd _) (I1.av.fresh (Yd _))
theorem Ff{l:Expr}{tl:TE}(hl:PE X l tl):PI X tg l (Zfi X.K tl):=by
 intro pins s σ H R I h;refine aw (hl pins s σ H _ I h) λv s1 zq=>?_;obtain⟨x,H1,I1,r1,q1⟩:=zq;obtain⟨a,e,⟨xs,hq⟩,q⟩:=q1;subst e;cases r1;obtain⟨ah,rv,p,hz⟩:=I1.tuple hq;refine wpAny_pyIter_tuple (show s1.heap.IsTuple a ah.toArray from p) ⟨s1.heap.objs.size,[s1.heap.objs.size],_,_,H1,rfl,I1.kept λb o e=>Yb _ e,Kk a _,⟨_,Yt _ rfl,rfl,rfl⟩,λb hb=>?_,q⟩;have e:b=s1.heap.objs.size:=by simpa using hb
 subst e;exact I1.pW (Yd _) (I1.av.fresh (Yd _))
theorem Zab{pins:List (Addr×Obj)}{σ:St}{H:Hp}{s:Shared}{R:It->Hp->Prop}{E:Value->Shared->Prop}{lo hi:Int}{t u v:Tok}{tk:Nat}(I:Inv X pins σ H s)(h1:-(2^62)<=lo)(h2:lo<2^62)(h3:-(2^62)<=hi)(h4:hi<2^62)
  (q:R (oA lo (hi-lo).toNat) H):wpAny (model X.prog X.w) X.A (pyIter (.ref s.heap.objs.size)) (RY X pins σ tg R) E {s with heap:=s.heap.push {cls:=.type "range",data:=.fields #[.int lo t,.int hi u,.int 1 v]},toks:=tk}:=by
 refine wpAny_pyIter_range (IsRange.new ..) (small_one h1 h2 h3 h4) ?_;have I1:Inv X pins σ H {s with heap:=s.heap.push {cls:=.type "range",data:=.fields #[.int lo t,.int hi u,.int 1 v]},toks:=tk}:=I.kept λb o e=>Yb _ e;refine⟨(s.heap.push {cls:=.type "range",data:=.fields #[.int lo t,.int hi u,.int 1 v]}).objs.size,[(s.heap.push {cls:=.type "range",data:=.fields #[.int lo t,.int hi u,.int 1 v]}).objs.size],_,_,H,rfl,
  I1.kept (t':=tk) λb o e=>Yb _ e,XH _ lo (hi-lo).toNat,?_,λb hb=>?_,q⟩
 ·have e1:lo+((0:Nat):Int)*1=lo:=by simp
  have e2:(((hi-lo).toNat:Nat):Int)-((0:Nat):Int)=Builtin.Range.rangeSize lo hi 1:=by rw[rangeSize_one];split<;>omega
  show IsRangeIter _ _ (lo+((0:Nat):Int)*1) ((((hi-lo).toNat:Nat):Int)-((0:Nat):Int)) 1;rw[e1,e2];exact Yt _ rfl
 ·have e:b=(s.heap.push {cls:=.type "range",data:=.fields #[.int lo t,.int hi u,.int 1 v]}).objs.size:=by simpa using hb
  subst e;exact I1.pW (Yd _) (I1.av.fresh (Yd _))
inductive M6(R:It->Hp->Prop)(vs:List V)(H1:Hp):Prop
 |mk (j:Int) (aC:vs=[.int j]) (aR:-(2^62)<=j) (a8:j<2^62) (bC:R (oA 0 j.toNat) H1):M6 R vs H1
def Zep(ta:TA):TI:=λσ H R=>ta σ H λvs H1=>M6 R vs H1
theorem pj{a:Expr}{ta:TA}{p pos:Pos}(hg:Gl X "range")(hm:X.mg "range"=none)(ha:PA X [a] ta)(hs:starEach [a] X.env=[(false,eval a X.env)]:=by rfl):PI X tg (.Call (.Name "range" p) [a] [] pos) (Zep ta):=by
 intro pins s σ H R I h;refine Call_ (wb I hg hm boot_range (PyProof.Rows.callWith_type1 (aw (ha pos pins s σ H _ I h) λus s1 zq=>?_) hs rfl));obtain⟨vs,H1,I1,r1,q1⟩:=zq;obtain⟨j,e,q1,q2,q⟩:=q1;subst e;cases r1 with
 |cons r rr=>
  cases rr;obtain⟨t,rfl⟩:=r;exact call_range_1 (Zab I1 (by omega) (by omega) q1 q2 (by simpa using q))
def Ge(wi:TI)(g:TG)(tb:TS):TS:=λD σ H=>wi σ H λJ H1=>∃W:Nat->Nat->St->Hp->Prop,(∃m,W 0 m σ H1)/\∀i m σ H,W i m σ H->
 (J.stop i H/\D.nx σ H)\/(J.go i H/\∃N:St->Hp->Prop,(∀aF H',N aF H'->∃m',m'<m/\W (i+1) m' aF H')/\∀x H',J.qg i H x H'->g x σ H' λdq H2=>tb {D with nx:=N,ct:=N,bk:=D.nx} dq H2)
def pN(fp:List Addr)(h:Heap):List (Addr×Obj):=fp.filterMap λb=>(h.get? b).map λo=>(b,o)
theorem oY{fp:List Addr}{h:Heap}{b:Addr}{o:Obj}(hb:b∈fp)(e:h.get? b=some o):(b,o)∈pN fp h:=Jh.mpr ⟨b,hb,by rw[e];rfl⟩
theorem Zk{fp:List Addr}{h:Heap}{p:Addr×Obj}(hp:p∈pN fp h):p.1∈fp/\h.get? p.1=some p.2:=by
 obtain⟨b,hb,e⟩:=Jh.mp hp;cases q:h.get? b with
 |none=>grind
 |some o=>grind
theorem Inv.pinned{pins:List (Addr×Obj)}{σ:St}{H:Hp}{s:Shared}{fp:List Addr}(I:Inv X pins σ H s)(hf:∀b∈fp,iu X pins H b)(ho:∀b∈fp,∃o,s.heap.get? b=some o/\∀v,o.data≠.cell v):Inv X (pins++pN fp s.heap) σ H s:=
 I.M0 λp hp=>(Yv.mp hp).elim (λz=>I.pin p (Yn _ z)) λz=>by
  obtain⟨hb,e⟩:=Zk z;obtain⟨f0,f1,f2,_⟩:=hf p.1 hb
  grind
theorem Inv.t4{pins pl:List (Addr×Obj)}{σ:St}{H:Hp}{s:Shared}(I:Inv X (pins++pl) σ H s):Inv X pins σ H s:=I.M0 λp hp=>I.pin p (Yn _ (Yq _ hp))
theorem gP{iter:Expr}{body:List Stmt}{wi:TI}{g:TG}{tb:TS}{pos:Pos}(hp:PassesOwn (model X.prog X.w) X.A X.env X.xe)(hc:X.calm=true)(hi:PI X tg iter wi)(hg:PG X tg g)(hb:eU X body tb)
  (hs:∀x,foldedSetIterable iter X.env x=pure x:=by intro _;rfl):PS X (.For tg iter body [] pos) (Ge wi g tb):=by
 intro pins s σ H D I h;refine wpAny_For (aw (hi pins s σ H _ I h) λv s1 h1=>aw h1 λuJ s2 h2=>?_) hs;obtain⟨it,fp,tn,J,H2,e,I2,T,c_,f2,W,⟨m0,w0⟩,turn⟩:=h2;subst e;have lI:∀{H':Hp},(∀b∈fp,H' b=none)->∀b∈fp,iu X pins H' b:=λhn b hb=>⟨hn b hb,(f2 b hb).2⟩;refine codeAny_forLoop_any (λn s'=>∃i aF H',Inv X pins aF H' s'/\tn i s'.heap/\(∀b∈fp,H' b=none)/\W i n aF H') ?_ m0 ⟨0,σ,H2,I2,c_,λb hb=>(f2 b hb).1,w0⟩;rintro n s3 ⟨i,cL,H3,I3,RZ,uL,w3⟩;rcases turn i n cL H3 w3 with⟨stop,qn⟩|⟨go,N,hN,step⟩
 ·refine wpAny_passesOwn hp (aw (T.done X rfl rfl rfl hc i pins s3 cL H3 X.xe I3 (lI uL) RZ stop) λr s4 zq=>?_);obtain⟨hr,I4⟩:=zq;subst hr;exact wpAny_execs_nil ⟨cL,H3,I4,qn⟩
 ·refine wpAny_passesOwn hp (aw (T.item X rfl rfl rfl hc i pins s3 cL H3 X.xe I3 (lI uL) RZ go) λr s4 zq=>?_);obtain⟨u,hr,h4⟩:=zq;subst hr;refine wpAny_passesOwn hp (aw h4 λ_ s5 ⟨x,H5,I5,r5,y5,oB,rZ⟩=>wpAny_passesOwn hp (aw (hg _ s5 cL H5 x u _ (I5.pinned (lI rZ) (T.obj _ _ oB)) r5 (step x H5 y5)) λ_ s6 ⟨Av,H6,I6,q6⟩=>wpAny_passesOwn hp (aw (hb _ s6 Av H6 _ I6 q6) λf s7 q7=>?_)));have again:∀{lR:St} {H7:Hp},Inv X (pins++pN fp s5.heap) lR H7 s7->N lR H7->∃m,m<n/\∃i aF H',Inv X pins aF H' s7/\tn i s7.heap/\(∀b∈fp,H' b=none)/\W i m aF H':=λ{lR H7} I7 n7=>by
   obtain⟨m',hm,w7⟩:=hN lR H7 n7;refine⟨m',hm,i+1,lR,H7,I7.t4,T.keep _ _ _ oB λb hb o e=>(I7.pin (b,o) (Yn _ (Yn _ (oY hb e)))).1,λb hb=>?_,w7⟩;obtain⟨o,e,d⟩:=T.obj _ _ oB b hb;exact(I7.pin (b,o) (Yn _ (Yn _ (oY hb e)))).2.1
  cases f with
  |next=>obtain⟨lR,H7,I7,n7⟩:=q7;exact again I7 n7
  |cont=>obtain⟨lR,H7,I7,n7⟩:=q7;exact again I7 n7
  |brk=>obtain⟨lR,H7,I7,q7⟩:=q7;exact⟨lR,H7,I7.t4,q7⟩
  |ret v=>obtain⟨x7,lR,H7,I7,r7,q7⟩:=q7;exact⟨x7,lR,H7,I7.t4,r7,q7⟩
end
theorem kA{K:PySem.W.Frag}{a:Addr}{xs:List V}{g:TG}{tb:TS}{D:Ends}{σ:St}{H:Hp}(Pv:Nat->St->Hp->Prop)(h0:Pv 0 σ H)(hl:∀i σ H,i<=xs.length->Pv i σ H->ak K H a xs)
  (hs:∀i x σ H,xs[i]?=some x->Pv i σ H->g x σ H λdq H2=>tb {D with nx:=Pv (i+1),ct:=Pv (i+1),bk:=D.nx} dq H2)(hd:∀σ H,Pv xs.length σ H->D.nx σ H):
  ∃W:Nat->Nat->St->Hp->Prop,(∃m,W 0 m σ H)/\∀i m σ H,W i m σ H->
   ((ju K a).stop i H/\D.nx σ H)\/((ju K a).go i H/\∃N:St->Hp->Prop,(∀aF H',N aF H'->∃m',m'<m/\W (i+1) m' aF H')/\∀x H',(ju K a).qg i H x H'->g x σ H' λdq H2=>tb {D with nx:=N,ct:=N,bk:=D.nx} dq H2):=by
 refine⟨λi m σ H=>m=xs.length-i/\i<=xs.length/\Pv i σ H,⟨xs.length,by simp,Yx _,h0⟩,?_⟩;rintro i m σ H ⟨rfl,hi,p⟩;have q:=hl i σ H hi p;by_cases bL:i<xs.length
 ·refine .inr ⟨⟨xs,xs[i],q,by simp[bL]⟩,Pv (i+1),λaF H' p'=>⟨xs.length-(i+1),by omega,rfl,bL,p'⟩,λx H' y=>?_⟩;obtain⟨e,y⟩:=y;subst e;exact hs i x σ _ (y xs q) p
 ·have e:i=xs.length:=by omega
  subst e;exact .inl ⟨⟨xs,q,Yd _⟩,hd σ H p⟩
theorem D8{lo:Int}{n:Nat}{g:TG}{tb:TS}{D:Ends}{σ:St}{H:Hp}(Pv:Nat->St->Hp->Prop)(h0:Pv 0 σ H)
  (hs:∀i σ H,i<n->Pv i σ H->g (.int (lo+i)) σ H λdq H2=>tb {D with nx:=Pv (i+1),ct:=Pv (i+1),bk:=D.nx} dq H2)(hd:∀σ H,Pv n σ H->D.nx σ H):
  ∃W:Nat->Nat->St->Hp->Prop,(∃m,W 0 m σ H)/\∀i m σ H,W i m σ H->
   ((oA lo n).stop i H/\D.nx σ H)\/((oA lo n).go i H/\∃N:St->Hp->Prop,(∀aF H',N aF H'->∃m',m'<m/\W (i+1) m' aF H')/\∀x H',(oA lo n).qg i H x H'->g x σ H' λdq H2=>tb {D with nx:=N,ct:=N,bk:=D.nx} dq H2):=by
 refine⟨λi m σ H=>m=n-i/\i<=n/\Pv i σ H,⟨n,by simp,Yx _,h0⟩,?_⟩;rintro i m σ H ⟨rfl,hi,p⟩;by_cases bL:i<n
 ·refine .inr ⟨bL,Pv (i+1),λaF H' p'=>⟨n-(i+1),by omega,rfl,bL,p'⟩,λx H' y=>?_⟩;obtain⟨e,y⟩:=y
  grind
 ·have e:i=n:=by omega
  subst e;exact .inl ⟨Yd _,hd σ H p⟩
theorem Ew{c:TT}{tb:TS}{D:Ends}{σ:St}{H:Hp}(Pv:St->Hp->Prop)(μ:St->Hp->Nat)(h0:Pv σ H)
  (hs:∀σ H,Pv σ H->c σ H λb H1=>if b=true then tb {D with nx:=λaF H'=>Pv aF H'/\μ aF H'<μ σ H,ct:=λaF H'=>Pv aF H'/\μ aF H'<μ σ H,bk:=D.nx} σ H1 else D.nx σ H1)
  (mono:∀σ H Q Q',(∀b H1,Q b H1->Q' b H1)->c σ H Q->c σ H Q'):OD c tb D σ H:=by
 refine⟨λm σ H=>m=μ σ H/\Pv σ H,⟨_,rfl,h0⟩,?_⟩;rintro m σ H ⟨rfl,p⟩;refine mono σ H _ _ (λb H1 q=>?_) (hs σ H p);cases b with
 |true=>exact⟨_,λaF H' ⟨p',l⟩=>⟨_,l,rfl,p'⟩,q⟩
 |false=>exact q
abbrev R2:=V->V->Hp->VK->Prop
def cB(X:Cx)(f:Value->Value->Sem Value)(r:R2):Prop:=
 ∀(pins:List (Addr×Obj)) (s:Shared) (σ:St) (H:Hp) (x y:V) (v u:Value) (Q:VK),Inv X pins σ H s->RelV x v->RelV y u->r x y H Q->
  wpAny (model X.prog X.w) X.A (f v u) (EP X pins σ Q) X.xe s
def cV(X:Cx)(f:Value)(r:List V->Hp->VK->Prop):Prop:=
 ∀(pins:List (Addr×Obj)) (s:Shared) (σ:St) (H:Hp) (xs:List V) (us:List Value) (Q:VK),Inv X pins σ H s->Vals xs us->r xs H Q->
  wpAny (model X.prog X.w) X.A (call f us) (EP X pins σ Q) X.xe s
def Zfj(X:Cx)(r:V->Hp->(Bool->Hp->Prop)->Prop):Prop:=
 ∀(pins:List (Addr×Obj)) (s:Shared) (σ:St) (H:Hp) (x:V) (v:Value) (Q:Bool->Hp->Prop),Inv X pins σ H s->RelV x v->r x H Q->
  wpAny (model X.prog X.w) X.A (truthy v) (TP X pins σ Q) X.xe s
def i8(r:R2)(ta tb:TE):TE:=λσ H Q=>ta σ H λx H1=>tb σ H1 λy H2=>r x y H2 Q
inductive Q4(C:Int->Int->Prop)(g:Int->Int->V)(x:V)(y:V)(H:Hp)(Q:VK):Prop
 |mk (i j) (aC:x=.int i) (aR:y=.int j) (a8:C i j) (bC:Q (g i j) H):Q4 C g x y H Q
def rI(C:Int->Int->Prop)(g:Int->Int->V):R2:=λx y H Q=>Q4 C g x y H Q
inductive Qb(g:Int->Int->V)(x:V)(y:V)(H:Hp)(Q:VK):Prop
 |mk (i j) (aC:x=.int i) (aR:y=.int j) (a8:Q (g i j) H):Qb g x y H Q
def qh(g:Int->Int->V):R2:=λx y H Q=>Qb g x y H Q
section
variable {X:Cx}{a b c:Expr}{ta tb tc:TE}{pos:Pos}
theorem Gf(ha:PE X a ta)(hb:PE X b tb){pins:List (Addr×Obj)}{s:Shared}{σ:St}{H:Hp}{R:V->V->Hp->Prop}(I:Inv X pins σ H s)
  (h:ta σ H λx H1=>tb σ H1 λy H2=>R x y H2){Q:Value->Shared->Prop}{f:Value->Value->Sem Value}
  (hf:∀v u s2 x y H2,Inv X pins σ H2 s2->RelV x v->RelV y u->R x y H2->wpAny (model X.prog X.w) X.A (f v u) Q X.xe s2):
  wpAny (model X.prog X.w) X.A (eval a X.env) (λv bu=>wpAny (model X.prog X.w) X.A (eval b X.env) (λu dY=>wpAny (model X.prog X.w) X.A (f v u) Q X.xe dY) X.xe bu) X.xe s:=by
 refine aw (ha pins s σ H _ I h) λv s1 zq=>?_;obtain⟨x,H1,I1,r1,q1⟩:=zq;refine aw (hb pins s1 σ H1 _ I1 q1) λu s2 zq=>?_;obtain⟨y,H2,I2,r2,q2⟩:=zq
 grind
theorem aZ{op:Operator}{r:R2}(ho:cB X (binaryOp op) r)(ha:PE X a ta)(hb:PE X b tb):PE X (.BinOp a op b pos) (i8 r ta tb):=by
 intro pins s σ H Q I h;exact wpAny_BinOp (Gf ha hb I h λv u s2 x y H2 I2 rx ry q=>ho pins s2 σ H2 x y v u Q I2 rx ry q)
theorem Aw{f:Value->Value->Sem Value}{C:Int->Int->Prop}{g:Int->Int->Int}
  (rule:∀(i j:Int) (t u:Tok) (s:Shared) (Q:Value->Shared->Prop) (E:Value->Shared->Prop),C i j->Q (.int (g i j) s.toks) {s with toks:=s.toks+1}->wpAny (model X.prog X.w) X.A (f (.int i t) (.int j u)) Q E s):
  cB X f (rI C λi j=>.int (g i j)):=by
 rintro pins s σ H x y v u Q I rx ry ⟨i,j,rfl,rfl,hc,q⟩;obtain⟨t,rfl⟩:=rx;obtain⟨t',rfl⟩:=ry;exact rule i j t t' s _ _ hc ⟨.int (g i j),H,I.tok _,⟨_,rfl⟩,q⟩
theorem Q5{f:Value->Value->Sem Value}{g:Int->Int->Int}
  (rule:∀(i j:Int) (t u:Tok) (s:Shared) (Q:Value->Shared->Prop) (E:Value->Shared->Prop),Q (.int (g i j) s.toks) {s with toks:=s.toks+1}->wpAny (model X.prog X.w) X.A (f (.int i t) (.int j u)) Q E s):
  cB X f (qh λi j=>.int (g i j)):=by
 rintro pins s σ H x y v u Q I rx ry ⟨i,j,rfl,rfl,q⟩;obtain⟨t,rfl⟩:=rx;obtain⟨t',rfl⟩:=ry;exact rule i j t t' s _ _ ⟨.int (g i j),H,I.tok _,⟨_,rfl⟩,q⟩
theorem Gg{f:Value->Value->Sem Value}{g:Int->Int->Bool}
  (rule:∀(i j:Int) (t u:Tok) (s:Shared) (Q:Value->Shared->Prop) (E:Value->Shared->Prop),Q (.bool (g i j)) s->wpAny (model X.prog X.w) X.A (f (.int i t) (.int j u)) Q E s):
  cB X f (qh λi j=>.bl (g i j)):=by
 rintro pins s σ H x y v u Q I rx ry ⟨i,j,rfl,rfl,q⟩;obtain⟨t,rfl⟩:=rx;obtain⟨t',rfl⟩:=ry;exact rule i j t t' s _ _ ⟨.bl (g i j),H,I,rfl,q⟩
def Gh(i j:Int):Prop:=0<j/\j<1073741824
def Zfk(i j:Int):Prop:=0<=j/\j<=1000000/\i.natAbs<2^64
def wO(i j:Int):Prop:=(-(2^64)<i/\i<2^64)\/(-(2^64)<j/\j<2^64)
theorem wO.ok{i j:Int}(h:wO i j):IntMulOk i j:=by
 rcases h with⟨h1,h2⟩|⟨h1,h2⟩;·exact .of_left (intBits_le_64 h1 h2)
 ·exact .of_right (intBits_le_64 h1 h2)
theorem ig:cB X (binaryOp .Add) (qh λi j=>.int (i+j)):=Q5 λ_ _ _ _ _ _ _ q=>add_int q
theorem zB:cB X (binaryOp .Sub) (qh λi j=>.int (i-j)):=Q5 λ_ _ _ _ _ _ _ q=>sub_int q
theorem nR:cB X (binaryOp .Mult) (rI wO λi j=>.int (i*j)):=Aw λ_ _ _ _ _ _ _ hc q=>mul_int q hc.ok
theorem zb:cB X (binaryOp .FloorDiv) (rI Gh λi j=>.int (i/j)):=Aw λi j _ _ _ _ _ hc q=>by
 have h1:(0:Int)<j:=hc.1;have h2:j<1073741824:=hc.2;exact floordiv_int (by omega) (by rw[Int.fdiv_eq_ediv_of_nonneg i (by omega)];exact q) (.inl (PyProof.noPylong_small (by omega)))
theorem dU:cB X (binaryOp .Mod) (rI (λ_ j=>0<j) λi j=>.int (i % j)):=Aw λi j _ _ _ _ _ hc q=>by
 have h1:(0:Int)<j:=hc;exact mod_int' (by omega) (by rw[Int.fmod_eq_emod_of_nonneg i (by omega)];exact q)
theorem OF:cB X (binaryOp .Pow) (rI Zfk λi j=>.int (i^j.toNat)):=Aw λ_ _ _ _ _ _ _ hc q=>pow_int_small hc.1 hc.2.1 hc.2.2 q
end
def wQ:V->V->Bool
 |.ay,.ay=>true|.ay,.int _=>true|.int _,.ay=>true|.ay,.bl _=>true|.bl _,.ay=>true|.ay,.str _=>true|.str _,.ay=>true
 |.int _,.int _=>true|.bl _,.bl _=>true|.str _,.str _=>true|.js _,.js _=>true
 |.int _,.str _=>true|.str _,.int _=>true|.bl _,.str _=>true|.str _,.bl _=>true
 |_,_=>false
def R0:R2:=λx y H Q=>wQ x y=true/\Q (.bl (decide (x=y))) H
def R1:R2:=λx y H Q=>wQ x y=true/\Q (.bl (!decide (x=y))) H
theorem M7{i j:Int}:decide (V.int i=V.int j)=(i==j):=by
 grind
theorem OG{i j:Bool}:decide (V.bl i=V.bl j)=(i==j):=by
 grind
theorem M8{i j:Str}:decide (V.str i=V.str j)=(i==j):=by
 grind
theorem M9{i j:Array UInt8}:decide (V.js i=V.js j)=(i.toList==j.toList):=by
 rw[Wj];simp_all
section
variable {X:Cx}{a b c:Expr}{ta tb tc:TE}{pos:Pos}
theorem cF{pins:List (Addr×Obj)}{σ:St}{H:Hp}{s:Shared}{Q:VK}{k k':Bool}(I:Inv X pins σ H s)(q:Q (.bl k) H)(e:k=k'):EP X pins σ Q (.bool k') s:=by
 subst e;exact⟨.bl k,H,I,rfl,q⟩
theorem bZ:cB X (compareOp .Eq) R0:=by
 intro pins s σ H x y v u Q I rx ry h;obtain⟨hs,q⟩:=h;cases x with
 |ay=>
  cases rx;cases y with
  |ay=>cases ry;exact PySem.EqNone.eq_none_none (cF I q (by simp))
  |bl j=>cases ry;exact PySem.EqNone.eq_none_bool (cF I q (by simp))
  |int j=>obtain⟨t',rfl⟩:=ry;exact PySem.EqNone.eq_none_int (cF I q (by simp))
  |str j=>obtain⟨t',rfl⟩:=ry;exact PySem.EqNone.eq_none_str (cF I q (by simp))
  |_=>exact absurd (show false=true from hs) Yh
 |bl i=>
  cases rx;cases y with
  |ay=>cases ry;exact PySem.EqNone.eq_bool_none (cF I q (by simp))
  |bl j=>cases ry;exact eq_bool (cF I q OG)
  |str j=>obtain⟨t',rfl⟩:=ry;exact PySem.EqMixed.eq_bool_str (cF I q (by simp))
  |_=>exact absurd (show false=true from hs) Yh
 |int i=>
  obtain⟨t,rfl⟩:=rx;cases y with
  |ay=>cases ry;exact PySem.EqNone.eq_int_none (cF I q (by simp))
  |int j=>obtain⟨t',rfl⟩:=ry;exact eq_int (cF I q M7)
  |str j=>obtain⟨t',rfl⟩:=ry;exact PySem.EqMixed.eq_int_str (cF I q (by simp))
  |_=>exact absurd (show false=true from hs) Yh
 |str i=>
  obtain⟨t,rfl⟩:=rx;cases y with
  |ay=>cases ry;exact PySem.EqNone.eq_str_none (cF I q (by simp))
  |bl j=>cases ry;exact PySem.EqMixed.eq_str_bool (cF I q (by simp))
  |int j=>obtain⟨t',rfl⟩:=ry;exact PySem.EqMixed.eq_str_int (cF I q (by simp))
  |str j=>obtain⟨t',rfl⟩:=ry;exact eq_str (cF I q M8)
  |_=>exact absurd (show false=true from hs) Yh
 |js i=>
  obtain⟨t,rfl⟩:=rx;cases y with
  |js j=>obtain⟨t',rfl⟩:=ry;exact PySem.W.eq_bytes (cF I q M9)
  |_=>exact absurd (show false=true from hs) Yh
 |_=>cases y<;>exact absurd (show false=true from hs) Yh
theorem lE:cB X (compareOp .NotEq) R1:=by
 intro pins s σ H x y v u Q I rx ry h;obtain⟨hs,q⟩:=h;cases x with
 |ay=>
  cases rx;cases y with
  |ay=>cases ry;exact PySem.EqNone.ne_none_none (cF I q (by simp))
  |bl j=>cases ry;exact PySem.EqNone.ne_none_bool (cF I q (by simp))
  |int j=>obtain⟨t',rfl⟩:=ry;exact PySem.EqNone.ne_none_int (cF I q (by simp))
  |str j=>obtain⟨t',rfl⟩:=ry;exact PySem.EqNone.ne_none_str (cF I q (by simp))
  |_=>exact absurd (show false=true from hs) Yh
 |bl i=>
  cases rx;cases y with
  |ay=>cases ry;exact PySem.EqNone.ne_bool_none (cF I q (by simp))
  |bl j=>cases ry;exact ne_bool (cF I q (congrArg not OG))
  |str j=>obtain⟨t',rfl⟩:=ry;exact PySem.EqMixed.ne_bool_str (cF I q (by simp))
  |_=>exact absurd (show false=true from hs) Yh
 |int i=>
  obtain⟨t,rfl⟩:=rx;cases y with
  |ay=>cases ry;exact PySem.EqNone.ne_int_none (cF I q (by simp))
  |int j=>obtain⟨t',rfl⟩:=ry;exact ne_int (cF I q (congrArg not M7))
  |str j=>obtain⟨t',rfl⟩:=ry;exact PySem.EqMixed.ne_int_str (cF I q (by simp))
  |_=>exact absurd (show false=true from hs) Yh
 |str i=>
  obtain⟨t,rfl⟩:=rx;cases y with
  |ay=>cases ry;exact PySem.EqNone.ne_str_none (cF I q (by simp))
  |bl j=>cases ry;exact PySem.EqMixed.ne_str_bool (cF I q (by simp))
  |int j=>obtain⟨t',rfl⟩:=ry;exact PySem.EqMixed.ne_str_int (cF I q (by simp))
  |str j=>obtain⟨t',rfl⟩:=ry;exact ne_str (cF I q (congrArg not M8))
  |_=>exact absurd (show false=true from hs) Yh
 |js i=>
  obtain⟨t,rfl⟩:=rx;cases y with
  |js j=>obtain⟨t',rfl⟩:=ry;exact PySem.W.ne_bytes (cF I q (congrArg not M9))
  |_=>exact absurd (show false=true from hs) Yh
 |_=>cases y<;>exact absurd (show false=true from hs) Yh
theorem mO:cB X (compareOp .Lt) (qh λi j=>.bl (decide (i<j))):=Gg λ_ _ _ _ _ _ _ q=>lt_int q
theorem FQ:cB X (compareOp .Gt) (qh λi j=>.bl (decide (j<i))):=Gg λ_ _ _ _ _ _ _ q=>gt_int q
theorem Zeq:cB X (compareOp .GtE) (qh λi j=>.bl (decide (j<=i))):=Gg λ_ _ _ _ _ _ _ q=>ge_int q
theorem Zl:cB X (compareOp .In) (λx y H Q=>∃i j,x=.str i/\y=.str j/\Q (.bl (!(Builtin.Str.occurrences j i 0 j.length 1).isEmpty)) H):=by
 intro pins s σ H x y v u Q I rx ry h;obtain⟨i,j,rfl,rfl,q⟩:=h;obtain⟨t,rfl⟩:=rx;obtain⟨t',rfl⟩:=ry;exact in_str (cF I q rfl)
theorem Fg:cB X (compareOp .Is) (λx y H Q=>y=.ay/\Q (.bl (decide (x=.ay))) H):=by
 intro pins s σ H x y v u Q I rx ry h;obtain⟨rfl,q⟩:=h;cases ry;refine is_none_gen (cF I q ?_);cases x<;>first
  |(cases rx;rfl)
  |(obtain⟨t,rfl⟩:=rx;rfl)
theorem zc:cB X (compareOp .IsNot) (λx y H Q=>y=.ay/\Q (.bl (!decide (x=.ay))) H):=by
 rintro pins s σ H x y v u Q I rx ry ⟨rfl,q⟩;cases ry;refine isnot_none_gen (cF I q ?_);cases x<;>first
  |(cases rx;rfl)
  |(obtain⟨t,rfl⟩:=rx;rfl)
theorem VQ:cB X (compareOp .NotIn) (λx y H Q=>∃i j,x=.str i/\y=.str j/\Q (.bl (!(!(Builtin.Str.occurrences j i 0 j.length 1).isEmpty))) H):=by
 rintro pins s σ H x y v u Q I rx ry ⟨i,j,rfl,rfl,q⟩;obtain⟨t,rfl⟩:=rx;obtain⟨t',rfl⟩:=ry;exact notIn_str (cF I q rfl)
theorem OH(b:Expr){op:CmpOp}(h:op≠.In:=by decide)(h2:op≠.NotIn:=by decide):behindInMarks op b=false:=by
 have e1:(op==CmpOp.In)=false:=by cases op<;>first|rfl|exact absurd rfl h
 have e2:(op==CmpOp.NotIn)=false:=by cases op<;>first|rfl|exact absurd rfl h2
 cases b<;>simp[behindInMarks,e1,e2]
theorem zd{op:CmpOp}{r:R2}(ho:cB X (compareOp op) r)(ha:PE X a ta)(hb:PE X b tb)(hm:behindInMarks op b=false):PE X (.Compare a [op] [b] pos) (i8 r ta tb):=by
 intro pins s σ H Q I h;exact wpAny_Compare1 (Gf ha hb I h λv u s2 x y H2 I2 rx ry q=>ho pins s2 σ H2 x y v u Q I2 rx ry q) hm
inductive M_(Q:Bool->Hp->Prop)(x:V)(H':Hp):Prop
 |mk (k) (aC:x=.bl k) (aR:Q k H'):M_ Q x H'
def FR(t:TE):TT:=λσ H Q=>t σ H λx H'=>M_ Q x H'
theorem ib{op:CmpOp}{r:R2}(ho:cB X (compareOp op) r)(ha:PE X a ta)(hb:PE X b tb)(hm:behindInMarks op b=false):PT X (.Compare a [op] [b] pos) (FR (i8 r ta tb)):=by
 intro pins s σ H Q I h;refine wpAny_isTrue_Compare1 (aw (ha pins s σ H _ I h) λv s1 ⟨x,H1,I1,r1,q1⟩=>aw (hb pins s1 σ H1 _ I1 q1) λu s2 ⟨y,H2,I2,r2,q2⟩=>
  aw (ho pins s2 σ H2 x y v u _ I2 r1 r2 q2) λc s3 ⟨z,H3,I3,r3,k,e,q3⟩=>?_) hm
 subst e;cases r3;exact wpAny_truthy_bool ⟨H3,I3,q3⟩
def z5(K:PySem.W.Frag)(x:V)(H:Hp)(k:Bool):Prop:=
 match x with
 |.ay=>k=false
 |.bl b=>k=b
 |.int i=>k=(i !=0)
 |.str y=>y.length<=sizeLine/\k=((y.length:Int)!=0)
 |.js y=>y.size<=sizeLine/\k=((y.size:Int)!=0)
 |.ref p=>(∃xs,ak K H p xs/\k=!xs.isEmpty)\/(∃xs,aB K H p xs/\k=!xs.isEmpty)\/∃kvs,H p=some (.dK kvs)/\k=!kvs.isEmpty
 |_=>False
theorem XI{κ:Type}{kvs:List (κ×V)}{vs:List (κ×Value)}(r:KV kvs vs):(!vs.isEmpty)=!kvs.isEmpty:=by
 cases r<;>rfl
theorem Kl{xs:List V}{ah:List Value}(r:Vals xs ah):(!ah.toArray.isEmpty)=!xs.isEmpty:=by
 cases r<;>simp
theorem q_:(sizeLine:Nat)<2^63:=by rw[sizeLine_eq];decide
theorem ZcZ:Zfj X (λx H Q=>∃k,z5 X.K x H k/\Q k H):=by
 intro pins s σ H x v Q I rx h;obtain⟨k,e,q⟩:=h;have hl:=q_;have hs:sizeLine=16777216:=sizeLine_eq;cases x with
 |ay=>
  cases rx;have e':k=false:=e;subst e';exact truthy_none ⟨H,I,q⟩
 |bl b=>
  cases rx;have e':k=b:=e;subst e';exact wpAny_truthy_bool ⟨H,I,q⟩
 |int i=>
  obtain⟨t,rfl⟩:=rx;have e':k=(i !=0):=e;subst e';exact PySem.P.truthy_int ⟨H,I,q⟩
 |str y=>
  obtain⟨t,rfl⟩:=rx;obtain⟨hy,e'⟩:y.length<=sizeLine/\k=((y.length:Int)!=0):=e;subst e';exact PySem.P.truthy_str (by omega) ⟨H,I.tok _,q⟩
 |js y=>
  obtain⟨t,rfl⟩:=rx;obtain⟨hy,e'⟩:y.size<=sizeLine/\k=((y.size:Int)!=0):=e;subst e';exact PySem.W.truthy_bytes (by omega) ⟨H,I.tok _,q⟩
 |ref p=>
  cases rx;have e':=e;rcases e' with⟨xs,hx,e'⟩|⟨xs,hx,e'⟩|⟨kvs,hx,e'⟩
  ·subst e';obtain⟨ah,r,pl,hz⟩:=I.list hx;have hlen:=r.length;exact wpAny_truthy_list pl.isList (by simp only[Yu];omega) ⟨H,I.tok _,by rw[Kl r];exact q⟩
  ·subst e';obtain⟨ah,r,pl,hz⟩:=I.tuple hx;have hlen:=r.length;exact truthy_tuple pl (by simp only[Yu];omega) ⟨H,I.tok _,by rw[Kl r];exact q⟩
  ·subst e';obtain⟨hz,hS,vs,r,m⟩:kvs.length<=sizeLine/\(p==sysModules)=false/\∃vs,KV kvs vs/\s.heap.DictOf (dz X.prog X.w) p vs:=I.av p _ hx;have hlen:kvs.length=vs.length:=Paired.length r;exact wpAny_truthy_dict hS m (by omega) ⟨H,I.tok _,by rw[XI r];exact q⟩
 |_=>exact(show False from e).elim
theorem Ex(ha:PE X a ta)(he:∀whole,isTrue a X.env whole=(do let v←whole;standAt a.pos;holding [v] (truthy v))):
  PT X a (λσ H Q=>ta σ H λx H'=>∃k,z5 X.K x H' k/\Q k H'):=by
 intro pins s σ H Q I h;exact isTrue_plain (aw (ha pins s σ H _ I h) λv s1 ⟨x,H1,I1,r1,q1⟩=>ZcZ pins s1 σ H1 x v Q I1 r1 q1) (he _)
theorem tO:cB X (binaryOp .Add) (λx y H Q=>∃i j,x=.str i/\y=.str j/\i.length+j.length<=sizeLine/\Q (.str (i++j)) H):=by
 rintro pins s σ H x y v u Q I rx ry ⟨i,j,rfl,rfl,hz,q⟩;obtain⟨t,rfl⟩:=rx;obtain⟨t',rfl⟩:=ry;exact add_str (λt' tk=>⟨.str (i++j),H,I.tok _,⟨_,rfl⟩,q⟩) hz
theorem vals1{x:V}{us:List Value}(r:Vals [x] us):∃u,us=[u]/\RelV x u:=by
 cases r with
 |cons r1 r2=>cases r2;exact⟨_,rfl,r1⟩
theorem vals2{x y:V}{us:List Value}(r:Vals [x,y] us):∃u w',us=[u,w']/\RelV x u/\RelV y w':=by
 cases r with
 |cons r1 r2=>
  cases r2 with
  |cons r3 r4=>cases r4;exact⟨_,_,rfl,r1,r3⟩
theorem LS:cV X (.builtin "abs") (λxs H Q=>∃i,xs=[.int i]/\Q (.int (if i<0 then-i else i)) H):=by
 rintro pins s σ H xs us Q I r ⟨i,rfl,q⟩;obtain⟨u,rfl,t,rfl⟩:=vals1 r;exact call_abs_int λu tk=>⟨.int (if i<0 then-i else i),H,I.tok _,⟨_,rfl⟩,q⟩
theorem CM:cV X (.type "str") (λxs H Q=>∃i,xs=[.int i]/\i.natAbs.log2<1920/\Q (.str (toString i)) H):=by
 rintro pins s σ H xs us Q I r ⟨i,rfl,hz,q⟩;obtain⟨u,rfl,t,rfl⟩:=vals1 r;exact PySem.P.str_of_int hz ⟨.str _,H,I.tok _,⟨_,rfl⟩,q⟩
end
structure rN(h:Heap)(x dx C:Addr)(mA:Str->Option Value):Prop where
 obj:h.get? x=some (instObj C dx)
 ns:h.Ns1 dx mA
 ne:dx≠x
theorem D9{h:Heap}{dx:Addr}{mA:Str->Option Value}(n:h.Ns1 dx mA):∃od,h.get? dx=some od/\∀name,lookIn name od=some (mA name):=by
 obtain⟨o,es,ep,ho,hd,hk,_,hm⟩:=n;refine⟨o,ho,λname=>?_⟩;have e:=hm name;unfold nsFind findBy at e;rw[←Array.find?_toList] at e;unfold lookIn;rw[hd];dsimp only;split;·grind
 ·rename_i q
  have a:es.toList.any (·.refKey)=false:=by
   rw[R3];intro y hy;obtain⟨z,t,mQ⟩:=hk y (Array.mem_toList_iff.mp hy);simp[DictEntry.refKey,mQ]
  grind
theorem rN.look{h:Heap}{x dx C:Addr}{mA:Str->Option Value}(I:rN h x dx C mA):∃od,PySem.W.InstAt h x (instObj C dx) C (some od)/\∀name,lookIn name od=some (mA name):=
 let⟨od,ho,hl⟩:=D9 I.ns
 ⟨od,⟨I.obj,rfl,rfl,ho⟩,hl⟩
section
variable {prog:Program}{w:World}{A:Around}{E:Value->Shared->Prop}{s:Shared}{K:PySem.W.Frag}{x dx C f:Addr}{mA:Str->Option Value}{name:Str}{v:Value}
theorem get_map{expr:Bool}{Q:Value->Shared->Prop}(X:K.In s.heap)(I:rN s.heap x dx C mA)(hg:plainGet K C name=true)(hh:hasDictIn K C=true)
  (ha:PySem.W.findIn K (.ref C) name=some none)(hv:mA name=some v)(hv':handedIn v=true)(h:Q v {s with toks:=s.toks+1}):
  wpAny (model prog w) A (getAttr (.ref x) name expr) Q E s:=by
 obtain⟨od,J,hl⟩:=I.look;exact PySem.W.get_value X J (plainGet_of hg).1 (findObj_own hh ha rfl (by rw[hl,hv])) hv' h
theorem Zac{pl:Sem Bool}{Q:Value×List Value->Shared->Prop}(X:K.In s.heap)(I:rN s.heap x dx C mA)(hg:plainGet K C name=true)
  (hf:PySem.W.findIn K (.ref C) name=some (some (.ref f)))(ht:isFn K (.ref f)=true)(hv:mA name=none)(h:Q (.ref f,[.ref x]) s):
  wpAny (model prog w) A (getMethod (.ref x) name pl) Q E s:=by
 obtain⟨od,J,hl⟩:=I.look;exact PySem.W.method_fn X J (plainGet_of hg).1 (plainGet_of hg).2 hf (beq_iff_eq.mp ht) (by show(lookIn name od).map (·.isSome)=some false;rw[hl,hv];rfl) h
theorem Zbz{ns:List Str}{Q:Unit->Shared->Prop}(X:K.In s.heap)(I:rN s.heap x dx C mA)
  (hs:PySem.W.findIn K (.ref C) "__setattr__"=some (some (.builtin "object.__setattr__")))(hp:plainOver K C=true)(ht:takerIn K C name=some none)(hh:hasDictIn K C=true)
  (hw:PySem.Within mA ns)(hsz:ns.length<=sizeLine)
  (h:∀h',rN h' x dx C (λy=>if y=name then some v else mA y)->Heap.SameBut dx s.heap h'->Q () {s with heap:=h',toks:=s.toks+2}):
  wpAny (model prog w) A (setAttr (.ref x) name v) Q E s:=by
 obtain⟨od,J,hl⟩:=I.look;refine set_plain X J hs (PySem.W.osa_open X J hp ht λb=>?_);obtain⟨cd,hc,Ao⟩:=any_some hh;refine wpAny_bind (wpAny_pure (wpAny_bind (wpAny_bind (wpAny_loadPart I.obj (wpAny_bind (PySem.W.Looks.here (PySem.W.looks_clsIn X hc) ?_))))));rw[Ao];refine wpAny_pure (wpAny_bind (wpAny_pure (wpAny_bind (wpAny_nsSet1 I.ns λh' gv qi=>?_))));obtain⟨oD,R4,R5,xl,xm,xt⟩:=gv.count (PySem.Within.cons name v hw);exact wpAny_bind (wpAny_lookBehind xl (by rw[xm];exact pastItsLine_dict (Y0 xt (by rw[Wd];omega))) (wpAny_pure (h _ ⟨(qi.2 _ (Ne.symm I.ne)).trans I.obj,gv,I.ne⟩ qi)))
theorem Zad{R:Result->Shared->Prop}{vs:List Value}{kw:List (Str×Value)}(X:K.In s.heap)(hm:makesIn K C=true)
  (hi:PySem.W.findIn K (.ref C) "__init__"=some (some (.ref f)))(hf:typeIn K (.ref f)=some (.type "function"))
  (h:codeAny (model prog w) (A.under (.builtin "type.__call__" ⟨.ref C::vs,kw⟩)) (.call (.ref f) ⟨.ref (s.heap.objs.size+1)::vs,kw⟩) (PySem.W.InitBack (s.heap.objs.size+1) R)
   {s with heap:=(s.heap.push emptyDict).push (instObj C s.heap.objs.size)}):
  codeAny (model prog w) A (.call (.ref C) ⟨vs,kw⟩) R s:=by
 obtain⟨hh,g,d,t,os⟩:=s;exact PySem.W.make_core (PySem.W.makes_of X hm) (PySem.W.looks_findIn X hi) (λself=>PySem.W.bind_fn X self hf) (.inl rfl) h
end
def cH(f:Str)(v:V):List (Str×V)->List (Str×V)
 |[]=>[(f,v)]
 |(g,x)::r=>if g=f then(g,v)::r else(g,x)::cH f v r
theorem C4(f g:Str)(v:V):∀fs:List (Str×V),(cH f v fs).lookup g=if g=f then some v else fs.lookup g
 |[]=>by
  show List.lookup g [(f,v)]=_
  grind
 |(k,x)::r=>by
  have ih:=C4 f g v r;rw[show cH f v ((k,x)::r)=(if k=f then(k,v)::r else(k,x)::cH f v r) from rfl]
  grind
theorem vR(f:Str)(v:V):∀fs:List (Str×V),f∈(cH f v fs).map (·.1)/\∀g,g∈fs.map (·.1)->g∈(cH f v fs).map (·.1)
 |[]=>⟨by simp[cH],λg h=>by simp at h⟩
 |(k,x)::r=>by
  obtain⟨i1,i2⟩:=vR f v r;rw[show cH f v ((k,x)::r)=(if k=f then(k,v)::r else(k,x)::cH f v r) from rfl]
  grind
theorem C5(f:Str)(v:V):∀fs:List (Str×V),(cH f v fs).length<=fs.length+1
 |[]=>by simp[cH]
 |(k,x)::r=>by
  have ih:=C5 f v r;rw[show cH f v ((k,x)::r)=(if k=f then(k,v)::r else(k,x)::cH f v r) from rfl]
  grind
theorem dW.some_of{v:V}{o:Option Value}(r:dW (some v) o):∃u,o=some u/\RelV v u:=by
 cases o with
 |none=>exact(show False from r).elim
 |some u=>exact⟨u,rfl,r⟩
theorem dW.none_of{o:Option Value}(r:dW none o):o=none:=by
 cases o with
 |none=>rfl
 |some u=>exact(show False from r).elim
theorem K2{v:V}{u:Value}(r:RelV v u):handedIn u=true:=by
 cases v with
 |ay=>cases(show u=Value.none from r);rfl
 |bl b=>cases(show u=Value.bool b from r);rfl
 |int i=>obtain⟨t,e⟩:=(show ∃t,u=Value.int i t from r);cases e;rfl
 |str x=>obtain⟨t,e⟩:=(show ∃t,u=Value.str x t from r);cases e;rfl
 |js b=>obtain⟨t,e⟩:=(show ∃t,u=Value.bytes b t from r);cases e;rfl
 |rW b=>obtain⟨t,e⟩:=(show ∃t,u=Value.float b t from r);cases e;rfl
 |ref a=>cases(show u=Value.ref a from r);rfl
 |ty n=>cases(show u=Value.type n from r);rfl
section
variable {P:Program}{w:World}{H H':Hp}{h h':Heap}{a C dx:Addr}{fs fs':List (Str×V)}
theorem ze(av:cY P w H h)(e:H a=some (.ins C dx fs)):∃mA,rN h a dx C mA/\(∀f,dW (fs.lookup f) (mA f))/\PySem.Within mA (fs.map (·.1))/\fs.length<=1000/\H dx=some (.own a):=by
 obtain⟨d,z,ne,ob,mA,n,r,q⟩:=(show cG P w H h a (.ins C dx fs) from av a _ e);exact⟨mA,⟨ob,n,ne⟩,r,q,z,d⟩
end
structure fF(K:PySem.W.Frag)(C:Addr):Prop where
 pg:plainGet K C Str.empty=true
 hd:hasDictIn K C=true
 po:plainOver K C=true
 sa:PySem.W.findIn K (.ref C) "__setattr__"=some (some (.builtin "object.__setattr__"))
theorem fF.get{K:PySem.W.Frag}{C:Addr}(c:fF K C)(f:Str):plainGet K C f=true:=c.pg
def cZ(K:PySem.W.Frag)(C:Addr)(f:Str):Prop:=PySem.W.findIn K (.ref C) f=some none
theorem cZ.Zer{K:PySem.W.Frag}{C:Addr}{f:Str}(n:cZ K C f):takerIn K C f=some none:=by
 unfold takerIn;rw[show PySem.W.findIn K (.ref C) f=some none from n];rfl
structure Meth(K:PySem.W.Frag)(C:Addr)(m:Str)(f:Addr):Prop where
 at_:PySem.W.findIn K (.ref C) m=some (some (.ref f))
 fn:isFn K (.ref f)=true
 kp:keepIn K (.ref f)=true
section
variable {X:Cx}{pins:List (Addr×Obj)}{σ:St}{H:Hp}{s:Shared}{a C dx:Addr}{fs:List (Str×V)}{f:Str}{v:V}{A:Around}{E:Value->Shared->Prop}
theorem XJ{b:Bool}{Q:Value->Shared->Prop}(I:Inv X pins σ H s)(e:H a=some (.ins C dx fs))(c:fF X.K C)(n:cZ X.K C f)(l:fs.lookup f=some v)
  (h:∀u s',Inv X pins σ H s'->RelV v u->Q u s'):wpAny (model X.prog X.w) A (getAttr (.ref a) f b) Q E s:=by
 obtain⟨mA,O,r,_,_,_⟩:=ze I.av e;obtain⟨u,hu,ru⟩:=dW.some_of (by rw[←l];exact r f);exact get_map I.bV O (c.get f) c.hd n hu (K2 ru) (h u _ (I.tok _) ru)
theorem DD{m:Str}{g:Addr}{pl:Sem Bool}{Q:Value×List Value->Shared->Prop}(I:Inv X pins σ H s)(e:H a=some (.ins C dx fs))(c:fF X.K C)(k:Meth X.K C m g)(l:fs.lookup m=none)
  (h:Q (.ref g,[.ref a]) s):wpAny (model X.prog X.w) A (getMethod (.ref a) m pl) Q E s:=by
 obtain⟨mA,O,r,_,_,_⟩:=ze I.av e;exact Zac I.bV O (c.get m) k.at_ k.fn (dW.none_of (by rw[←l];exact r m)) h
theorem Km{y:V}{u:Value}{Q:Unit->Shared->Prop}(I:Inv X pins σ H s)(e:H a=some (.ins C dx fs))(c:fF X.K C)(n:cZ X.K C f)(hl:fs.length<1000)(ry:RelV y u)
  (h:∀s',Inv X pins σ (upd H a (.ins C dx (cH f y fs))) s'->Q () s'):wpAny (model X.prog X.w) A (setAttr (.ref a) f u) Q E s:=by
 obtain⟨mA,O,r,wi,_,ho⟩:=ze I.av e;have hz:(fs.map (·.1)).length<=sizeLine:=by rw[Ya,sizeLine_eq];omega
 refine Zbz I.bV O c.sa c.po n.Zer c.hd wi hz λh' O' sb=>h _ (I.write (by rw[e];exact True.intro) (.inr ho) (λb q hb z=>(sb.2 b hb).trans z) (let⟨o,_,_,e',_⟩:=O'.ns;⟨o,e'⟩) ⟨by rw[aJ O.ne];exact ho,?_,O.ne,O'.obj,_,O'.ns,λg=>?_,λg hg=>?_⟩);·have:=C5 f y fs;omega
 ·show dW ((cH f y fs).lookup g) (if g=f then some u else mA g);rw[C4];by_cases q:g=f;·rw[if_pos q,if_pos q];exact ry
  ·grind
 ·by_cases q:g=f;·rw[q];exact(vR f y fs).1
  ·refine(vR f y fs).2 g (wi g λz=>hg ?_)
   grind
theorem Inv.made(I:Inv X pins σ H s):Inv X pins σ (upd (upd H s.heap.objs.size (.own (s.heap.objs.size+1))) (s.heap.objs.size+1) (.ins C s.heap.objs.size []))
  {s with heap:=(s.heap.push emptyDict).push (instObj C s.heap.objs.size)}:=by
 have e1:(s.heap.push emptyDict).get? s.heap.objs.size=some emptyDict:=Yt s.heap rfl;have e2:((s.heap.push emptyDict).push (instObj C s.heap.objs.size)).get? (s.heap.objs.size+1)=some (instObj C s.heap.objs.size):=by
  have:=Yt (s.heap.push emptyDict) (o:=instObj C s.heap.objs.size) rfl
  rwa [Jr] at this
 have e3:(s.heap.push emptyDict).Ns s.heap.objs.size (λ_=>none):=⟨emptyDict,#[],_,e1,rfl,(λe he=>absurd he (by simp)),λ_=>rfl⟩;have I1:=I.laid (a:=s.heap.objs.size) (o:=.own (s.heap.objs.size+1)) (h':=s.heap.push emptyDict) (t':=s.toks) (λb u q=>Yb _ q) (Yd _) ⟨_,e1⟩;refine I1.laid (a:=s.heap.objs.size+1) (o:=.ins C s.heap.objs.size []) (t':=s.toks) (λb u q=>Yb _ q) (GO (Jr _ _)) ?_;have ne:s.heap.objs.size≠s.heap.objs.size+1:=Yy (Jg _);refine⟨by rw[aJ ne,aO],Yx _,ne,e2,λ_=>none,(Heap.Ns1.of_empty e3).at λo q=>Yb _ q,λ_=>True.intro,λy hy=>absurd rfl hy⟩
theorem Na{prog:Program}{w:World}{env:Env}{e:Expr}{f:Str}{pos:Pos}{s:Shared}{Q:Value->Shared->Prop}(hb:attributeBase e f env (eval e env)=eval e env)
  (h:wpAny (model prog w) A (eval e env) (λo bu=>wpAny (model prog w) A (getAttr o f true) Q E bu) E s):wpAny (model prog w) A (eval (.Attribute e f pos) env) Q E s:=
 Attribute_any_ h (by rw[arm_eval_Attribute,hb])
end
inductive OI(K:PySem.W.Frag)(f:Str)(Q:VK)(x:V)(H1:Hp):Prop
 |mk (a C dx fs v) (aC:x=.ref a) (aR:H1 a=some (.ins C dx fs)) (a8:fF K C) (bC:cZ K C f) (cD:fs.lookup f=some v) (dC:Q v H1):OI K f Q x H1
def Gi(K:PySem.W.Frag)(ta:TE)(f:Str):TE:=λσ H Q=>ta σ H λx H1=>OI K f Q x H1
def Zfl(K:PySem.W.Frag)(ta tv:TE)(f:Str):TS:=λD σ H=>tv σ H λy H1=>ta σ H1 λx H2=>∃a C dx fs,x=.ref a/\H2 a=some (.ins C dx fs)/\fF K C/\cZ K C f/\fs.length<1000/\
 D.nx σ (upd H2 a (.ins C dx (cH f y fs)))
section
variable {X:Cx}{o e value:Expr}{f:Str}{pos pos' z6:Pos}{ta tv:TE}
theorem Zc0(he:PE X e ta)(hb:attributeBase e f X.env (eval e X.env)=eval e X.env):PE X (.Attribute e f pos) (Gi X.K ta f):=by
 intro pins s σ H Q I h;refine Na hb (aw (he pins s σ H _ I h) λu s1 zq=>?_);obtain⟨x,H1,I1,rx,a,C,dx,fs,v,ex,ea,c,n,l,q⟩:=zq;subst ex;obtain rfl:u=Value.ref a:=rx;exact XJ I1 ea c n l λu' s2 I2 ru=>⟨v,H1,I2,ru,q⟩
theorem wc(ha:PE X o ta)(hv:PE X value tv)(hs:swapsWith value (some (.Attribute o f pos')) pos.line X.env=pure false):PS X (.Assign [.Attribute o f pos'] value pos) (Zfl X.K ta tv f):=by
 intro pins s σ H D I h;refine plainObj_wpAny_Assign_Attribute (aw (hv pins s σ H _ I h) λu s1 zq=>?_) hs;obtain⟨y,H1,I1,ry,q⟩:=zq;refine aw (ha pins s1 σ H1 _ I1 q) λov s2 zq=>?_;obtain⟨x,H2,I2,rx,a,C,dx,fs,ex,ea,c,n,l,q2⟩:=zq;subst ex;obtain rfl:ov=Value.ref a:=rx;exact Km I2 ea c n l ry λs3 I3=>⟨σ,_,I3,q2⟩
end
section
variable {X:Cx}{pins:List (Addr×Obj)}{σ:St}{H:Hp}{s:Shared}{A:Around}{E:Value->Shared->Prop}{Q:Value->Shared->Prop}{c:Value}{b:Bool}
inductive iY(K:PySem.W.Frag)(H:Hp):V->Value->Prop where
 |ay:iY K H .ay (.type "NoneType")
 |bl (x:Bool):iY K H (.bl x) (.type "bool")
 |int (i:Int):iY K H (.int i) (.type "int")
 |str (x:Str):iY K H (.str x) (.type "str")
 |rW (x:UInt64):iY K H (.rW x) (.type "float")
 |lst {a:Addr} {xs:List V} (e:H a=some (.lst xs)):iY K H (.ref a) (.type "list")
 |cv {a:Addr} {o:Obj} {xs:List V} (e:H a=some (.cv o (.lst xs))):iY K H (.ref a) (.type "list")
 |tup {a:Addr} {xs:List V} (e:H a=some (.tup xs)):iY K H (.ref a) (.type "tuple")
 |dK {a:Addr} {kvs:List (Key×V)} (e:H a=some (.dK kvs)):iY K H (.ref a) (.type "dict")
 |dT {a:Addr} {kvs:List (List Key×V)} (e:H a=some (.dT kvs)):iY K H (.ref a) (.type "dict")
 |ins {a C dx:Addr} {fs:List (Str×V)} (e:H a=some (.ins C dx fs)) (cl:fF K C) (ha:PySem.W.findIn K (.ref C) "__class__"=some (some (.builtin "object.__class__")))
   (hn:specialIn K (.builtin "object.__class__") "__get__"=some (some (.builtin "getset_descriptor.__get__"))) (R6:takesIn K (.builtin "object.__class__")=some true)
   (hm:PySem.W.mroIn K C (.type "object")=some true):iY K H (.ref a) (.ref C)
theorem Zm{x:V}{u t:Value}(I:Inv X pins σ H s)(rx:RelV x u)(ty:iY X.K H x t)(e:kitOne X.K t c=some b)(h:∀tk,Q (.bool b) {s with toks:=tk}):
  wpAny (model X.prog X.w) A (call (.builtin "isinstance") [u,c]) Q E s:=by
 cases ty with
 |ay=>cases(show u=Value.none from rx);exact kia_one PySem.W.kitx_none I.bV True.intro e (λz=>nomatch z) h
 |bl y=>cases(show u=Value.bool y from rx);exact kia_one PySem.W.kitx_bool I.bV True.intro e (λz=>nomatch z) h
 |int i=>obtain⟨t,q⟩:=(show ∃t,u=Value.int i t from rx);cases q;exact kia_one PySem.W.kitx_int I.bV True.intro e (λz=>nomatch z) h
 |str y=>obtain⟨t,q⟩:=(show ∃t,u=Value.str y t from rx);cases q;exact kia_one PySem.W.kitx_str I.bV True.intro e (λz=>nomatch z) h
 |rW y=>obtain⟨t,q⟩:=(show ∃t,u=Value.float y t from rx);cases q;exact kia_one PySem.W.kitx_float I.bV True.intro e (λz=>nomatch z) h
 |@lst a xs ea=>
  cases(show u=Value.ref a from rx);obtain⟨_,_,n,_,h1⟩:=(show cG X.prog X.w H s.heap a (.lst xs) from I.av a _ ea);exact kia_one kitx_list I.bV ⟨_,h1,rfl⟩ e (λz=>nomatch z) h
 |@cv a ob xs ea=>
  cases(show u=Value.ref a from rx);obtain⟨_,_,_,n,_,h1⟩:=(show cG X.prog X.w H s.heap a (.cv ob (.lst xs)) from I.av a _ ea);exact kia_one kitx_list I.bV ⟨_,h1,rfl⟩ e (λz=>nomatch z) h
 |@tup a xs ea=>
  cases(show u=Value.ref a from rx);obtain⟨_,_,_,p⟩:=(show cG X.prog X.w H s.heap a (.tup xs) from I.av a _ ea);obtain⟨o,h1,h2,_⟩:=p;exact kia_one PySem.W.kitx_tuple I.bV ⟨o,h1,h2⟩ e (λz=>nomatch z) h
 |@dK a kvs ea=>
  cases(show u=Value.ref a from rx);obtain⟨_,_,vs,_,p⟩:=(show cG X.prog X.w H s.heap a (.dK kvs) from I.av a _ ea);obtain⟨o,es,ep,h1,h2,_⟩:=p;exact kia_one kitx_dict I.bV ⟨o,h1,h2.1⟩ e (λz=>nomatch z) h
 |@dT a kvs ea=>
  cases(show u=Value.ref a from rx);obtain⟨_,_,xs,_,o,es,ep,h1,h2,_⟩:=(show cG X.prog X.w H s.heap a (.dT kvs) from I.av a _ ea);exact kia_one kitx_dict I.bV ⟨o,h1,h2.1⟩ e (λz=>nomatch z) h
 |@ins a C dx fs ea cl ha hn R6 hm=>
  cases(show u=Value.ref a from rx);obtain⟨mA,O,_⟩:=ze I.av ea;obtain⟨od,J,_⟩:=O.look;exact kia_one (PySem.W.kitx_own (cl.get _) cl.hd ha hn R6 hm) I.bV J e (λz=>nomatch z) h
end
structure cA(k:Nat)(A:Around):Prop where
 hd:A.handled=none
 dp:A.depth+3*k+5<recursionLimit
 un:A.units+16*k+200<cLine
 gd:A.guards=some []
theorem cA.mono{j k:Nat}{A:Around}(r:cA k A)(h:j<=k):cA j A:=⟨r.hd,by have:=r.dp;omega,by have:=r.un;omega,r.gd⟩
theorem cA.deeper{k:Nat}{A:Around}(r:cA (k+1) A)(env:Env):cA k (A.deeper env):=
 ⟨r.hd,by have:=r.dp;show A.depth+1+3*k+5<_;omega,by have:=r.un;show A.units+3+16*k+200<_;omega,r.gd⟩
theorem XM{A:Around}{C:Addr}{us:List Value}{kw:List (Str×Value)}:(A.under (.builtin "type.__call__" ⟨.ref C::us,kw⟩)).depth=A.depth+1:=by
 rfl
theorem XN{A:Around}{C:Addr}{us:List Value}{kw:List (Str×Value)}:(A.under (.builtin "type.__call__" ⟨.ref C::us,kw⟩)).units=A.units+1:=by
 rfl
theorem cA.make{k:Nat}{A:Around}(r:cA (k+1) A)(C:Addr)(us:List Value)(kw:List (Str×Value)):cA k (A.under (.builtin "type.__call__" ⟨.ref C::us,kw⟩)):=
 ⟨r.hd,by have:=r.dp;rw[XM];omega,by have:=r.un;rw[XN];omega,by first|exact r.gd|simpa[Around.under,Code.isGuard,Code.isFrame,guardIds] using r.gd⟩
theorem cA.depth{k:Nat}{A:Around}(r:cA k A):A.depth<recursionLimit:=by have:=r.dp;omega
theorem cA.units{k:Nat}{A:Around}(r:cA k A):A.units+64<cLine:=by have:=r.un;omega
theorem cA.uh{k:Nat}{A:Around}(r:cA k A):A.units<cLine:=by have:=r.un;omega
def iZ:TA:=λ_ H Q=>Q [] H
def gf(ta:TE)(tr:TA):TA:=λσ H Q=>ta σ H λx H1=>tr σ H1 λxs H2=>Q (x::xs) H2
section
variable {X:Cx}{e:Expr}{es:List Expr}{te:TE}{t:TA}{pos:Pos}
theorem ag:PA X [] iZ:=λ_ _ _ _ H Q I h=>Calls.spliced_nil ⟨[],H,I,.nil,h⟩
theorem aa(ha:PE X e te)(hr:PA X es t)(hs:starEach (e::es) X.env=(false,eval e X.env)::starEach es X.env:=by rfl):PA X (e::es) (gf te t):=by
 intro pos pins s σ H Q I h;rw[hs];exact Calls.spliced_cons (aw (ha pins s σ H _ I h) λu s1 ⟨x,H1,I1,r1,q1⟩=>aw (hr pos pins s1 σ H1 _ I1 q1) λus s2 ⟨xs,H2,I2,r2,q2⟩=>⟨x::xs,H2,I2,.cons r1 r2,q2⟩)
def Zfm(t:TA):TE:=λσ H Q=>t σ H λxs H1=>xs.length<=sizeLine/\∀p,H1 p=none->Q (.ref p) (upd H1 p (.lst xs))
theorem we(h:PA X es t):PE X (.List es pos) (Zfm t):=by
 intro pins s σ H Q I hq;refine wpAny_List_spliced (aw (h pos pins s σ H _ I hq) λus s1 ⟨xs,H1,I1,r,z,q⟩=>⟨by rw[←r.length];exact z,⟨.ref s1.heap.objs.size,upd H1 s1.heap.objs.size (.lst xs),I1.laid (λb u e=>Yb _ e) (Yd _) ?_,rfl,q _ (I1.av.fresh (Yd _))⟩⟩);exact⟨z,us,0,r,Yt _ rfl⟩
end
abbrev Sp:=List V->Hp->VK->XK->Prop
abbrev jR:=List Env->Hp->Shared->XK->Value->Shared->Prop
structure rO(P:Program)(w:World)(K:PySem.W.Frag)(mg:Str->Option Value)(base:Heap)(A:Around)(outer:List Env)(s:Shared)(H:Hp):Prop where
 frames:A.frames=some outer
 mod:Mod K mg base
 bs:∀b o,base.get? b=some o->s.heap.get? b=some o/\H b=none
 lQ:base.objs.size<=s.heap.objs.size
 jq:s.heap.FunFrames base outer
 ou:∀b∈cK outer,H b=none
 av:cY P w H s.heap
 bare:AllBare s.gens
def CE(outer:List Env)(P:Program)(w:World)(H:Hp)(s:Shared)(Q:VK)(u:Value)(s':Shared):Prop:=
 ∃v H',s'.os=s.os/\AllBare s'.gens/\Un (cK outer) [] H H' s.heap s'.heap/\cY P w H' s'.heap/\RelV v u/\Q v H'
def CR(CX:jR)(outer:List Env)(P:Program)(w:World)(H:Hp)(s:Shared)(Q:VK)(E:XK)(r:Result)(s':Shared):Prop:=
 match r with
 |.ok (.ret u)=>CE outer P w H s Q u s'
 |.ok _=>False
 |.error e=>CX outer H s E e s'
structure aE(P:Program)(w:World)(K:PySem.W.Frag)(mg:Str->Option Value)(base:Heap)(CX:jR)(k:Nat)(f:Addr)(fd:FuncData)(ps:List Str)(sp:Sp):Prop where
 len:∀vs H Q E,sp vs H Q E->vs.length=ps.length
 run:∀(A:Around) (outer:List Env) (s:Shared) (H:Hp) (args:Args) (us:List Value) (vs:List V) (Q:VK) (E:XK),cA k A->rO P w K mg base A outer s H->BindsTo s fd args (ps.zip us)->Vals vs us->sp vs H Q E->
  codeAny (model P w) A (.call (.ref f) args) (CR CX outer P w H s Q E) s
theorem rO.make{P:Program}{w:World}{K:PySem.W.Frag}{mg:Str->Option Value}{base:Heap}{A:Around}{outer:List Env}{s:Shared}{H:Hp}(e:rO P w K mg base A outer s H)(C:Addr)(us:List Value)(kw:List (Str×Value)):
  rO P w K mg base (A.under (.builtin "type.__call__" ⟨.ref C::us,kw⟩)) outer s H:=⟨by first|exact e.frames|(simpa[Around.under,Code.envs,Code.isFrame,pushEnvs] using e.frames),e.mod,e.bs,e.lQ,e.jq,e.ou,e.av,e.bare⟩
section
variable {X:Cx}{pins:List (Addr×Obj)}{σ:St}{H:Hp}{s s':Shared}
theorem Inv.z7(I:Inv X pins σ H s):rO X.prog X.w X.K X.mg X.base X.A X.stack s H:=
 ⟨I.ok.frames,I.ok.mod,I.bs,Y0 I.ok.lQ I.sz,I.stack,I.za,I.av,I.bare⟩
theorem Inv.after{Q:VK}{u:Value}(I:Inv X pins σ H s)(h:CE X.stack X.prog X.w H s Q u s'):EP X pins σ Q u s':=by
 obtain⟨v,H',os,bare,un,av,r,q⟩:=h;obtain⟨hh,g,d,t,Ax⟩:=s';obtain rfl:Ax=s.os:=os;exact⟨v,H',I.call (h':=hh) (g':=g) (d':=d) (t':=t) (ch:=[]) un av bare (λb z=>absurd z (by simp)),r,q⟩
end
def zP(sp:Sp)(cT:List V)(E:XK)(t:TA):TE:=λσ H Q=>t σ H λvs H1=>sp (vs++cT) H1 Q E
def zQ(C:Addr)(m:Str)(sp:Sp)(cT:List V)(E:XK)(ta:TE)(t:TA):TE:=λσ H Q=>ta σ H λx H1=>∃a dx fs,x=.ref a/\H1 a=some (.ins C dx fs)/\fs.lookup m=none/\
 t σ H1 λvs H2=>sp (x::(vs++cT)) H2 Q E
def Qc(C:Addr)(sp:Sp)(cT:List V)(E:XK)(t:TA):TE:=λσ H Q=>t σ H λvs H1=>∀x dx,H1 x=none->H1 dx=none->dx≠x->
 sp (.ref x::(vs++cT)) (upd (upd H1 dx (.own x)) x (.ins C dx [])) (λv H2=>v=.ay/\Q (.ref x) H2) E
def Binds(K:PySem.W.Frag)(fd:FuncData)(ps:List Str)(ds:List Value):Prop:=
 ∀(s:Shared) (us:List Value),K.In s.heap->(us++ds).length=ps.length->BindsTo s fd ⟨us,[]⟩ (ps.zip (us++ds))
theorem Binds.all{K:PySem.W.Frag}{fd:FuncData}{ps:List Str}(h:∀us:List Value,us.length=ps.length->bindArgs fd ⟨us,[]⟩=pure (ps.zip us)):Binds K fd ps []:=λs us _ hl=>by
 rw[Wb] at hl⊢;exact .of_eq (h us hl)
def Passes(CX:jR)(X:Cx)(E:XK):Prop:=∀(pins:List (Addr×Obj)) (σ:St) (H:Hp) (s:Shared) (e:Value) (s':Shared),Inv X pins σ H s->CX X.stack H s E e s'->X.xe e s'
section
variable {X:Cx}{CX:jR}{k:Nat}{f C:Addr}{fd:FuncData}{ps:List Str}{sp:Sp}{cT:List V}{ds:List Value}{E:XK}{x m:Str}{p pos apos:Pos}{e o:Expr}{es:List Expr}{ta:TE}{t:TA}
theorem zC{pins:List (Addr×Obj)}{σ:St}{H:Hp}{s:Shared}{Q:VK}{us:List Value}{vs:List V}(F:aE X.prog X.w X.K X.mg X.base CX k f fd ps sp)(hr:cA k X.A)(hb:Binds X.K fd ps ds)(hd:Vals cT ds)(hx:Passes CX X E)
  (I:Inv X pins σ H s)(r:Vals vs us)(h:sp (vs++cT) H Q E):wpAny (model X.prog X.w) X.A (call (.ref f) us) (EP X pins σ Q) X.xe s:=by
 have r2:Vals (vs++cT) (us++ds):=r.append hd;have hl:(us++ds).length=ps.length:=by rw[←r2.length];exact F.len _ _ _ _ h
 refine wpAny_call (codeAny_mono (F.run X.A X.stack s H ⟨us,[]⟩ (us++ds) (vs++cT) Q E hr I.z7 (hb s us I.bV hl) r2 h) λr s' hq=>?_);cases r with
 |error e=>exact hx pins σ H s e s' I hq
 |ok fl=>
  cases fl with
  |ret u=>exact I.after hq
  |next=>exact False.elim hq
  |brk=>exact False.elim hq
  |cont=>exact False.elim hq
theorem ZbA(F:aE X.prog X.w X.K X.mg X.base CX k f fd ps sp)(hr:cA k X.A)(hg:Gl X x)(hm:X.mg x=some (.ref f))(hk:keepIn X.K (.ref f)=true)(hb:Binds X.K fd ps ds)(hd:Vals cT ds)(hx:Passes CX X E)
  (ha:PA X (e::es) t)(eC:(x==("__debug__":Str))=false:=by decide)(he:starEach (e::es) X.env=(false,eval e X.env)::starEach es X.env:=by rfl)(bN:(backTo pos (starEach es X.env)).any (·.1)=false:=by rfl):
  PE X (.Call (.Name x p) (e::es) [] pos) (zP sp cT E t):=by
 intro pins s σ H Q I h;exact wpAny_Call_Name_kw (qU I hg hm (callWith_K I.ok.mod.lP hk (aw (ha pos pins s σ H _ I h) λus s1 ⟨vs,H1,I1,r,q⟩=>⟨I1.bV,zC F hr hb hd hx I1 r q⟩) he bN) eC)
theorem ZbB{pl:Sem Bool}(he:PE X o ta)(c:fF X.K C)(hm:Meth X.K C m f)(F:aE X.prog X.w X.K X.mg X.base CX k f fd ps sp)(hr:cA k X.A)(hb:Binds X.K fd ps ds)(hd:Vals cT ds)(hx:Passes CX X E)(ha:PA X (e::es) t)
  (c7:starEach (e::es) X.env=(false,eval e X.env)::starEach es X.env:=by rfl)(bN:(backTo pos (starEach es X.env)).any (·.1)=false:=by rfl)
  (ht:eval (.Call (.Attribute o m apos) (e::es) [] pos) X.env=(do
   let ov←eval o X.env
   standAt apos.atName
   let(f,first)←holding [ov] (getMethod ov m pl)
   callWith pos f first (backTo pos (starEach (e::es) X.env)) (backToKw pos (keywordEach [] X.env))):=by rfl):
  PE X (.Call (.Attribute o m apos) (e::es) [] pos) (zQ C m sp cT E ta t):=by
 intro pins s σ H Q I h;refine methodCall_KW (pl:=pl) (aw (he pins s σ H _ I h) λu s1 zq=>?_) ht;obtain⟨x,H1,I1,rx,a,dx,fs,ex,ea,l,q⟩:=zq;subst ex;obtain rfl:u=Value.ref a:=rx;refine DD I1 ea c hm l ?_;refine callWith_K (first:=[.ref a]) (h₀:=X.base) I.ok.mod.lP hm.kp (aw (ha pos pins s1 σ H1 _ I1 q) λus s2 ⟨vs,H2,I2,r,q2⟩=>⟨I2.bV,?_⟩) c7 bN;exact zC (us:=.ref a::us) (vs:=.ref a::vs) F hr hb hd hx I2 (.cons rfl r) q2
theorem Zae{pl:Sem Bool}(he:PE X o ta)(c:fF X.K C)(hm:Meth X.K C m f)(F:aE X.prog X.w X.K X.mg X.base CX k f fd ps sp)(hr:cA k X.A)(hb:Binds X.K fd ps ds)(hd:Vals cT ds)(hx:Passes CX X E)
  (ht:eval (.Call (.Attribute o m apos) [] [] pos) X.env=(do
   let ov←eval o X.env
   standAt apos.atName
   let(f,first)←holding [ov] (getMethod ov m pl)
   callWith pos f first (backTo pos (starEach [] X.env)) (backToKw pos (keywordEach [] X.env))):=by rfl):
  PE X (.Call (.Attribute o m apos) [] [] pos) (zQ C m sp cT E ta iZ):=by
 intro pins s σ H Q I h;refine methodCall_KW (pl:=pl) (aw (he pins s σ H _ I h) λu s1 zq=>?_) ht;obtain⟨x,H1,I1,rx,a,dx,fs,ex,ea,l,q⟩:=zq;subst ex;obtain rfl:u=Value.ref a:=rx;refine DD I1 ea c hm l ?_;exact PySem.W.callWith_K0 (first:=[.ref a]) I1.bV hm.kp (zC (us:=[.ref a]) (vs:=[.ref a]) F hr hb hd hx I1 (.cons rfl .nil) q)
structure Mk(K:PySem.W.Frag)(C f:Addr):Prop where
 makes:makesIn K C=true
 init:PySem.W.findIn K (.ref C) "__init__"=some (some (.ref f))
 fn:isFn K (.ref f)=true
 kp:keepIn K (.ref C)=true
theorem Zaf{pins:List (Addr×Obj)}{σ:St}{H:Hp}{s:Shared}{Q:VK}{us:List Value}{vs:List V}(M:Mk X.K C f)(F:aE X.prog X.w X.K X.mg X.base CX k f fd ps sp)(hr:cA (k+1) X.A)(hb:Binds X.K fd ps ds)(hd:Vals cT ds)
  (hx:Passes CX X E)(I:Inv X pins σ H s)(r:Vals vs us)
  (h:∀x dx,H x=none->H dx=none->dx≠x->sp (.ref x::(vs++cT)) (upd (upd H dx (.own x)) x (.ins C dx [])) (λv H2=>v=.ay/\Q (.ref x) H2) E):
  wpAny (model X.prog X.w) X.A (call (.ref C) us) (EP X pins σ Q) X.xe s:=by
 have hq:=h (s.heap.objs.size+1) s.heap.objs.size (I.av.fresh (Jz _)) (I.av.fresh (Yd _)) (Yy (Jg _));have I2:=Inv.made (C:=C) I;have r2:Vals (V.ref (s.heap.objs.size+1)::(vs++cT)) (Value.ref (s.heap.objs.size+1)::(us++ds)):=.cons rfl (r.append hd);have hl:(Value.ref (s.heap.objs.size+1)::us++ds).length=ps.length:=by
  have e:=r2.length;rw[F.len _ _ _ _ hq] at e;exact e.symm
 refine wpAny_call (Zad I.bV M.makes M.init (beq_iff_eq.mp M.fn) (codeAny_mono (F.run _ X.stack _ _ ⟨Value.ref (s.heap.objs.size+1)::us,[]⟩ (Value.ref (s.heap.objs.size+1)::(us++ds)) _ _ E (hr.make C us [])
  (I2.z7.make C us []) (hb _ (Value.ref (s.heap.objs.size+1)::us) I2.bV hl) r2 hq) λr s' lS=>?_))
 cases r with
 |error e=>exact hx pins σ _ _ e s' I2 lS
 |ok fl=>
  cases fl with
  |ret u=>
   obtain⟨v,H',I3,rv,ev,q3⟩:=I2.after lS;subst ev;exact⟨rv,⟨V.ref (s.heap.objs.size+1),H',I3,rfl,q3⟩⟩
  |next=>exact False.elim lS
  |brk=>exact False.elim lS
  |cont=>exact False.elim lS
theorem ZbC(M:Mk X.K C f)(F:aE X.prog X.w X.K X.mg X.base CX k f fd ps sp)(hr:cA (k+1) X.A)(hg:Gl X x)(hm:X.mg x=some (.ref C))(hb:Binds X.K fd ps ds)(hd:Vals cT ds)(hx:Passes CX X E)
  (ha:PA X (e::es) t)(eC:(x==("__debug__":Str))=false:=by decide)(he:starEach (e::es) X.env=(false,eval e X.env)::starEach es X.env:=by rfl)(bN:(backTo pos (starEach es X.env)).any (·.1)=false:=by rfl):
  PE X (.Call (.Name x p) (e::es) [] pos) (Qc C sp cT E t):=by
 intro pins s σ H Q I h;exact wpAny_Call_Name_kw (qU I hg hm (callWith_K I.ok.mod.lP M.kp (aw (ha pos pins s σ H _ I h) λus s1 ⟨vs,H1,I1,r,q⟩=>⟨I1.bV,Zaf M F hr hb hd hx I1 r q⟩) he bN) eC)
end
section
variable {X:Cx}{CX:jR}{k:Nat}{f C:Addr}{fd:FuncData}{ps ks:List Str}{sp:Sp}{E:XK}{x m:Str}{p pos apos Zhq:Pos}{e o:Expr}{es:List Expr}{kws:List Keyword}{te ta:TE}{t tk:TA}{nm:Option Str}
variable {g:List Value->List Value->List Value}{gV:List V->List V->List V}
end
structure aP(N P:List Str)(sc:Scope):Prop where
 kind:sc.kind=.function
 co:sc.isCoroutine=false
 gen:sc.isGenerator=false
 nd:N.Nodup
 pre:N.take P.length=P
 par:∀x∈P,sc.names.lookup x=some .local\/sc.names.lookup x=some .cell
 Zc1:∀y∈sc.names,y.2≠.free
theorem K3{kindOf:Str->Option NameKind}{x:Str}:∀{binds:List (Str×Value)} {m:Str->Option Value},(∀v,(x,v)∉binds)->bindL kindOf binds m x=m x
 |[],_,_=>rfl
 |(n,v)::r,m,h=>by
  unfold bindL;rw[K3 λw hw=>h w (Yw _ hw)];split;·grind
  ·rfl
theorem K4{kindOf:Str->Option NameKind}{x:Str}:∀{binds:List (Str×Value)} {m:Str->Option Value},(∀v,(x,v)∉binds)->bindC kindOf binds m x=m x
 |[],_,_=>rfl
 |(n,v)::r,m,h=>by
  unfold bindC;rw[K4 λw hw=>h w (Yw _ hw)];split;·rfl
  ·grind
theorem K5{kindOf:Str->Option NameKind}{x:Str}{v:Value}:∀{P:List Str} {vs:List Value} {i:Nat} {m:Str->Option Value},P.Nodup->P[i]?=some x->vs[i]?=some v->kindOf x=some .local->
  bindL kindOf (P.zip vs) m x=some v
 |[],_,_,_,_,h,_,_=>by simp at h
 |_::_,[],_,_,_,_,h,_=>by simp at h
 |p::P,w::vs,0,m,nd,h1,h2,hk=>by
  simp at h1 h2;subst h1;subst h2;show bindL kindOf ((p,w)::P.zip vs) m p=_;unfold bindL;rw[K3 λv hv=>(Yz.mp nd).1 (GP hv).1,if_pos hk];simp
 |p::P,w::vs,i+1,m,nd,h1,h2,hk=>by
  unfold bindL;exact K5 (Yz.mp nd).2 (by simpa using h1) (by simpa using h2) hk
theorem K6{kindOf:Str->Option NameKind}{x:Str}{v:Value}:∀{P:List Str} {vs:List Value} {i:Nat} {m:Str->Option Value},P.Nodup->P[i]?=some x->vs[i]?=some v->kindOf x≠some .local->
  bindC kindOf (P.zip vs) m x=some v
 |[],_,_,_,_,h,_,_=>by simp at h
 |_::_,[],_,_,_,_,h,_=>by simp at h
 |p::P,w::vs,0,m,nd,h1,h2,hk=>by
  simp at h1 h2;subst h1;subst h2;show bindC kindOf ((p,w)::P.zip vs) m p=_;unfold bindC;rw[K4 λv hv=>(Yz.mp nd).1 (GP hv).1,if_neg hk];simp
 |p::P,w::vs,i+1,m,nd,h1,h2,hk=>by
  unfold bindC;exact K6 (Yz.mp nd).2 (by simpa using h1) (by simpa using h2) hk
def start(N:List Str)(vs:List V):St:=vs.map some++List.replicate (N.length-vs.length) none
def jO(CX:jR)(P:Program)(w:World)(K:PySem.W.Frag)(mg:Str->Option Value)(base:Heap)(N:List Str)(qual:Str)(scope:Scope)(f:Addr)(cd:Value)(A:Around)(outer:List Env)(s:Shared)(H:Hp)(E:XK):Cx where
 prog:=P
 w:=w
 K:=K
 mg:=mg
 base:=base
 A:=A.deeper (envOfC qual scope s.heap.objs.size f cd)
 N:=N
 cQ:=s
 kK:=H
 env:=envOfC qual scope s.heap.objs.size f cd
 outer:=outer
 stack:=envOfC qual scope s.heap.objs.size f cd::outer
 ex:=[]
 calm:=true
 fn:=λ_=>true
 pn:=[]
 xe:=λe s'=>wpAny (model P w) (A.deeper (envOfC qual scope s.heap.objs.size f cd)) (leaving (envOfC qual scope s.heap.objs.size f cd) e) (λ_ r6=>CX outer H s E e r6) (λe' r6=>CX outer H s E e' r6) s'
theorem LU{sc:Scope}{n:Nat}{x:Str}(h:sc.names.lookup x=some .cell):∃c,(cellsFrom n sc.names []).lookup x=some c:=by
 exact Jb.mp (cellsFrom_some sc.names n [] (.inl h))
theorem Zn{CX:jR}{P:Program}{w:World}{K:PySem.W.Frag}{mg:Str->Option Value}{base:Heap}{N ps:List Str}{qual:Str}{scope:Scope}{f:Addr}{cd:Value}{A:Around}{outer:List Env}{s s1:Shared}{H:Hp}{E:XK}{us:List Value}{vs:List V}
  (S:aP N ps scope)(hd:A.handled=none)(e0:rO P w K mg base A outer s H)(hl:vs.length=ps.length)(r:Vals vs us)
  (x:InCallC s s.heap.objs.size (bindL (envOfC qual scope s.heap.objs.size f cd).kindOf (ps.zip us) λ_=>none) (cellsFrom (s.heap.objs.size+1) scope.names []) (bindC (envOfC qual scope s.heap.objs.size f cd).kindOf (ps.zip us) λ_=>none) s1):
  Inv (jO CX P w K mg base N qual scope f cd A outer s H E) [] (start N vs) H s1:=by
 have bN:ps.length<=N.length:=by have:=congrArg List.length S.pre;rw[Y9] at this;omega
 obtain⟨h1,tk,rfl,hk⟩:=x.done;have jS:∀b:Addr,b∉(jO CX P w K mg base N qual scope f cd A outer s H E).ex:=λb z=>absurd (show b∈([]:List Addr) from z) (by simp);refine⟨⟨e0.mod,S.kind,rfl,rfl,Yd _,λy z c h1 h2=>?_,λy hy=>?_,λy c _ h=>?_,λ_=>hd,Around.frames_deeper e0.frames,.inr ⟨rfl,rfl⟩,λb z=>absurd z (jS b),e0.bs,e0.lQ,λb _ _=>jS b,λb z=>absurd z (jS b),e0.jq,e0.ou⟩,
  rfl,e0.bare,Un.kept hk,⟨_,x.toInCall.ns,λi y v h1 h2 h3=>?_⟩,λy c h=>⟨_,x.cell y c h⟩,e0.av.fresh (Yd _),λy c h=>?_,λp hp=>absurd (show p∈([]:List (Addr×Obj)) from hp) (by simp),e0.av.kept hk,?_⟩
 ·exact name_of_addr x.apart (PySem.mem_of_lookup h1) (PySem.mem_of_lookup h2)
 ·have hy:scope.names.lookup y=some .cell\/scope.names.lookup y=some .free:=hy;rcases hy with hy|hy;·exact LU hy
  ·exact absurd rfl (S.Zc1 _ (PySem.mem_of_lookup hy))
 ·exact Jj (x.above y c (PySem.mem_of_lookup h))
 ·have hi:i<vs.length:=by
   unfold start at h2
   grind
  have ha:vs[i]?=some v:=by
   unfold start at h2;rw[Wc (by simpa using hi),Yg] at h2;cases e:vs[i]? with
   |none=>grind
   |some a=>grind
  obtain⟨u,hu,rv⟩:=r.get ha;have hp:ps[i]?=some y:=by
   rw[←S.pre,List.getElem?_take_of_lt (by omega)];exact h1
  have R7:ps.Nodup:=by rw[←S.pre];exact S.nd.sublist (List.take_sublist _ _)
  refine⟨u,rv,?_⟩;rcases S.par y (Yi hp) with k|k;·exact .inl ⟨k,K5 R7 hp hu k⟩
  ·obtain⟨c,e⟩:=LU k;refine .inr ⟨.inl k,c,e,?_⟩;have q:=x.cell y c e;rw[K6 R7 hp hu (by show scope.names.lookup y≠_;rw[k];decide)] at q;exact q
 ·exact e0.av.fresh (Jj (x.above y c (PySem.mem_of_lookup h)))
 ·unfold start;show _=N.length
  grind
theorem FT{CX:jR}{P:Program}{w:World}{K:PySem.W.Frag}{mg:Str->Option Value}{base:Heap}{k:Nat}{f:Addr}{name qual:Str}{params:Arguments}{body:List Stmt}{scope:Scope}{dV kV doc pm aA ct oc:Value}{an od:Option Addr}
  {iD:Array (Option Value)}{N ps:List Str}{sp:Sp}(lk:K.lookup f=some ⟨oc,od,.func (fnOf name qual params body scope dV kV doc pm an aA ct),iD⟩)(eV:codeIn K aA qual=true)(S:aP N ps scope)
  (len:∀vs H Q E,sp vs H Q E->vs.length=ps.length)
  (nW:∀(A:Around) (outer:List Env) (s:Shared) (H:Hp) (vs:List V) (Q:VK) (E:XK),cA k (A.deeper (envOfC qual scope s.heap.objs.size f aA))->sp vs H Q E->
   ∃t,eU (jO CX P w K mg base N qual scope f aA A outer s H E) body t/\t {nx:=λ_ H'=>Q .ay H',rt:=Q} (start N vs) H):
  aE P w K mg base CX (k+1) f (fnOf name qual params body scope dV kV doc pm an aA ct) ps sp:=by
 refine⟨len,λA outer s H args us vs Q E hr e0 hb r kM=>?_⟩;have hl:=len _ _ _ _ kM;have KX:K.In s.heap:=e0.mod.lP.keeps λb o e=>(e0.bs b o e).1;have lim:s.heap.NoLimit:=e0.mod.nolimit.keeps λb o e=>(e0.bs b o e).1;have Zes:∀y∈ps.zip us,scope.names.lookup y.1=some .local\/(scope.names.lookup y.1=some .cell/\((cellsFrom (s.heap.objs.size+1) scope.names []).lookup y.1).isSome=true):=λ⟨n,v⟩ hy=>by
  rcases S.par n (GP hy).1 with q|q;·exact .inl q
  ·exact .inr ⟨q,cellsFrom_some _ _ _ (.inl q)⟩
 refine codeAny_call_function hr.depth (KX _ _ lk) rfl S.co S.gen rfl (PySem.W.codeRec_of KX eV) (hb _ _ _ _ ?_);refine wpAny_newFunctionEnv_cells S.kind Zes λenv he s1 x=>?_;subst he;refine⟨lim.keeps x.toInCall.keep,codeAny_func ?_⟩;obtain⟨t,ht,hq⟩:=nW A outer s H vs Q E (hr.deeper _) kM;have I:Inv (jO CX P w K mg base N qual scope f aA A outer s H E) [] (start N vs) H s1:=Zn S hr.hd e0 hl r x;refine wpAny_mono (ht [] s1 (start N vs) H _ I hq) (λfl s' hs=>?_) λe s' hs=>hs;have fin:∀{aF:St} {H':Hp} {v:V} {u:Value},Inv (jO CX P w K mg base N qual scope f aA A outer s H E) [] aF H' s'->RelV v u->Q v H'->CE outer P w H s Q u s':=
  λ{aF H' v u} J rv q=>⟨v,H',J.os,J.bare,J.base,J.av,rv,q⟩
 cases fl with
 |ret u=>
  obtain⟨v,aF,H',J,rv,q⟩:=hs;exact fin J rv q
 |next=>
  obtain⟨aF,H',J,q⟩:=hs;exact fin (v:=V.ay) (u:=Value.none) J rfl q
 |brk=>
  obtain⟨_,_,_,q⟩:=hs;exact False.elim q
 |cont=>
  obtain⟨_,_,_,q⟩:=hs;exact False.elim q
section
variable {X:Cx}{x:Str}{p pos:Pos}{e:Expr}{es:List Expr}{t:TA}{id T:String}{r:List V->Hp->VK->Prop}
def lU(r:List V->Hp->VK->Prop)(t:TA):TE:=λσ H Q=>t σ H λvs H1=>r vs H1 Q
theorem ia(hc:cV X (.builtin id) r)(hg:Gl X x)(hm:X.mg x=none)(hv:bootBuiltins x=some (.builtin id))(ha:PA X (e::es) t)(hn:x≠"__name__":=by decide)(eC:(x==("__debug__":Str))=false:=by decide)
  (he:starEach (e::es) X.env=(false,eval e X.env)::starEach es X.env:=by rfl)(bN:(backTo pos (starEach es X.env)).any (·.1)=false:=by rfl):PE X (.Call (.Name x p) (e::es) [] pos) (lU r t):=by
 intro pins s σ H Q I h;refine wpAny_Call_Name_kw (wb I hg hm hv ?_ hn eC);exact PyProof.Rows.callWith_builtin1 (aw (ha pos pins s σ H _ I h) λus s1 ⟨vs,H1,I1,r1,q1⟩=>hc pins s1 σ H1 vs us Q I1 r1 q1) he bN
theorem eN(hc:cV X (.type T) r)(hg:Gl X x)(hm:X.mg x=none)(hv:bootBuiltins x=some (.type T))(ha:PA X (e::es) t)(hn:x≠"__name__":=by decide)(eC:(x==("__debug__":Str))=false:=by decide)
  (he:starEach (e::es) X.env=(false,eval e X.env)::starEach es X.env:=by rfl)(bN:(backTo pos (starEach es X.env)).any (·.1)=false:=by rfl):PE X (.Call (.Name x p) (e::es) [] pos) (lU r t):=by
 intro pins s σ H Q I h;refine wpAny_Call_Name_kw (wb I hg hm hv ?_ hn eC);exact PyProof.Rows.callWith_type1 (aw (ha pos pins s σ H _ I h) λus s1 ⟨vs,H1,I1,r1,q1⟩=>hc pins s1 σ H1 vs us Q I1 r1 q1) he bN
end
end L2
namespace HT
open PySem PyProof.Rows
section
open PySem.SeqAt
open PySem.AutoSeq1 (wpAny_loadPart')
open PySem.MeetsSeq PySem.MeetsSeq2 PySem.MeetsSeq3
end
section
variable {prog:Program}{w:World}{A:Around}{E:Value->Shared->Prop}{s:Shared}
theorem ZbD{t b:Addr}{vs ws:List Value}{Q:Value->Shared->Prop}(ht:IsTup s.heap t vs.toArray)(hb:IsTup s.heap b ws.toArray)(hv:vs≠[])
  (h1:ws=[]->Q (.ref t) s)(h2:ws≠[]->Q (.ref s.heap.objs.size) {s with heap:=s.heap.push {cls:=.type "tuple",data:=.seq (vs++ws).toArray}})
  (hsz:vs.length+ws.length<=sizeLine):wpAny (model prog w) A (binaryOp .Add (.ref t) (.ref b)) Q E s:=by
 obtain⟨⟨cls,dd,data,sl⟩,ho,hc,n,hd⟩:=id ht;obtain⟨⟨Zhr,R8,data2,R9⟩,Ay,R_,n2,hd2⟩:=id hb;simp only at hc hd R_ hd2;subst hc hd R_ hd2;have e:vs.toArray++ws.toArray=(vs++ws).toArray:=by simp
 by_cases hw:ws=[]
 ·exact concat_meets ⟨_,ho,rfl⟩ ⟨_,Ay,rfl⟩ noFill_tuple_add seq_tuple_add slot_tuple_add PySem.F.entry_tuple_add (PySem.F.args_tuple_add_2 _ _)
   (tuple_addW1 t b vs.toArray ws.toArray n n2 dd R8 sl R9 (by simpa using hv) (by simp[hw])) ⟨ho,Ay,h1 hw⟩
 ·refine concat_meets ⟨_,ho,rfl⟩ ⟨_,Ay,rfl⟩ noFill_tuple_add seq_tuple_add slot_tuple_add PySem.F.entry_tuple_add (PySem.F.args_tuple_add_2 _ _)
   (tuple_addW2 t b vs.toArray ws.toArray n n2 dd R8 sl R9 (by simpa using hv) (by simpa using hw) (by rw[Yu,Yu];exact hsz)) ⟨ho,Ay,?_⟩
  rw[e];exact h2 hw
def gw(n d:Nat):Option Int->Nat
 |none=>d
 |some v=>if v<0 then(v+(n:Int)).toNat else min v.toNat n
theorem ZbE(n d k:Nat):gw n d (some (k:Int))=min k n:=by
 show(if(k:Int)<0 then((k:Int)+(n:Int)).toNat else min (k:Int).toNat n)=min k n;rfl
end
end HT
namespace L2
open PySem PySem.Spec PyProof.Rows
abbrev TO:=St->Hp->(Option Int->Hp->Prop)->Prop
def PO(X:Cx)(e:Option Expr)(t:TO):Prop:=
 ∀(pins:List (Addr×Obj)) (s:Shared) (σ:St) (H:Hp) (Q:Option Int->Hp->Prop),Inv X pins σ H s->t σ H Q->
  wpAny (model X.prog X.w) X.A (evalPart e X.env) (λu s'=>∃o H',Inv X pins σ H' s'/\IsPart u o/\Q o H') X.xe s
def ZbF:TO:=λ_ H Q=>Q none H
inductive Nb(Q:Option Int->Hp->Prop)(x:V)(H1:Hp):Prop
 |mk (i) (aC:x=.int i) (aR:Q (some i) H1):Nb Q x H1
def Zet(t:TE):TO:=λσ H Q=>t σ H λx H1=>Nb Q x H1
theorem intsAre_of{ns:List Int}:∀{us:List Value},Vals (ns.map V.int) us->IntsAre us ns:=by
 induction ns with
 |nil=>intro us r;rw[List.map_nil] at r;cases r;exact .nil
 |cons n ns ih=>
  intro us r;cases r with
  |cons r1 r2=>
   obtain⟨t,e⟩:=r1;subst e;exact .cons n t (ih r2)
section
variable {X:Cx}{e:Expr}{te:TE}{lo hi:Option Expr}{tl th:TO}{pos p2:Pos}
theorem Nc:PO X none ZbF:=by
 intro pins s σ H Q I h;exact wpAny_pure ⟨none,H,I,.none,h⟩
theorem Nd(h:PE X e te):PO X (some e) (Zet te):=by
 intro pins s σ H Q I hw;refine aw (h pins s σ H _ I hw) λu s1 zq=>?_;obtain⟨x,H1,I1,r1,q1⟩:=zq;obtain⟨i,rfl,q⟩:=q1;obtain⟨t,rfl⟩:=r1;exact⟨some i,H1,I1,.int i t,q⟩
def uM(X:Cx)(r:V->Option Int->Option Int->Hp->VK->Prop):Prop:=
 ∀(pins:List (Addr×Obj)) (s:Shared) (σ:St) (H:Hp) (x:V) (v vl vu:Value) (lo hi:Option Int) (sl:Addr) (Q:VK),Inv X pins σ H s->RelV x v->s.heap.IsSliceOf sl vl vu .none->IsPart vl lo->IsPart vu hi->r x lo hi H Q->
  ∃T id,typeLookup (.type T) "__getitem__"=pure (some (.builtin id))/\s.TypeIs v T/\wpAny (model X.prog X.w) X.A (getItem v (.ref sl)) (EP X pins σ Q) X.xe s
def tSl(r:V->Option Int->Option Int->Hp->VK->Prop)(te:TE)(tl th:TO):TE:=λσ H Q=>te σ H λx H1=>tl σ H1 λl H2=>th σ H2 λu H3=>r x l u H3 Q
theorem LV{r:V->Option Int->Option Int->Hp->VK->Prop}(hr:uM X r)(he:PE X e te)(hl:PO X lo tl)(hu:PO X hi th):PE X (.Subscript e (.Slice lo hi none p2) pos) (tSl r te tl th):=by
 intro pins s σ H Q I h;refine Subscript_ (aw (he pins s σ H _ I h) λv s1 zq=>?_);obtain⟨x,H1,I1,r1,q1⟩:=zq;refine wpAny_Slice (aw (hl pins s1 σ H1 _ I1 q1) λvl s2 zq=>?_);obtain⟨l,H2,I2,pl,q2⟩:=zq;refine aw (hu pins s2 σ H2 _ I2 q2) λvu s3 zq=>?_;obtain⟨u,H3,I3,pu,q3⟩:=zq;rw[evalPart_none];refine wpAny_pure ?_;have I4:Inv X pins σ H3 {s3 with heap:=s3.heap.push {cls:=.type "slice",data:=.fields #[vl,vu,.none]}}:=I3.kept (t':=s3.toks) λb ob q=>Yb _ q;obtain⟨T,id,hT,ht,hg⟩:=hr pins {s3 with heap:=s3.heap.push {cls:=.type "slice",data:=.fields #[vl,vu,.none]}} σ H3 x v vl vu l u s3.heap.objs.size Q I4 r1 (Heap.IsSliceOf.new ..) pl pu q3;show wpAny (model X.prog X.w) X.A (subscriptTail e (.Slice lo hi none p2) v (.ref s3.heap.objs.size)) (EP X pins σ Q) X.xe {s3 with heap:=s3.heap.push {cls:=.type "slice",data:=.fields #[vl,vu,.none]}};exact tail_any (ops:=[.ref s3.heap.objs.size,v]) ht hT hg (by with_unfolding_all rfl)
def oj(xs:List V)(lo hi:Option Int):List V:=(xs.drop (HT.gw xs.length 0 lo)).take (HT.gw xs.length xs.length hi-HT.gw xs.length 0 lo)
theorem JW(xs:List V)(lo hi:Option Int):(oj xs lo hi).length<=xs.length:=by
 unfold oj
 grind
def Zeu(K:PySem.W.Frag):R2:=λx y H Q=>∃a b xs ys,x=.ref a/\y=.ref b/\aB K H a xs/\aB K H b ys/\xs≠[]/\xs.length+ys.length<=sizeLine/\
 (ys=[]->Q (.ref a) H)/\(ys≠[]->∀p,H p=none->Q (.ref p) (upd H p (.tup (xs++ys))))
theorem Vals.EU{xs:List V}{us:List Value}(r:Vals xs us):us=[]↔xs=[]:=by
 cases r with
 |nil=>simp
 |cons _ _=>simp
theorem ZbG:cB X (binaryOp .Add) (Zeu X.K):=by
 rintro pins s σ H x y v u Q I rx ry ⟨a,b,xs,ys,rfl,rfl,ha,hb,hx,hz,q1,q2⟩;cases rx;cases ry;obtain⟨ah,r1,p1,_⟩:=I.tuple ha;obtain⟨iy,r2,p2,_⟩:=I.tuple hb;refine HT.ZbD p1 p2 (λz=>hx (r1.EU.mp z)) (λz=>⟨.ref a,H,I,rfl,q1 (r2.EU.mp z)⟩) (λz=>⟨.ref s.heap.objs.size,_,I.laid (o:=.tup (xs++ys)) (λb ob q=>Yb _ q) (Yd _) ?_,rfl,q2 (λw=>z (r2.EU.mpr w)) _ (I.av.fresh (Yd _))⟩) (by rw[←r1.length,←r2.length];exact hz);exact⟨by rw[Yk];exact hz,_,r1.append r2,mG.new _ _⟩
end
def kN(n:Nat)(i:Int):Option Nat:=if 0<=i then(if i<n then some i.toNat else none) else if-(n:Int)<=i then some (i+n).toNat else none
def dJ{α:Type}(xs:List α)(i:Int):Option α:=(kN xs.length i).bind λj=>xs[j]?
theorem EV{n:Nat}{i:Int}{j:Nat}(h:kN n i=some j):seqIndex? i n=some j/\j<n/\-(n:Int)<=i/\i<n:=by
 unfold kN at h;by_cases h0:0<=i
 ·rw[if_pos h0] at h;by_cases h1:i<n
  ·rw[if_pos h1] at h;have e:=Yr h;exact⟨by rw[seqIndex_of h0 h1,e],by omega,by omega,h1⟩
  ·grind
 ·rw[if_neg h0] at h;by_cases h1:-(n:Int)<=i
  ·rw[if_pos h1] at h;have e:=Yr h;exact⟨by rw[seqIndex_neg (by omega) h1,e],by omega,h1,by omega⟩
  ·grind
theorem EW{α:Type}{xs:List α}{i:Int}{v:α}(h:dJ xs i=some v):∃j,seqIndex? i xs.length=some j/\xs[j]?=some v/\j<xs.length/\-(xs.length:Int)<=i/\i<xs.length:=by
 unfold dJ at h;cases e:kN xs.length i with
 |none=>grind
 |some j=>
  obtain⟨h1,h2,h3,h4⟩:=EV e
  grind
theorem ic{α:Type}{xs:List α}{j:Nat}{v:α}(h:xs[j]?=some v):dJ xs (j:Int)=some v:=by
 have e:kN xs.length (j:Int)=some j:=by
  unfold kN
  grind
 unfold dJ;rw[e];exact h
def Nf(b:Expr):Prop:=∀o i,subscripted b false o i=operate [o,i] (getItem o i)
def iE(X:Cx)(r:R2):Prop:=
 ∀(value slice:Expr) (pins:List (Addr×Obj)) (s:Shared) (σ:St) (H:Hp) (x y:V) (v u:Value) (Q:VK),Inv X pins σ H s->RelV x v->RelV y u->r x y H Q->
  subscripted slice false v u=operate [v,u] (getItem v u)->wpAny (model X.prog X.w) X.A (subscriptTail value slice v u) (EP X pins σ Q) X.xe s
def Sa(X:Cx)(id:String)(r:V->List V->Hp->VK->Prop):Prop:=
 ∀(pins:List (Addr×Obj)) (s:Shared) (σ:St) (H:Hp) (x:V) (xs:List V) (v:Value) (us:List Value) (Q:VK),Inv X pins σ H s->RelV x v->Vals xs us->r x xs H Q->
  wpAny (model X.prog X.w) X.A (call (.builtin id) (v::us)) (EP X pins σ Q) X.xe s
section
variable {X:Cx}{a b:Expr}{ta tb:TE}{pos:Pos}
theorem iE.or{r r':R2}(h:iE X r)(h':iE X r'):iE X (λx y H Q=>r x y H Q\/r' x y H Q):=by
 intro value slice pins s σ H x y v u Q I rx ry q hs;rcases q with q|q;·exact h value slice pins s σ H x y v u Q I rx ry q hs
 ·exact h' value slice pins s σ H x y v u Q I rx ry q hs
theorem Qd{r:R2}(hr:iE X r)(ha:PE X a ta)(hb:PE X b tb)(hs:Nf b):PE X (.Subscript a b pos) (i8 r ta tb):=by
 intro pins s σ H Q I h;exact Subscript_ (Gf ha hb I h λv u s2 x y H2 I2 rx ry q=>hr a b pins s2 σ H2 x y v u Q I2 rx ry q (hs _ _))
inductive OJ(K:PySem.W.Frag)(x:V)(y:V)(H:Hp)(Q:VK):Prop
 |mk (p xs i v) (aC:x=.ref p) (aR:y=.int i) (a8:ak K H p xs) (bC:dJ xs i=some v) (cD:Q v H):OJ K x y H Q
def ux(K:PySem.W.Frag):R2:=λx y H Q=>OJ K x y H Q
inductive OK(K:PySem.W.Frag)(x:V)(y:V)(H:Hp)(Q:VK):Prop
 |mk (p xs i v) (aC:x=.ref p) (aR:y=.int i) (a8:aB K H p xs) (bC:dJ xs i=some v) (cD:Q v H):OK K x y H Q
def z8(K:PySem.W.Frag):R2:=λx y H Q=>OK K x y H Q
inductive OL(x:V)(y:V)(H:Hp)(Q:VK):Prop
 |mk (z i c) (aC:x=.str z) (aR:y=.int i) (a8:z.length<=sizeLine) (bC:dJ z.cps.toList i=some c) (cD:Q (.str ⟨#[c]⟩) H):OL x y H Q
def Q6:R2:=λx y H Q=>OL x y H Q
theorem EX:iE X (ux X.K):=by
 intro value slice pins s σ H x y v u Q I rx ry h hs;obtain⟨p,xs,i,z,rfl,rfl,hq,he,q⟩:=h;cases rx;obtain⟨t,rfl⟩:=ry;obtain⟨ah,r,pl,hz⟩:=I.list hq;obtain⟨j,h1,h2,h3,h4,h5⟩:=EW he;obtain⟨w,ew,fQ⟩:=r.get h2;have hl:=r.length;have hn:=q_;have fin:EP X pins σ Q w s:=⟨z,H,I,fQ,q⟩;by_cases h0:0<=i
 ·have hj:i.toNat=j:=by
   rw[seqIndex_of h0 h5] at h1;exact Yr h1
  exact item_listR pl.isList h0 (by omega) (by rw[hj];simpa using ew) fin hs
 ·have hj:(i+(ah.toArray.size:Int)).toNat=j:=by
   rw[seqIndex_neg (by omega) h4] at h1
   grind
  exact subscriptTail_builtinR (x:=w) pl.isList.typeIs slot_list_getitem.lookup
   (wpAny_getItem_list_neg pl.isList (by omega) (by rw[Yu]<;>omega) (by omega) (by rw[hj];simpa using ew) ⟨rfl,fin⟩) hs
theorem OM:iE X (z8 X.K):=by
 intro value slice pins s σ H x y v u Q I rx ry h hs;obtain⟨p,xs,i,z,rfl,rfl,hq,he,q⟩:=h;cases rx;obtain⟨t,rfl⟩:=ry;obtain⟨ah,r,pl,hz⟩:=I.tuple hq;obtain⟨j,h1,h2,h3,h4,h5⟩:=EW he;obtain⟨w,ew,fQ⟩:=r.get h2;have hn:=q_;exact subscriptTail_builtinR pl.typeIs slot_tuple_getitem.lookup
  (getItem_tuple pl (by omega) (by omega) (by rw[Yu,←r.length];exact h1) (by simpa using ew) ⟨rfl,⟨z,H,I,fQ,q⟩⟩) hs
theorem wg:iE X Q6:=by
 intro value slice pins s σ H x y v u Q I rx ry h hs;obtain⟨z,i,c,rfl,rfl,hz,he,q⟩:=h;obtain⟨t,rfl⟩:=rx;obtain⟨t',rfl⟩:=ry;obtain⟨j,h1,h2,h3,h4,h5⟩:=EW he;have hl:z.cps.toList.length=z.length:=by simp[Str.length]
 rw[hl] at h1 h4 h5;have hn:=q_;exact tail_any (typeIs_str s z t) slot_str_getitem.lookup (getItem_str (by
  rw[(decide_eq_false (by omega)),(decide_eq_false (by omega)),Bool.or_false]) (by rw[h1];simpa using h2) ⟨.str ⟨#[c]⟩,H,I.tok _,⟨_,rfl⟩,q⟩) hs
def GQ(K:PySem.W.Frag):R2:=λx y H Q=>ux K x y H Q\/z8 K x y H Q\/Q6 x y H Q
theorem Zc2:iE X (GQ X.K):=EX.or (OM.or wg)
theorem XO(ah:List Value)(n j:Nat)(u:Value):Obj.mapSeq (·.setIfInBounds j u) {cls:=.type "list",data:=.seq ah.toArray n}={cls:=.type "list",data:=.seq (ah.set j u).toArray n}:=by
 simp[Obj.mapSeq]
theorem Inv.lst{pins:List (Addr×Obj)}{σ:St}{H:Hp}{s:Shared}{p:Addr}{xs:List V}(I:Inv X pins σ H s)(h:H p=some (.lst xs)):
  ∃(ah:List Value) (n:Nat),Vals xs ah/\s.heap.get? p=some {cls:=.type "list",data:=.seq ah.toArray n}/\xs.length<=sizeLine:=by
 obtain⟨z,ah,n,r,e⟩:=I.av p _ h
 grind
theorem Inv.Zc3{pins:List (Addr×Obj)}{σ:St}{H:Hp}{s:Shared}{p:Addr}{xs ys:List V}{ah its':List Value}{n n':Nat}{f:Obj->Obj}(I:Inv X pins σ H s)(h:H p=some (.lst xs))
  (ho:s.heap.get? p=some {cls:=.type "list",data:=.seq ah.toArray n})(hf:f {cls:=.type "list",data:=.seq ah.toArray n}={cls:=.type "list",data:=.seq its'.toArray n'})(r:Vals ys its')(hz:ys.length<=sizeLine)(t:Nat):
  Inv X pins σ (upd H p (.lst ys)) {s with heap:=s.heap.update p f,toks:=t}:=by
 have e:(s.heap.update p f).get? p=some {cls:=.type "list",data:=.seq its'.toArray n'}:=by
  rw[Wn f ho (by rw[hf]<;>rfl),hf]
 refine I.write (x:=p) (e:=p) (by rw[h];trivial) (.inl rfl) (λb u hb q=>(Y8 _ _ (Ne.symm hb)).trans q) ⟨_,e⟩ ?_;exact⟨hz,its',n',r,e⟩
def Zev:V->V->V->Hp->(Hp->Prop)->Prop:=λo i v H Q=>∃p xs k j,o=.ref p/\i=.int k/\H p=some (.lst xs)/\kN xs.length k=some j/\Q (upd H p (.lst (xs.set j v)))
theorem set_list:rM X Zev:=by
 rintro pins s σ H o i v ov iv u Q I ro ri rv ⟨p,xs,k,j,rfl,rfl,hp,hj,q⟩;cases ro;obtain⟨t,rfl⟩:=ri;obtain⟨ah,n,r,ho,hz⟩:=I.lst hp;obtain⟨h1,h2,h3,h4⟩:=EV hj;have hl:=r.length;have hn:=q_;have I':Inv X pins σ (upd H p (.lst (xs.set j v))) {s with heap:=s.heap.update p (Obj.mapSeq (·.setIfInBounds j u))}:=
  I.Zc3 hp ho (XO ah n j u) (r.set rv j) (by rw[W4];exact hz) s.toks
 by_cases h0:0<=k
 ·have hk:k.toNat=j:=by
   rw[seqIndex_of h0 h4] at h1
   grind
  exact PySem.W.ki_setAt ho h0 (by omega) (by rw[Yu,←hl];exact h4) (by rw[hk];exact⟨_,I',q⟩)
 ·have hk:(k+(ah.toArray.size:Int)).toNat=j:=by
   rw[seqIndex_neg (by omega) h3] at h1
   grind
  exact PySem.W.ki_setBack ho (by omega) (by rw[Yu,←hl];exact h3) (by omega) (by rw[hk];exact⟨_,I',q⟩)
theorem VR(lo hi:Option Int)(n:Nat):(sliceBounds lo hi none n).1=((HT.gw n 0 lo:Nat):Int)/\(sliceBounds lo hi none n).2.1=((HT.gw n n hi:Nat):Int)/\(sliceBounds lo hi none n).2.2=1:=by
 refine⟨?_,?_,rfl⟩
 ·cases lo with
  |none=>rfl
  |some i=>
   simp only[sliceBounds,HT.gw]
   grind
 ·cases hi with
  |none=>rfl
  |some i=>
   simp only[sliceBounds,HT.gw]
   grind
theorem Vu(ah:List Value)(lo hi:Option Int):slicePick ah.toArray lo hi none=((ah.drop (HT.gw ah.length 0 lo)).take (HT.gw ah.length ah.length hi-HT.gw ah.length 0 lo)).toArray:=by
 obtain⟨h1,h2,h3⟩:=VR lo hi ah.toArray.size;unfold slicePick;rw[h1,h2,h3];simp only[sliceRange_one,pick_run]<;>rfl
def Zfn(K:PySem.W.Frag):V->Option Int->Option Int->Hp->VK->Prop:=λx lo hi H Q=>∃a xs,x=.ref a/\ak K H a xs/\∀p,H p=none->Q (.ref p) (upd H p (.lst (oj xs lo hi)))
theorem ZbH:uM X (Zfn X.K):=by
 rintro pins s σ H x v vl vu lo hi sl Q I rx hs pl pu ⟨a,xs,rfl,hx,q⟩;cases rx;obtain⟨ah,r,ht,hz⟩:=I.list hx;have hlen:=r.length;refine⟨"list",_,slot_list_getitem.lookup,ht.isList.typeIs,wpAny_getItem_list_slice ht.isList hs pl pu .none (by simp) ?_ (by rw[Yu]<;>omega)⟩;rw[Vu,←hlen];refine⟨.ref s.heap.objs.size,_,I.laid (o:=.lst (oj xs lo hi)) (λb ob q=>Yb _ q) (Yd _) ?_,rfl,q _ (I.av.fresh (Yd _))⟩;exact⟨Y0 (JW xs lo hi) hz,_,0,(r.drop (HT.gw xs.length 0 lo)).take (HT.gw xs.length xs.length hi-HT.gw xs.length 0 lo),Yt _ rfl⟩
def iU:V->Bool
 |.ay=>true
 |.bl _=>true
 |.int _=>true
 |.str _=>true
 |_=>false
def jv:V->V->Bool
 |.ay,.ay=>true
 |.bl a,.bl b=>a==b
 |.bl a,.int b=>(if a then 1 else 0)==b
 |.int a,.bl b=>a==(if b then 1 else 0)
 |.int a,.int b=>a==b
 |.str a,.str b=>a==b
 |_,_=>false
theorem ON{A:Around}{s:Shared}{y x:V}{u v:Value}(ry:RelV y u)(rx:RelV x v)(fy:iU y=true)(fx:iU x=true):SeqAt.EqAt A s u v (jv y x):=by
 cases y with
 |ay=>
  cases ry;cases x with
  |ay=>cases rx;exact SeqAt.EqAt.same _
  |bl b=>cases rx;exact SeqAt.EqAt.none_bool b
  |int b=>obtain⟨t,rfl⟩:=rx;exact SeqAt.EqAt.none_int b t
  |str b=>obtain⟨t,rfl⟩:=rx;exact SeqAt.EqAt.none_str b t
  |_=>exact absurd (show false=true from fx) Yh
 |bl a=>
  cases ry;cases x with
  |ay=>cases rx;exact SeqAt.EqAt.bool_none a
  |bl b=>cases rx;exact SeqAt.EqAt.bool_bool a b
  |int b=>obtain⟨t,rfl⟩:=rx;exact SeqAt.EqAt.bool_int a b t
  |str b=>obtain⟨t,rfl⟩:=rx;exact SeqAt.EqAt.bool_str a b t
  |_=>exact absurd (show false=true from fx) Yh
 |int a=>
  obtain⟨t',rfl⟩:=ry;cases x with
  |ay=>cases rx;exact SeqAt.EqAt.int_none a t'
  |bl b=>cases rx;exact SeqAt.EqAt.int_bool a t' b
  |int b=>obtain⟨t,rfl⟩:=rx;exact SeqAt.EqAt.int_int a t' b t
  |str b=>obtain⟨t,rfl⟩:=rx;exact SeqAt.EqAt.int_str a t' b t
  |_=>exact absurd (show false=true from fx) Yh
 |str a=>
  obtain⟨t',rfl⟩:=ry;cases x with
  |ay=>cases rx;exact SeqAt.EqAt.str_none a t'
  |bl b=>cases rx;exact SeqAt.EqAt.str_bool a t' b
  |int b=>obtain⟨t,rfl⟩:=rx;exact SeqAt.EqAt.str_int a t' b t
  |str b=>obtain⟨t,rfl⟩:=rx;exact SeqAt.EqAt.str_str a t' b t
  |_=>exact absurd (show false=true from fx) Yh
 |_=>exact absurd (show false=true from fy) Yh
def gW(x:V)(u:Value):Bool:=match u with
 |.none=>jv .ay x
 |.bool b=>jv (.bl b) x
 |.int i _=>jv (.int i) x
 |.str z _=>jv (.str z) x
 |_=>false
theorem OO{x y:V}{u:Value}(r:RelV y u)(f:iU y=true):gW x u=jv y x:=by
 cases y with
 |ay=>cases r;rfl
 |bl b=>cases r;rfl
 |int i=>obtain⟨t,rfl⟩:=r;rfl
 |str z=>obtain⟨t,rfl⟩:=r;rfl
 |_=>exact absurd (show false=true from f) Yh
theorem vY{x:V}:∀{xs:List V} {us:List Value},Vals xs us->xs.all iU=true->us.any (gW x)=xs.any λy=>jv y x
 |_,_,.nil,_=>rfl
 |y::xs,u::us,.cons r t,f=>by
  rw[Jf,Wl] at f;rw[Jl,Jl,OO r f.1,vY t f.2]
theorem vV{A:Around}{s:Shared}{x:V}{v:Value}(rx:RelV x v)(fx:iU x=true):∀{xs:List V} {us:List Value},Vals xs us->xs.all iU=true->∀u∈us,SeqAt.EqAt A s u v (gW x u):=by
 intro xs us h;induction h with
 |nil=>intro _ u hu;cases hu
 |cons r t ih=>
  intro f u' hu;rw[Jf,Wl] at f;rcases Yo.mp hu with rfl|hu;·rw[OO r f.1];exact ON r rx f.1 fx
  ·exact ih f.2 u' hu
def eW(x:V)(xs:List V):Bool:=xs.any λy=>jv y x
def xu(K:PySem.W.Frag)(neg:Bool):R2:=λx y H Q=>∃p xs,y=.ref p/\(ak K H p xs\/aB K H p xs)/\iU x=true/\xs.all iU=true/\Q (.bl (if neg then !eW x xs else eW x xs)) H
theorem Zo:cB X (compareOp .In) (xu X.K false):=by
 rintro pins s σ H x y v u Q I rx ry ⟨p,xs,rfl,hq,fx,fs,q⟩;cases ry;rcases hq with hq|hq
 ·obtain⟨ah,r,pl,hz⟩:=I.list hq;refine SeqAt.in_listAt (gW x) pl.isList (λw hw=>vV rx fx r fs w (by simpa using hw)) ⟨.bl _,H,I,rfl,?_⟩;rw[show ah.toArray.any (gW x)=ah.any (gW x) by simp,vY r fs];exact q
 ·obtain⟨ah,r,pl,hz⟩:=I.tuple hq;refine SeqAt.in_tupleAt (gW x) pl (λw hw=>vV rx fx r fs w (by simpa using hw)) ⟨.bl _,H,I,rfl,?_⟩;rw[show ah.toArray.any (gW x)=ah.any (gW x) by simp,vY r fs];exact q
theorem VS:cB X (compareOp .NotIn) (xu X.K true):=by
 rintro pins s σ H x y v u Q I rx ry ⟨p,xs,rfl,hq,fx,fs,q⟩;cases ry;rcases hq with hq|hq
 ·obtain⟨ah,r,pl,hz⟩:=I.list hq;refine SeqAt.notIn_listAt (gW x) pl.isList (λw hw=>vV rx fx r fs w (by simpa using hw)) ⟨.bl _,H,I,rfl,?_⟩;rw[show ah.toArray.any (gW x)=ah.any (gW x) by simp,vY r fs];exact q
 ·obtain⟨ah,r,pl,hz⟩:=I.tuple hq;refine SeqAt.notIn_tupleAt (gW x) pl (λw hw=>vV rx fx r fs w (by simpa using hw)) ⟨.bl _,H,I,rfl,?_⟩;rw[show ah.toArray.any (gW x)=ah.any (gW x) by simp,vY r fs];exact q
theorem JO:cV X (.builtin "len") (λxs H Q=>∃p ys,xs=[.ref p]/\(ak X.K H p ys\/aB X.K H p ys)/\Q (.int ys.length) H):=by
 rintro pins s σ H xs us Q I r ⟨p,ys,rfl,hq,q⟩;obtain⟨u,rfl,rx⟩:=vals1 r;cases rx;have hn:=q_;rcases hq with hq|hq
 ·obtain⟨ah,r',pl,hz⟩:=I.list hq;have hlen:=r'.length;exact Calls.call_len_list pl.isList (by simp only[Yu]<;>omega) ⟨.int ys.length,H,I.tok _,⟨s.toks+1,by rw[Yu,hlen]⟩,q⟩
 ·obtain⟨ah,r',pl,hz⟩:=I.tuple hq;have hlen:=r'.length;exact len_tuple pl (by simp only[Yu]<;>omega) ⟨.int ys.length,H,I.tok _,⟨s.toks+1,by rw[Yu,hlen]⟩,q⟩
theorem VT:cV X (.builtin "len") (λxs H Q=>∃z,xs=[.str z]/\z.length<=sizeLine/\Q (.int z.length) H):=by
 rintro pins s σ H xs us Q I r ⟨z,rfl,hz,q⟩;obtain⟨u,rfl,t,rfl⟩:=vals1 r;have hn:=q_;exact len_str (by omega) ⟨.int z.length,H,I.tok _,⟨_,rfl⟩,q⟩
theorem tD:cV X (.type "tuple") (λxs H Q=>∃p ys,xs=[.ref p]/\((ak X.K H p ys/\∀l,H l=none->Q (.ref l) (upd H l (.tup ys)))\/(aB X.K H p ys/\Q (.ref p) H))):=by
 rintro pins s σ H xs us Q I r ⟨p,ys,rfl,h⟩;obtain⟨u,rfl,rx⟩:=vals1 r;cases rx;rcases h with⟨hq,q⟩|⟨hq,q⟩
 ·obtain⟨ah,r',pl,hz⟩:=I.list hq;have hlen:=r'.length;refine call_tuple_list pl.isList (λh' kp=>?_) (by simp only[Yu]<;>omega);have I1:=I.kept (t':=s.toks) kp;have I2:Inv X pins σ (upd H h'.objs.size (.tup ys)) {s with heap:=h'.push {cls:=.type "tuple",data:=.seq ah.toArray}}:=
   I1.laid (λb o e=>Yb _ e) (Yd _) (show cG X.prog X.w _ _ _ (.tup ys) from⟨hz,ah,r',mG.new _ _⟩)
  exact⟨.ref h'.objs.size,_,I2,rfl,q _ (I1.av.fresh (Yd _))⟩
 ·obtain⟨ah,r',pl,hz⟩:=I.tuple hq;exact call_tuple_same pl ⟨.ref p,H,I,rfl,q⟩
def GR(K:PySem.W.Frag)(T:String)(x:V)(H:Hp):Prop:=match x with
 |.str _=>T="str"
 |.int _=>T="int"
 |.ref p=>(T="list"/\∃xs,ak K H p xs)\/(T="tuple"/\∃o,K.lookup p=some o/\o.cls=.type "tuple"/\o.dict=none)\/
   (T="dict"/\((∃kvs,H p=some (.dK kvs))\/∃kvs,H p=some (.dT kvs)))\/(T="set"/\∃S n,H p=some (.set S n))
 |_=>False
theorem OP{pins:List (Addr×Obj)}{σ:St}{H:Hp}{s:Shared}{T:String}{x:V}{v:Value}(I:Inv X pins σ H s)(r:RelV x v)(ty:GR X.K T x H):
  s.TypeIs v T/\∀a,v=.ref a->∃ob,s.heap.get? a=some ob/\ob.dict=none:=by
 cases x with
 |str z=>
  obtain⟨t,rfl⟩:=r;cases(show T="str" from ty);exact⟨typeIs_str s z t,λ_ e=>nomatch e⟩
 |int i=>
  obtain⟨t,rfl⟩:=r;cases(show T="int" from ty);exact⟨typeIs_int s i t,λ_ e=>nomatch e⟩
 |ref p=>
  cases r;rcases ty with⟨rfl,xs,hq⟩|⟨rfl,o,hk,hc,hd⟩|⟨rfl,hk⟩|⟨rfl,S,n,hk⟩
  ·obtain⟨ah,_,pl,_⟩:=I.list hq;refine⟨pl.isList.typeIs,λa e=>?_⟩;obtain⟨o,n,e,c,hd,_⟩:=pl
   grind
  ·refine⟨⟨o,I.bV p o hk,hc⟩,λa e=>?_⟩;cases e;exact⟨o,I.bV _ o hk,hd⟩
  ·have z:∃o,s.heap.get? p=some o/\o.ExactDict:=by
    rcases hk with⟨kvs,hk⟩|⟨kvs,hk⟩
    ·obtain⟨_,_,_,_,o,_,_,e,ex,_⟩:=I.av p _ hk;exact⟨o,e,ex⟩
    ·obtain⟨_,_,_,_,o,_,_,e,ex,_⟩:=I.av p _ hk;exact⟨o,e,ex⟩
   obtain⟨o,e,ex⟩:=z;refine⟨⟨o,e,ex.1⟩,λa e2=>?_⟩;cases e2;exact⟨o,e,ex.2.1⟩
  ·obtain⟨o,_,_,_,e,ex,_⟩:=I.av p _ hk;refine⟨⟨o,e,ex.1⟩,λa e2=>?_⟩;cases e2;exact⟨o,e,ex.2.1⟩
 |_=>exact False.elim ty
def Gj(K:PySem.W.Frag)(T:String)(r:V->List V->Hp->VK->Prop)(to:TE):TE:=λσ H Q=>to σ H λx H1=>GR K T x H1/\r x [] H1 Q
def xv(K:PySem.W.Frag)(T:String)(r:V->List V->Hp->VK->Prop)(to:TE)(t:TA):TE:=λσ H Q=>to σ H λx H1=>GR K T x H1/\t σ H1 λxs H2=>r x xs H2 Q
variable {o e:Expr}{es:List Expr}{to:TE}{t:TA}{name:Str}{apos b_:Pos}{T id:String}{r:V->List V->Hp->VK->Prop}
theorem Zc4(pa:PlainAttrs T)(slot:Slot T name id)(GS:typeOf (.builtin id)=pure (.type "method_descriptor"))(hm:Sa X id r)(ho:PE X o to)
  (rC:attributeBase o name X.env (eval o X.env)=eval o X.env:=by rfl)(rD:(apos.endLine==b_.line)=true:=by rfl):PE X (.Call (.Attribute o name apos) [] [] b_) (Gj X.K T r to):=by
 intro pins s σ H Q I h;refine wpAny_Call_method0_late rC rD (aw (ho pins s σ H _ I h) λv s1 zq=>?_);obtain⟨x,H1,I1,r1,ty,q1⟩:=zq;obtain⟨h1,h2⟩:=OP I1 r1 ty;exact⟨T,id,pa,slot,GS,h1,h2,Calls.callWith_builtin rfl (PySem.evalArgs_none (hm pins s1 σ H1 x [] v [] Q I1 r1 .nil q1))⟩
theorem jL(pa:PlainAttrs T)(slot:Slot T name id)(GS:typeOf (.builtin id)=pure (.type "method_descriptor"))(hm:Sa X id r)(ho:PE X o to)(ha:PA X (e::es) t)
  (rC:attributeBase o name X.env (eval o X.env)=eval o X.env:=by rfl)
  (Gk:((backTo b_ (starEach (e::es) X.env)).all (λx=>!x.1)&&(backToKw b_ (keywordEach [] X.env)).all (λx=>x.1.isSome)
   &&decide ((e::es).length+([]:List Keyword).length+(if([]:List Keyword).isEmpty then 0 else 1)<30))=true:=by rfl)
  (rD:(apos.endLine==b_.line)=true:=by rfl)(hs:starEach (e::es) X.env=(false,eval e X.env)::starEach es X.env:=by rfl)(Zc5:(backTo b_ (starEach es X.env)).any (·.1)=false:=by rfl):
  PE X (.Call (.Attribute o name apos) (e::es) [] b_) (xv X.K T r to t):=by
 intro pins s σ H Q I h;refine wpAny_Call_method_late rC Gk rD rfl (aw (ho pins s σ H _ I h) λv s1 zq=>?_);obtain⟨x,H1,I1,r1,ty,q1⟩:=zq;obtain⟨h1,h2⟩:=OP I1 r1 ty;refine⟨T,id,pa,slot,GS,h1,h2,?_⟩;have hA:=ha b_ pins s1 σ H1 _ I1 q1;rw[hs] at hA⊢;exact Calls.callWith_builtin (by show(false||(backTo b_ (starEach es X.env)).any (·.1))=false;rw[Zc5]<;>rfl) (Calls.evalArgs_plain (aw hA λus s2 ⟨vs,H2,I2,r2,q2⟩=>hm pins s2 σ H2 x vs v us Q I2 r1 r2 q2))
end
def mY(X:Cx)(id:String)(r:V->List V->Hp->VK->Prop):Prop:=
 ∀(pins:List (Addr×Obj)) (s:Shared) (σ:St) (H:Hp) (x:V) (xs:List V) (v:Value) (us:List Value) (Q:VK),Inv X pins σ H s->RelV x v->Vals xs us->r x xs H Q->
  wpAny (model X.prog X.w) X.A (call (.builtin id) (v::us)) (EP X pins σ Q) X.xe s
theorem Vals.one:∀{x:V} {us:List Value},Vals [x] us->∃u,us=[u]/\RelV x u:=by
 intro x us h;cases h with
 |cons r t=>
  cases t;exact⟨_,rfl,r⟩
theorem Vals.zero:∀{us:List Value},Vals [] us->us=[]
 |_,.nil=>rfl
theorem Vals.eraseIdx:∀{xs:List V} {us:List Value} (i:Nat),Vals xs us->Vals (xs.eraseIdx i) (us.eraseIdx i)
 |_,_,_,.nil=>.nil
 |_,_,0,.cons _ t=>t
 |_,_,i+1,.cons r t=>.cons r (Vals.eraseIdx i t)
section
variable {X:Cx}{pins:List (Addr×Obj)}{σ:St}{H:Hp}{s:Shared}{l b:Addr}{xs ys zs:List V}
theorem Inv.z9{ah its':List Value}{n:Nat}{f:Array Value->Array Value}{t':Nat}(I:Inv X pins σ H s)(hH:H l=some (.lst xs))
  (e:s.heap.get? l=some {cls:=.type "list",data:=.seq ah.toArray n})(hf:f ah.toArray=its'.toArray)(hv:Vals ys its')(hz:ys.length<=sizeLine):
  Inv X pins σ (upd H l (.lst ys)) {s with heap:=s.heap.update l (Obj.mapSeq f),toks:=t'}:=by
 have q:=PySem.IsL.update e f;rw[hf] at q;refine I.write (by rw[hH];exact trivial) (.inl rfl) (λb' u hb hu=>(Y8 s.heap (Obj.mapSeq f) (Ne.symm hb)).trans hu) ⟨_,q⟩ ?_;exact⟨hz,its',_,hv,q⟩
theorem Inv.Zfo{ah:List Value}{t':Nat}(I:Inv X pins σ H s)(hv:Vals ys ah)(hz:ys.length<=sizeLine):
  Inv X pins σ (upd H s.heap.objs.size (.lst ys)) {s with heap:=s.heap.push {cls:=.type "list",data:=.seq ah.toArray},toks:=t'}:=
 I.laid (λ_ _ q=>Yb _ q) (Yd _) ⟨hz,ah,0,hv,Yt _ rfl⟩
theorem Inv.fresh(I:Inv X pins σ H s):H s.heap.objs.size=none:=I.av.fresh (Yd _)
theorem Inv.rP(I:Inv X pins σ H s)(hH:H l=some (.lst xs)):xs.length<=sizeLine/\∃(ah:List Value) (n:Nat),Vals xs ah/\xs.length=ah.length/\s.heap.get? l=some {cls:=.type "list",data:=.seq ah.toArray n}:=by
 obtain⟨z,ah,n,r,e⟩:=I.av l _ hH;exact⟨z,ah,n,r,r.length,e⟩
theorem Zag{n:Nat}(h:n<=sizeLine):Builtin.List.listTooLong n=false:=by
 exact decide_eq_false (by omega)
end
section
variable {X:Cx}
def ZbI:V->List V->Hp->VK->Prop:=λx vs H Q=>∃l xs y,x=.ref l/\vs=[y]/\H l=some (.lst xs)/\xs.length<sizeLine/\Q .ay (upd H l (.lst (xs++[y])))
theorem vS:mY X "list.append" ZbI:=by
 intro pins s σ H x vs v us Q I rx rv h;obtain⟨l,xs,y,rfl,rfl,hH,hz,q⟩:=h;cases rx;obtain⟨u,rfl,ru⟩:=rv.one;obtain⟨z,ah,n,r,hl,e⟩:=I.rP hH;refine call_meets F.slot_list_append ⟨_,e,rfl⟩ F.entry_list_append (F.args_list_append_2 _ _) (PySem.list_append l ah.toArray n u (by rw[Yu];omega)) ⟨e,?_⟩;refine⟨.ay,_,I.z9 (its':=ah++[u]) hH e (by simp) (r.append (.cons ru .nil)) ?_,rfl,q⟩
 grind
def ZbJ:V->List V->Hp->VK->Prop:=λx vs H Q=>∃l b xs zs,x=.ref l/\vs=[.ref b]/\H l=some (.lst xs)/\H b=some (.lst zs)/\xs.length+zs.length<=sizeLine/\Q .ay (upd H l (.lst (xs++zs)))
theorem Zp:mY X "list.extend" ZbJ:=by
 rintro pins s σ H x vs v us Q I rx rv ⟨l,b,xs,zs,rfl,rfl,hH,hB,hz,q⟩;cases rx;obtain⟨u,rfl,ru⟩:=rv.one;cases ru;obtain⟨z,ah,n,r,hl,e⟩:=I.rP hH;obtain⟨z2,iy,n2,r2,uN,e2⟩:=I.rP hB;have hsz:ah.toArray.size+iy.toArray.size<=sizeLine:=by rw[Yu,Yu];omega
 have Zew:¬(!ah.toArray.isEmpty&&Builtin.List.listTooLong (ah.toArray.size+iy.toArray.size))=true:=by
  rw[Zag hsz,Bool.and_false]
  grind
 refine call_meets F.slot_list_extend ⟨_,e,rfl⟩ F.entry_list_extend (F.args_list_extend_2 _ _)
  (AutoSeq1.list_extend_list_list_0 l ah.toArray n b iy.toArray n2 Zew (by rw[Yu];omega) (by omega)) ⟨e,e2,?_⟩
 refine⟨.ay,_,I.z9 hH e (by simp) (r.append r2) ?_,rfl,q⟩
 grind
def Zc6:V->List V->Hp->VK->Prop:=λx vs H Q=>∃l xs i k y,x=.ref l/\vs=[.int i]/\H l=some (.lst xs)/\-(2^63)<=i/\i<2^63/\seqIndex? i xs.length=some k/\xs[k]?=some y/\Q y (upd H l (.lst (xs.eraseIdx k)))
theorem Zah:mY X "list.pop" Zc6:=by
 rintro pins s σ H x vs v us Q I rx rv ⟨l,xs,i,k,y,rfl,rfl,hH,h1,h2,hk,hy,q⟩;cases rx;obtain⟨u,rfl,ru⟩:=rv.one;obtain⟨t,rfl⟩:=ru;obtain⟨z,ah,n,r,hl,e⟩:=I.rP hH;obtain⟨w,hw,fQ⟩:=r.get hy;refine call_meets F.slot_list_pop ⟨_,e,rfl⟩ F.entry_list_pop (F.args_list_pop_2 _ _)
  (MeetsSeq.list_pop_at l ah.toArray n i t k w (fitsIndex_both h1 h2) (by rw[Yu,←hl];exact hk) (by rw[←J1];exact hw) (by rw[Yu];omega)) ⟨e,?_⟩
 refine⟨y,_,I.z9 hH e ?_ (r.eraseIdx k) ?_,fQ,q⟩;·grind
 ·grind
def Zc7:V->List V->Hp->VK->Prop:=λx vs H Q=>∃l xs,x=.ref l/\vs=[]/\H l=some (.lst xs)/\Q .ay (upd H l (.lst []))
theorem Zai:mY X "list.clear" Zc7:=by
 rintro pins s σ H x vs v us Q I rx rv ⟨l,xs,rfl,rfl,hH,q⟩;cases rx;have hus:=rv.zero;subst hus;obtain⟨z,ah,n,r,hl,e⟩:=I.rP hH;exact call_meets F.slot_list_clear ⟨_,e,rfl⟩ F.entry_list_clear (F.args_list_clear_1 _) (AutoSeq1.list_clear_list_0 l ah.toArray n (by rw[Yu];omega)) ⟨e,⟨.ay,_,I.z9 hH e rfl .nil (Yx _),rfl,q⟩⟩
def Zfp:R2:=λx y H Q=>∃l b xs zs,x=.ref l/\y=.ref b/\H l=some (.lst xs)/\H b=some (.lst zs)/\xs.length+zs.length<=sizeLine/\∀p,H p=none->Q (.ref p) (upd H p (.lst (xs++zs)))
theorem Zc8:cB X (binaryOp .Add) Zfp:=by
 rintro pins s σ H x y v u Q I rx ry ⟨l,b,xs,zs,rfl,rfl,hH,hB,hz,q⟩;cases rx;cases ry;obtain⟨z,ah,n,r,hl,e⟩:=I.rP hH;obtain⟨z2,iy,n2,r2,uN,e2⟩:=I.rP hB;refine PySem.P.add_list e e2 ?_ (by rw[Yu,Yu];omega);have ea:ah.toArray++iy.toArray=(ah++iy).toArray:=by simp
 rw[ea];exact⟨.ref _,_,I.Zfo (r.append r2) (by rw[Yk];omega),rfl,q _ I.fresh⟩
end
section
variable {prog:Program}{w:World}{A:Around}{E:Value->Shared->Prop}{s:Shared}
set_option maxRecDepth 100000 in
end
section
variable {X:Cx}
end
end L2
namespace Sb
open PySem PySem.W PySem.Calls PyProof.Rows
theorem U3{P:Params}{h:Heap}:∀(ns:List Int) (vs:List Value),WellAll P h vs (ns.map WData.int)->IntsAre vs ns:=by
 intro ns;induction ns with
 |nil=>
  intro vs w;cases w;exact .nil
 |cons n ns ih=>
  intro vs w;cases w with
  |cons a b=>
   cases a;exact .cons _ _ (ih _ b)
theorem Zq{l:OpenLaw}{n:Nat}(hn:l.most=some n){P:Params}{h:Heap}{args:List WData}{vals:List Value}
  (z_:l.row.toRowW.claim.pre args=true)(xw:WellAll P h vals args):
  ∃a vs ns,vals=[Value.ref a]/\args=[WData.list (ns.map WData.int)]/\h.get? a=some {cls:=.type "list",data:=.seq vs.toArray}/\IntsAre vs ns/\ns.length<=n:=by
 obtain⟨d,r,rfl,h1,h2⟩:=hasAllW_cons ((pre_splitW z_).1);obtain rfl:=hasAllW_nil h2;obtain⟨xs,rfl,h3⟩:=hasW_list h1;obtain⟨ns,rfl⟩:=items_int h3;have hlen:ns.length<=n:=by
  have h4:(WTm.not (.lt (.lit (.int (n:Int))) (.len (.arg 0)))).holds [] {args:=[.list (ns.map .int)]}=true:=by
   have h4:=(holds_andW ((pre_splitW z_).2)).1;rw[hn] at h4;exact h4
  have h5:=condW_of h4 (w_not (w_lt w_lit (w_len_list (w_arg rfl))))
  grind
 cases xw with
 |cons w1 w2=>
  cases w2;cases w1 with
  |list ho Gm=>exact⟨_,_,ns,rfl,rfl,ho,U3 ns _ Gm,hlen⟩
theorem Zr(l:OpenLaw)(args:List WData):l.row.toRowW.claim.post args (.bool true) args=true:=
 postW_of (X:=(true==true))
  (show WShape.has [] (.bool true) .bool=true by first|rfl|decide|simp[WShape.has])
  (show(WTm.eq .res (.lit (.bool true))).value [] {args:=args,res:=some (.bool true),after:=args}=some (.bool (true==true)) from w_eq_bool (w_res rfl) w_lit) rfl
theorem WR{l:OpenLaw}{n:Nat}{q:Program}{loose:List Str}{XP:(Str->Option Value)->Heap->Prop}{YP:World->Heap->Prop}{d:DefRec}
  (hn:l.most=some n)(xx:d.params.defaults=[])
  (call:∀(w:World) (cQ bu:Shared) (mg mb:Str->Option Value) (fa:Addr) (o:Obj) (pm cd doc:Value) (a:Addr) (vs:List Value) (ns:List Int),
   Ground q loose [] XP w cQ mg mb bu.heap->YP w bu.heap->
   bu.heap.get? fa=some o->o.data=.func (docDef d.name d.params d.body d.scope pm cd doc)->bu.heap.CodeRec cd d.name->mg d.name=some (.ref fa)->
   bu.heap.get? a=some {cls:=.type "list",data:=.seq vs.toArray}->IntsAre vs ns->ns.length<=n->bu.gens=#[]->
   codeAny (model l.prog w) callerA (.call (.ref fa) ⟨[.ref a],[]⟩) (λr s'=>r=.ok (.ret (.bool true))/\OldK bu.heap s'.heap/\s'.os=bu.os/\AllBare s'.gens) bu):
  WalkO q loose XP YP l.row.toRowW d [] (λf vs=>PySem.call f vs):=by
 intro w cQ bu mg mb G Y fa o pm cd doc dV kV ho hd eV hD xy hg args vals as z_ Zhs hrd xw hlo;obtain rfl:dV=.none:=Dflts.none hD xx;obtain rfl:kV=.none:=Dflts.noKw hD;obtain⟨a,vs,ns,rfl,rfl,Gn,hints,hlen⟩:=Zq hn z_ xw;refine enter_call (codeAny_mono (call w cQ bu mg mb fa o pm cd doc a vs ns G Y ho (fd_plain hd) eV xy Gn hints hlen hg) λr s' hq=>?_);obtain⟨rfl,h2,h3,h4⟩:=hq;exact⟨.inl ⟨.bool true,.bool true,[],rfl,λ_=>rfl,.bool true,Zr l _,λ_=>⟨List.Pairwise.nil,λ_ hm=>(nomatch hm)⟩⟩,h2,h3,h4⟩
section
variable {prog:Program}{w:World}{A:Around}{E:Value->Shared->Prop}{s:Shared}{K:Frag}
end
end Sb
namespace L2
open PySem PySem.Spec PyProof.Rows
theorem K7:∀{vs:List Value} {ns:List Int},IntsAre vs ns->Vals (ns.map V.int) vs:=by
 intro vs ns h;induction h with
 |nil=>exact .nil
 |cons n t h ih=>exact .cons ⟨t,rfl⟩ ih
def Gp(H:Hp):Prop:=∀b,H b=none\/∃o xs,H b=some (.cv o (.lst xs))
theorem Zaj{P:Program}{w:World}{K:PySem.W.Frag}{mg mb:Str->Option Value}{CX:jR}{k:Nat}{fa a:Addr}{fd:FuncData}{x:Str}{sp:Sp}{bu:Shared}{vs:List Value}{ns:List Int}
  (KX:K.In bu.heap)(Se:bu.heap.Ns mainGlobals mg)(hb:bu.heap.Ns builtinsNs mb)(hbb:∀x:Str,x≠"__name__"->mb x=bootBuiltins x)(Zfq:bu.heap.NoLimit)(hg:bu.gens=#[])
  (ha:bu.heap.get? a=some {cls:=.type "list",data:=.seq vs.toArray})(hi:IntsAre vs ns)(hl:ns.length<=sizeLine)(hr:cA k callerA)
  (F:∀base:Heap,K.In base->base.Ns mainGlobals mg->aE P w K mg base CX k fa fd [x] sp)(Zex:∀(s:Shared) (u:Value),BindsTo s fd ⟨[u],[]⟩ [(x,u)])
  (kM:∀H:Hp,Gp H->ak K H a (ns.map V.int)->sp [.ref a] H (λv _=>v=.bl true) λ_ _ _=>False)
  (GU:∀H e s',CX [] H bu (λ_ _ _=>False) e s'->False):
  codeAny (model P w) callerA (.call (.ref fa) ⟨[.ref a],[]⟩) (λr s'=>r=.ok (.ret (.bool true))/\OldK bu.heap s'.heap/\s'.os=bu.os/\AllBare s'.gens) bu:=by
 have rv:=K7 hi;have Zfr:=hi.length
 --from an abstract heap in Zhl nothing but ot Oy may be tracked
 have core:∀H:Hp,Gp H->ak K H a (ns.map V.int)->cY P w H bu.heap->(∀b,H b≠none->b=a)->(H a≠none->K.lookup a=none)->
   codeAny (model P w) callerA (.call (.ref fa) ⟨[.ref a],[]⟩) (λr s'=>r=.ok (.ret (.bool true))/\OldK bu.heap s'.heap/\s'.os=bu.os/\AllBare s'.gens) bu:=by
  intro H hO hS av hA hK;have Ng:∀{b:Addr} {o:Obj},bu.heap.get? b=some o->H b=none->(oi bu.heap H).get? b=some o:=λe n=>Z8 e n;have jS:∀{b:Addr} {o:Obj} {es:Array DictEntry} {ep:Nat},bu.heap.get? b=some o->o.data=.dict es ep->H b=none:=λ{b o es ep} e d=>by
   cases q:H b with
   |none=>rfl
   |some u=>
    have e':b=a:=hA b (by rw[q];simp);subst e';rw[ha] at e;cases e;have d':Data.seq vs.toArray _=Data.dict es ep:=d;cases d'
  have Az:∀{b:Addr} {m:Str->Option Value},bu.heap.Ns b m->(oi bu.heap H).Ns b m:=λ{b m} ⟨o,es,ep,e,d,r⟩=>⟨o,es,ep,Ng e (jS e d),d,r⟩;have Sf:K.In (oi bu.heap H):=λb o e=>Ng (KX b o e) (by
   cases q:H b with
   |none=>rfl
   |some u=>
    have e':b=a:=hA b (by rw[q];simp);subst e';rw[hK (by rw[q];simp)] at e;cases e)
  have hM:Mod K mg (oi bu.heap H):=⟨Sf,Az Se,⟨mb,Az hb,hbb⟩,let⟨mc,h1,h2⟩:=Zfq;⟨mc,Az h1,h2⟩⟩;have e0:rO P w K mg (oi bu.heap H) callerA [] bu H:=⟨rfl,hM,λb o e=>Zbx e,GO (Zh _ _),trivial,λb hb=>absurd (show b∈([]:List Addr) from hb) (by simp),av,.of_eq hg⟩;refine codeAny_mono ((F _ Sf (Az Se)).run callerA [] bu H ⟨[.ref a],[]⟩ [.ref a] [.ref a] _ _ hr e0 (Zex bu (.ref a)) (.cons rfl .nil) (kM H hO hS)) λr s' h=>?_;cases r with
  |error e=>exact(GU H e s' h).elim
  |ok fl=>
   cases fl with
   |next=>exact False.elim h
   |brk=>exact False.elim h
   |cont=>exact False.elim h
   |ret u=>
    obtain⟨v,H',os,bare,un,Gq,r',q⟩:=h;have q':v=.bl true:=q;subst q';obtain rfl:u=Value.bool true:=r';refine⟨rfl,OldK.of_keep λb o e=>?_,os,bare⟩;cases q:H b with
    |none=>exact un.keep b o e q (by intro z;exact absurd (show b∈([]:List Addr) from z) (by simp)) (by simp)
    |some u=>
     rcases hO b with z|⟨ob,xs,z⟩;·rw[q] at z;cases z
     ·have z2:=un.gT b ob _ z;obtain⟨e1,_⟩:=av b _ z;obtain⟨e2,_⟩:=Gq b _ z2;rw[e] at e1;cases e1;exact e2
 cases hk:K.lookup a with
 |some o=>
  --ot Oy is one of ot Zhd own objects
  have e:=KX a o hk;rw[ha] at e;cases e;refine core (λ_=>none) (λ_=>.inl rfl) (.inr ⟨_,vs.toArray,_,hk,rfl,rfl,rfl,by rw[Yu,Zfr];exact hl,by simpa using rv⟩) (λb u z=>by have z':(none:Option HO)=some u:=z;cases z') (λb z=>absurd rfl z) λz=>absurd rfl z
 |none=>
  refine core (λb=>if b=a then some (.cv {cls:=.type "list",data:=.seq vs.toArray} (.lst (ns.map V.int))) else none) (λb=>?_) (.inl (.inr ⟨{cls:=.type "list",data:=.seq vs.toArray},if_pos rfl⟩)) (λb u z=>?_) (λb z=>?_) λ_=>hk
  ·by_cases hb:b=a;·exact .inr ⟨_,_,if_pos hb⟩
   ·exact .inl (if_neg hb)
  ·by_cases hb:b=a
   ·have z':=(if_pos hb).symm.trans z;cases z';subst hb;exact⟨ha,by rw[Ya];exact hl,vs,_,rv,ha⟩
   ·have z':=(if_neg hb).symm.trans z;cases z'
  ·by_cases hb:b=a;·exact hb
   ·exact absurd (if_neg hb) z
theorem ZbK{l:PySem.W.OpenLaw}{n k:Nat}{q:Program}{loose:List Str}{XP:(Str->Option Value)->Heap->Prop}{YP:World->Heap->Prop}{d:DefRec}{K:Params->PySem.W.Frag}{CX:World->jR}{sp:World->Sp}{x:Str}
  (hn:l.most=some n)(gv:n<=sizeLine)(xx:d.params.defaults=[])(hr:cA k callerA)
  (hY:∀(w:World) (h:Heap),YP w h->(K w.params).In h)
  (F:∀(w:World) (mg:Str->Option Value) (fa:Addr) (h:Heap),(K w.params).In h->h.Ns mainGlobals mg->mg d.name=some (.ref fa)->
   ∃fd:FuncData,(∀(s:Shared) (u:Value),BindsTo s fd ⟨[u],[]⟩ [(x,u)])/\
    ∀base:Heap,(K w.params).In base->base.Ns mainGlobals mg->aE l.prog w (K w.params) mg base (CX w) k fa fd [x] (sp w))
  (kM:∀(w:World) (H:Hp) (a:Addr) (ns:List Int),ns.length<=n->Gp H->ak (K w.params) H a (ns.map V.int)->sp w [.ref a] H (λv _=>v=.bl true) λ_ _ _=>False)
  (GU:∀(w:World) (H:Hp) (s:Shared) (e:Value) (s':Shared),CX w [] H s (λ_ _ _=>False) e s'->False):
  PySem.W.WalkO q loose XP YP l.row.toRowW d [] (λf vs=>PySem.call f vs):=by
 refine Sb.WR hn xx λw cQ bu mg mb fa o pm cd doc a vs ns G Y ho hd eV xy Gn hints hlen hg=>?_;have KX:=hY w _ Y;obtain⟨fd,hb,hF⟩:=F w mg fa _ KX G.T.g xy;exact Zaj KX G.T.g G.T.b G.T.builtins G.T.nolimit hg Gn hints (Y0 hlen gv) hr hF hb (λH hO hS=>kM w H a ns hlen hO hS) λH e s'=>GU w H bu e s'
def inClass(s:Stmt)(j:Nat):Stmt:=match s with
 |.ClassDef _ _ _ body _ _ _ _ _ _ _=>body.getD j (.Pass ⟨0,0,0,0⟩)
 |_=>.Pass ⟨0,0,0,0⟩
def kF(s:Stmt):Arguments:=match s with
 |.FunctionDef _ a _ _ _ _ _ _ _ _=>a
 |_=>{posonlyargs:=[],args:=[],vararg:=none,kwonlyargs:=[],kw_defaults:=[],kwarg:=none,defaults:=[]}
def ie(s:Stmt):List Stmt:=match s with
 |.FunctionDef _ _ b _ _ _ _ _ _ _=>b
 |_=>[]
def aG(s:Stmt):Scope:=match s with
 |.FunctionDef _ _ _ _ _ _ sc _ _ _=>sc
 |_=>{kind:=.function,names:=[],isGenerator:=false,isCoroutine:=false}
abbrev aL:jR:=λ_ _ _ _ _ _=>False
abbrev E0:XK:=λ_ _ _=>False
theorem wD{X:Cx}:Passes aL X E0:=λ_ _ _ _ _ _ _ h=>h.elim
structure aM(K:PySem.W.Frag)(x qual:Str)(st:Stmt)(f:Addr)(fd:FuncData):Prop where
 ex:∃(oc:Value) (od:Option Addr) (kV doc pm:Value) (an:Option Addr) (aA ct:Value) (iD:Array (Option Value)),
  fd=fnOf x qual (kF st) (ie st) (aG st) .none kV doc pm an aA ct/\K.lookup f=some ⟨oc,od,.func fd,iD⟩/\codeIn K aA qual=true
 kp:keepIn K (.ref f)=true
section
variable {P:Program}{w:World}{K:PySem.W.Frag}{mg:Str->Option Value}{base:Heap}
theorem aM.ok{x qual:Str}{st:Stmt}{f:Addr}{fd:FuncData}{N ps:List Str}{k:Nat}{sp:Sp}(F:aM K x qual st f fd)(S:aP N ps (aG st))(len:∀vs H Q E,sp vs H Q E->vs.length=ps.length)
  (nW:∀(aA:Value) (A:Around) (outer:List Env) (s:Shared) (H:Hp) (vs:List V) (Q:VK) (E:XK),cA k (A.deeper (envOfC qual (aG st) s.heap.objs.size f aA))->sp vs H Q E->
   ∃t,eU (jO aL P w K mg base N qual (aG st) f aA A outer s H E).mV (ie st) t/\t {nx:=λ_ H'=>Q .ay H',rt:=Q} (start N vs) H):aE P w K mg base aL (k+1) f fd ps sp:=by
 obtain⟨oc,od,kV,doc,pm,an,aA,ct,iD,rfl,lk,eV⟩:=F.ex;refine FT lk eV S len λA outer s H vs Q E hr kM=>?_;obtain⟨t,h,q⟩:=nW aA A outer s H vs Q E hr kM;exact⟨t,h.mV,q⟩
theorem aM.binds{x qual:Str}{st:Stmt}{f:Addr}{fd:FuncData}{ps:List Str}(F:aM K x qual st f fd)
  (h:∀(kV doc pm:Value) (an:Option Addr) (aA ct:Value) (us:List Value),us.length=ps.length->bindArgs (fnOf x qual (kF st) (ie st) (aG st) .none kV doc pm an aA ct) ⟨us,[]⟩=pure (ps.zip us)):Binds K fd ps []:=by
 obtain⟨oc,od,kV,doc,pm,an,aA,ct,iD,rfl,lk,eV⟩:=F.ex;exact .all (h kV doc pm an aA ct)
theorem wj{x qual:Str}{st:Stmt}{f:Addr}{oc:Value}{od an:Option Addr}{iD:Array (Option Value)}{kV doc pm aA ct:Value}(l:K.lookup f=some ⟨oc,od,.func (fnOf x qual (kF st) (ie st) (aG st) .none kV doc pm an aA ct),iD⟩)
  (c:codeIn K aA qual=true)(k:keepIn K (.ref f)=true):aM K x qual st f (fnOf x qual (kF st) (ie st) (aG st) .none kV doc pm an aA ct):=⟨⟨oc,od,kV,doc,pm,an,aA,ct,iD,rfl,l,c⟩,k⟩
end
theorem bj{A:Around}{k:Nat}(hr:cA k A):A.units+1<cLine:=W9 (Nat.add_le_add_left (by decide:1<=64) _) hr.units
theorem jF{n:Nat}(h:n<=1000):n<sizeLine:=W9 h (by decide)
section
variable {X:Cx}
theorem pv(i:Nat){x:Str}{pos:Pos}(hN:X.N[i]?=some x:=by rfl)(hv:rX X.env.scope x:=by first|exact Or.inl rfl|exact Or.inr (Or.inl rfl)|exact Or.inr (Or.inr rfl))(hd:(x==("__debug__":Str))=false:=by decide)
  (eV:(x==("__classdict__":Str))=false:=by decide):PE X (.Name x pos) (fD i):=ZcT hN hv hd eV
end
theorem bO{A B:Prop}(h:B):if false=true then A else B:=by
 grind
theorem c5{A B:Prop}(h:A):if true=true then A else B:=by
 grind
theorem bB{c A B:Prop}[Decidable c](h1:c->A)(h2:¬c->B):if c then A else B:=by
 grind
theorem uo{c A B:Prop}[Decidable c](hc:c)(h:B):if(!decide c)=true then A else B:=by
 grind
def ai(H H':Hp):Prop:=∀b o,H b=some o->H' b=some o
theorem ai.refl(H:Hp):ai H H:=λ_ _ h=>h
theorem ai.trans{H H1 H2:Hp}(a:ai H H1)(b:ai H1 H2):ai H H2:=λc o h=>b c o (a c o h)
theorem ai.free{H H':Hp}(e:ai H H'){l:Addr}(h:H' l=Option.none):H l=Option.none:=by
 cases q:H l with
 |none=>rfl
 |some o=>
  rw[e l o q] at h;cases h
theorem ai.seq{K:PySem.W.Frag}{H H':Hp}{a:Addr}{xs:List V}(e:ai H H')(h:ak K H a xs):ak K H' a xs:=by
 rcases h with(h|⟨o,h⟩)|h;·exact .inl (.inl (e _ _ h))
 ·exact .inl (.inr ⟨o,e _ _ h⟩)
 ·exact .inr h
def pI(cells:List (Str×Addr)):List (Str×Addr)->Prop
 |[]=>True
 |p::r=>cells.lookup p.1=some p.2/\pI cells r
theorem pI.look:∀{cl:List (Str×Addr)},pI cells cl->∀(x:Str) (c:Addr),cl.lookup x=some c->cells.lookup x=some c
 |[],_,x,c,h=>by simp at h
 |(n,a)::r,hh,x,c,h=>by
  rw[Wz] at h;cases e:x==n with
  |true=>
   rw[e] at h;rw[(eq_of_beq e),←(Yr h)];exact hh.1
  |false=>
   rw[e] at h;exact pI.look hh.2 x c h
theorem CN{env:Env}:∀{names:List (Str×NameKind)} {x:Str} {k:NameKind},
  (names.map λ(n,k)=>if(k==NameKind.free&&env.scope.kind==.function&&env.kindOf n==some .cell) then(n,NameKind.cell) else(n,k)).lookup x=some k->
  ∃k0,(x,k0)∈names/\(k=k0\/k0=.free)
 |[],_,_,h=>by simp at h
 |(n,k0)::r,x,k,h=>by
  have h:List.lookup x ((if(k0==NameKind.free&&env.scope.kind==.function&&env.kindOf n==some .cell)=true then(n,NameKind.cell) else(n,k0))::(r.map λ(n,k)=>if(k==NameKind.free&&env.scope.kind==.function&&env.kindOf n==some .cell) then(n,NameKind.cell) else(n,k)))=some k:=h;by_cases hc:(k0==NameKind.free&&env.scope.kind==.function&&env.kindOf n==some .cell)=true
  ·rw[if_pos hc,Wz] at h;cases e:x==n with
   |true=>grind
   |false=>
    rw[e] at h;obtain⟨k1,m,q⟩:=CN h
    grind
  ·rw[if_neg hc,Wz] at h;cases e:x==n with
   |true=>grind
   |false=>
    rw[e] at h;obtain⟨k1,m,q⟩:=CN h
    grind
structure OQ(X:Cx)(scope:Scope)(cl:List (Str×Addr))(y:Str)(j:Nat):Prop where
 ix:X.N[j]?=some y
 out:X.env.kindOf y=some .cell\/X.env.kindOf y=some .free
 r8:(relabel scope X.env).names.lookup y=some .cell\/(relabel scope X.env).names.lookup y=some .free
 cl:(cl.lookup y).isSome=true
def pJ(X:Cx)(scope:Scope)(cl:List (Str×Addr)):List (Str×Nat)->Prop
 |[]=>True
 |p::r=>OQ X scope cl p.1 p.2/\pJ X scope cl r
theorem pJ.get:∀{fr:List (Str×Nat)} {k:Nat} {p:Str×Nat},pJ X scope cl fr->fr[k]?=some p->OQ X scope cl p.1 p.2
 |[],k,p,_,h=>by simp at h
 |q::r,0,p,hh,h=>by
  have e:q=p:=by simpa using h
  rw[←e];exact hh.1
 |q::r,k+1,p,hh,h=>pJ.get hh.2 (by simpa using h)
structure yM(X:Cx)(scope:Scope)(cl:List (Str×Addr))(x:Str)(fr:List (Str×Nat)):Prop where
 wR:closureFor scope X.env=pure cl
 sub:pI X.env.cells cl
 kind:scope.kind=.function
 names:∀y∈scope.names,y.2=.local->scope.names.lookup y.1=some .local
 lx:scope.names.lookup x=some .local
 zR:∀y∈scope.names,y.2≠.cell
 has:(scope.names.all λy=>!(y.2==.free)||(cl.lookup y.1).isSome)=true
 cK:pJ X scope cl fr
 nd:(x::fr.map (·.1)).Nodup
def gk(σ:St)(fr:List (Str×Nat)):St:=fr.map λp=>(σ[p.2]?).join
structure oZ(X:Cx)(scope:Scope)(cl:List (Str×Addr))(xs:List Str)(fr:List (Str×Nat)):Prop where
 wR:closureFor scope X.env=pure cl
 sub:pI X.env.cells cl
 kind:scope.kind=.function
 names:∀y∈scope.names,y.2=.local->scope.names.lookup y.1=some .local
 zR:∀y∈scope.names,y.2≠.cell
 has:(scope.names.all λy=>!(y.2==.free)||(cl.lookup y.1).isSome)=true
 cK:pJ X scope cl fr
 nd:(xs++fr.map (·.1)).Nodup
def cO(X:Cx)(xs:List Str)(fr:List (Str×Nat))(scope:Scope)(cl:List (Str×Addr))(C:Addr)(s:Shared)(H:Hp)(fp:List Addr):Cx where
 prog:=X.prog
 w:=X.w
 K:=X.K
 mg:=X.mg
 base:=X.base
 A:=X.A
 N:=xs++fr.map (·.1)
 cQ:=s
 kK:=H
 env:=compEnvC scope cl C X.env
 outer:=X.stack
 stack:=X.stack
 ex:=fp
 fn:=λ_=>false
 calm:=X.calm
 pn:=[]
 xe:=λ_ _=>False
section
variable {X:Cx}{scope:Scope}{cl:List (Str×Addr)}{xs:List Str}{fr:List (Str×Nat)}{pins:List (Addr×Obj)}{σ:St}{H:Hp}{s:Shared}
theorem Zs(S:oZ X scope cl xs fr)(I:Inv X pins σ H s)(hC:C=s.heap.objs.size)(hf:∀b∈fp,iu X pins H b)(bL:∀b∈fp,b<s.heap.objs.size)
  (old:∀b o,s.heap.get? b=some o->gu.get? b=some o)(hn:gu.Ns C m):Inv (cO X xs fr scope cl C s H fp) [] (List.replicate xs.length none++gk σ fr) H {s with heap:=gu,toks:=tk}:=by
 have look:=S.sub.look;refine⟨⟨I.ok.mod,S.kind,I.ok.glob,I.ok.blt,by show s.heap.objs.size<=C;rw[hC];exact Yd _,λy z c h1 h2=>I.ok.inj y z c (look y c h1) (look z c h2),λy hy=>?_,λy c h=>?_,I.ok.hd,I.ok.frames,.inl rfl,λb hb=>⟨?_,λy c h=>?_⟩,
   I.bs,Y0 I.ok.lQ I.sz,λb o e hb=>?_,λb hb hb2=>?_,I.stack,I.za⟩,
  rfl,I.bare,Un.kept old,⟨m,hn,λi y v h1 h2 h3=>?_⟩,λy c h=>?_,?_,λy c h=>I.gQ y c (look y c h),λp hp=>absurd (show p∈([]:List (Addr×Obj)) from hp) (by simp),I.av.kept old,?_⟩
 ·have hy:(relabel scope X.env).names.lookup y=some .cell\/(relabel scope X.env).names.lookup y=some .free:=hy;have fin:∀{k:NameKind},(relabel scope X.env).names.lookup y=some k->(k=.cell\/k=.free)->∃c,cl.lookup y=some c:=λ{k} e hk=>by
   obtain⟨k0,hm,q⟩:=CN (env:=X.env) e;have hk0:k0=.free:=by
    rcases q with q|q
    ·rcases hk with z|z;·exact absurd (q.symm.trans z) (S.zR _ hm)
     ·exact q.symm.trans z
    ·exact q
   have hq:=Wm.mp S.has _ hm;rw[hk0] at hq;exact Jb.mp (by simpa using hq)
  rcases hy with e|e;·exact fin e (.inl rfl)
  ·exact fin e (.inr rfl)
 ·exact absurd (show false=true from h) Yh
 ·show b≠C;exact λz=>absurd (bL b hb) (by rw[show b=C from z,hC];exact Wa _)
 ·exact(hf b hb).2.2.2.2.1 y c (look y c h)
 ·obtain⟨_,_,_,z,_⟩:=hf b hb;rcases z with z|z;·exact I.ok.rK b o e z
  ·have h1:=Yp e;have h2:=I.ok.lQ;exact absurd (Y1 h1 (Y0 h2 z)) (Wa _)
 ·have z:=I.Fe b hb2;rcases Yo.mp z with z|z;·exact(hf b hb).2.1 z
  ·exact(hf b hb).2.2.1 z
 ·by_cases hi:i<xs.length;·grind
  ·have h1:(xs++fr.map (·.1))[i]?=some y:=h1;rw[Jo (Nat.le_of_not_lt hi)] at h1;rw[Jo (by rw[Wy];exact Nat.le_of_not_lt hi),Wy] at h2;generalize i-xs.length=k at h1 h2;have h2:(fr.map λp=>(σ[p.2]?).join)[k]?=some (some v):=h2;rw[Yg] at h1 h2;cases e:fr[k]? with
   |none=>rw[e] at h1;cases h1
   |some p=>
    rw[e] at h1 h2;have e1:p.1=y:=Yr h1;have e2:(σ[p.2]?).join=some v:=Yr h2;have F:=S.cK.get e;rw[e1] at F;have e3:σ[p.2]?=some (some v):=by
     cases q:σ[p.2]? with
     |none=>rw[q] at e2;cases e2
     |some o=>grind
    obtain⟨m0,_,hl⟩:=I.loc;have GN:rX X.env.scope y:=by
     rcases F.out with z|z;·exact .inr (.inl z)
     ·exact .inr (.inr z)
    obtain⟨u,r,l⟩:=hl p.2 y v F.ix e3 GN;refine⟨u,r,.inr ⟨F.r8,?_⟩⟩;obtain⟨c,hc⟩:=Jb.mp F.cl;refine⟨c,hc,?_⟩;rcases l with⟨k1,_⟩|⟨_,c',e',z⟩
    ·rcases F.out with q|q;·rw[q] at k1;cases k1
     ·rw[q] at k1;cases k1
    ·have e4:=look y c hc;rw[e'] at e4;cases e4;obtain⟨o,ho,hd⟩:=z;exact⟨o,old _ _ ho,hd⟩
 ·obtain⟨v,o,ho,hd⟩:=I.cell y c (look y c h);exact⟨v,o,old _ _ ho,hd⟩
 ·show H C=none;rw[hC];exact I.av.fresh (Yd _)
 ·show(List.replicate xs.length none++gk σ fr).length=(xs++fr.map (·.1)).length;simp[gk]
end
abbrev zD(X:Cx)(x:Str)(fr:List (Str×Nat))(scope:Scope)(cl:List (Str×Addr))(C:Addr)(s:Shared)(H:Hp)(fp:List Addr):Cx:=cO X [x] fr scope cl C s H fp
section
variable {prog:Program}{w:World}{A:Around}{R:Result->Shared->Prop}{s:Shared}
theorem UD(I:Nat->Shared->Prop)
  (turn:∀n s,I n s->wpAny (model prog w) A (pyNext it) (λr bu=>match r with
   |none=>R (.ok .next) bu
   |some v=>wpAny (model prog w) A (letOwnedTupleGo target it v) (λ_ cQ=>wpAny (model prog w) A (assign target env v) (λ_ dY=>
     wpAny (model prog w) A (forIn ifs true λc r=>if r=true then do let ok←isTrue c env (eval c env);pure (ForInStep.yield ok) else pure (ForInStep.yield r)) (λok dN=>
      if ok=true then wpAny (model prog w) A (eval elt env) (λx iz=>
       wpAny (model prog w) A (call (.builtin "list.append") [acc,x]) (λ_ lJ=>∃m,m<n/\I m lJ) (notedBy (model prog w) A env λe s'=>R (.error e) s') iz) (notedBy (model prog w) A env λe s'=>R (.error e) s') dN
      else ∃m,m<n/\I m dN) (notedBy (model prog w) A env λe s'=>R (.error e) s') dY) (notedBy (model prog w) A env λe s'=>R (.error e) s') cQ) (notedBy (model prog w) A env λe s'=>R (.error e) s') bu) (notedBy (model prog w) A env λe s'=>R (.error e) s') s)
  (n:Nat)(h:I n s):codeAny (model prog w) A (.compLoop (.ListComp elt [⟨target,iter,ifs,0⟩] scope pos) 0 it acc env) R s:=by
 refine codeAny_loop rfl I (λn s hI=>wpAny_noted (wpAny_bind (wpAny_standAt (wpAny_bind (wpAny_mono (turn n s hI) (λr bu gu=>?_) λ_ _ h'=>h'))))) n h;cases r with
 |none=>exact wpAny_pure gu
 |some v=>
  refine wpAny_bind (wpAny_mono gu (λ_ cQ h₀=>wpAny_bind (wpAny_mono h₀ (λ_ dY oo=>wpAny_bind (wpAny_mono oo (λok dN uy=>?_) λ_ _ h'=>h')) λ_ _ h'=>h')) λ_ _ h'=>h');cases ok with
  |false=>exact wpAny_pure ⟨rfl,uy⟩
  |true=>
   exact wpAny_bind (wpAny_bind (wpAny_mono uy (λx iz wU=>wpAny_bind (wpAny_mono wU (λ_ lJ wV=>wpAny_pure (wpAny_pure ⟨rfl,wV⟩)) λ_ _ h'=>h')) λ_ _ h'=>h'))
end
def uO(X:Cx)(ifs:List Expr)(t:TT):Prop:=
 ∀(pins:List (Addr×Obj)) (s:Shared) (σ:St) (H:Hp) (Q:Bool->Hp->Prop),Inv X pins σ H s->t σ H Q->
  wpAny (model X.prog X.w) X.A (forIn ifs true λc r=>if r=true then do let ok←isTrue c X.env (eval c X.env);pure (ForInStep.yield ok) else pure (ForInStep.yield r)) (TP X pins σ Q) X.xe s
def Aa:TT:=λ_ H Q=>Q true H
theorem mw:uO X [] Aa:=λ_ _ _ H _ I h=>wpAny_tests_nil ⟨H,I,h⟩
theorem vZ(h:PT X c t):uO X [c] t:=λpins s σ H Q I hw=>wpAny_tests_one (h pins s σ H Q I hw)
def Fh(n:Nat)(J:It)(tg:TG)(tt:TT)(te:TE)(fv:St)(D:Addr)(H:Hp)(Q:VK):Prop:=
 ∃W:Nat->Nat->List V->Hp->Prop,(∃m,W 0 m [] (upd H D (.lst [])))/\∀i m ys H,W i m ys H->
  (J.stop i H/\Q (.ref D) H)\/(J.go i H/\∃N:List V->Hp->Prop,(∀gD H',N gD H'->∃m',m'<m/\W (i+1) m' gD H')/\
   ∀v H',J.qg i H v H'->∀os:St,os.length=n->tg v (os++fv) H' λdq H2=>(∃jT:St,jT.length=n/\dq=jT++fv)/\tt dq H2 λc H1=>if c=true then te dq H1 λy H3=>H3 D=some (.lst ys)/\ys.length<sizeLine/\N (ys++[y]) (upd H3 D (.lst (ys++[y]))) else N ys H1)
section
variable {X:Cx}{elt iter tgt:Expr}{xs:List Str}{pos:Pos}{ifs:List Expr}{scope:Scope}{cl:List (Str×Addr)}{fr:List (Str×Nat)}{tg:TG}{tt:TT}{te:TE}{pins:List (Addr×Obj)}{σ:St}
theorem LW{H2:Hp}{s2:Shared}{it:Addr}{fp:List Addr}{tn:Nat->Heap->Prop}{J:It}{Q:VK}{RR:Value->Addr->Result->Shared->Prop}{E:Value->Shared->Prop}{rest:List Comprehension}(S:oZ X scope cl xs fr)
  (I2:Inv X pins σ H2 s2)(T:Turn X.prog X.w X.K tgt J fp it tn)(c_:tn 0 s2.heap)(f2:∀b∈fp,iu X pins H2 b)
  (hR:∀D C s1 H1 m,Inv X pins σ H1 s1->s1.heap.Ns C m->H1 C=none->C≠X.env.locals->X.cQ.heap.objs.size<=C->(∀y c,X.env.cells.lookup y=some c->c≠C)->(∀p∈X.pn++pins,p.1≠C)->Q (.ref D) H1->RR (.ref D) C (.ok .next) s1)
  (hl:∀(D C:Addr) (s:Shared) (H3:Hp) (dN:Shared),H2 D=none->H3=upd H2 D (.lst [])->Inv (cO X xs fr scope cl C s H3 fp) [] (List.replicate xs.length none++gk σ fr) H3 dN->tn 0 dN.heap->(∀b∈fp,H3 b=none)->
   (∀s6 Av H5,Inv (cO X xs fr scope cl C s H3 fp) [] Av H5 s6->Q (.ref D) H5->RR (.ref D) C (.ok .next) s6)->
   codeAny (model X.prog X.w) X.A (.compLoop (.ListComp elt (⟨tgt,iter,ifs,0⟩::rest) scope pos) 0 (.ref it) (.ref D) (compEnvC scope cl C X.env)) (RR (.ref D) C) dN):
  wpAny (model X.prog X.w) X.A (newList []) (λacc dN=>wpAny (model X.prog X.w) X.A (newFunctionEnv scope X.env.globals cl [] X.env.qual none .none (some X.env)) (λlK iz=>
   codeAny (model X.prog X.w) X.A (.compStart (.ListComp elt (⟨tgt,iter,ifs,0⟩::rest) scope pos) 0 (.ref it) acc {lK with scope:=relabel scope X.env}) (RR acc lK.locals) iz) E dN) E s2:=by
 refine wpAny_newObj_type (wpAny_newFunctionEnv S.zR (by intro y hy;simp at hy) (λgu Fi Fj=>?_) S.kind);dsimp only at Fi Fj⊢;have I3:Inv X pins σ (upd H2 s2.heap.objs.size (.lst [])) {s2 with heap:=s2.heap.push {cls:=.type "list",dict:=none,data:=.seq ([]:List Value).toArray}}:=
  I2.laid (t':=s2.toks) (λb u e=>Yb _ e) (Yd _) ⟨Yx _,[],0,.nil,Yt _ rfl⟩
 have hDn:H2 s2.heap.objs.size=none:=I2.av.fresh (Yd _);have Q7:∀b∈fp,b<s2.heap.objs.size:=λb hb=>by
  obtain⟨o,e,_⟩:=T.obj _ _ c_ b hb;exact Yp e
 generalize Sg:s2.heap.push {cls:=.type "list",dict:=none,data:=.seq ([]:List Value).toArray}=G2 at Fi Fj I3⊢;have hC:G2.objs.size=s2.heap.objs.size+1:=by rw[←Sg,Jr]
 have old:∀b o,G2.get? b=some o->gu.get? b=some o:=λb o e=>Fj.extBut b o (Yy (Yp e)) (Yb _ e);have f3:∀b∈fp,iu X pins (upd H2 s2.heap.objs.size (.lst [])) b:=λb hb=>by
  have:=Q7 b hb;exact⟨by rw[aJ (Yy this)];exact(f2 b hb).1,(f2 b hb).2⟩
 have lt3:∀b∈fp,b<G2.objs.size:=λb hb=>by
  rw[hC];exact Wt (Q7 b hb)
 have uP:tn 0 gu:=T.keep _ _ _ c_ λb hb o e=>old b o ((λb o e=>Sg▸Yb _ e) b o e);have I4:Inv (cO X xs fr scope cl G2.objs.size {s2 with heap:=G2} (upd H2 s2.heap.objs.size (.lst [])) fp) [] (List.replicate xs.length none++gk σ fr) (upd H2 s2.heap.objs.size (.lst [])) {s2 with heap:=gu,toks:=s2.toks+([]:List (Str×Value)).length}:=
  Zs (tk:=s2.toks+([]:List (Str×Value)).length) S I3 rfl f3 lt3 old Fi
 have loop:=hl s2.heap.objs.size G2.objs.size {s2 with heap:=G2} _ {s2 with heap:=gu,toks:=s2.toks+([]:List (Str×Value)).length} hDn rfl I4 uP (λb hb=>(f3 b hb).1) λs6 Av H5 I6 qn=>by
   obtain⟨m,hnC,_⟩:=I6.loc;have I7:Inv X pins σ H5 s6:=I3.FO (ch:=fp) I6.os I6.base I6.av I6.bare λb hb=>⟨(f2 b hb).2.2.2.1,(f2 b hb).2.1,(f2 b hb).2.2.2.2.1,(f2 b hb).2.2.2.2.2⟩;refine hR _ _ s6 H5 m I7 hnC I6.free ?_ ?_ (λy c e z=>?_) (λp hp z=>?_) qn;·exact Jd I3.lt
   ·exact I3.sz
   ·obtain⟨v,q⟩:=I3.cell y c e;exact absurd q.lt (by rw[z];exact Wa _)
   ·exact absurd (Yp (I3.pin p hp).1) (by rw[z];exact Wa _)
 exact codeAny_compStart_list loop (T.self _ 0 _ _ _ uP loop)
theorem Kn{H2:Hp}{s2:Shared}{it:Addr}{fp:List Addr}{tn:Nat->Heap->Prop}{J:It}{Q:VK}{RR:Value->Addr->Result->Shared->Prop}{E:Value->Shared->Prop}
  (hc:X.calm=true)(S:oZ X scope cl xs fr)(hg:∀C s H fp,PG (cO X xs fr scope cl C s H fp) tgt tg)
  (ht:∀C s H fp,uO (cO X xs fr scope cl C s H fp) ifs tt)(he:∀C s H fp,PE (cO X xs fr scope cl C s H fp) elt te)
  (I2:Inv X pins σ H2 s2)(T:Turn X.prog X.w X.K tgt J fp it tn)(c_:tn 0 s2.heap)(f2:∀b∈fp,iu X pins H2 b)
  (hw:∀D,H2 D=none->Fh xs.length J tg tt te (gk σ fr) D H2 Q)
  (hR:∀D C s1 H1 m,Inv X pins σ H1 s1->s1.heap.Ns C m->H1 C=none->C≠X.env.locals->X.cQ.heap.objs.size<=C->(∀y c,X.env.cells.lookup y=some c->c≠C)->(∀p∈X.pn++pins,p.1≠C)->Q (.ref D) H1->RR (.ref D) C (.ok .next) s1):
  wpAny (model X.prog X.w) X.A (newList []) (λacc dN=>wpAny (model X.prog X.w) X.A (newFunctionEnv scope X.env.globals cl [] X.env.qual none .none (some X.env)) (λlK iz=>
   codeAny (model X.prog X.w) X.A (.compStart (.ListComp elt [⟨tgt,iter,ifs,0⟩] scope pos) 0 (.ref it) acc {lK with scope:=relabel scope X.env}) (RR acc lK.locals) iz) E dN) E s2:=by
 refine LW (rest:=[]) S I2 T c_ f2 hR λD C s H3 dN hD e3 I4 uP uL fin=>?_;obtain⟨W,⟨m0,w0⟩,turn⟩:=hw D hD;rw[←e3] at w0;refine UD (λk s'=>∃i ys H' os,os.length=xs.length/\Inv (cO X xs fr scope cl C s H3 fp) [] (os++gk σ fr) H' s'/\tn i s'.heap/\(∀b∈fp,H' b=none)/\W i k ys H') ?_ m0
  ⟨0,[],_,List.replicate xs.length none,Wy,I4,uP,uL,w0⟩
 rintro n s5 ⟨i,ys,H5,os,oC,I5,oB,rZ,w5⟩;have lI:∀{H':Hp},(∀b∈fp,H' b=none)->∀b∈fp,iu (cO X xs fr scope cl C s H3 fp) [] H' b:=λ{H'} hn b hb=>
  ⟨hn b hb,(I5.ok.qc b hb).1,I5.ok.pV b hb,.inl hb,(I5.ok.qc b hb).2,λp hp=>absurd (show p∈([]:List (Addr×Obj)) from hp) (by simp)⟩
 rcases turn i n ys H5 w5 with⟨stop,qn⟩|⟨go,N,hN,step⟩
 ·refine aw (T.done (cO X xs fr scope cl C s H3 fp) rfl rfl rfl hc i [] s5 _ H5 _ I5 (lI rZ) oB stop) λr s6 zq=>?_;obtain⟨hr,I6⟩:=zq;subst hr;exact fin _ _ _ I6 qn
 ·refine aw (T.item (cO X xs fr scope cl C s H3 fp) rfl rfl rfl hc i [] s5 _ H5 _ I5 (lI rZ) oB go) λr s6 zq=>?_;obtain⟨u,hr,h6⟩:=zq;subst hr;refine aw h6 λ_ s7 zq=>?_;obtain⟨v,H7,I7,r7,y7,r9,GV⟩:=zq;have GW:=I7.pinned (lI GV) (T.obj _ _ r9);refine wpAny_mono (hg _ _ _ _ _ s7 _ H7 v u _ GW r7 (step v H7 y7 os oC)) (λ_ s8 zq=>?_) λ_ _ z=>False.elim z;obtain⟨σ8,H8,I8,⟨jT,Gr,e8⟩,q8⟩:=zq;subst e8;have again:∀{oE:St} {H9:Hp} {s9:Shared} {oF:List V},oE.length=xs.length->Inv (cO X xs fr scope cl C s H3 fp) ([]++pN fp s7.heap) (oE++gk σ fr) H9 s9->N oF H9->
    ∃m,m<n/\∃i ys H' os,os.length=xs.length/\Inv (cO X xs fr scope cl C s H3 fp) [] (os++gk σ fr) H' s9/\tn i s9.heap/\(∀b∈fp,H' b=none)/\W i m ys H':=λ{oE H9 s9 oF} l1 I9 n9=>by
   obtain⟨m',hm,w9⟩:=hN oF H9 n9;refine⟨m',hm,i+1,oF,H9,oE,l1,I9.t4,T.keep _ _ _ r9 λb hb o e=>(I9.pin (b,o) (Yn _ (Yn _ (oY hb e)))).1,λb hb=>?_,w9⟩;obtain⟨o,e,d⟩:=T.obj _ _ r9 b hb;exact(I9.pin (b,o) (Yn _ (Yn _ (oY hb e)))).2.1
  refine wpAny_mono (ht _ _ _ _ _ s8 _ H8 _ I8 q8) (λok s9 zq=>?_) λ_ _ z=>False.elim z;obtain⟨H9,I9,q9⟩:=zq;cases ok with
  |false=>
   rw[if_neg Yh] at q9⊢;exact again Gr I9 q9
  |true=>
   rw[if_pos rfl];rw[if_pos rfl] at q9;refine wpAny_mono (he _ _ _ _ _ s9 _ H9 _ I9 q9) (λu1 GX zq=>?_) λ_ _ z=>False.elim z;obtain⟨y,oG,GY,r10,hD,hz,oH⟩:=zq;refine wpAny_mono (vS (X:=cO X xs fr scope cl C s H3 fp) _ GX _ oG (.ref D) [y] _ [u1] (λ_ H'=>N (ys++[y]) H') GY rfl (.cons r10 .nil) ⟨_,ys,y,rfl,rfl,hD,hz,oH⟩) (λ_ GZ zq=>?_) λ_ _ z=>False.elim z;obtain⟨_,xA,AA,_,q11⟩:=zq;exact again Gr AA q11
end
def iV(J:It)(tt:TT)(te:TE)(fv:St)(D:Addr)(H:Hp)(Q:VK):Prop:=
 ∃W:Nat->Nat->List V->Hp->Prop,(∃m,W 0 m [] (upd H D (.lst [])))/\∀i m ys H,W i m ys H->
  (J.stop i H/\Q (.ref D) H)\/(J.go i H/\∃N:List V->Hp->Prop,(∀gD H',N gD H'->∃m',m'<m/\W (i+1) m' gD H')/\
   ∀v H',J.qg i H v H'->tt (some v::fv) H' λc H1=>if c=true then te (some v::fv) H1 λy H3=>H3 D=some (.lst ys)/\ys.length<sizeLine/\N (ys++[y]) (upd H3 D (.lst (ys++[y]))) else N ys H1)
section
variable {X:Cx}{elt iter:Expr}{x:Str}{px pos:Pos}{ifs:List Expr}{scope:Scope}{cl:List (Str×Addr)}{fr:List (Str×Nat)}{tt:TT}{te:TE}{pins:List (Addr×Obj)}{σ:St}
theorem Zt{H2:Hp}{s2:Shared}{it:Addr}{fp:List Addr}{tn:Nat->Heap->Prop}{J:It}{Q:VK}{RR:Value->Addr->Result->Shared->Prop}{E:Value->Shared->Prop}
  (hc:X.calm=true)(S:yM X scope cl x fr)
  (ht:∀C s H fp,uO (zD X x fr scope cl C s H fp) ifs tt)(he:∀C s H fp,PE (zD X x fr scope cl C s H fp) elt te)
  (I2:Inv X pins σ H2 s2)(T:Turn X.prog X.w X.K (.Name x px) J fp it tn)(c_:tn 0 s2.heap)(f2:∀b∈fp,iu X pins H2 b)
  (hw:∀D,H2 D=none->iV J tt te (gk σ fr) D H2 Q)
  (hR:∀D C s1 H1 m,Inv X pins σ H1 s1->s1.heap.Ns C m->H1 C=none->C≠X.env.locals->X.cQ.heap.objs.size<=C->(∀y c,X.env.cells.lookup y=some c->c≠C)->(∀p∈X.pn++pins,p.1≠C)->Q (.ref D) H1->RR (.ref D) C (.ok .next) s1):
  wpAny (model X.prog X.w) X.A (newList []) (λacc dN=>wpAny (model X.prog X.w) X.A (newFunctionEnv scope X.env.globals cl [] X.env.qual none .none (some X.env)) (λlK iz=>
   codeAny (model X.prog X.w) X.A (.compStart (.ListComp elt [⟨.Name x px,iter,ifs,0⟩] scope pos) 0 (.ref it) acc {lK with scope:=relabel scope X.env}) (RR acc lK.locals) iz) E dN) E s2:=by
 refine Kn (xs:=[x]) hc ⟨S.wR,S.sub,S.kind,S.names,S.zR,S.has,S.cK,S.nd⟩ (λC s H fp=>pH (i:=0) S.nd rfl (.inl (lookup_relabel_local S.lx)) (.inr (lookup_relabel_local S.lx))) ht he I2 T c_ f2 (λD hD=>?_) hR;obtain⟨W,h0,h⟩:=hw D hD;refine⟨W,h0,λi m ys H p=>?_⟩;rcases h i m ys H p with z|⟨z,N,hN,q⟩;·exact .inl z
 ·refine .inr ⟨z,N,hN,λv H' y os hl=>?_⟩;match os,hl with
  |[o],_=>exact⟨⟨[some v],rfl,rfl⟩,q v H' y⟩
def Zey(wi:TI)(fr:List (Str×Nat))(tt:TT)(te:TE):TE:=λσ H Q=>wi σ H λJ H1=>∀D,H1 D=none->iV J tt te (gk σ fr) D H1 Q
theorem ji(hc:X.calm=true)(S:yM X scope cl x fr)(hi:PI X (.Name x px) iter wi)
  (ht:∀C s H fp,uO (zD X x fr scope cl C s H fp) ifs tt)(he:∀C s H fp,PE (zD X x fr scope cl C s H fp) elt te)
  (hs:∀x,foldedSetIterable iter X.env x=pure x:=by intro _;rfl):PE X (.ListComp elt [⟨.Name x px,iter,ifs,0⟩] scope pos) (Zey wi fr tt te):=by
 intro pins s σ H Q I h;refine wpAny_comprehension_free rfl hs S.wR S.kind S.names (aw (hi pins s σ H _ I h) λv s1 h1=>aw h1 λuJ s2 h2=>?_);obtain⟨it,fp,tn,J,H2,e,I2,T,c_,f2,hw⟩:=h2;subst e;refine Zt (RR:=λacc C=>compPost (model X.prog X.w) X.A X.xe none (EP X pins σ Q) acc C) hc S ht he I2 T c_ f2 hw ?_;intro D C s1 H1 m I1 hn f0 f1 f3 f4 f5 q;exact⟨m,hn,λh' oI=>⟨.ref D,H1,I1.turned (λb o hb e=>oI.extBut b o hb e) f0 f1 (.inr f3) f4 f5,rfl,q⟩⟩
end
theorem D_{K:PySem.W.Frag}{a:Addr}{xs:List V}{tt:TT}{te:TE}{fv:St}{D:Addr}{H:Hp}{Q:VK}(Pv:Nat->List V->Hp->Prop)(h0:Pv 0 [] (upd H D (.lst [])))(hl:∀i ys H,i<=xs.length->Pv i ys H->ak K H a xs)
  (hs:∀i v ys H,xs[i]?=some v->Pv i ys H->tt (some v::fv) H λc H1=>if c=true then te (some v::fv) H1 λy H3=>H3 D=some (.lst ys)/\ys.length<sizeLine/\Pv (i+1) (ys++[y]) (upd H3 D (.lst (ys++[y]))) else Pv (i+1) ys H1)
  (hd:∀ys H,Pv xs.length ys H->Q (.ref D) H):iV (ju K a) tt te fv D H Q:=by
 refine⟨λi m ys H=>m=xs.length-i/\i<=xs.length/\Pv i ys H,⟨xs.length,by simp,Yx _,h0⟩,?_⟩;rintro i m ys H ⟨rfl,hi,p⟩;have q:=hl i ys H hi p;by_cases bL:i<xs.length
 ·refine .inr ⟨⟨xs,xs[i],q,by simp[bL]⟩,Pv (i+1),λgD H' p'=>⟨xs.length-(i+1),by omega,rfl,bL,p'⟩,λx H' y=>?_⟩;obtain⟨e,y⟩:=y
  grind
 ·have e:i=xs.length:=by omega
  subst e;exact .inl ⟨⟨xs,q,Yd _⟩,hd ys H p⟩
theorem yX{K:PySem.W.Frag}{a:Addr}{xs:List V}{tt:TT}{te:TE}{fv:St}{D:Addr}{H:Hp}{Q:VK}(Pv:Nat->List V->Hp->Prop)(h0:Pv 0 [] (upd H D (.lst [])))(hl:∀i ys H,i<=xs.length->Pv i ys H->aB K H a xs)
  (hs:∀i v ys H,xs[i]?=some v->Pv i ys H->tt (some v::fv) H λc H1=>if c=true then te (some v::fv) H1 λy H3=>H3 D=some (.lst ys)/\ys.length<sizeLine/\Pv (i+1) (ys++[y]) (upd H3 D (.lst (ys++[y]))) else Pv (i+1) ys H1)
  (hd:∀ys H,Pv xs.length ys H->Q (.ref D) H):iV (uK K a) tt te fv D H Q:=by
 refine⟨λi m ys H=>m=xs.length-i/\i<=xs.length/\Pv i ys H,⟨xs.length,by simp,Yx _,h0⟩,?_⟩;rintro i m ys H ⟨rfl,hi,p⟩;have q:=hl i ys H hi p;by_cases bL:i<xs.length
 ·refine .inr ⟨⟨xs,xs[i],q,by simp[bL]⟩,Pv (i+1),λgD H' p'=>⟨xs.length-(i+1),by omega,rfl,bL,p'⟩,λx H' y=>?_⟩;obtain⟨e,y⟩:=y
  grind
 ·have e:i=xs.length:=by omega
  subst e;exact .inl ⟨⟨xs,q,Yd _⟩,hd ys H p⟩
theorem vP{lo:Int}{n:Nat}{tt:TT}{te:TE}{fv:St}{D:Addr}{H:Hp}{Q:VK}(Pv:Nat->List V->Hp->Prop)(h0:Pv 0 [] (upd H D (.lst [])))
  (hs:∀i ys H,i<n->Pv i ys H->tt (some (.int (lo+i))::fv) H λc H1=>if c=true then te (some (.int (lo+i))::fv) H1 λy H3=>H3 D=some (.lst ys)/\ys.length<sizeLine/\Pv (i+1) (ys++[y]) (upd H3 D (.lst (ys++[y]))) else Pv (i+1) ys H1)
  (hd:∀ys H,Pv n ys H->Q (.ref D) H):iV (oA lo n) tt te fv D H Q:=by
 refine⟨λi m ys H=>m=n-i/\i<=n/\Pv i ys H,⟨n,by simp,Yx _,h0⟩,?_⟩;rintro i m ys H ⟨rfl,hi,p⟩;by_cases bL:i<n
 ·refine .inr ⟨bL,Pv (i+1),λgD H' p'=>⟨n-(i+1),by omega,rfl,bL,p'⟩,λx H' y=>?_⟩;obtain⟨e,y⟩:=y
  grind
 ·have e:i=n:=by omega
  subst e;exact .inl ⟨Yd _,hd ys H p⟩
def Zfs(K:PySem.W.Frag)(tl:TE):TI:=λσ H R=>tl σ H λx H1=>∃a,x=.ref a/\((∃xs,ak K H1 a xs)/\R (ju K a) H1\/(∃xs,aB K H1 a xs)/\R (uK K a) H1)
theorem Zc9(hl:PE X l tl):PI X tg l (Zfs X.K tl):=by
 intro pins s σ H R I h;refine aw (hl pins s σ H _ I h) λv s1 zq=>?_;obtain⟨x,H1,I1,r1,q1⟩:=zq;obtain⟨a,e,q1⟩:=q1;subst e;cases r1;rcases q1 with⟨⟨xs,hq⟩,q⟩|⟨⟨xs,hq⟩,q⟩
 ·obtain⟨ah,rv,p,hz⟩:=I1.list hq;refine wpAny_pyIter_list p.isList ⟨s1.heap.objs.size,[s1.heap.objs.size],_,_,H1,rfl,I1.kept λb o e=>Yb _ e,K1 a _,⟨_,Yt _ rfl,rfl,rfl⟩,λb hb=>?_,q⟩;have e:b=s1.heap.objs.size:=by simpa using hb
  subst e;exact I1.pW (Yd _) (I1.av.fresh (Yd _))
 ·obtain⟨ah,rv,p,hz⟩:=I1.tuple hq;refine wpAny_pyIter_tuple (show s1.heap.IsTuple a ah.toArray from p) ⟨s1.heap.objs.size,[s1.heap.objs.size],_,_,H1,rfl,I1.kept λb o e=>Yb _ e,Kk a _,⟨_,Yt _ rfl,rfl,rfl⟩,λb hb=>?_,q⟩;have e:b=s1.heap.objs.size:=by simpa using hb
  subst e;exact I1.pW (Yd _) (I1.av.fresh (Yd _))
theorem C6:∀{xs:List V} {us:List Value},xs.length=us.length->(∀(i:Nat) (x:V) (u:Value),xs[i]?=some x->us[i]?=some u->RelV x u)->Vals xs us
 |[],[],_,_=>.nil
 |[],_::_,h,_=>by simp at h
 |_::_,[],h,_=>by simp at h
 |x::xs,u::us,h,k=>.cons (k 0 x u rfl rfl) (C6 (by simpa using h) λi y w e1 e2=>k (i+1) y w (by simpa using e1) (by simpa using e2))
theorem Ko:∀{bs:List Bool} {us:List Value},Vals (bs.map V.bl) us->us=bs.map Value.bool:=by
 intro bs;induction bs with
 |nil=>intro us r;cases r;rfl
 |cons b bs ih=>
  intro us r;rw[Wo] at r;cases r with
  |cons r t=>
   have e1:_=Value.bool b:=r;rw[e1,ih t];rfl
def bc(n:Nat):List Int:=(List.range n).map λi:Nat=>(i:Int)
theorem eM(n:Nat):(bc n).length=n:=by simp[bc]
theorem lu(h:i<n):(bc n)[i]?=some (i:Int):=by
 unfold bc
 grind
theorem Zak(bs:List Bool):(List.range bs.length).any (λi=>bs.getD i false)=bs.any id:=by
 rw[Wj,J3,J3];constructor
 ·rintro⟨i,hi,hb⟩;rw[Wi] at hi;have e:bs.getD i false=bs[i]:=by rw[Ye,Yc hi];rfl
  rw[e] at hb;exact⟨bs[i],Js hi,hb⟩
 ·rintro⟨b,hb,e⟩;obtain⟨i,hi,rfl⟩:=Wr.mp hb;refine⟨i,Wi.mpr hi,?_⟩
  grind
theorem Zal(bs:List Bool):(List.range bs.length).all (λi=>bs.getD i false)=bs.all id:=by
 rw[Wj,Wm,Wm];constructor
 ·intro h b hb;obtain⟨i,hi,rfl⟩:=Wr.mp hb;simp_all
 ·intro h i hi;rw[Wi] at hi;rw[Ye,Yc hi];exact h _ (Js hi)
theorem WS:∀{ns ms:List Int},ns.length=ms.length->(List.range ns.length).all (λj=>ns.getD j 0==ms.getD j 0)=decide (ns=ms):=by
 intro ns ms hl;rw[Wj,Wm,decide_eq_true_iff];constructor
 ·intro h;refine List.ext_getElem hl λi h1 h2=>?_;simp_all
 ·grind
section
variable {X:Cx}
def Q8(K:PySem.W.Frag):List V->Hp->VK->Prop:=λxs H Q=>∃(p:Addr) (bs:List Bool),xs=[.ref p]/\ak K H p (bs.map V.bl)/\Q (.bl (bs.any id)) H
def Q9(K:PySem.W.Frag):List V->Hp->VK->Prop:=λxs H Q=>∃(p:Addr) (bs:List Bool),xs=[.ref p]/\ak K H p (bs.map V.bl)/\Q (.bl (bs.all id)) H
theorem Vg(hc:X.calm=true):cV X (.builtin "any") (Q8 X.K):=by
 rintro pins s σ H xs us Q I r ⟨p,bs,rfl,hq,q⟩;obtain⟨u,rfl,rx⟩:=vals1 r;cases rx;obtain⟨ah,r',pl,hz⟩:=I.list hq;have e:=Ko r';subst e;have hl:=pl.isList;have bL:p<s.heap.objs.size:=by obtain⟨_,e,_⟩:=hl;exact Yp e
 refine call_any_walk (wpAny_pyIter_list hl ⟨s.heap.objs.size,_,_,_,_,_,λi=>bs.getD i false,rfl,Walks.list (show X.A.in1.handled=none from I.ok.hd hc) s.heap.objs.size p (Yy bL) (bs.map Value.bool).toArray,⟨⟨_,Yt _ rfl,rfl,rfl⟩,hl.push _⟩,?_,λh' tk hk=>?_⟩)
 ·intro i v s' Q' E' hP hQ;have kO:(bs.map Value.bool)[i]?=some v:=by simpa using hP
  rw[Yg] at kO;cases e:bs[i]? with
  |none=>grind
  |some b=>
   rw[e] at kO;have ev:=Yr kO;subst ev;refine wpAny_truthy_bool ?_
   grind
 ·refine⟨.bl (bs.any id),H,I.kept (λb o e=>hk b o (by simpa using Yy (Yp e)) (Yb _ e)),?_,q⟩;show Value.bool _=Value.bool _;have e:(bs.map Value.bool).toArray.size=bs.length:=by simp
  rw[e,Zak]
theorem Vh(hc:X.calm=true):cV X (.builtin "all") (Q9 X.K):=by
 rintro pins s σ H xs us Q I r ⟨p,bs,rfl,hq,q⟩;obtain⟨u,rfl,rx⟩:=vals1 r;cases rx;obtain⟨ah,r',pl,hz⟩:=I.list hq;have e:=Ko r';subst e;have hl:=pl.isList;have bL:p<s.heap.objs.size:=by obtain⟨_,e,_⟩:=hl;exact Yp e
 refine call_all_walk (wpAny_pyIter_list hl ⟨s.heap.objs.size,_,_,_,_,_,λi=>bs.getD i false,rfl,Walks.list (show X.A.in1.handled=none from I.ok.hd hc) s.heap.objs.size p (Yy bL) (bs.map Value.bool).toArray,⟨⟨_,Yt _ rfl,rfl,rfl⟩,hl.push _⟩,?_,λh' tk hk=>?_⟩)
 ·intro i v s' Q' E' hP hQ;have kO:(bs.map Value.bool)[i]?=some v:=by simpa using hP
  rw[Yg] at kO;cases e:bs[i]? with
  |none=>grind
  |some b=>
   rw[e] at kO;have ev:=Yr kO;subst ev;refine wpAny_truthy_bool ?_
   grind
 ·refine⟨.bl (bs.all id),H,I.kept (λb o e=>hk b o (by simpa using Yy (Yp e)) (Yb _ e)),?_,q⟩;show Value.bool _=Value.bool _;have e:(bs.map Value.bool).toArray.size=bs.length:=by simp
  rw[e,Zal]
inductive OR(K:PySem.W.Frag)(xs:List V)(H:Hp)(Q:VK):Prop
 |mk (x:V) (t:Value) (c:String) (b:Bool) (aC:xs=[x,.ty c]) (aR:iY K H x t) (a8:kitOne K t (.type c)=some b) (bC:Q (.bl b) H):OR K xs H Q
def Ab(K:PySem.W.Frag):List V->Hp->VK->Prop:=λxs H Q=>OR K xs H Q
theorem WT:cV X (.builtin "isinstance") (Ab X.K):=by
 rintro pins s σ H xs us Q I r ⟨x,t,c,b,rfl,ty,e,q⟩;obtain⟨u,w',rfl,rx,ry⟩:=vals2 r;cases ry;exact Zm I rx ty e λtk=>⟨.bl b,H,I.tok tk,rfl,q⟩
theorem Kp(hT:T="list"\/T="tuple")
  (ho:s.heap.get? l=some o)(hc:o.cls=.type T)(hd:o.data=.seq ah.toArray n)(hI:IntsAre ah ns)(i_:ah.length<64)(hsz:ah.toArray.size<=sizeLine)
  (h:∀(h1 h':Heap) (out:Array Value) (de:List Int) (e:Nat),(∀b o,s.heap.get? b=some o->h1.get? b=some o)->(∀b o,h1.get? b=some o->h'.get? b=some o)->h'.get? h1.objs.size=some (seqObj "list" out e)->IntsAre out.toList de->de.Perm ns->de.Pairwise (·<=·)->Q (.ref h1.objs.size) {s with heap:=h'}):
  wpAny (model prog w) A (call (.builtin "sorted") [.ref l]) Q E s:=by
 refine Calls.call_function_entry kind_sorted plain_sorted entry_sorted (args_sorted1 _) (wpAny_bind (wpAny_pure ?_));refine wpAny_bind (wpAny_collect_seq l hT ho hc hd (λh1 kp=>wpAny_bind (wpAny_newList ?_)) hsz);have e1:ah.toArray.toList=ah:=by simp
 rw[e1];have oz:(h1.push (seqObj "list" ah.toArray 0)).get? h1.objs.size=some (seqObj "list" ah.toArray 0):=Yt _ rfl;refine wpAny_bind (wpAny_holding (wpAny_call_entry slot_list_sort ⟨_,oz,rfl⟩ entry_list_sort (list_sort_tree oz hI i_ λout de a1 a2 a3=>⟨_,rfl,?_⟩) (args_list_sort _)));obtain⟨e,he⟩:=sortedHeap_at oz;exact wpAny_pure ⟨_,rfl,h h1 _ out de e kp (λb ob hb=>by
  have bL:=Yp hb;rw[sortedHeap_old (Yy bL) (by rw[size_push'];exact Wt bL),J0 _ _ _ (Yy bL)];exact hb) he a1 a2 a3⟩
def EY(K:PySem.W.Frag):List V->Hp->VK->Prop:=λxs H Q=>∃(p:Addr) (ns:List Int),xs=[.ref p]/\(ak K H p (ns.map V.int)\/aB K H p (ns.map V.int))/\ns.length<64/\
  ∀(l:Addr) (de:List Int),H l=none->de.Perm ns->de.Pairwise (·<=·)->Q (.ref l) (upd H l (.lst (de.map V.int)))
theorem JX:cV X (.builtin "sorted") (EY X.K):=by
 rintro pins s σ H xs us Q I r ⟨p,ns,rfl,hq,i_,q⟩;obtain⟨u,rfl,rx⟩:=vals1 r;cases rx;have fin:∀(h1 h':Heap) (out:Array Value) (de:List Int) (e:Nat),(∀b o,s.heap.get? b=some o->h1.get? b=some o)->(∀b o,h1.get? b=some o->h'.get? b=some o)->h'.get? h1.objs.size=some (seqObj "list" out e)->IntsAre out.toList de->de.Perm ns->de.Pairwise (·<=·)->
   EP X pins σ Q (.ref h1.objs.size) {s with heap:=h'}:=λh1 h' out de e kp G0 he a1 a2 a3=>by
  have I1:=I.kept (t':=s.toks) kp;refine⟨.ref h1.objs.size,_,I1.laid (o:=.lst (de.map V.int)) G0 (Yd _) ⟨?_,out.toList,e,K7 a1,by simpa[seqObj] using he⟩,rfl,q _ de (I1.av.fresh (Yd _)) a2 a3⟩;rw[Ya,a2.length_eq];exact Jj (jF (by omega))
 rcases hq with hq|hq
 ·obtain⟨ah,r',pl,hz⟩:=I.list hq;obtain⟨o,n,ho,hc,_,hd⟩:=pl;have hl:=r'.length;rw[Ya] at hl;rw[Ya] at hz;exact Kp (.inl rfl) ho hc hd (intsAre_of r') (by omega) (by rw[Yu];omega) fin
 ·obtain⟨ah,r',pl,hz⟩:=I.tuple hq;obtain⟨o,ho,hc,n,hd⟩:=pl;have hl:=r'.length;rw[Ya] at hl;rw[Ya] at hz;exact Kp (.inr rfl) ho hc hd (intsAre_of r') (by omega) (by rw[Yu];omega) fin
def Nh:List V->Hp->VK->Prop:=λxs H Q=>∃j:Int,xs=[.int j]/\∀p:Addr,H p=none->Q (.ref p) (upd H p (.jt 0 j))
def LX:List V->Hp->VK->Prop:=λxs H Q=>∃(p:Addr) (n:Nat),xs=[.ref p]/\H p=some (.jt 0 (n:Int))/\n<=1000/\∀l:Addr,H l=none->Q (.ref l) (upd H l (.lst ((bc n).map V.int)))
def wW(K:PySem.W.Frag):List V->Hp->VK->Prop:=λxs H Q=>∃(p:Addr) (ys:List V),xs=[.ref p]/\(ak K H p ys\/aB K H p ys)/\Q (.int ys.length) H
theorem XQ:cV X (.builtin "len") (wW X.K):=JO
theorem yy:cV X (.type "range") Nh:=by
 rintro pins s σ H xs us Q I r ⟨j,rfl,q⟩;obtain⟨u,rfl,t,rfl⟩:=vals1 r;exact call_range_1 ⟨.ref s.heap.objs.size,_,I.laid (o:=.jt 0 j) (λb o e=>Yb _ e) (Yd _) ⟨_,_,_,Yt _ rfl⟩,rfl,q _ (I.av.fresh (Yd _))⟩
theorem Cv(hc:X.calm=true):cV X (.type "list") LX:=by
 rintro pins s σ H xs us Q I r ⟨p,n,rfl,hp,hn,q⟩;obtain⟨u,rfl,rx⟩:=vals1 r;cases rx;obtain⟨t,u,v,ho⟩:=I.av p _ hp;refine call_list_range (I.ok.hd hc) ho (small_one (by omega) (by omega) (by omega) (by omega)) (n:=n) (by rw[rangeSize_one];split<;>omega) (by omega) λh' tk Zft c' hk hS' Q_=>⟨.ref s.heap.objs.size,_,I.laid (o:=.lst ((bc n).map V.int)) hk (Yd _) ⟨?_,Zft.toList,c',?_,by simpa using hS'⟩,rfl,q _ (I.av.fresh (Yd _))⟩
 ·rw[Ya,eM];exact Jj (jF hn)
 ·refine C6 (by rw[Ya,eM];simp[Q_.1]) λi x u e1 e2=>?_;obtain⟨t',rfl⟩:=Q_.2 i u (by simpa using e2);have hi:i<n:=by
   have:=(Yj.mp e1).1;rw[Ya,eM] at this;exact this
  rw[Yg,lu hi] at e1;have e3:=Yr e1;subst e3;exact⟨t',by rw[show(0:Int)+(i:Int)*1=(i:Int) by omega]⟩
theorem Ni{ns:List Int}{ah:List Value}(r:Vals (ns.map V.int) ah){j:Nat}(h:j<ah.length):∃t,ah[j]=.int (ns.getD j 0) t:=by
 have hl:=r.length;rw[Ya] at hl;have hj:j<ns.length:=by omega
 obtain⟨u,hu,t,rfl⟩:=r.get (by rw[Yg,Yc hj];rfl)
 grind
def Ra(K:PySem.W.Frag)(neg:Bool):R2:=λx y H Q=>∃(p q:Addr) (ns ms:List Int),x=.ref p/\y=.ref q/\ak K H p (ns.map V.int)/\ak K H q (ms.map V.int)/\Q (.bl (if neg=true then !decide (ns=ms) else decide (ns=ms))) H
theorem OS(hu:X.A.units<cLine):cB X (compareOp .Eq) (Ra X.K false):=by
 rintro pins s σ H x y v u Q I rx ry ⟨p,q,ns,ms,rfl,rfl,h1,h2,k⟩;cases rx;cases ry;obtain⟨ah,r1,p1,z1⟩:=I.list h1;obtain⟨iy,r2,p2,z2⟩:=I.list h2;have l1:=r1.length;have l2:=r2.length;rw[Ya] at l1 l2;by_cases hl:ns.length=ms.length
 ·refine SeqAt.eq_listAt (e:=λj=>ns.getD j 0==ms.getD j 0) p1.isList p2.isList (by simp;omega) hu (λj h1 h2=>?_) (cF I k ?_)
  ·obtain⟨t,e1⟩:=Ni r1 (by simpa using h1);obtain⟨t',e2⟩:=Ni r2 (by simpa using h2);have r_:ah.toArray[j]=.int (ns.getD j 0) t:=by simpa using e1
   have e2':iy.toArray[j]=.int (ms.getD j 0) t':=by simpa using e2
   rw[r_,e2'];exact SeqAt.EqAt.int_int _ _ _ _
  ·rw[if_neg Yh,Yu,←l1,WS hl]
 ·refine SeqAt.eq_list_lengthsAt p1.isList p2.isList (by simp;omega) hu (cF I k ?_)
  grind
theorem iQ(M:St->Hp->Prop)(h1:∀nx:St->Hp->Prop,(∀σ H,M σ H->nx σ H)->t {D with nx:=nx} σ H)(h2:∀σ H,M σ H->u D σ H):wN t u D σ H:=h1 _ h2
theorem kI(hg:Gl X x)(hm:X.mg x=none)(hv:bootBuiltins x=some (.type T))(hn:x≠"__name__":=by decide)(hd:(x==("__debug__":Str))=false:=by decide):PE X (.Name x pos) (tC (.ty T)):=Zby hg hm hv rfl hn hd
end
def HasFn(P:Program)(w:World)(K:PySem.W.Frag)(mg:Str->Option Value)(base:Heap)(k:Nat)(x:Str)(ps:List Str)(sp:Sp):Prop:=
 ∃f fd,aE P w K mg base aL k f fd ps sp/\Binds K fd ps []/\keepIn K (.ref f)=true/\mg x=some (.ref f)
section
variable {P:Program}{w:World}{K:PySem.W.Frag}{mg:Str->Option Value}{base:Heap}{X:Cx}{k j:Nat}{sp:Sp}{x:Str}{ps:List Str}
theorem FU(h:HasFn X.prog X.w X.K X.mg X.base k x ps sp)(hr:cA j X.A)(hj:k<=j)(hg:Gl X x)(ha:PA X (e::es) t)
  (eC:(x==("__debug__":Str))=false:=by decide)(he:starEach (e::es) X.env=(false,eval e X.env)::starEach es X.env:=by rfl)(bN:(backTo pos (starEach es X.env)).any (·.1)=false:=by rfl):
  PE X (.Call (.Name x p) (e::es) [] pos) (zP sp [] E0 t):=by
 obtain⟨f,fd,F,b,kp,m⟩:=h;exact ZbA F (hr.mono hj) hg m kp b .nil wD ha eC he bN
theorem bY(h:H p=none)(o:HO):ai H (upd H p o):=λb u q=>by rw[aJ (bT q h)];exact q
theorem ai.jb(e:ai H H')(h:aB K H a xs):aB K H' a xs:=by
 rcases h with(h|⟨o,h⟩)|h;·exact .inl (.inl (e _ _ h))
 ·exact .inl (.inr ⟨o,e _ _ h⟩)
 ·exact .inr h
theorem Zam(h:X.K=K):iE X (ux K):=h▸EX
theorem ZbL(h:X.K=K):iE X (z8 K):=h▸OM
theorem ZbM(h:X.K=K):cV X (.builtin "isinstance") (Ab K):=h▸WT
theorem Zfu(h:X.K=K):cV X (.builtin "len") (wW K):=h▸XQ
theorem lL(h:Q true H):Aa σ H Q:=h
theorem aT(h:n σ H):P9 ⟨n,rt,bk,ct⟩ σ H:=h
theorem pO(M:St->Hp->Prop)(h1:∀nx:St->Hp->Prop,(∀σ H,M σ H->nx σ H)->Gb c a b {D with nx:=nx} σ H)(h2:∀σ H,M σ H->u D σ H):wN (Gb c a b) u D σ H:=h1 _ h2
theorem Zc_(x:Int)(h0:0<m)(h1:m<=2^62):-(2^64)<x % m/\x % m<2^64:=by
 have a:=W5 x (G1 h0);have b:=Wp x h0;omega
theorem Kq:∀(l:List α) (k:Nat) (h:k<l.length),l.Perm (l[k]::l.eraseIdx k)
 |[],k,h=>absurd h (Wk k)
 |a::r,0,_=>List.Perm.refl _
 |a::r,k+1,h=>(List.Perm.cons a (Kq r k (Nat.lt_of_succ_lt_succ h))).trans (List.Perm.swap _ _ _)
theorem K8(f:α->β):∀(l:List α) (k:Nat),(l.map f).eraseIdx k=(l.eraseIdx k).map f
 |[],_=>rfl
 |_::_,0=>rfl
 |a::r,k+1=>by
  show f a::(r.map f).eraseIdx k=f a::(r.eraseIdx k).map f;rw[K8 f r k]
theorem Fm{n:Nat}{i:Int}(h0:0<=i)(h1:i<n):kN n i=some i.toNat:=by
 unfold kN
 grind
theorem mI{ns:List Int}{i:Int}(h0:0<=i)(h1:i<ns.length):dJ (ns.map V.int) i=some (.int (ns.getD i.toNat 0)):=by
 have e:i=((i.toNat:Nat):Int):=by omega
 rw[e];refine ic ?_
 grind
theorem mC{ns:List Int}{i:Nat}{y:V}(h:(ns.map V.int)[i]?=some y):∃z,y=.int z/\ns[i]?=some z:=by
 rw[Yg] at h;cases e:ns[i]? with
 |none=>grind
 |some z=>grind
theorem LY(ns:List Int)(z:Int):ns.map V.int++[V.int z]=(ns++[z]).map V.int:=by simp
theorem LZ(ns:List Int)(lo hi:Option Int):∃ms:List Int,oj (ns.map V.int) lo hi=ms.map V.int:=by
 refine⟨(ns.drop (HT.gw ns.length 0 lo)).take (HT.gw ns.length ns.length hi-HT.gw ns.length 0 lo),?_⟩;unfold oj;simp_all
end
theorem OT:bootBuiltins "abs"=some (.builtin "abs"):=by decide+kernel
theorem Zda:bootBuiltins "any"=some (.builtin "any"):=by decide+kernel
theorem OU:bootBuiltins "all"=some (.builtin "all"):=by decide+kernel
theorem zE:bootBuiltins "len"=some (.builtin "len"):=by decide+kernel
theorem Zdb:bootBuiltins "min"=some (.builtin "min"):=by decide+kernel
theorem Ea:bootBuiltins "sorted"=some (.builtin "sorted"):=by decide+kernel
theorem JK:bootBuiltins "isinstance"=some (.builtin "isinstance"):=by decide+kernel
theorem ua:bootBuiltins "list"=some (.type "list"):=by decide+kernel
theorem mn:bootBuiltins "tuple"=some (.type "tuple"):=by decide+kernel
theorem t6:bootBuiltins "range"=some (.type "range"):=by decide+kernel
theorem zf:bootBuiltins "bool"=some (.type "bool"):=by decide+kernel
theorem OV:bootBuiltins "int"=some (.type "int"):=by decide+kernel
theorem wk:bootBuiltins "str"=some (.type "str"):=by decide+kernel
def Bd(d p:Int):Prop:=0<=d/\d<p
inductive L0(K:PySem.W.Frag)(vs:List V)(H:Hp)(Q:VK):Prop
 |mk (a:Addr) (ns:List Int) (k:Int) (aC:vs=[.ref a,.int k]) (aR:ak K H a (ns.map V.int)) (a8:0<=k) (bC:∀c:Int,Q (.int c) H):L0 K vs H Q
def OW(K:PySem.W.Frag):Sp:=λvs H Q _=>L0 K vs H Q
inductive K9(K:PySem.W.Frag)(vs:List V)(H:Hp)(Q:VK):Prop
 |mk (c:Int) (a:Addr) (ps:List Int) (aC:vs=[.int c,.ref a]) (aR:ak K H a (ps.map V.int)) (a8:(∀p∈ps,0<p/\p<1073741824)) (bC:ps.length<=60) (cD:∀(l:Addr) (ds:List Int) (H':Hp),H l=none->ai H H'->H' l=some (.lst (ds.map V.int))->Paired Bd ds ps->Q (.ref l) H'):K9 K vs H Q
def zg(K:PySem.W.Frag):Sp:=λvs H Q _=>K9 K vs H Q
inductive L3(vs:List V)(H:Hp)(Q:VK):Prop
 |mk (c:Int) (n:Nat) (aC:vs=[.int c,.int (n:Int)]) (aR:n<=60) (a8:∀(t:Addr) (ns:List Int) (H':Hp),H t=none->ai H H'->H' t=some (.tup (ns.map V.int))->ns.Perm (bc n)->Q (.ref t) H'):L3 vs H Q
def OX:Sp:=λvs H Q _=>L3 vs H Q
theorem Nj(ho:PE X o to)(hi:PE X i ti)(hs:rM X t)(he:PE X e te)
  (h1:swapsWithSole [.Subscript o i tp] e pos.line X.env=pure false:=by rfl)(h2:swappedStores [.Subscript o i tp] e X.env=pure none:=by rfl)
  (h3:(assignEach [.Subscript o i tp] X.env).map (·.2)=[assign (.Subscript o i tp) X.env]:=by rfl)
  (ha:∀v,assign (.Subscript o i tp) X.env v=(do
   let ov←holding [v] (eval o X.env);let iv←holding [v,ov] (eval i X.env)
   standAt tp
   holding [v,ov,iv] (setItem ov iv v)
   release [v,ov,iv] []):=by intro _;rfl):PS X (.Assign [.Subscript o i tp] e pos) (uw te (Q0 to ti t)):=nQ he (ZcY ho hi hs ha) h1 h2 h3
def fO(h:Heap)(a C:Addr)(d:Option Addr)(vs:Array Value):Prop:=∃oe:Obj,h.get? a=some oe/\oe.cls=.ref C/\oe.dict=d/\oe.data=.fields vs/\1<vs.size
def xo(a C:Addr)(d:Option Addr):HO:=.ext λh=>∃vs,fO h a C d vs
def xn(a C:Addr)(d:Option Addr):HO:=.ext λh=>∃vs,fO h a C d vs/\vs[1]?=some Value.none
theorem fO.keep{h1 h2:Heap}{a C:Addr}{d:Option Addr}{vs:Array Value}(x:fO h1 a C d vs)(k:∀o,h1.get? a=some o->h2.get? a=some o):fO h2 a C d vs:=by
 obtain⟨oe,e,r⟩:=x;exact⟨oe,k _ e,r⟩
theorem Qe{P:Program}{w:World}{H:Hp}{h:Heap}{a C:Addr}{d:Option Addr}{vs:Array Value}(x:fO h a C d vs):cG P w H h a (xo a C d):=
 ⟨⟨vs,x⟩,let⟨oe,e,_⟩:=x;⟨oe,e⟩,λ_ _ ⟨ws,y⟩ k=>⟨ws,y.keep k⟩⟩
theorem FV{P:Program}{w:World}{H:Hp}{h:Heap}{a C:Addr}{d:Option Addr}{vs:Array Value}(x:fO h a C d vs)(z:vs[1]?=some Value.none):cG P w H h a (xn a C d):=
 ⟨⟨vs,x,z⟩,let⟨oe,e,_⟩:=x;⟨oe,e⟩,λ_ _ ⟨ws,y,q⟩ k=>⟨ws,y.keep k,q⟩⟩
theorem OY{P:Program}{w:World}{H:Hp}{h:Heap}{a C:Addr}{d:Option Addr}(ok:cY P w H h)(e:H a=some (xo a C d)):∃vs,fO h a C d vs:=(ok a _ e).1
theorem zF{P:Program}{w:World}{H:Hp}{h:Heap}{a C:Addr}{d:Option Addr}(ok:cY P w H h)(e:H a=some (xn a C d)):∃vs,fO h a C d vs/\vs[1]?=some Value.none:=(ok a _ e).1
def uQ(lo:Nat)(H:Hp)(h:Heap)(vs:Array Value):Prop:=
 vs[1]?=some Value.none\/∃T oT ts,vs[1]?=some (Value.ref T)/\lo<=T/\H T=none/\h.get? T=some oT/\oT.data=.fields ts/\ts[3]?=some Value.none
inductive Qf(P:Program)(w:World)(outer:List Env)(H:Hp)(s:Shared)(E:XK)(e:Value)(s':Shared):Prop
 |mk (a C d:Addr) (H':Hp) (vs:Array Value) (aC:e=.ref a) (aR:s.heap.objs.size<=a) (a8:s'.os=s.os) (bC:AllBare s'.gens) (cD:Un (cK outer) [] H H' s.heap s'.heap) (dC:cY P w H' s'.heap) (fR:H' a=some (xo a C (some d))) (jd:fO s'.heap a C (some d) vs) (qj:uQ s.heap.objs.size H' s'.heap vs) (xB:E (.ref C) (some d) H'):Qf P w outer H s E e s'
def dP(P:Program)(w:World):jR:=λouter H s E e s'=>Qf P w outer H s E e s'
section
variable {M:Model}{A:Around}{Er:Value->Shared->Prop}{s:Shared}
theorem K_{base:Heap}{env:Env}{outer:List Env}{L e:Addr}{oe:Obj}{vs:Array Value}{head:Value}{b0:Bool}{Q:Unit->Shared->Prop}
  (fr:A.frames=some (env::outer))(jP:s.heap.FunFrames base (env::outer))(hL:env.frame=some L)(at_:s.heap.get? e=some oe)(dat:oe.data=.fields vs)(sz:1<vs.size)
  (k:∀h' T ts,(∀b o,b≠e->b∉cK (env::outer)->s.heap.get? b=some o->h'.get? b=some o)->(∀b o,b∈cK (env::outer)->s.heap.get? b=some o->∃sl,h'.get? b=some {o with slots:=sl})->
   h'.get? e=some {oe with data:=.fields (vs.setIfInBounds 1 (.ref T))}->s.heap.objs.size<=T->T≠e->h'.get? T=some {cls:=.type "traceback",dict:=none,data:=.fields ts}->ts[3]?=some Value.none->Q () {s with heap:=h'}):
  wpAny M A (do let fo←frameOf env;let pl←entryPlaceOf L b0;let en←EntryCells.newEntry head fo .none (rawInt L) .none pl;setField (.ref e) 1 en) (λ_ s2=>wpAny M A (setFlight (.ref e) none) Q Er s2) Er s:=by
 have out:e∉cK (env::outer):=λz=>by
  obtain⟨_,o,q,nf⟩:=jP.mem z;rw[at_] at q;cases q;exact nf vs dat
 refine wpAny_bind (wpAny_frameOf_fun fr jP hL λh1 so=>wpAny_bind (wpAny_entryPlaceOf λpl ip=>?_));unfold EntryCells.newEntry newFields;refine wpAny_bind (wpAny_newObj_type ?_ (ip.sizeOk5 _ _ _ _ _));generalize hts:([head,Value.ref L,Value.none,rawInt L,Value.none]++(if pl.isEmpty=true then List.replicate 6 Value.none else pl)).toArray=xC;have l3:3<xC.size:=by
  rw[←hts,Yu,Yk];simp only[Wd,Sh];omega
 have e1:h1.get? e=some oe:=(so.2.1 e out).trans at_;have lt:e<h1.objs.size:=Yp e1;have e2:=Yb {cls:=.type "traceback",dict:=none,data:=.fields xC} e1;refine wpAny_setField e2 dat sz ?_;have d3:=Obj.data_mapFields dat (·.setIfInBounds 1 (Value.ref h1.objs.size));have e3:=Wn (Obj.mapFields (·.setIfInBounds 1 (Value.ref h1.objs.size))) e2 (Obj.isFreed_of_fields d3);have t3:=(Y8 (h1.push {cls:=.type "traceback",dict:=none,data:=.fields xC}) (Obj.mapFields (·.setIfInBounds 1 (Value.ref h1.objs.size))) (Yy lt)).trans (Yt h1 rfl);unfold setFlight;refine wpAny_bind (wpAny_field e3 d3 (x:=.ref h1.objs.size) (by simp[sz]) ?_);rw[if_pos (by simp)];refine wpAny_setField t3 rfl l3 (k _ h1.objs.size (xC.setIfInBounds 3 Value.none) ?_ ?_ ?_ (GO so.1.symm) (Jd lt) ?_ (by simp[l3]))
 ·intro b o hb hf hg;have g1:h1.get? b=some o:=(so.2.1 b hf).trans hg;rw[Y8 _ _ (Jd (Yp g1)),Y8 _ _ (Ne.symm hb)];exact Yb _ g1
 ·intro b o hf hg;obtain⟨sl,g1⟩:=so.2.2 b o hg;have hb:b≠e:=λz=>out (z▸hf);refine⟨sl,?_⟩;rw[Y8 _ _ (Jd (Yp g1)),Y8 _ _ (Ne.symm hb)];exact Yb _ g1
 ·rw[Y8 _ _ (Jd lt),e3];obtain⟨c,dd,da,sl⟩:=oe;cases dat;rfl
 ·exact Wn _ t3 (Obj.isFreed_of_fields (Obj.data_mapFields rfl _))
end
section
variable {P:Program}{w:World}{A:Around}{Er:Value->Shared->Prop}
theorem Nk{base:Heap}{env:Env}{outer:List Env}{L:Addr}{H1:Hp}{s1 s':Shared}{E:XK}{e:Value}{Q:Unit->Shared->Prop}
  (fr:A.frames=some (env::outer))(jP:s1.heap.FunFrames base (env::outer))(free:∀b∈cK (env::outer),H1 b=none)(hL:env.frame=some L)(cx:dP P w (env::outer) H1 s1 E e s')
  (k:∀s3,dP P w (env::outer) H1 s1 E e s3->Q () s3):
  wpAny (model P w) A (noteFrame e env) (λ_ s2=>wpAny (model P w) A (setFlight e none) Q Er s2) Er s':=by
 obtain⟨a,C,d,H',vs,rfl,lo,os,bare,un,av,ha,xr,fl,q⟩:=cx;obtain⟨oe,at_,cls,dic,dat,sz⟩:=xr;have nx:∀b:Addr,b∉([]:List Addr):=λb z=>absurd z (by simp);have fun2:s'.heap.FunFrames base (env::outer):=by
  have all:∀l:List Env,(∀b∈cK l,b∈cK (env::outer))->s1.heap.FunFrames base l->s'.heap.FunFrames base l:=by
   intro l;induction l with
   |nil=>exact λ_ _=>trivial
   |cons x r ih=>
    rintro hs ⟨kd,⟨L',o,f',n',g',nf⟩,rest⟩;have mem:L'∈cK (x::r):=by
     unfold cK;rw[Je,f'];exact Yl
    obtain⟨sl,g2⟩:=un.slot L' o g' (free L' (hs _ mem)) (hs _ mem) (nx _);refine⟨kd,⟨L',_,f',n',g2,nf⟩,ih (λb hb=>hs b ?_) rest⟩;unfold cK at hb⊢;rw[Je,f'];exact Yw _ hb
  exact all _ (λ_ z=>z) jP
 have Rb:s1.heap.get? a=none:=Heap.get?_none_of_le lo;have cj:∀b∈cK (env::outer),∃o,s'.heap.get? b=some o/\∀ws,o.data≠.fields ws:=λb hb=>(fun2.mem hb).2;have Si:∀b∈cK (env::outer),H' b=none:=λb hb=>by
  obtain⟨_,o,g',_⟩:=jP.mem hb;exact un.free b o g' (free b hb) (nx _)
 have frS:∀b∈cK (env::outer),b<s1.heap.objs.size:=λb hb=>let⟨_,o,g',_⟩:=jP.mem hb;Yp g'
 --Ze8 is wanted of any Zht end
 have fin:∀(h':Heap) (T:Addr) (ts:Array Value),(∀b o,b≠a->b∉cK (env::outer)->s1.heap.objs.size<=b\/H' b≠none\/s'.heap.get? b=some o->s'.heap.get? b=some o->(H' b≠none\/b<s1.heap.objs.size)->h'.get? b=some o)->
   (∀b o,b∈cK (env::outer)->s'.heap.get? b=some o->∃sl,h'.get? b=some {o with slots:=sl})->h'.get? a=some {oe with data:=.fields (vs.setIfInBounds 1 (.ref T))}->
   s'.heap.objs.size<=T->T≠a->h'.get? T=some {cls:=.type "traceback",dict:=none,data:=.fields ts}->ts[3]?=some Value.none->dP P w (env::outer) H1 s1 E (.ref a) {s' with heap:=h'}:=by
  intro h' T ts kp sl ea lT neT eT t3;have AB:∀b o,b≠a->b∉cK (env::outer)->s'.heap.get? b=some o->(H' b≠none\/b<s1.heap.objs.size)->h'.get? b=some o:=λb o h1 h2 h3 h4=>kp b o h1 h2 (.inr (.inr h3)) h3 h4;have szs:s1.heap.objs.size<=s'.heap.objs.size:=Y0 lo (Jj (Yp at_));have nT:H' T=none:=av.fresh lT;have Sj:fO h' a C (some d) (vs.setIfInBounds 1 (.ref T)):=⟨_,ea,cls,dic,rfl,by rw[Array.size_setIfInBounds];exact sz⟩;have Gq:cY P w H' h':=by
   intro b o hb;by_cases e1:b=a
   ·subst e1;rw[ha] at hb;cases hb;exact Qe Sj
   ·have nf:b∉cK (env::outer):=λz=>by rw[Si b z] at hb;cases hb
    have own:∀c,H' c=some (.own b)->c≠a:=λc hc z=>by rw[z,ha] at hc;cases hc
    refine(av b o hb).gS (λc u hc g=>?_) (λc hc=>hc) (λc xs hc=>hc);rcases hc with rfl|hc;·exact AB _ u e1 nf g (.inl (by rw[hb];simp))
    ·exact AB c u (own c hc) (λz=>by rw[Si c z] at hc;cases hc) g (.inl (by rw[hc];simp))
  refine⟨a,C,d,H',_,rfl,lo,os,bare,⟨λb o g' n' f' x'=>?_,λb o g' n' f' x'=>?_,un.free,λb o g' x'=>?_,un.gq,un.gT,un.ir⟩,Gq,ha,Sj,.inr ⟨T,_,ts,by simp[sz],Y0 szs lT,nT,eT,rfl,t3⟩,q⟩
  ·have g2:=un.keep b o g' n' f' x';exact AB b o (λz=>by rw[z,Rb] at g';cases g') f' g2 (.inr (Yp g'))
  ·obtain⟨s0,g2⟩:=un.slot b o g' n' f' x';obtain⟨s2,g3⟩:=sl b _ f' g2;exact⟨s2,g3⟩
  ·obtain⟨o',g2⟩:=un.there b o g' x';have hb:b≠a:=λz=>by rw[z,Rb] at g';cases g'
   by_cases f':b∈cK (env::outer)
   ·obtain⟨s2,g3⟩:=sl b _ f' g2;exact⟨_,g3⟩
   ·exact⟨o',AB b o' hb f' g2 (.inr (Yp g'))⟩
 have hE:(env.frame=some L):=hL;unfold noteFrame;simp only[hE];refine wpAny_bind ?_;rcases fl with z|⟨T0,oT,xC,z,lT,G3,g0,d0,t0⟩
 ·refine wpAny_field at_ dat z ?_;rw[if_neg (by decide)];refine K_ fr fun2 hL at_ dat sz λh' T ts k1 k2 k3 k4 k5 k6 k7=>k _ (fin h' T ts (λb o h1 h2 _ h3 _=>k1 b o h1 h2 h3) k2 k3 k4 k5 k6 k7)
 ·refine wpAny_field at_ dat z ?_;rw[if_pos (by simp)];have AD:T0≠a:=λy=>by rw[y,ha] at G3;cases G3
  refine wpAny_bind (wpAny_field g0 d0 t0 ?_);rw[if_neg (by simp[rawInt])];refine wpAny_bind (wpAny_setField g0 d0 (Jp.mp t0).1 ?_);have aH:∀b,b≠T0->(s'.heap.update T0 (Obj.mapFields (·.setIfInBounds 3 Value.none))).get? b=s'.heap.get? b:=λb hb=>Y8 _ _ (Ne.symm hb);have fT:T0∉cK (env::outer):=λy=>by
   obtain⟨o,g',nf⟩:=cj T0 y;rw[g0] at g';cases g';exact nf _ d0
  have szu:(s'.heap.update T0 (Obj.mapFields (·.setIfInBounds 3 Value.none))).objs.size=s'.heap.objs.size:=Heap.size_after_update ..;refine K_ (s:={s' with heap:=s'.heap.update T0 (Obj.mapFields (·.setIfInBounds 3 Value.none))}) fr (fun2.of_keeps λb o g' nf=>⟨o,(aH b λy=>by rw[y,g0] at g';cases g';exact nf _ d0).trans g',rfl⟩) hL ((aH a (Ne.symm AD)).trans at_) dat sz
   λh' T ts k1 k2 k3 k4 k5 k6 k7=>k _ (fin h' T ts (λb o h1 h2 _ h3 h4=>?_) (λb o h1 h2=>?_) k3 (by rw[←szu];exact k4) k5 k6 k7)
  ·have nb:b≠T0:=λy=>by
    subst y;rcases h4 with h4|h4;·exact h4 G3
    ·exact absurd lT (Nat.not_le.mpr h4)
   exact k1 b o h1 h2 ((aH b nb).trans h3)
  ·exact k2 b o h1 ((aH b λy=>fT (y▸h1)).trans h2)
end
theorem uQ.mono{lo Sk:Nat}{H:Hp}{h:Heap}{vs:Array Value}(f:uQ lo H h vs)(l:Sk<=lo):uQ Sk H h vs:=by
 rcases f with z|⟨T,oT,ts,h1,h2,r⟩;·exact .inl z
 ·exact .inr ⟨T,oT,ts,h1,Y0 l h2,r⟩
def nX(X:Cx)(E:St->XK):Prop:=∀(pins:List (Addr×Obj)) (σ:St) (H:Hp) (s:Shared) (e:Value) (s':Shared),Inv X pins σ H s->dP X.prog X.w X.stack H s (E σ) e s'->X.xe e s'
theorem Inv.OZ{X:Cx}{pins:List (Addr×Obj)}{σ:St}{H1:Hp}{s1 s3:Shared}{E:XK}{e:Value}(I:Inv X pins σ H1 s1)(cx:dP X.prog X.w X.stack H1 s1 E e s3):
  ∃(a C d:Addr) (H':Hp) (vs:Array Value),e=.ref a/\s1.heap.objs.size<=a/\Inv X pins σ H' s3/\H' a=some (xo a C (some d))/\fO s3.heap a C (some d) vs/\uQ s1.heap.objs.size H' s3.heap vs/\E (.ref C) (some d) H':=by
 obtain⟨a,C,d,H',vs,rfl,lo,os,bare,un,av,ha,xr,fl,q⟩:=cx;exact⟨a,C,d,H',vs,rfl,lo,I.FO (ch:=[]) os un av bare (λb z=>absurd z (by simp)),ha,xr,fl,q⟩
section
variable {P:Program}{w:World}{K:PySem.W.Frag}{mg:Str->Option Value}{base:Heap}{N:List Str}{qual:Str}{scope:Scope}{f:Addr}{cd:Value}{A:Around}{outer:List Env}{s:Shared}{H:Hp}{E:XK}
theorem zS:nX (jO (dP P w) P w K mg base N qual scope f cd A outer s H E) (λ_=>E):=by
 intro pins σ H1 s1 e s' I cx;show wpAny (model P w) _ (leaving _ e) _ _ s';unfold leaving;refine wpAny_bind (Nk (base:=base) I.ok.frames I.stack I.za rfl cx λs3 c3=>?_);obtain⟨a,C,d,H',vs,rfl,lo,J,ha,xr,fl,q⟩:=I.OZ c3;have sz:s.heap.objs.size<=s1.heap.objs.size:=I.sz;exact⟨a,C,d,H',vs,rfl,Y0 sz lo,J.os,J.bare,J.base,J.av,ha,xr,fl.mono sz,q⟩
theorem Rc:PassesOwn (model P w) (jO (dP P w) P w K mg base N qual scope f cd A outer s H E).A (jO (dP P w) P w K mg base N qual scope f cd A outer s H E).env (jO (dP P w) P w K mg base N qual scope f cd A outer s H E).xe:=
 λe s' h=>PassesOwn.leaving (Q₁:=λe r6=>dP P w outer H s E e r6) e s' h
end
def Zdc(sp:Sp)(cT:List V)(E:St->XK)(t:TA):TE:=λσ H Q=>t σ H λvs H1=>sp (vs++cT) H1 Q (E σ)
def Ac(P:Program)(w:World)(K:PySem.W.Frag)(mg:Str->Option Value)(base:Heap)(k:Nat)(x:Str)(ps:List Str)(sp:Sp):Prop:=
 ∃f fd,aE P w K mg base (dP P w) k f fd ps sp/\Binds K fd ps []/\keepIn K (.ref f)=true/\mg x=some (.ref f)
section
variable {X:Cx}{k j:Nat}{f C:Addr}{fd:FuncData}{ps:List Str}{sp:Sp}{cT:List V}{ds:List Value}{E:St->XK}{x m:Str}{p pos apos:Pos}{e o:Expr}{es:List Expr}{ta:TE}{t:TA}
theorem Nl{pins:List (Addr×Obj)}{σ:St}{H:Hp}{s:Shared}{Q:VK}{us:List Value}{vs:List V}(F:aE X.prog X.w X.K X.mg X.base (dP X.prog X.w) k f fd ps sp)(hr:cA k X.A)(hb:Binds X.K fd ps ds)(hd:Vals cT ds)(hx:nX X E)
  (I:Inv X pins σ H s)(r:Vals vs us)(h:sp (vs++cT) H Q (E σ)):wpAny (model X.prog X.w) X.A (call (.ref f) us) (EP X pins σ Q) X.xe s:=by
 have r2:=r.append hd;have hl:(us++ds).length=ps.length:=by rw[←r2.length];exact F.len _ _ _ _ h
 refine wpAny_call (codeAny_mono (F.run X.A X.stack s H ⟨us,[]⟩ (us++ds) (vs++cT) Q (E σ) hr I.z7 (hb s us I.bV hl) r2 h) λr s' hq=>?_);cases r with
 |error e=>exact hx pins σ H s e s' I hq
 |ok fl=>cases fl<;>first|exact I.after hq|exact False.elim hq
theorem Fn(h:Ac X.prog X.w X.K X.mg X.base k x ps sp)(hr:cA j X.A)(hj:k<=j)(hx:nX X E)(hg:Gl X x)(ha:PA X (e::es) t)
  (eC:(x==("__debug__":Str))=false:=by decide)(he:starEach (e::es) X.env=(false,eval e X.env)::starEach es X.env:=by rfl)(bN:(backTo pos (starEach es X.env)).any (·.1)=false:=by rfl):
  PE X (.Call (.Name x p) (e::es) [] pos) (Zdc sp [] E t):=by
 obtain⟨f,fd,F,b,kp,hm⟩:=h;intro pins s σ H Q I h;exact wpAny_Call_Name_kw (qU I hg hm (callWith_K I.ok.mod.lP kp (aw (ha pos pins s σ H _ I h) λus s1 ⟨vs,H1,I1,r,q⟩=>⟨I1.bV,Nl F (hr.mono hj) b .nil hx I1 r q⟩) he bN) eC)
def O0(C:Addr)(m:Str)(sp:Sp)(E:St->XK)(ta:TE)(t:TA):TE:=λσ H Q=>ta σ H λx H1=>∃a dx fs,x=.ref a/\H1 a=some (.ins C dx fs)/\fs.lookup m=none/\t σ H1 λvs H2=>sp (x::(vs++[])) H2 Q (E σ)
theorem Zan{pl:Sem Bool}(he:PE X o ta)(c:fF X.K C)(hm:Meth X.K C m f)(F:aE X.prog X.w X.K X.mg X.base (dP X.prog X.w) k f fd ps sp)(hr:cA k X.A)(hb:Binds X.K fd ps [])(hx:nX X E)(ha:PA X (e::es) t)
  (c7:starEach (e::es) X.env=(false,eval e X.env)::starEach es X.env:=by rfl)(bN:(backTo pos (starEach es X.env)).any (·.1)=false:=by rfl)
  (ht:eval (.Call (.Attribute o m apos) (e::es) [] pos) X.env=(do
   let ov←eval o X.env
   standAt apos.atName
   let(f,first)←holding [ov] (getMethod ov m pl)
   callWith pos f first (backTo pos (starEach (e::es) X.env)) (backToKw pos (keywordEach [] X.env))):=by rfl):
  PE X (.Call (.Attribute o m apos) (e::es) [] pos) (O0 C m sp E ta t):=by
 intro pins s σ H Q I h;refine methodCall_KW (aw (he pins s σ H _ I h) λu s1 zq=>?_) ht;obtain⟨x,H1,I1,rx,a,dx,fs,ex,ea,l,q⟩:=zq;subst ex;obtain rfl:u=Value.ref a:=rx;exact DD I1 ea c hm l (callWith_K I.ok.mod.lP hm.kp (aw (ha pos pins s1 σ H1 _ I1 q) λus s2 ⟨vs,H2,I2,r,q2⟩=>⟨I2.bV,Nl (vs:=.ref a::vs) F hr hb .nil hx I2 (.cons rfl r) q2⟩) c7 bN)
end
section
variable {P:Program}{w:World}{K:PySem.W.Frag}{mg:Str->Option Value}{base:Heap}
theorem aM.G4{x qual:Str}{st:Stmt}{f:Addr}{fd:FuncData}{N ps:List Str}{k:Nat}{sp:Sp}(F:aM K x qual st f fd)(S:aP N ps (aG st))(len:∀vs H Q E,sp vs H Q E->vs.length=ps.length)
  (nW:∀(aA:Value) (A:Around) (outer:List Env) (s:Shared) (H:Hp) (vs:List V) (Q:VK) (E:XK),cA k (A.deeper (envOfC qual (aG st) s.heap.objs.size f aA))->sp vs H Q E->
   ∃t,eU (jO (dP P w) P w K mg base N qual (aG st) f aA A outer s H E) (ie st) t/\t {nx:=λ_ H'=>Q .ay H',rt:=Q} (start N vs) H):aE P w K mg base (dP P w) (k+1) f fd ps sp:=by
 obtain⟨oc,od,kV,doc,pm,an,aA,ct,iD,rfl,lk,eV⟩:=F.ex;exact FT lk eV S len λA outer s H vs Q E hr kM=>nW aA A outer s H vs Q E hr kM
end
structure uz(K:PySem.W.Frag)(C f:Addr):Prop where
 lM:∃(nm q:Str) (N:Addr) (bs bm:List Value) (sn:List Str) (sub:List Value) (ab:Bool) (col:Option Bool) (dd:Option Addr) (k0 k1 k2 k3 k5:Option Value),
  K.lookup C=some (excClassObj nm q C N bs bm true sn sub ab col dd k0 k1 k2 k3 k5 "ValueError.__new__")
 kP:PySem.W.mroIn K C (.type "ValueError")=some true
 xD:PySem.W.mroIn K C (.type "BaseException")=some true
 jS:PySem.W.mroIn K C (.type "AttributeError")=some false
 se:PySem.W.mroIn K C (.type "NameError")=some false
 init:PySem.W.findIn K (.ref C) "__init__"=some (some (.ref f))
 fn:isFn K (.ref f)=true
 kp:keepIn K (.ref C)=true
theorem v8{K:PySem.W.Frag}{C:Addr}{nm q:Str}{N:Addr}{bs bm:List Value}{hd:Bool}{sn:List Str}{sub:List Value}{ab:Bool}{col:Option Bool}{dd:Option Addr}{k0 k1 k2 k3 k5:Option Value}{nid:String}{v:Value}{b:Bool}
  (l:K.lookup C=some (excClassObj nm q C N bs bm hd sn sub ab col dd k0 k1 k2 k3 k5 nid))(h:PySem.W.mroIn K C v=some b):(Value.ref C::bm).contains v=b:=by
 unfold PySem.W.mroIn PySem.W.clsIn at h
 grind
section
variable {prog:Program}{w:World}{A:Around}{E:Value->Shared->Prop}{h:Heap}{g:Array GenState}{d:Drawn}{t:Nat}{os:OsState}
variable {nm q:Str}{C N:Addr}{bs bm:List Value}{Ad:Bool}{sn:List Str}{sub:List Value}{ab:Bool}{col:Option Bool}{dd:Option Addr}{k0 k1 k2 k3 k5:Option Value}
local macro_rules|`(tactic|walk_at "vlu")=>`(tactic|exact excBase_ValueError)
theorem Zu{M:Model}{rest:List Value}{Q:Unit->Shared->Prop}(kc:h.get? C=some (excClassObj nm q C N bs bm Ad sn sub ab col dd k0 k1 k2 k3 k5 "ValueError.__new__"))(kP:(Value.ref C::bm).contains (.type "ValueError")=true)
  (z:Q () ⟨h,g,d,t,os⟩):wpAny M A (checkBuiltinCall "ValueError.__new__" ⟨.ref C::rest,[]⟩) Q E ⟨h,g,d,t,os⟩:=by
 have G:=excBase_ValueError;simp only[checkBuiltinCall,G.newKind,G.newSplit,G.newRow];repeat (first|refine wpAny_loadPart_at kc ?_|(refine wpAny_isSubtype_exc kc ?_;rw[kP])|refine wpAny_staticBase_exc kc ?_|refine wpAny_madeBy_exc kc ?_|simp only[bne_self_eq_false,if_false]|wp_step)
 exact z
theorem Zao{R:Result->Shared->Prop}{rest:List Value}(kc:h.get? C=some (excClassObj nm q C N bs bm Ad sn sub ab col dd k0 k1 k2 k3 k5 "ValueError.__new__"))(kP:(Value.ref C::bm).contains (.type "ValueError")=true)
  (jS:(Value.ref C::bm).contains (.type "AttributeError")=false)(se:(Value.ref C::bm).contains (.type "NameError")=false)
  (z:R (.ok (.ret (.ref (h.objs.size+1)))) ⟨(h.push {cls:=.type "tuple",data:=.seq rest.toArray}).push {cls:=.ref C,data:=.fields #[.ref h.objs.size,.none,.none,.none,.bool false,.none]},g,d,t,os⟩)(lim:rest.length<=sizeLine):
  codeAny (model prog w) A (.builtin "ValueError.__new__" ⟨.ref C::rest,[]⟩) R ⟨h,g,d,t,os⟩:=by
 have G:=excBase_ValueError;have ends:=G.ends;refine codeAny_builtinAt G.entry ?_;refine PySem.wpAt_bind ?_;refine PySem.wpAt_bind (PySem.wpAt_stack λp below=>PySem.wpAt_of_wpAny ?_)
 wp_walk
 refine PySem.wpAt_of_wpAny ?_;rw[G.owner];repeat (first|with_reducible refine wpAny_madeHere_exc G.canon kc ?_|with_reducible refine wpAny_loadPart_at kc ?_|(with_reducible refine wpAny_isSubtype_exc kc ?_;first|rw[kP]|rw[jS]|rw[se])|wp_step)
 simp_all
theorem Zap{rest:List Value}{fI:Addr}{Q:Fin->Shared->Prop}(kc:h.get? C=some (excClassObj nm q C N bs bm Ad sn sub ab col dd k0 k1 k2 k3 k5 "ValueError.__new__"))(kP:(Value.ref C::bm).contains (.type "ValueError")=true)
  (jS:(Value.ref C::bm).contains (.type "AttributeError")=false)(se:(Value.ref C::bm).contains (.type "NameError")=false)
  (li:PySem.W.Looks (model prog w) h (typeLookup (.ref C) "__init__") (some (.ref fI)))(lt:PySem.W.Looks (model prog w) h (typeOf (.ref fI)) (.type "function"))
  (z:wpAny (model prog w) A (call (.ref fI) (.ref (h.objs.size+1)::rest)) (λr s'=>r=.none/\Q (.done (.ret (.ref (h.objs.size+1)))) s') E
   ⟨(h.push {cls:=.type "tuple",data:=.seq rest.toArray}).push {cls:=.ref C,data:=.fields #[.ref h.objs.size,.none,.none,.none,.bool false,.none]},g,d,t,os⟩)(lim:rest.length<=sizeLine):
  wpAny (model prog w) A (Builtin.«type.__call__» ⟨.ref C::rest,[]⟩) Q E ⟨h,g,d,t,os⟩:=by
 have G:=excBase_ValueError;repeat (first|with_reducible refine wpAny_loadPart_at kc ?_|with_reducible refine wpAny_madeBy_exc kc ?_|wp_step)
 refine codeAny_call_builtin_code (Code.quiet_builtin _ G.quiet) (Zu kc kP (Zao kc kP jS se ?_ lim));show wpAny _ _ _ _ _ _;have up:∀b o,h.get? b=some o->((h.push {cls:=.type "tuple",data:=.seq rest.toArray}).push {cls:=.ref C,data:=.fields #[.ref h.objs.size,.none,.none,.none,.bool false,.none]}).get? b=some o:=
  λb o e=>Yb _ (Yb _ e)
 have kc1:=up _ _ kc;have Zez:(Value.ref C::bm).contains (.ref C)=true:=by simp
 unfold isInstance;repeat (first|with_reducible refine wpAny_loadPart_at here ?_|(with_reducible refine wpAny_isSubtype_exc kc1 ?_;rw[Zez])|wp_step)
 refine(li.keeps up) _ _ _ _ (λ_ _ e=>e) ?_;refine wpAny_holding (wpAny_bind ?_);unfold bindSpecial;refine wpAny_bind ((lt.keeps up) _ _ _ _ (λ_ _ e=>e) ?_);rw[if_pos (by decide)];refine wpAny_pure (wpAny_bind (wpAny_mono z (λr s' hr=>?_) λ_ _ x=>x));obtain⟨rfl,hQ⟩:=hr
 wp_walk
 exact hQ
theorem Zaq{rest:List Value}{fI:Addr}{Q:Value->Shared->Prop}(kc:h.get? C=some (excClassObj nm q C N bs bm Ad sn sub ab col dd k0 k1 k2 k3 k5 "ValueError.__new__"))(kP:(Value.ref C::bm).contains (.type "ValueError")=true)
  (jS:(Value.ref C::bm).contains (.type "AttributeError")=false)(se:(Value.ref C::bm).contains (.type "NameError")=false)
  (li:PySem.W.Looks (model prog w) h (typeLookup (.ref C) "__init__") (some (.ref fI)))(lt:PySem.W.Looks (model prog w) h (typeOf (.ref fI)) (.type "function"))
  (z:wpAny (model prog w) (A.under (.builtin "type.__call__" ⟨.ref C::rest,[]⟩)) (call (.ref fI) (.ref (h.objs.size+1)::rest)) (λr s'=>r=.none/\Q (.ref (h.objs.size+1)) s') E
   ⟨(h.push {cls:=.type "tuple",data:=.seq rest.toArray}).push {cls:=.ref C,data:=.fields #[.ref h.objs.size,.none,.none,.none,.bool false,.none]},g,d,t,os⟩)(lim:rest.length<=sizeLine):
  wpAny (model prog w) A (call (.ref C) rest) Q E ⟨h,g,d,t,os⟩:=by
 have f1:=tc_lookup;have f2:=tc_bind (.ref C);refine wpAny_call (codeAny_of_tree ?_);repeat (any_goals (first|assumption|with_reducible refine wpAny_loadPart_at kc ?_|wp_step))
 exact⟨rfl,codeAny_call_builtin_at (Code.quiet_builtin _ (by decide+kernel)) entry_typeCall (wpAny_check_type_call_sub kc (Zap kc kP jS se li lt z lim))⟩
end
end L2
namespace L2
open PySem PySem.Spec PyProof.Rows
open PySem.W (Looks InstAt looks_findIn looks_typeIn looks_clsIn looks_mroIn looks_find findObj findIn mroIn clsIn)
abbrev oq:List Value:=[.type "ValueError",.type "Exception",.type "BaseException",.type "object"]
structure du(K:PySem.W.Frag)(C:Addr):Prop where
 lM:∃(nm q:Str) (N:Addr) (bs:List Value) (cs:List Addr) (sn:List Str) (sub:List Value) (ab:Bool) (col:Option Bool) (dd:Option Addr) (k0 k1 k2 k3 k5:Option Value),
  K.lookup C=some (excClassObj nm q C N bs (cs.map Value.ref++oq) true sn sub ab col dd k0 k1 k2 k3 k5 "ValueError.__new__")
 ga:findIn K (.ref C) "__getattribute__"=some (some (.builtin "BaseException.__getattribute__"))
 gh:findIn K (.ref C) "__getattr__"=some none
 sa:findIn K (.ref C) "__setattr__"=some (some (.builtin "object.__setattr__"))
 cl:findIn K (.ref C) "__class__"=some (some (.builtin "object.__class__"))
 cg:specialIn K (.builtin "object.__class__") "__get__"=some (some (.builtin "getset_descriptor.__get__"))
 ct:takesIn K (.builtin "object.__class__")=some true
theorem Qg(C:Addr)(cs:List Addr)(v:Value)(h:oq.contains v=true):(Value.ref C::(cs.map Value.ref++oq)).contains v=true:=by
 grind
theorem du.mro{K:PySem.W.Frag}{C:Addr}(x:du K C)(v:Value)(h:oq.contains v=true):mroIn K C v=some true:=by
 obtain⟨nm,q,N,bs,cs,sn,sub,ab,col,dd,k0,k1,k2,k3,k5,l⟩:=x.lM;unfold PySem.W.mroIn PySem.W.clsIn
 grind
theorem du.hd{K:PySem.W.Frag}{C:Addr}(x:du K C):hasDictIn K C=true:=by
 obtain⟨nm,q,N,bs,cs,sn,sub,ab,col,dd,k0,k1,k2,k3,k5,l⟩:=x.lM;unfold hasDictIn PySem.W.clsIn;rw[l];rfl
theorem fO.inst{h:Heap}{a C d:Addr}{vs:Array Value}{od:Obj}(x:fO h a C (some d) vs)(e:h.get? d=some od):∃ox,InstAt h a ox C (some od):=by
 obtain⟨oe,e1,e2,e3,e4,_⟩:=x;refine⟨oe,e1,e2,?_,?_⟩
 ·unfold notCls;rw[e4]
 ·rw[e3];exact e
theorem fO.ZeA{h:Heap}{a C:Addr}{vs:Array Value}(x:fO h a C none vs):∃ox,InstAt h a ox C none:=by
 obtain⟨oe,e1,e2,e3,e4,_⟩:=x;refine⟨oe,e1,e2,?_,?_⟩
 ·unfold notCls;rw[e4]
 ·grind
section
variable {prog:Program}{w:World}{A:Around}{E:Value->Shared->Prop}{s:Shared}{K:PySem.W.Frag}{x C:Addr}{ox:Obj}{od:Option Obj}{name:Str}
theorem O1{tk:Tok}{R:Result->Shared->Prop}(KX:K.In s.heap)(I:InstAt s.heap x ox C od)(X:du K C)
  (k:wpAny (model prog w) A.in1 (Builtin.«object.__getattribute__» ⟨[.ref x,.str name tk],[]⟩) (λfin s'=>match fin with|.done f=>R (.ok f) s'|.again c'=>c'.quiet=true/\codeAny (model prog w) A c' R s') (λe s'=>R (.error e) s') s):
  codeAny (model prog w) A (.call (.builtin "BaseException.__getattribute__") ⟨[.ref x,.str name tk],[]⟩) R s:=by
 have G:=PySem.F.attr_ValueError;exact codeAny_call_builtin G.ga.plain PySem.F.entry_bexc_ga (check_slot (i:="BaseException.__getattribute__") (owner:="BaseException") (n:="__getattribute__") (by decide+kernel) (by decide+kernel) ((I.type).andThen (looks_mroIn KX (X.mro _ (by decide)))) (PySem.F.args_bexc_ga _ _) k)
theorem O2{tk:Tok}{fill expr:Bool}{Q:Value->Shared->Prop}(KX:K.In s.heap)(I:InstAt s.heap x ox C od)(X:du K C)
  (k:codeAny (model prog w) A (.call (.builtin "BaseException.__getattribute__") ⟨[.ref x,.str name tk],[]⟩) (λr s'=>match r with|.ok (.ret v)=>handedIn v=true/\Q v s'|_=>False) s):
  wpAny (model prog w) A (getAttrBy (.ref x) (.str name tk) fill expr) Q E s:=by
 refine wpAny_holding (wpAny_bind ((I.type).here (wpAny_bind ((looks_findIn KX X.ga).here ?_))));show wpAny _ _ (if(onTheHeap (Value.ref C)&&Value.builtin "BaseException.__getattribute__"==Value.builtin "object.__getattribute__")=true then _ else getAttrByItsOwn (.ref x) (.str name tk) (.ref C) (.builtin "BaseException.__getattribute__") fill expr) _ _ _;refine wpAny_bind ((looks_findIn KX X.gh).here (wpAny_bind (wpAny_attempt (wpAny_holding ?_))));unfold callGetattribute;rw[if_neg (by cases expr<;>exact Yh)];refine wpAny_bind (wpAny_pure (wpAny_call (codeAny_mono k λr s' z=>?_)));cases r with
 |error e=>grind
 |ok f=>
  cases f with
  |ret v=>
   obtain⟨z1,z2⟩:=z;show wpAny _ _ (handedOut v) _ _ _;rw[PySem.W.handedOut_of z1];exact wpAny_pure z2
  |next=>grind
  |brk=>grind
  |cont=>grind
theorem Zfv{expr:Bool}{v:Value}{Q:Value->Shared->Prop}(KX:K.In s.heap)(I:InstAt s.heap x ox C od)(X:du K C)(hf:findObj K C od name=some (.value v))(hh:handedIn v=true)(q:Q v {s with toks:=s.toks+1}):
  wpAny (model prog w) A (getAttr (.ref x) name expr) Q E s:=by
 exact wpAny_bind (wpAny_mkText (O2 KX I X (O1 KX I X (wpAny_bind (wpAny_pure (wpAny_bind (wpAny_pure (wpAny_bind ((I.type).at (wpAny_bind ((looks_find KX I hf).at (wpAny_pure (And.intro hh q)))))))))))))
theorem XR{od:Obj}{Q:Option Value->Shared->Prop}(KX:K.In s.heap)(I:InstAt s.heap x ox C (some od))(X:du K C)(q:Q (some (.ref C)) {s with toks:=s.toks+1}):wpAny (model prog w) A (getAttr? (.ref x) "__class__") Q E s:=by
 exact wpAny_bind (wpAny_mkText (wpAny_bind (wpAny_attempt (O2 KX I X (O1 KX I X (wpAny_bind (wpAny_pure (wpAny_bind (wpAny_pure (wpAny_bind ((I.type).here (s:={s with toks:=s.toks+1}) (wpAny_bind ((looks_find KX I (PySem.W.findObj_data (by obtain⟨cd,hc,_⟩:=any_some X.hd;rw[hc];rfl) X.cl X.cg X.ct)).here (s:={s with toks:=s.toks+1}) (wpAny_bind (wpAny_holding (wpAny_call (PySem.W.class_get KX I (X.mro _ (by decide)) (wpAny_pure ⟨rfl,wpAny_pure q⟩))))))))))))))))))
theorem Zar{od:Obj}(X:du K C):KitX K (.ref x) (.ref C) (λh=>∃ox,InstAt h x ox C (some od)) where
 ty:=λ_ _ _ ⟨_,I⟩=>I.type
 it:=λ_ _ KX _=>by
  obtain⟨nm,q,N,bs,cs,sn,sub,ab,col,dd,k0,k1,k2,k3,k5,l⟩:=X.lM;intro A' Q' E' s' k q;exact wpAny_bind (wpAny_loadPart (k _ _ (KX _ _ l)) (wpAny_pure q))
 ne:=λh tp dd0 ah n sl KX e=>by
  obtain⟨nm,q,N,bs,cs,sn,sub,ab,col,dd,k0,k1,k2,k3,k5,l⟩:=X.lM;refine Jm.mpr λz=>?_;have z:=Value.ref.inj (beq_iff_eq.mp z);subst z;have y:=congrArg Obj.cls (Yr ((KX _ _ l).symm.trans e))
  grind
 ca:=λKX ⟨_,I⟩ k=>XR KX I X k
theorem Kr(self:Value):∀cs:List Addr,refuseLoop self "__setattr__" (cs.map Value.ref++oq)=pure ()
 |[]=>PySem.F.store_ValueError.passes self
 |c::r=>by
  show refuseLoop self "__setattr__" (.ref c::(r.map Value.ref++oq))=pure ();rw[refuseLoop_ref];exact Kr self r
theorem Rf{v:Value}{Q:Unit->Shared->Prop}(KX:K.In s.heap)(I:InstAt s.heap x ox C od)(X:du K C)(na:findIn K (.ref C) name=some none)
  (k:wpAny (model prog w) A.in1 (Builtin.ObjectAttr.storeInOwnDict (.ref x) (.ref C) (.str name s.toks) name v false) (λfin s'=>fin=PySem.Fin.done (.ret .none)/\Q () s') (λ_ _=>False) {s with toks:=s.toks+1}):
  wpAny (model prog w) A (setAttr (.ref x) name v) Q E s:=by
 have SF:=PySem.F.store_object;refine set_plain KX I X.sa ?_;have sub:Looks (model prog w) s.heap (isInstance (.ref x) (.type "object")) true:=I.type.andThen (looks_mroIn KX (X.mro _ (by decide)));refine codeAny_call_builtin SF.slot.plain SF.entry (@check_slot (model prog w) _ _ {s with toks:=s.toks+1} "object.__setattr__" "object" "__setattr__" (.ref x) [.str name s.toks,v] [] _ SF.kind SF.split sub (SF.args (.ref x) (.str name s.toks) v) ?_);obtain⟨nm,q,N,bs,cs,sn,sb,ab,col,dd,k0,k1,k2,k3,k5,l⟩:=X.lM;have hm:Looks (model prog w) s.heap (mroOf (.ref C)) (.ref C::(cs.map Value.ref++oq)):=(looks_clsIn KX (by unfold PySem.W.clsIn;rw[l])).andThen .now;rw[osa_eq,refuse_eq];refine wpAny_bind (wpAny_bind (I.type.here (s:={s with toks:=s.toks+1}) (wpAny_bind (hm.here (s:={s with toks:=s.toks+1}) ?_))));rw[refuseLoop_ref,Kr];refine wpAny_pure (wpAny_bind (I.type.here (s:={s with toks:=s.toks+1}) (wpAny_bind ((looks_findIn KX na).here (s:={s with toks:=s.toks+1}) (wpAny_bind (wpAny_pure ?_))))));refine wpAny_mono k (λfin s' z=>?_) λ_ _ z=>z.elim;obtain⟨rfl,z⟩:=z;exact z
end
def xq(d:Addr)(fs:List (Str×V)):HO:=.ext λh=>∃mA,h.Ns1 d mA/\(∀f,dW (fs.lookup f) (mA f))/\PySem.Within mA (fs.map (·.1))
theorem Qh{P:Program}{w:World}{H:Hp}{h:Heap}{d:Addr}{fs:List (Str×V)}{mA:Str->Option Value}(n:h.Ns1 d mA)(r:∀f,dW (fs.lookup f) (mA f))(wi:PySem.Within mA (fs.map (·.1))):cG P w H h d (xq d fs):=
 ⟨⟨mA,n,r,wi⟩,let⟨o,_,_,e,_⟩:=n;⟨o,e⟩,λ_ _ ⟨m,y,q⟩ k=>⟨m,y.at k,q⟩⟩
theorem Fo{P:Program}{w:World}{H:Hp}{h:Heap}{d:Addr}{fs:List (Str×V)}(ok:cY P w H h)(e:H d=some (xq d fs)):∃mA,h.Ns1 d mA/\(∀f,dW (fs.lookup f) (mA f))/\PySem.Within mA (fs.map (·.1)):=(ok d _ e).1
theorem Nm{f:Str}{y:V}{u:Value}{fs:List (Str×V)}{mA:Str->Option Value}(ry:RelV y u)(r:∀g,dW (fs.lookup g) (mA g)):∀g,dW ((cH f y fs).lookup g) (if g=f then some u else mA g):=λg=>by
 rw[C4];by_cases q:g=f;·rw[if_pos q,if_pos q];exact ry
 ·grind
theorem Ks{f:Str}{y:V}{u:Value}{fs:List (Str×V)}{mA:Str->Option Value}(wi:PySem.Within mA (fs.map (·.1))):PySem.Within (λg=>if g=f then some u else mA g) ((cH f y fs).map (·.1)):=λg hg=>by
 by_cases q:g=f;·rw[q];exact(vR f y fs).1
 ·refine(vR f y fs).2 g (wi g λz=>hg ?_)
  grind
section
variable {prog:Program}{w:World}{A:Around}{E:Value->Shared->Prop}{s:Shared}{K:PySem.W.Frag}{x C:Addr}{name:Str}{nV v:Value}{b:Bool}{tk:Tok}
theorem Zv{ox:Obj}{d:Addr}{mA:Str->Option Value}{ns:List Str}{Q:PySem.Fin->Shared->Prop}(KX:K.In s.heap)(X:du K C)(hx:s.heap.get? x=some ox)(hc:ox.cls=.ref C)(hd:ox.dict=some d)(n:s.heap.Ns1 d mA)(wi:PySem.Within mA ns)(sz:ns.length<sizeLine)
  (k:∀h' xE,h'.Ns1 d (λy=>if y=name then some v else mA y)->Heap.SameBut d s.heap h'->Q (.done (.ret .none)) {s with heap:=h',toks:=xE}):
  wpAny (model prog w) A (Builtin.ObjectAttr.storeInOwnDict (.ref x) (.ref C) (.str name tk) name v b) Q E s:=by
 obtain⟨oc,odi,Sl,iD⟩:=ox;subst hc hd;obtain⟨cd,eV,hh⟩:=any_some X.hd;refine wpAny_bind (wpAny_pure (wpAny_bind (wpAny_bind (wpAny_loadPart hx (wpAny_bind ((looks_clsIn KX eV).here ?_))))));rw[hh];refine wpAny_pure (wpAny_bind (wpAny_pure (wpAny_bind (wpAny_nsSet1 n λh' n2 s2=>?_))));obtain⟨oD,R4,R5,xl,xm,xt⟩:=n2.count (PySem.Within.cons name v wi);exact wpAny_bind (wpAny_lookBehind xl (by rw[xm];exact pastItsLine_dict (Y0 xt (by rw[Wd];omega))) (wpAny_pure (k _ _ n2 s2)))
theorem Zw{ox:Obj}{vs:Array Value}{Q:PySem.Fin->Shared->Prop}(KX:K.In s.heap)(X:du K C)(hx:s.heap.get? x=some ox)(hc:ox.cls=.ref C)(hd:ox.dict=none)(hf:ox.data=.fields vs)
  (k:∀h' xE,h'.Ns1 s.heap.objs.size (λy=>if y=name then some v else none)->h'.get? x=some {ox with dict:=some s.heap.objs.size}->(∀c o,c≠x->s.heap.get? c=some o->h'.get? c=some o)->Q (.done (.ret .none)) {s with heap:=h',toks:=xE}):
  wpAny (model prog w) A (Builtin.ObjectAttr.storeInOwnDict (.ref x) (.ref C) (.str name tk) name v b) Q E s:=by
 obtain⟨oc,odi,Sl,iD⟩:=ox;subst hc hd hf;obtain⟨cd,eV,hh⟩:=any_some X.hd;refine wpAny_bind (wpAny_pure (wpAny_bind (wpAny_bind (wpAny_loadPart hx (wpAny_bind ((looks_clsIn KX eV).here ?_))))));rw[hh];have xs:=Yy (Yp hx);have Sm:(s.heap.push {cls:=.type "dict",data:=.dict #[]}).get? x=some ⟨.ref C,none,.fields vs,iD⟩:=Yb _ hx;refine wpAny_bind (wpAny_alloc' (wpAny_bind (wpAny_update' Sm (wpAny_pure ?_))));have gd:((s.heap.push {cls:=.type "dict",data:=.dict #[]}).update x λo=>{o with dict:=some s.heap.objs.size}).get? s.heap.objs.size=some {cls:=.type "dict",data:=.dict #[]}:=
  (Sn _ _ _ _ xs.symm).trans (Heap.get?_push_at rfl rfl)
 refine wpAny_bind (wpAny_pure (wpAny_bind (wpAny_nsSet1 (Heap.Ns1.of_empty ⟨_,#[],_,gd,rfl,λe he=>absurd he (by simp),λ_=>rfl⟩) λh' n2 s2=>?_)));obtain⟨oD,R4,R5,xl,xm,xt⟩:=n2.count (PySem.Within.cons name v PySem.Within.nil);refine wpAny_bind (wpAny_lookBehind xl (by rw[xm];exact pastItsLine_dict (Y0 xt (by rw[Wd,Sh,sizeLine_eq];omega))) (wpAny_pure (k _ _ n2 ?_ λc o hc hg=>?_)));·exact(s2.2 x xs).trans (Wn _ Sm rfl)
 ·exact(s2.2 c (Yy (Yp hg))).trans ((Sn _ _ _ _ hc).trans (Yb _ hg))
end
def Qi(K:PySem.W.Frag)(ta tv:TE)(f:Str):TS:=λ D σ H=>tv σ H λ y H1=>ta σ H1 λ x H2=>∃ a C,x=.ref a/\du K C/\cZ K C f /\
  ((H2 a=some (xn a C none)/\∀ d,H2 d=none->d≠a->D.nx σ (upd (upd H2 d (xq d [(f,y)])) a (xn a C (some d)))) \/
   ∃ d fs,H2 a=some (xn a C (some d))/\H2 d=some (xq d fs)/\d≠a/\fs.length < 1000/\D.nx σ (upd H2 d (xq d (cH f y fs))))
def Qj(K:PySem.W.Frag)(ta:TE)(f:Str):TE:=λσ H Q=>ta σ H λx H1=>∃a C d fs v,x=.ref a/\H1 a=some (xo a C (some d))/\H1 d=some (xq d fs)/\du K C/\cZ K C f/\fs.lookup f=some v/\Q v H1
inductive Nn(K:PySem.W.Frag)(xs:List V)(H:Hp)(Q:VK):Prop
 |mk (a C d:Addr) (fs:List (Str×V)) (c:V) (u:Value) (b:Bool) (aC:xs=[.ref a,c]) (aR:RelV c u) (a8:H a=some (xo a C (some d))) (bC:H d=some (xq d fs)) (cD:du K C) (dC:kitOne K (.ref C) u=some b) (fR:Q (.bl b) H):Nn K xs H Q
def Qk(K:PySem.W.Frag):List V->Hp->VK->Prop:=λxs H Q=>Nn K xs H Q
section
variable {X:Cx}{o e value:Expr}{f:Str}{pos pos':Pos}{ta tv:TE}
theorem ZbN(ha:PE X o ta)(hv:PE X value tv)(hs:swapsWith value (some (.Attribute o f pos')) pos.line X.env=pure false:=by rfl):PS X (.Assign [.Attribute o f pos'] value pos) (Qi X.K ta tv f):=by
 intro pins s σ H D I h;refine plainObj_wpAny_Assign_Attribute (aw (hv pins s σ H _ I h) λu s1 zq=>?_) hs;obtain⟨y,H1,I1,ry,q⟩:=zq;refine aw (ha pins s1 σ H1 _ I1 q) λov s2 zq=>?_;obtain⟨x,H2,I2,rx,a,C,ex,xa,na,q2⟩:=zq;subst ex;obtain rfl:ov=Value.ref a:=rx;rcases q2 with⟨ea,q2⟩|⟨d,fs,ea,ed,nd,lim,q2⟩
 ·obtain⟨vs,xr,v1⟩:=zF I2.av ea;obtain⟨ox,J⟩:=xr.ZeA;obtain⟨oe,e1,e2,e3,e4,e5⟩:=xr;refine Rf I2.bV J xa na (Zw (s:={s2 with toks:=s2.toks+1}) I2.bV xa e1 e2 e3 e4 λh' tk n2 ex kp=>⟨rfl,?_⟩);have dn:H2 s2.heap.objs.size=none:=I2.av.fresh (Yd _);have ne:s2.heap.objs.size≠a:=Jd (Yp e1);refine⟨σ,_,?_,q2 s2.heap.objs.size dn ne⟩;have hx':fO h' a C (some s2.heap.objs.size) vs:=⟨_,ex,e2,rfl,e4,e5⟩;refine I2.un (h':=h') (t':=tk) ⟨λb ob hb n _ _=>?_,λb ob hb n fr _=>?_,λb ob hb n _=>?_,λb ob hb _=>?_,λb xs hb=>?_,λb ob u hb=>?_,λb ps hb=>?_⟩ λb ob hb=>?_;·exact kp b ob (λz=>by rw[z,ea] at n;cases n) hb
  ·exact⟨ob.slots,kp b ob (λz=>by rw[z,ea] at n;cases n) hb⟩
  ·rw[aJ (λz=>by rw[z,ea] at n;cases n),aJ (Yy (Yp hb))];exact n
  ·by_cases z:b=a;·exact⟨_,z▸ex⟩
   ·exact⟨ob,kp b ob z hb⟩
  ·rw[aJ (λz=>by rw[z,ea] at hb;cases hb),aJ (λz=>by rw[z,dn] at hb;cases hb)];exact hb
  ·rw[aJ (λz=>by rw[z,ea] at hb;cases hb),aJ (λz=>by rw[z,dn] at hb;cases hb)];exact hb
  ·exact⟨#[],by rw[aJ (λz=>by rw[z,ea] at hb;cases hb),aJ (λz=>by rw[z,dn] at hb;cases hb),hb];simp⟩
  ·by_cases z:b=a
   ·subst z;rw[aO] at hb;cases hb;exact(λH0=>FV hx' v1) _
   ·rw[aJ z] at hb;by_cases z2:b=s2.heap.objs.size
    ·subst z2;rw[aO] at hb;cases hb;exact(λH0=>Qh n2 (Nm (fs:=[]) (mA:=λ_=>none) ry λg=>trivial) (Ks (y:=y) (fs:=[]) (mA:=λ_=>none) λg hg=>absurd rfl hg)) _
    ·rw[aJ z2] at hb;have AE:∀c t,H2 c=some t->t=.own b\/(∃xs,t=.tup xs)->c≠a/\c≠s2.heap.objs.size:=λc t hc ht=>by
      refine⟨λy=>?_,λy=>by rw[y,dn] at hc;cases hc⟩;rw[y,ea] at hc;cases hc;rcases ht with ht|⟨xs,ht⟩<;>cases ht
     refine(I2.av b ob hb).gS (λc u hc hg=>?_) (λc hc=>?_) λc xs hc=>?_;·grind
     ·rw[aJ (AE c _ hc (.inl rfl)).1,aJ (AE c _ hc (.inl rfl)).2];exact hc
     ·rw[aJ (AE c _ hc (.inr ⟨_,rfl⟩)).1,aJ (AE c _ hc (.inr ⟨_,rfl⟩)).2];exact hc
 ·obtain⟨vs,xr,v1⟩:=zF I2.av ea;obtain⟨mA,n1,rl,wi⟩:=Fo I2.av ed;obtain⟨od,_,_,jU,_⟩:=id n1;obtain⟨ox,J⟩:=xr.inst jU;obtain⟨oe,e1,e2,e3,e4,e5⟩:=xr;refine Rf I2.bV J xa na (Zv (s:={s2 with toks:=s2.toks+1}) I2.bV xa e1 e2 e3 n1 wi (by rw[Ya,sizeLine_eq];omega) λh' tk n2 sb=>⟨rfl,σ,_,?_,q2⟩);have hd:∃o,h'.get? d=some o:=let⟨o,_,_,e',_⟩:=n2;⟨o,e'⟩;exact I2.write (x:=d) (e:=d) (t':=tk) (by rw[ed];exact True.intro) (.inl rfl) (λb q hb z=>(sb.2 b hb).trans z) hd (Qh n2 (Nm ry rl) (Ks wi))
theorem ZbO(he:PE X e ta)(hb:attributeBase e f X.env (eval e X.env)=eval e X.env:=by rfl):PE X (.Attribute e f pos) (Qj X.K ta f):=by
 intro pins s σ H Q I h;refine Na hb (aw (he pins s σ H _ I h) λu s1 zq=>?_);obtain⟨x,H1,I1,rx,a,C,d,fs,v,ex,ea,ed,xa,na,l,q⟩:=zq;subst ex;obtain rfl:u=Value.ref a:=rx;obtain⟨vs,xr⟩:=OY I1.av ea;obtain⟨mA,n1,rl,wi⟩:=Fo I1.av ed;obtain⟨od,jU,lk⟩:=D9 n1;obtain⟨ox,J⟩:=xr.inst jU;have r:=rl f;rw[l] at r;obtain⟨u,hu,ru⟩:=r.some_of;exact Zfv I1.bV J xa (findObj_own xa.hd na rfl (by rw[lk,hu])) (K2 ru) ⟨v,H1,I1.tok _,ru,q⟩
theorem VU:cV X (.builtin "isinstance") (Qk X.K):=by
 rintro pins s σ H xs us Q I r ⟨a,C,d,fs,c,u,b,rfl,rc,ea,ed,xa,e,q⟩;obtain⟨u1,u2,rfl,r1,r2⟩:=vals2 r;obtain rfl:u1=Value.ref a:=r1;obtain⟨vs,xr⟩:=OY I.av ea;obtain⟨mA,n1,rl,wi⟩:=Fo I.av ed;obtain⟨od,jU,lk⟩:=D9 n1;obtain⟨ox,J⟩:=xr.inst jU;have same:kitOne X.K (.ref C) u2=some b:=by
  have e2:u2=u:=by
   cases c<;>first|exact(show u2=_ from r2).trans (show u=_ from rc).symm|skip
   all_goals (obtain⟨t1,z1⟩:=r2;obtain⟨t2,z2⟩:=rc;subst z1;subst z2)
   all_goals (exfalso;revert e;simp[kitOne,kitCls])
  rw[e2];exact e
 exact kia_one (Zar xa) I.bV ⟨ox,J⟩ same (λz=>nomatch z) λtk=>⟨.bl b,H,I.tok tk,rfl,q⟩
end
structure FW(K:PySem.W.Frag)(C:Addr)(m:Str)(f:Addr):Prop where
 ga:specialIn K (.ref C) "__getattribute__"=some (some (.builtin "type.__getattribute__"))
 rd:PySem.W.readsIn K C (.type "type")=true
 at_:findCls K (.ref C) (.type "type") m=some (.val (.ref f))
 kp:keepIn K (.ref f)=true
section
variable {X:Cx}{CX:jR}{k:Nat}{f C:Addr}{fd:FuncData}{ps:List Str}{sp:Sp}{cT:List V}{ds:List Value}{E:XK}{x m:Str}{p pos apos:Pos}{e:Expr}{es:List Expr}{t:TA}
theorem Zas{pl:Sem Bool}(cf:FW X.K C m f)(F:aE X.prog X.w X.K X.mg X.base CX k f fd ps sp)(hr:cA k X.A)(hg:Gl X x)(hm:X.mg x=some (.ref C))(hb:Binds X.K fd ps ds)(hd:Vals cT ds)(hx:Passes CX X E)(ha:PA X (e::es) t)
  (eC:(x==("__debug__":Str))=false:=by decide)(c7:starEach (e::es) X.env=(false,eval e X.env)::starEach es X.env:=by rfl)(bN:(backTo pos (starEach es X.env)).any (·.1)=false:=by rfl)
  (ht:eval (.Call (.Attribute (.Name x p) m apos) (e::es) [] pos) X.env=(do
   let ov←eval (.Name x p) X.env
   standAt apos.atName
   let(f,first)←holding [ov] (getMethod ov m pl)
   callWith pos f first (backTo pos (starEach (e::es) X.env)) (backToKw pos (keywordEach [] X.env))):=by rfl):
  PE X (.Call (.Attribute (.Name x p) m apos) (e::es) [] pos) (zP sp cT E t):=by
 intro pins s σ H Q I h;exact methodCall_KW (qU I hg hm (PySem.W.method_cls I.bV cf.ga (PySem.W.cls_value I.bV cf.rd cf.at_ rfl (callWith_K I.ok.mod.lP cf.kp (aw (ha pos pins _ σ H _ (I.tok (s.toks+1)) h) λus s2 ⟨vs,H2,I2,r,q2⟩=>⟨I2.bV,zC F hr hb hd hx I2 r q2⟩) c7 bN))) eC) ht
end
def Fp(K:PySem.W.Frag):List V->Hp->VK->Prop:=λxs H Q=>∃(a C:Addr) (y:V),xs=[.ref a,y]/\du K C/\H a=some (xn a C none)/\Q .ay H
section
variable {M:Model}{A:Around}{E:Value->Shared->Prop}{s:Shared}{K:PySem.W.Frag}{a C:Addr}
theorem XS{oe:Obj}{rest:List Value}{Q:Unit->Shared->Prop}(KX:K.In s.heap)(X:du K C)(e1:s.heap.get? a=some oe)(e2:oe.cls=.ref C)(z:Q () s):wpAny M A (checkBuiltinCall "ValueError.__init__" ⟨.ref a::rest,[]⟩) Q E s:=by
 obtain⟨nm,q,N,bs,cs,sn,sb,ab,col,dd,k0,k1,k2,k3,k5,l⟩:=X.lM;have kc:=KX _ _ l;have kP:=Qg C cs (.type "ValueError") (by decide);have G:=excBase_ValueError;have star:=G.noStar;obtain⟨h,g,d,t,os⟩:=s;simp only[checkBuiltinCall,G.initKind,G.initSplit,G.initRow];repeat (first|(with_reducible refine wpAny_loadPart_at e1 ?_;rw[e2])|with_reducible refine wpAny_loadPart_at kc ?_|(with_reducible refine wpAny_isSubtype_exc kc ?_;rw[kP])|wp_step)
 refine wpAny_onRaise ?_;rw[show ∀(u v:String) (n:Nat),Bind.check ⟨.positional,"*","ValueError",.self,[⟨"args",.varPos,false⟩]⟩ u v n (List.map (λx=>x.fst) ({pos:=Value.ref a::rest}:Args).kw)=pure () from λu v n=>check_star_args _ _ _ _ _ _];exact wpAny_pure z
end
section
variable {X:Cx}{x:Str}{p pos apos:Pos}{e:Expr}{es:List Expr}{t:TA}
theorem Zat{pins:List (Addr×Obj)}{s:Shared}{σ:St}{H:Hp}{xs:List V}{us:List Value}{Q:VK}(I:Inv X pins σ H s)(r:Vals xs us)(h:Fp X.K xs H Q):wpAny (model X.prog X.w) X.A (call (.builtin "ValueError.__init__") us) (EP X pins σ Q) X.xe s:=by
 obtain⟨a,C,y,rfl,xa,ea,q⟩:=h;obtain⟨u1,u2,rfl,r1,r2⟩:=vals2 r;obtain rfl:u1=Value.ref a:=r1;obtain⟨vs,xr,v1⟩:=zF I.av ea;obtain⟨oe,e1,e2,e3,e4,e5⟩:=id xr;have G:=excBase_ValueError;refine wpAny_call (codeAny_call_builtin G.init.plain G.initEntry (XS I.bV xa e1 e2 ?_));unfold Builtin.«BaseException.__init__»;show wpAny _ _ (do let tu←newTuple [u2];Builtin.BaseException.bexcPut (.ref a) 0 tu;ret .none) _ _ _;refine wpAny_bind ?_;unfold newTuple;refine wpAny_newObj_type (wpAny_bind ?_);have ep:=Yb {cls:=.type "tuple",dict:=none,data:=.seq [u2].toArray} e1;have v0:vs[0]?=some vs[0]:=Ww (by omega);unfold Builtin.BaseException.bexcPut;refine wpAny_bind (wpAny_field ep e4 v0 (wpAny_bind (wpAny_setField ep e4 (by omega) ?_)));have fin:EP X pins σ Q Value.none {s with heap:=(s.heap.push {cls:=.type "tuple",dict:=none,data:=.seq [u2].toArray}).update a (Obj.mapFields (·.setIfInBounds 0 (Value.ref s.heap.objs.size)))}:=by
  have d3:=Obj.data_mapFields e4 (·.setIfInBounds 0 (Value.ref s.heap.objs.size));have g3:=Wn (Obj.mapFields (·.setIfInBounds 0 (Value.ref s.heap.objs.size))) ep (Obj.isFreed_of_fields d3);have J:=I.write (x:=a) (e:=a) (o:=xn a C none) (t':=s.toks) (h':=(s.heap.push {cls:=.type "tuple",dict:=none,data:=.seq [u2].toArray}).update a (Obj.mapFields (·.setIfInBounds 0 (Value.ref s.heap.objs.size)))) (by rw[ea];exact True.intro) (.inl rfl)
   (λb o hb g=>by rw[Y8 _ _ (Ne.symm hb)];exact Yb _ g) ⟨_,g3⟩
   (FV (vs:=vs.setIfInBounds 0 (Value.ref s.heap.objs.size)) ⟨_,g3,by rw[Obj.cls_mapFields];exact e2,by obtain⟨c,dd,da,sl⟩:=oe;cases e4;exact e3,d3,by rw[Array.size_setIfInBounds];exact e5⟩ (by rw[Array.getElem?_setIfInBounds_ne (by decide)];exact v1))
  have same:upd H a (xn a C none)=H:=by
   funext b
   by_cases z:b=a;·rw[z,aO,ea]
   ·rw[aJ z]
  rw[same] at J;exact⟨.ay,H,J,rfl,q⟩
 generalize vs[0]=old;cases old<;>first|exact wpAny_pure (wpAny_pure fin)|exact wpAny_letGo (wpAny_pure fin)|exact wpAny_bind (wpAny_letGo (wpAny_pure (wpAny_pure fin)))
theorem ZbP{K:PySem.W.Frag}:findCls K (.type "ValueError") (.type "type") "__init__"=some (.val (.builtin "ValueError.__init__")):=by kernel_rfl
theorem Ql{K:PySem.W.Frag}:findIn K (.type "type") "__getattribute__"=some (some (.builtin "type.__getattribute__")):=by kernel_rfl
theorem Zdd{K:PySem.W.Frag}:subIn K (.type "type") (.type "type")=some true:=by kernel_rfl
theorem Qm:typeOf (.type "ValueError")=pure (.type "type"):=by kernel_rfl
theorem ZeB:opaqueClassAbove (.type "ValueError")=pure none:=by kernel_rfl
theorem ZbQ:bootBuiltins "ValueError"=some (.type "ValueError"):=by decide+kernel
theorem Zx{prog:Program}{w:World}{A:Around}{E:Value->Shared->Prop}{s:Shared}{K:PySem.W.Frag}{pl:Sem Bool}{Q:Value×List Value->Shared->Prop}(KX:K.In s.heap)(z:Q (.builtin "ValueError.__init__",[]) {s with toks:=s.toks+1}):
  wpAny (model prog w) A (getMethod (.type "ValueError") "__init__" pl) Q E s:=by
 have L1:Looks (model prog w) s.heap (specialOf (.type "ValueError") "__getattribute__") (some (.builtin "type.__getattribute__")):=(Looks.of_pure Qm).andThen (looks_findIn KX Ql);unfold getMethod;refine wpAny_bind (L1.here ?_);show wpAny _ _ (if(Manifest.canonical "type.__getattribute__" !="object.__getattribute__")=true then _ else _) _ _ _;rw[if_pos PySem.W.canon_tga];refine wpAny_bind (PySem.W.cls_open KX (Looks.of_pure ZeB) (Looks.of_pure Qm) Ql (hook:=none) (Looks.of_pure rfl) Zdd ZbP ?_);exact wpAny_pure (PySem.W.handed_on rfl (wpAny_pure z))
theorem Zau{pl:Sem Bool}(hg:Gl X "ValueError")(hm:X.mg "ValueError"=none)(ha:PA X (e::es) t)
  (c7:starEach (e::es) X.env=(false,eval e X.env)::starEach es X.env:=by rfl)(bN:(backTo pos (starEach es X.env)).any (·.1)=false:=by rfl)
  (ht:eval (.Call (.Attribute (.Name "ValueError" p) "__init__" apos) (e::es) [] pos) X.env=(do
   let ov←eval (.Name "ValueError" p) X.env
   standAt apos.atName
   let(f,first)←holding [ov] (getMethod ov "__init__" pl)
   callWith pos f first (backTo pos (starEach (e::es) X.env)) (backToKw pos (keywordEach [] X.env))):=by rfl):
  PE X (.Call (.Attribute (.Name "ValueError" p) "__init__" apos) (e::es) [] pos) (lU (Fp X.K) t):=by
 intro pins s σ H Q I h;refine methodCall_KW (pl:=pl) (wb I hg hm ZbQ ?_) ht;refine Zx I.bV ?_;exact PyProof.Rows.callWith_builtin1 (aw (ha pos pins _ σ H _ (I.tok _) h) λus s1 ⟨vs,H1,I1,r1,q1⟩=>Zat I1 r1 q1) c7 bN
end
def Zde(C:Addr)(sp:Sp)(cT:List V)(E:St->XK)(t:TA):TS:=λ_ σ H=>t σ H λvs H1=>vs.length<=1000/\∀a,H1 a=none->
 sp (.ref a::(vs++cT)) (upd H1 a (xn a C none)) (λv H2=>v=.ay/\∃d,H2 a=some (xn a C (some d))/\E σ (.ref C) (some d) (upd H2 a (xo a C (some d)))) E0
section
variable {X:Cx}{k:Nat}{f C:Addr}{fd:FuncData}{ps:List Str}{sp:Sp}{cT:List V}{ds:List Value}{E:St->XK}{x:Str}{p pos b_:Pos}{e:Expr}{es:List Expr}{t:TA}
theorem Zav(M:uz X.K C f)(F:aE X.prog X.w X.K X.mg X.base aL k f fd ps sp)(hr:cA (k+1) X.A)(hc:X.calm=true)(hg:Gl X x)(hm:X.mg x=some (.ref C))(hb:Binds X.K fd ps ds)(hd:Vals cT ds)(hx:nX X E)(ha:PA X (e::es) t)
  (eC:(x==("__debug__":Str))=false:=by decide)(he:starEach (e::es) X.env=(false,eval e X.env)::starEach es X.env:=by rfl)(bN:(backTo b_ (starEach es X.env)).any (·.1)=false:=by rfl):
  PS X (.Raise (some (.Call (.Name x p) (e::es) [] b_)) none pos) (Zde C sp cT E t):=by
 intro pins s σ H D I h;rw[arm_exec_Raise];refine wpAny_bind (wpAny_standAt ?_);show wpAny _ X.A (raiseStmt X.env (some (do let v←eval (.Call (.Name x p) (e::es) [] b_) X.env;standAt pos;pure v)) none) _ _ s;unfold raiseStmt;refine wpAny_bind (wpAny_bind ?_);refine wpAny_Call_Name_kw (qU I hg hm ?_ eC);refine callWith_K (h₀:=X.base) I.ok.mod.lP M.kp (aw (ha b_ pins s σ H _ I h) λus s1 ⟨vs,H1,I1,r,lim,q⟩=>⟨I1.bV,?_⟩) he bN;obtain⟨nm,qn,N,bs,bm,sn,sub,ab,col,dd,k0,k1,k2,k3,k5,lk⟩:=M.lM;have kc:=I1.bV _ _ lk;have fr:H1 (s1.heap.objs.size+1)=none:=I1.av.fresh (Jz _);have hq:=q (s1.heap.objs.size+1) fr;have r2:Vals (V.ref (s1.heap.objs.size+1)::(vs++cT)) (Value.ref (s1.heap.objs.size+1)::(us++ds)):=.cons rfl (r.append hd);have hl:((Value.ref (s1.heap.objs.size+1)::us)++ds).length=ps.length:=by
  have z:=r2.length;rw[F.len _ _ _ _ hq] at z;exact z.symm
 have here:((s1.heap.push {cls:=.type "tuple",data:=.seq us.toArray}).push {cls:=.ref C,data:=.fields #[.ref s1.heap.objs.size,.none,.none,.none,.bool false,.none]}).get? (s1.heap.objs.size+1)=
   some {cls:=.ref C,data:=.fields #[.ref s1.heap.objs.size,.none,.none,.none,.bool false,.none]}:=by heap_get
 have up:∀b o,s1.heap.get? b=some o->((s1.heap.push {cls:=.type "tuple",data:=.seq us.toArray}).push {cls:=.ref C,data:=.fields #[.ref s1.heap.objs.size,.none,.none,.none,.bool false,.none]}).get? b=some o:=
  λb o z=>Yb _ (Yb _ z)
 have new:cG X.prog X.w (upd H1 (s1.heap.objs.size+1) (xn (s1.heap.objs.size+1) C none)) _ (s1.heap.objs.size+1) (xn (s1.heap.objs.size+1) C none):=FV (vs:=#[.ref s1.heap.objs.size,.none,.none,.none,.bool false,.none]) ⟨_,here,rfl,rfl,rfl,by show 1<6;decide⟩ rfl;have I2:=I1.laid (a:=s1.heap.objs.size+1) (o:=xn (s1.heap.objs.size+1) C none) (t':=s1.toks) up (Jz _) new;have L1:=looks_findIn (M:=model X.prog X.w) I1.bV M.init;have L2:=looks_typeIn (M:=model X.prog X.w) I1.bV (beq_iff_eq.mp M.fn);have ul:us.length<=sizeLine:=by
  rw[←r.length,sizeLine_eq];omega
 obtain⟨h1,g1,d1,t1,o1⟩:=s1;refine Zaq kc (v8 lk M.kP) (v8 lk M.jS) (v8 lk M.se) L1 L2 (wpAny_call (codeAny_mono (F.run _ X.stack _ _ ⟨Value.ref (h1.objs.size+1)::us,[]⟩ (Value.ref (h1.objs.size+1)::(us++ds)) _ _ E0 (hr.make C us [])
  (I2.z7.make C us []) (hb _ (Value.ref (h1.objs.size+1)::us) I2.bV hl) r2 hq) λr s' lS=>?_)) ul
 cases r with
 |error _=>exact False.elim lS
 |ok fl=>
  cases fl with
  |next=>exact False.elim lS
  |brk=>exact False.elim lS
  |cont=>exact False.elim lS
  |ret u=>
   obtain⟨v,H',Ax,bare,un,av,rv,rfl,d,ea,jN⟩:=lS;obtain rfl:u=Value.none:=rv;refine⟨rfl,wpAny_bind (wpAny_standAt (wpAny_pure ?_))⟩;obtain⟨ws,xr,w1⟩:=zF av ea;obtain⟨oe,e1,e2,e3,e4,e5⟩:=id xr;have I3:Inv X pins σ H' s':=I2.FO (ch:=[]) Ax un av bare λb z=>absurd z (by simp);have So:=I3.bV _ _ lk;have xD:=v8 lk M.xD;obtain⟨oc,od,Sl,iD⟩:=oe;dsimp only at e2 e3 e4;subst e2 e3 e4;have xe:X.xe (.ref (h1.objs.size+1)) s':=by
    refine hx pins σ H1 ⟨h1,g1,d1,t1,o1⟩ _ s' I1 ⟨h1.objs.size+1,C,d,upd H' (h1.objs.size+1) (xo (h1.objs.size+1) C (some d)),ws,rfl,Jz _,Ax,bare,?_,?_,aO,xr,.inl w1,jN⟩
    ·have sf:Un (cK X.stack) [] H1 H' h1 s'.heap:=(Un.laid up (Jz _) fr).trans un;have old:∀b o,h1.get? b=some o->b≠h1.objs.size+1:=λb o hb=>Yy (Wt (Yp hb));have tk:∀b u,H1 b=some u->b≠h1.objs.size+1:=λb u hb z=>by rw[z,fr] at hb;cases hb
     exact⟨sf.keep,sf.slot,λb o hb n x'=>by rw[aJ (old b o hb)];exact sf.free b o hb n x',sf.there,λb xs hb=>by rw[aJ (tk b _ hb)];exact sf.gq b xs hb,
      λb o u hb=>by rw[aJ (tk b _ hb)];exact sf.gT b o u hb,λb ps hb=>by rw[aJ (tk b _ hb)];exact sf.ir b ps hb⟩
    ·intro b o hb;by_cases z:b=h1.objs.size+1
     ·subst z;rw[aO] at hb;cases hb;exact Qe xr
     ·rw[aJ z] at hb;have nz:∀c u,H' c=some u->(u=.own b\/∃xs,u=.tup xs)->c≠h1.objs.size+1:=λc u hc hu y=>by
       rw[y,ea] at hc;cases hc;rcases hu with hu|⟨xs,hu⟩<;>cases hu
      exact(av b o hb).gS (λ_ _ _ g=>g) (λc hc=>by rw[aJ (nz c _ hc (.inl rfl))];exact hc) λc xs hc=>by rw[aJ (nz c _ hc (.inr ⟨_,rfl⟩))];exact hc
   have hh:=I.ok.hd hc;obtain⟨h',g',d',t',o'⟩:=s';repeat (first|with_reducible refine wpAny_loadPart_at e1 ?_|with_reducible refine wpAny_loadPart_at So ?_|(with_reducible refine wpAny_isSubtype_exc So ?_;rw[xD])|with_reducible refine wpAny_field e1 rfl w1 ?_|wp_step)
   exact wpAny_raiseNew_none hh xe
end
abbrev Cx.hand(X:Cx)(a:Addr):Cx:={X with A:=X.A.mark (some (.ref a)),calm:=false}
theorem Cx.Ok.hand{X:Cx}(ok:X.Ok)(a:Addr):(X.hand a).Ok:=
 ⟨ok.mod,ok.kind,ok.glob,ok.blt,ok.above,ok.inj,ok.has,ok.rY,λz=>absurd (show false=true from z) Yh,ok.frames,ok.uF,ok.qc,ok.bs,ok.lQ,ok.rK,ok.pV,ok.jq,ok.ou⟩
section
variable {X:Cx}{pins:List (Addr×Obj)}{σ:St}{H:Hp}{s:Shared}
theorem Inv.hand(I:Inv X pins σ H s)(a:Addr):Inv (X.hand a) pins σ H s:=⟨I.ok.hand a,I.os,I.bare,I.base,I.loc,I.cell,I.free,I.gQ,I.pin,I.av,I.len⟩
theorem Inv.Zdf{a:Addr}(ok:X.Ok)(I:Inv (X.hand a).mV pins σ H s):Inv X pins σ H s:=⟨ok,I.os,I.bare,I.base,I.loc,I.cell,I.free,I.gQ,I.pin,I.av,I.len⟩
theorem Inv.wm{pn:List (Addr×Obj)}{xe:Value->Shared->Prop}{pl:List (Addr×Obj)}(ok:X.Ok)(I:Inv {X with pn:=X.pn++pn,xe:=xe} pl σ H s):Inv X pn σ H s:=
 ⟨ok,I.os,I.bare,I.base,I.loc,I.cell,I.free,I.gQ,λp hp=>I.pin p (Yq _ hp),I.av,I.len⟩
theorem Inv.Zdg{xe:Value->Shared->Prop}(I:Inv X pins σ H s):Inv {X with pn:=X.pn++pins,xe:=xe} [] σ H s:=
 ⟨⟨I.ok.mod,I.ok.kind,I.ok.glob,I.ok.blt,I.ok.above,I.ok.inj,I.ok.has,I.ok.rY,I.ok.hd,I.ok.frames,I.ok.uF,I.ok.qc,I.ok.bs,I.ok.lQ,I.ok.rK,I.ok.pV,I.ok.jq,I.ok.ou⟩,
  I.os,I.bare,I.base,I.loc,I.cell,I.free,I.gQ,λp hp=>I.pin p (by rw[Wb] at hp;exact hp),I.av,I.len⟩
theorem Inv.gone{n:Str}{i:Nat}{h':Heap}{v:Option Value}{m:Str->Option Value}{t':Nat}(I:Inv X pins σ H s)(hN:X.N.Nodup)(hi:X.N[i]?=some n)(hn:s.heap.Ns X.env.locals m)
  (lk:∀(i:Nat) (x:Str) (v:V),X.N[i]?=some x->σ[i]?=some (some v)->rX X.env.scope x->∃u,RelV v u/\Look X.env s.heap m x u)
  (n2:h'.Ns X.env.locals (λx=>if x=n then v else m x))(sb:Heap.SameBut X.env.locals s.heap h'):Inv X pins (σ.set i none) H {s with heap:=h',toks:=t'}:=by
 have old:∀b o,X.cQ.heap.get? b=some o->b≠X.env.locals:=λb o hb z=>absurd (Yp (z▸hb)) (Nat.not_lt.mpr I.ok.above);have kp:∀b o,b≠X.env.locals->s.heap.get? b=some o->h'.get? b=some o:=λb o hb hg=>(sb.2 b hb).trans hg;have uE:∀b u,H b=some u->b≠X.env.locals:=λb u hb z=>by rw[z,I.free] at hb;cases hb
 refine⟨I.ok,I.os,I.bare,⟨λb o e n' f x=>kp b o (old b o e) (I.base.keep b o e n' f x),λb o e n' f x=>?_,I.base.free,λb o e x=>?_,I.base.gq,I.base.gT,I.base.ir⟩,⟨_,n2,λj x w e1 e2 e3=>?_⟩,λx c e=>?_,I.free,I.gQ,λp hp=>?_,λb u hb=>?_,?_⟩
 ·obtain⟨sl,g⟩:=I.base.slot b o e n' f x;exact⟨sl,kp b _ (old b o e) g⟩
 ·obtain⟨o',g⟩:=I.base.there b o e x;exact⟨o',kp b o' (old b o e) g⟩
 ·by_cases z:i=j
  ·subst z;have bad:(σ.set i none)[i]?=some (some w):=e2;rw[List.getElem?_set_self'] at bad;cases q:σ[i]? with
   |none=>rw[q] at bad;cases bad
   |some y=>rw[q] at bad;cases bad
  ·rw[J8 z] at e2;obtain⟨u,r,l⟩:=lk j x w e1 e2 e3;refine⟨u,r,?_⟩;have ne:x≠n:=λy=>z (Et hN hi (y▸e1));rcases l with⟨k1,k2⟩|⟨k1,c,k2,⟨o,k3,k4⟩⟩
   ·refine .inl ⟨k1,?_⟩;show(if x=n then v else m x)=some u;rw[if_neg ne];exact k2
   ·exact .inr ⟨k1,c,k2,o,kp c o (I.oy x c k2) k3,k4⟩
 ·obtain⟨w,o,k3,k4⟩:=I.cell x c e;exact⟨w,o,kp c o (I.oy x c e) k3,k4⟩
 ·obtain⟨k1,k2,k3,k4⟩:=I.pin p hp;exact⟨kp p.1 p.2 k3 k1,k2,k3,k4⟩
 ·refine(I.av b u hb).gS (λc o hc hg=>kp c o ?_ hg) (λ_ q=>q) λ_ _ q=>q;rcases hc with rfl|hc;·exact uE _ _ hb
  ·exact uE _ _ hc
 ·rw[W4];exact I.len
end
section
variable {M:Model}{A:Around}{E:Value->Shared->Prop}{s:Shared}{K:PySem.W.Frag}{a C B:Addr}{d:Option Addr}{vs:Array Value}
theorem Zy{Q:Bool->Shared->Prop}{b:Bool}(KX:K.In s.heap)(XB:du K B)(XC:du K C)(xr:fO s.heap a C d vs)(mt:mroIn K C (.ref B)=some b)(z:Q b s):wpAny M A (excMatches (.ref a) (.ref B)) Q E s:=by
 obtain⟨nm,q,N,bs,cs,sn,sb,ab,col,dd,k0,k1,k2,k3,k5,l⟩:=XB.lM;obtain⟨nm',q',N',bs',cs',sn',sb',ab',Zhu,gX,l0,l1,l2,l3,l5,l'⟩:=XC.lM;have kb:=KX _ _ l;have kc:=KX _ _ l';obtain⟨oe,e1,e2,_⟩:=xr;have xD:=Qg B cs (.type "BaseException") (by decide);have isC:=v8 l' mt;have f:=tc_notTuple;unfold excMatches;repeat (first|(with_reducible refine wpAny_loadPart_at e1 ?_;rw[e2])|with_reducible refine wpAny_loadPart_at kb ?_|(with_reducible refine wpAny_isSubtype_exc kb ?_;rw[xD])|(with_reducible refine wpAny_isSubtype_exc kc ?_;rw[isC])|wp_step)
 cases b<;>(wp_walk;exact z)
theorem ZbR{Q:Unit->Shared->Prop}{lo:Nat}{H:Hp}(xr:fO s.heap a C d vs)(fl:uQ lo H s.heap vs)(z:Q () s):wpAny M A (setFlight (.ref a) none) Q E s:=by
 obtain⟨oe,e1,e2,e3,e4,e5⟩:=xr;rcases fl with y|⟨T,oT,ts,y,_,_,g0,d0,t0⟩
 ·refine wpAny_bind (wpAny_field e1 e4 y ?_);exact wpAny_pure z
 ·refine wpAny_bind (wpAny_field e1 e4 y ?_);refine wpAny_setField g0 d0 (Jp.mp t0).1 ?_;have same:=Heap.update_setField_same s.heap T oT ts 3 Value.none g0 d0 t0;simp_all
end
def hX(K:PySem.W.Frag)(B:Addr)(i:Nat)(th:TS)(D:Ends):St->XK:=λσ c o H=>∃C d,c=.ref C/\o=some d/\du K C/\mroIn K C (.ref B)=some true/\
 ∀a,H a=some (xo a C (some d))->th {nx:=λaF H'=>D.nx (aF.set i none) H',rt:=D.rt,bk:=λaF H'=>D.bk (aF.set i none) H',ct:=λaF H'=>D.ct (aF.set i none) H'} (σ.set i (some (.ref a))) H
section
variable {X:Cx}{B:Addr}{i:Nat}{n x:Str}{body zT:List Stmt}{b0:Stmt}{px hp pos:Pos}{tb:(St->XK)->TS}{th:TS}
theorem Zdh(fr:X.stack=X.env::X.outer/\X.env.frame=some X.env.locals)(hN:X.N.Nodup)(hi:X.N[i]?=some n)(hl:X.env.scope.names.lookup n=some .local)(hg:Gl X x)(hm:X.mg x=some (.ref B))(XB:du X.K B)
  (hb:∀pn xe E,nX {X with pn:=pn,xe:=xe} E->PassesOwn (model X.prog X.w) X.A X.env xe->eU {X with pn:=pn,xe:=xe} body (tb E))
  (hh:∀a,eU (X.hand a).mV (b0::zT) th)(eC:(x==("__debug__":Str))=false:=by decide):
  PS X (.Try body [.ExceptHandler (some (.Name x px)) (some n) (b0::zT) hp] [] [] pos) (λD σ H=>tb (hX X.K B i th D) D σ H):=by
 intro pins s σ H D I h;refine wpAny_bind (wpAny_standAt (wpAny_tryStmt_except ?_));let xe:Value->Shared->Prop:=λe s1=>wpAny (model X.prog X.w) X.A (noteFrame e X.env) (λ_ s2=>wpAny (model X.prog X.w) X.A (setFlight e none) (λ_ s3=>wpAny (model X.prog X.w) X.A (handleBy e X.env [.ExceptHandler (some (.Name x px)) (some n) (b0::zT) hp]) (SP X pins D) X.xe s3) X.xe s2) X.xe s1;have px':nX {X with pn:=X.pn++pins,xe:=xe} (hX X.K B i th D):=by
  intro FN aF H1 s1 e s' I' cx;have st:X.A.frames=some (X.env::X.outer):=by rw[←fr.1];exact I.ok.frames
  have f1:s1.heap.FunFrames X.base (X.env::X.outer):=by rw[←fr.1];exact I'.stack
  have f2:∀b∈cK (X.env::X.outer),H1 b=none:=by rw[←fr.1];exact I'.za
  refine Nk st f1 f2 fr.2 (by rw[←fr.1];exact cx) λs3 c3=>?_;rw[←fr.1] at c3;obtain⟨a,C,d,H',vs,rfl,lo,J,ea,xr,fl,C',d',ec,ed,XC,mt,q⟩:=I'.OZ c3;cases ec;cases ed;have J2:=J.wm I.ok;refine wpAny_handleBy_cons (codeAny_handlers_test (qU (J2.hand a) hg hm (Zy J2.bV XB XC xr mt (codeAny_handlers_suite_as (ZbR xr fl (yW (v:=.ref a) J2 hN hi (.inl hl) rfl (λs4 J4=>wpAny_mono (hh a pins s4 _ _ _ ((J4.hand a).jN _) (q a ea)) (λf s5 z=>?_) λ_ _ z=>False.elim z) (.inr hl))))) eC)) (by intro z;cases z);have fin:∀{sh:St} {H5:Hp},Inv (X.hand a).mV pins sh H5 s5->∀Q:Unit->Shared->Prop,(∀s6,Inv X pins (sh.set i none) H5 s6->Q () s6)->wpAny (model X.prog X.w) X.A (do bindName X.env n .none;unbindBehindTheSuite X.env n hp) Q X.xe s5:=by
   intro sh H5 J5 Q k;have J6:=Inv.Zdf I.ok J5;obtain⟨m,hn,lk⟩:=J6.loc;refine wpAny_nameGoes_keeps (show X.env.kindOf n=some .local from hl) hn (by rw[I.ok.kind];rfl) λh' v n2 sb=>k _ (J6.gone hN hi hn lk n2 sb)
  cases f with
  |next=>
   obtain⟨sh,H5,J5,z⟩:=z;exact fin J5 _ λs6 J6=>⟨_,_,J6,z⟩
  |brk=>
   obtain⟨sh,H5,J5,z⟩:=z;exact fin J5 _ λs6 J6=>⟨_,_,J6,z⟩
  |cont=>
   obtain⟨sh,H5,J5,z⟩:=z;exact fin J5 _ λs6 J6=>⟨_,_,J6,z⟩
  |ret u=>
   obtain⟨v,sh,H5,J5,rv,z⟩:=z;exact fin J5 _ λs6 J6=>⟨_,_,_,J6,rv,z⟩
 refine wpAny_mono (hb _ xe _ px' (PassesOwn.looking (K:=λe s2=>wpAny (model X.prog X.w) X.A (setFlight e none) (λ_ s3=>wpAny (model X.prog X.w) X.A (handleBy e X.env [.ExceptHandler (some (.Name x px)) (some n) (b0::zT) hp]) (SP X pins D) X.xe s3) X.xe s2)) [] s σ H D I.Zdg h) (λf s1 z=>?_) λ_ _ z=>z;cases f with
 |next=>
  obtain⟨aF,H',J,q⟩:=z;exact wpAny_pure ⟨aF,H',J.wm I.ok,q⟩
 |brk=>
  obtain⟨aF,H',J,q⟩:=z;exact⟨aF,H',J.wm I.ok,q⟩
 |cont=>
  obtain⟨aF,H',J,q⟩:=z;exact⟨aF,H',J.wm I.ok,q⟩
 |ret u=>
  obtain⟨v,aF,H',J,rv,q⟩:=z;exact⟨v,aF,H',J.wm I.ok,rv,q⟩
end
def Zfw(K:PySem.W.Frag)(te:TE):TE:=λσ H Q=>te σ H λx H1=>(∃y:Str,x=.str y/\y.length<=sizeLine/\Q (.str y) H1)\/(∃i:Int,x=.int i/\i.natAbs.log2<1920/\Q (.str (toString i)) H1)\/
 ∃(a:Addr) (ns:List Int),x=.ref a/\aB K H1 a (ns.map V.int)/\(∀n∈ns,n.natAbs.log2<1920)/\(PyData.tuple (ns.map PyData.int)).shown.length<=sizeLine/\Q (.str (PyData.tuple (ns.map PyData.int)).shown) H1
theorem XT{h:Heap}{ns:List Int}:∀{us:List Value},Vals (ns.map V.int) us->∃as,ReadsAll h us (ns.map PyData.int) as:=by
 induction ns with
 |nil=>intro us r;cases r;exact⟨[],.nil⟩
 |cons n r ih=>
  intro us q;cases q with
  |cons q1 q2=>
   obtain⟨t,rfl⟩:=q1;obtain⟨as,z⟩:=ih q2;exact⟨_,.cons (.int n t) z⟩
theorem Zz{ns:List Int}(h:∀n∈ns,n.natAbs.log2<1920):PyData.showableAll (ns.map PyData.int)=true:=by
 induction ns with
 |nil=>rfl
 |cons n r ih=>
  show(decide (n.natAbs.log2<1920)&&PyData.showableAll (r.map PyData.int))=true
  grind
theorem WU(ns:List Int):PyData.hasDictAll (ns.map PyData.int)=false:=by
 induction ns with
 |nil=>rfl
 |cons n r ih=>exact ih
theorem XU(ns:List Int):PyData.depthAll (ns.map PyData.int)=0:=by
 induction ns with
 |nil=>rfl
 |cons n r ih=>
  show max (PyData.int n).depth (PyData.depthAll (r.map PyData.int))=0;rw[ih];rfl
section
variable {X:Cx}{e:Expr}{te:TE}{pos:Pos}
theorem O3{j:Nat}(hr:cA j X.A)(he:PE X e te):PE X (.FormattedValue e (-1) none pos) (Zfw X.K te):=by
 intro pins s σ H Q I h;refine wpAny_FormattedValue_plain (aw (he pins s σ H _ I h) λu s1 zq=>?_);obtain⟨x,H1,I1,rx,q⟩:=zq;rcases q with⟨y,rfl,ly,q⟩|⟨i,rfl,li,q⟩|⟨a,ns,rfl,hq,sm,sz,q⟩
 ·obtain⟨t,rfl⟩:=rx;exact wpAny_formatField_str ⟨.str y,H1,I1,⟨t,rfl⟩,q⟩ ⟨.str y,H1,I1.tok _,⟨_,rfl⟩,q⟩ ly
 ·obtain⟨t,rfl⟩:=rx;exact wpAny_formatField_int li ⟨.str (toString i),H1,I1.tok _,⟨_,rfl⟩,q⟩
 ·obtain rfl:u=Value.ref a:=rx;obtain⟨ah,r,⟨o,g,oc,n,od⟩,hz⟩:=I1.tuple hq;obtain⟨as,ra⟩:=XT (h:=s1.heap) r;refine formatField_of_reads (prog:=X.prog) (w:=X.w) (.tuple g oc od (by rw[List.toList_toArray];exact ra)) (show PyData.showableAll _=true from Zz sm) (λz=>?_) hr.gd ?_ (λ_ _ z=>z) (λh' u tk kp=>⟨.str (PyData.tuple (ns.map PyData.int)).shown,H1,I1.kept (t':=tk) kp,⟨u,rfl⟩,q⟩) sz
  ·have z':PyData.hasDictAll (ns.map PyData.int)=true:=z;rw[WU] at z';cases z'
  ·show X.A.units+(PyData.depthAll (ns.map PyData.int)+1+2)<cLine;rw[XU];have:=hr.un;omega
end
abbrev TJ:=Str->St->Hp->(Str->Hp->Prop)->Prop
def PJ(X:Cx)(es:List Expr)(t:TJ):Prop:=
 ∀(pins:List (Addr×Obj)) (s:Shared) (σ:St) (H:Hp) (acc:Str) (R:Str->Hp->Prop) (Q:Str->Shared->Prop),Inv X pins σ H s->t acc σ H R->(∀y s' H',Inv X pins σ H' s'->R y H'->Q y s')->PySem.Joins (model X.prog X.w) X.A X.xe (evalEach es X.env) acc Q s
def Zfx:TJ:=λacc _ H R=>R acc H
def ZeC(te:TE)(tr:TJ):TJ:=λacc σ H R=>te σ H λx H1=>∃y,x=.str y/\(acc++y).length<=sizeLine/\tr (acc++y) σ H1 R
def ZeD(t:TJ):TE:=λσ H Q=>t Str.empty σ H λy H1=>y.length<=sizeLine/\Q (.str y) H1
section
variable {X:Cx}{e e2:Expr}{es:List Expr}{te:TE}{t:TJ}{pos:Pos}
theorem Zdi:PJ X [] Zfx:=λ_ s _ H acc _ _ I h k=>k acc s H I h
theorem EZ(he:PE X e te)(hr:PJ X es t):PJ X (e::es) (ZeC te t):=by
 intro pins s σ H acc R Q I h k;refine aw (he pins s σ H _ I h) λu s1 zq=>?_;obtain⟨x,H1,I1,rx,y,ex,l,q⟩:=zq;subst ex;obtain⟨tk,rfl⟩:=rx;exact⟨y,tk,rfl,l,hr pins s1 σ H1 (acc++y) R Q I1 q k⟩
theorem ZbS(h:PJ X (e::e2::es) t):PE X (.JoinedStr (e::e2::es) pos) (ZeD t):=by
 intro pins s σ H Q I hq;refine wpAny_JoinedStr (h pins s σ H Str.empty _ _ I hq λy s1 H1 I1 ⟨l,q⟩=>⟨l,.str y,H1,I1.tok _,⟨_,rfl⟩,q⟩)
end
end L2
namespace L2
open PySem PySem.Spec PyProof.Rows
structure Bl(mg:Str->Option Value):Prop where
 zU:mg "len"=none
 ZeE:mg "abs"=none
 ui:mg "list"=none
 jI:mg "range"=none
 mD:mg "tuple"=none
 ZeF:mg "any"=none
 Qn:mg "all"=none
 JP:mg "isinstance"=none
 zG:mg "bool"=none
 Qo:mg "int"=none
 wF:mg "str"=none
 Ey:mg "sorted"=none
 ZeG:mg "min"=none
 ZeH:mg "max"=none
 Zhm:mg "sum"=none
 Zdj:mg "dict"=none
 Zg6:mg "reversed"=none
 VW:mg "ValueError"=none
theorem Zfy{X:Cx}{K:PySem.W.Frag}(hc:X.calm=true)(h:X.K=K):cV X (.builtin "any") (Q8 K):=h▸Vg hc
theorem Rg{X:Cx}{K:PySem.W.Frag}(hc:X.calm=true)(h:X.K=K):cV X (.builtin "all") (Q9 K):=h▸Vh hc
theorem sortedK{X:Cx}{K:PySem.W.Frag}(h:X.K=K):cV X (.builtin "sorted") (EY K):=h▸JX
theorem lV{X:Cx}{K:PySem.W.Frag}(h:X.K=K):cB X (compareOp .In) (xu K false):=h▸Zo
theorem Fq{X:Cx}{K:PySem.W.Frag}(h:X.K=K):cB X (compareOp .NotIn) (xu K true):=h▸VS
theorem Np{X:Cx}{K:PySem.W.Frag}(h:X.K=K):iE X (GQ K):=h▸Zc2
structure wX(K:PySem.W.Frag)(x qual:Str)(st:Stmt)(f:Addr)(fd:FuncData):Prop where
 ex:∃(oc:Value) (od:Option Addr) (dV kV doc pm:Value) (an:Option Addr) (aA ct:Value) (iD:Array (Option Value)),
  fd=fnOf x qual (kF st) (ie st) (aG st) dV kV doc pm an aA ct/\K.lookup f=some ⟨oc,od,.func fd,iD⟩/\codeIn K aA qual=true
 kp:keepIn K (.ref f)=true
section
variable {P:Program}{w:World}{K:PySem.W.Frag}{mg:Str->Option Value}{base:Heap}
theorem wX.ok{x qual:Str}{st:Stmt}{f:Addr}{fd:FuncData}{N ps:List Str}{k:Nat}{sp:Sp}(F:wX K x qual st f fd)(S:aP N ps (aG st))(len:∀vs H Q E,sp vs H Q E->vs.length=ps.length)
  (nW:∀(aA:Value) (A:Around) (outer:List Env) (s:Shared) (H:Hp) (vs:List V) (Q:VK) (E:XK),cA k (A.deeper (envOfC qual (aG st) s.heap.objs.size f aA))->sp vs H Q E->
   ∃t,eU (jO aL P w K mg base N qual (aG st) f aA A outer s H E).mV (ie st) t/\t {nx:=λ_ H'=>Q .ay H',rt:=Q} (start N vs) H):aE P w K mg base aL (k+1) f fd ps sp:=by
 obtain⟨oc,od,dV,kV,doc,pm,an,aA,ct,iD,rfl,lk,eV⟩:=F.ex;refine FT lk eV S len λA outer s H vs Q E hr kM=>?_;obtain⟨t,h,q⟩:=nW aA A outer s H vs Q E hr kM;exact⟨t,h.mV,q⟩
end
theorem O4{K:PySem.W.Frag}:kitOne K (.type "int") (.type "int")=some true:=by kernel_rfl
theorem Fs{K:PySem.W.Frag}:kitOne K (.type "int") (.type "bool")=some false:=by kernel_rfl
theorem O5{K:PySem.W.Frag}:kitOne K (.type "bool") (.type "bool")=some true:=by kernel_rfl
theorem Zdk{K:PySem.W.Frag}:kitOne K (.type "str") (.type "bool")=some false:=by kernel_rfl
theorem Zdl{K:PySem.W.Frag}:kitOne K (.type "str") (.type "int")=some false:=by kernel_rfl
theorem O6{K:PySem.W.Frag}:kitOne K (.type "str") (.type "str")=some true:=by kernel_rfl
theorem Zdm{K:PySem.W.Frag}:kitOne K (.type "list") (.type "bool")=some false:=by kernel_rfl
theorem Zdn{K:PySem.W.Frag}:kitOne K (.type "list") (.type "int")=some false:=by kernel_rfl
theorem Zdo{K:PySem.W.Frag}:kitOne K (.type "list") (.type "str")=some false:=by kernel_rfl
theorem Zdp{K:PySem.W.Frag}:kitOne K (.type "list") (.type "list")=some true:=by kernel_rfl
theorem Zdq{K:PySem.W.Frag}:kitOne K (.type "list") (.type "tuple")=some false:=by kernel_rfl
theorem Zdr{K:PySem.W.Frag}:kitOne K (.type "tuple") (.type "bool")=some false:=by kernel_rfl
theorem Zds{K:PySem.W.Frag}:kitOne K (.type "tuple") (.type "int")=some false:=by kernel_rfl
theorem Zdt{K:PySem.W.Frag}:kitOne K (.type "tuple") (.type "str")=some false:=by kernel_rfl
theorem Zdu{K:PySem.W.Frag}:kitOne K (.type "tuple") (.type "list")=some false:=by kernel_rfl
theorem Zdv{K:PySem.W.Frag}:kitOne K (.type "tuple") (.type "tuple")=some true:=by kernel_rfl
theorem Eb(ns:List Int)(o:Option Int):(ns++o.toList).map V.int=ns.map V.int++o.toList.map V.int:=by simp
inductive Dt where
 |ay|bl (b:Bool)|int (i:Int)|str (x:Str)|lst (ds:List Dt)|tup (ds:List Dt)
def At(H:Hp):Nat->V->Dt->Prop
 |_,v,.ay=>v=.ay
 |_,v,.bl b=>v=.bl b
 |_,v,.int i=>v=.int i
 |_,v,.str x=>v=.str x
 |0,_,.lst _=>False
 |0,_,.tup _=>False
 |m+1,v,.lst ds=>∃a xs,v=.ref a/\H a=some (.lst xs)/\ds.length<=1000/\Paired (At H m) xs ds
 |m+1,v,.tup ds=>∃a xs,v=.ref a/\H a=some (.tup xs)/\ds.length<=1000/\Paired (At H m) xs ds
theorem At.same(g:ai H H'):∀{m:Nat} {v:V} {d:Dt},At H m v d->At H' m v d
 |_,_,.ay,h=>by unfold At at h⊢;exact h
 |_,_,.bl _,h=>by unfold At at h⊢;exact h
 |_,_,.int _,h=>by unfold At at h⊢;exact h
 |_,_,.str _,h=>by unfold At at h⊢;exact h
 |0,_,.lst _,h=>by unfold At at h;exact h.elim
 |0,_,.tup _,h=>by unfold At at h;exact h.elim
 |m+1,_,.lst _,h=>by
  obtain⟨a,xs,e,h1,h2,h3⟩:=h;exact⟨a,xs,e,g _ _ h1,h2,L2.Paired.bA h3 λ_ _ z=>At.same g z⟩
 |m+1,_,.tup _,h=>by
  obtain⟨a,xs,e,h1,h2,h3⟩:=h;exact⟨a,xs,e,g _ _ h1,h2,L2.Paired.bA h3 λ_ _ z=>At.same g z⟩
section
variable {H:Hp}{m:Nat}
theorem ZeI(b:Bool):At H m (.bl b) (.bl b):=by unfold At;rfl
theorem Zdw(i:Int):At H m (.int i) (.int i):=by unfold At;rfl
theorem Zdx(x:Str):At H m (.str x) (.str x):=by unfold At;rfl
theorem Zdy(h:H a=some (.tup xs))(l:ds.length<=1000)(p:Paired (At H m) xs ds):At H (m+1) (.ref a) (.tup ds):=by unfold At;exact⟨a,xs,rfl,h,l,p⟩
theorem Zdz(h:H a=some (.lst xs))(l:ds.length<=1000)(p:Paired (At H m) xs ds):At H (m+1) (.ref a) (.lst ds):=by unfold At;exact⟨a,xs,rfl,h,l,p⟩
theorem Nq:∀ns:List Int,Paired (At H m) (ns.map V.int) (ns.map Dt.int)
 |[]=>.nil
 |n::r=>.cons (Zdw n) (Nq r)
theorem zh{a:Addr}{ns:List Int}(h:H a=some (.lst (ns.map V.int)))(l:ns.length<=1000):At H (m+1) (.ref a) (.lst (ns.map Dt.int)):=Zdz h (by rw[Ya];exact l) (Nq ns)
end
theorem fY:∀{xs:List α} {ys:List β} {i:Nat} {x:α},Paired F xs ys->xs[i]?=some x->∃y,ys[i]?=some y/\F x y:=by
 intro xs ys i x h;induction h generalizing i with
 |nil=>intro e;simp at e
 |cons r t ih=>
  intro e;cases i with
  |zero=>
   have e:=Yr (show some _=some _ by simpa using e);subst e;exact⟨_,rfl,r⟩
  |succ i=>
   obtain⟨y,h1,h2⟩:=ih (i:=i) (by simpa using e);exact⟨y,by simpa using h1,h2⟩
theorem c9:∀{xs:List α} {ys:List β},Paired F xs ys->xs.length=ys.length:=by
 intro xs ys h;induction h with
 |nil=>rfl
 |cons _ _ ih=>rw[Wd,Wd,ih]
theorem L4{α:Type}{xs:List α}{i:Nat}{x:α}(h:xs[i]?=some x):dJ xs (0+(i:Int))=some x:=by
 rw[show(0:Int)+(i:Int)=(i:Int) from by omega];exact ic h
def XP(H:Hp)(C:Addr)(wd:Str)(E:XK):Prop:=∀(a d:Addr) (H':Hp),H a=none->H d=none->ai H H'->H' a=some (xo a C (some d))->H' d=some (xq d [("word",.str wd)])->E (.ref C) (some d) H'
theorem uz.of{K:PySem.W.Frag}{C f:Addr}(x:du K C)(init:PySem.W.findIn K (.ref C) "__init__"=some (some (.ref f)))(fn:isFn K (.ref f)=true)(kp:keepIn K (.ref C)=true):uz K C f:=by
 obtain⟨nm,q,N,bs,cs,sn,sub,ab,col,dd,k0,k1,k2,k3,k5,l⟩:=id x.lM;have no:∀n:String,oq.contains (.type n)=false->PySem.W.mroIn K C (.type n)=some false:=λn hn=>by
  unfold PySem.W.mroIn PySem.W.clsIn
  grind
 exact⟨⟨nm,q,N,bs,_,sn,sub,ab,col,dd,k0,k1,k2,k3,k5,l⟩,x.mro _ (by decide),x.mro _ (by decide),no _ (by decide),no _ (by decide),init,fn,kp⟩
theorem Zaw{K:PySem.W.Frag}(C:Addr):kitOne K (.ref C) (.ref C)=some true:=by unfold kitOne;rw[if_pos (beq_self_eq_true _)]
def ZbT:List V->Hp->VK->Prop:=λxs H Q=>∃(p:Addr) (n:Nat),xs=[.ref p]/\H p=some (.jt 0 (n:Int))/\n<=1000/\∀l:Addr,H l=none->Q (.ref l) (upd H l (.tup ((bc n).map V.int)))
section
variable {prog:Program}{w:World}{A:Around}{E:Value->Shared->Prop}{s:Shared}
theorem WV{Q:List Value->Shared->Prop}{r:Addr}{n:Nat}{t u v:Tok}(hh:A.handled=none)(hr:IsRange s.heap r 0 (n:Int) 1 t u v)(hn:n<=1000)
  (k:∀h' tk (acc:Array Value),(∀b o,s.heap.get? b=some o->h'.get? b=some o)->ItemsOf (λi v=>∃t,v=.int (0+i*1) t) acc n->Q acc.toList {s with heap:=h',toks:=tk}):
  wpAny (model prog w) A (collect (.ref r)) Q E s:=by
 refine wpAny_bind (wpAny_runValue (codeAny_builtin PySem.F.entry_proto_collect (wpAny_bind (wpAny_newObj_type (wpAny_pure ⟨plainId_quiet PySem.F.plain_list_iadd _,codeAny_builtin PySem.F.entry_list_iadd ?_⟩)))));have ZeJ:∀s':Shared,(∃(h':Heap) (tk:Nat) (acc:Array Value) (c:Nat),s'={s with heap:=h',toks:=tk}/\(∀b o,b≠s.heap.objs.size->(s.heap.push {cls:=.type "list",data:=.seq ([]:List Value).toArray}).get? b=some o->h'.get? b=some o)/\
   h'.get? s.heap.objs.size=some {cls:=.type "list",dict:=none,data:=.seq acc c,slots:=#[]}/\ItemsOf (λi v=>∃t,v=.int (0+i*1) t) acc n)->
   wpAny (model prog w) A (match Value.ref s.heap.objs.size with
    |Value.ref a=>do
     match(←load a).data with
      |Data.seq xs _=>pure xs.toList
      |_=>unsupported "internal:collect"
    |_=>unsupported "internal:collect") Q E s':=by
  rintro s' ⟨h',tk,acc,c,rfl,kp,here,ah⟩;exact wpAny_bind (wpAny_load here (wpAny_pure (k h' tk acc (λb o hb=>kp b o (Yy (Yp hb)) (Yb _ hb)) ah)))
 refine wpAny_mono (wpAny_extend_range (s:={s with heap:=s.heap.push {cls:=.type "list",data:=.seq ([]:List Value).toArray}})
  (R:=λr s'=>r=.ok (.ret (.ref s.heap.objs.size))/\∃(h':Heap) (tk:Nat) (acc:Array Value) (c:Nat),s'={s with heap:=h',toks:=tk}/\(∀b o,b≠s.heap.objs.size->(s.heap.push {cls:=.type "list",data:=.seq ([]:List Value).toArray}).get? b=some o->h'.get? b=some o)/\
   h'.get? s.heap.objs.size=some {cls:=.type "list",dict:=none,data:=.seq acc c,slots:=#[]}/\ItemsOf (λi v=>∃t,v=.int (0+i*1) t) acc n)
  hh (Yb _ hr) (small_one (by omega) (by omega) (by omega) (by omega)) (by rw[rangeSize_one];split<;>omega) (by omega) _ _ 0 (Yt _ rfl) λh' tk acc c kp here ah=>⟨rfl,h',tk,acc,c,rfl,kp,here,ah⟩) (λfin s' z=>?_) λe s' z=>?_
 ·cases fin with
  |done f=>grind
  |again c'=>exact⟨z.1,codeAny_mono z.2 λr r6 hr=>by obtain⟨rfl,hz⟩:=hr;exact ZeJ r6 hz⟩
 ·grind
theorem ZbU(r:Addr)(n:Nat)(t u v:Tok)(hn:n<=1000):
  Meets (Builtin.«tuple.__new__» ⟨[.type "tuple",.ref r],[]⟩) (λA R s=>A.handled=none/\IsRange s.heap r 0 (n:Int) 1 t u v/\∀(h':Heap) (tk:Nat) (acc:Array Value),(∀b o,s.heap.get? b=some o->h'.get? b=some o)->ItemsOf (λi v=>∃t,v=.int (0+i*1) t) acc n->
   R (.ok (.ret (.ref h'.objs.size))) {s with heap:=h'.push {cls:=.type "tuple",data:=.seq acc},toks:=tk}):=
 .of_wp λprog w A R s h=>by
  obtain⟨hp,g,d,tk,os⟩:=s;obtain⟨hh,ht,q⟩:=h;have sub:=sub_tuple_self;have ini:=init_tuple_lookup;have mh:=madeHere_tuple;have hh1:A.in1.handled=none:=hh
  wp_walk using PySem.AutoSeq1.wpAny_loadPart' ht,wpAny_typeOf ty,WV (A:=A.in1) hh1 ht hn
  intro h' xE acc kp ah;show wpAny _ _ (Builtin.Tuple.tupleExact acc.toList.toArray>>=λv=>ret v) _ _ _;unfold Builtin.Tuple.tupleExact;have lz:acc.toList.toArray.size<=sizeLine:=by
   have e:=ah.1;rw[sizeLine_eq];simp;omega
  refine wpAny_bind (wpAny_newObj_type (wpAny_pure ⟨_,rfl,?_⟩) lz);have e:acc.toList.toArray=acc:=by simp
  rw[e];exact q h' xE acc kp ah
end
theorem JI(hc:X.calm=true):cV X (.type "tuple") ZbT:=by
 intro pins s σ H xs us Q I r h;obtain⟨p,n,rfl,hp,hn,q⟩:=h;obtain⟨u,rfl,rx⟩:=vals1 r;cases rx;obtain⟨t,u,v,ho⟩:=I.av p _ hp;refine callType_new PySem.F.called_tuple (by decide) (PySem.F.typeCall_tuple_1 _) (PySem.F.newCall_tuple_1 _) (λobj=>PySem.F.args_object_init_2 obj _) PySem.F.entry_tuple_new (ZbU p n t u v hn) ⟨I.ok.hd hc,ho,λh' tk acc kp ah=>⟨⟨_,Yt _ rfl,rfl⟩,?_⟩⟩;have I1:=I.kept (t':=tk) kp;have vs:Vals ((bc n).map V.int) acc.toList:=by
  refine C6 (by rw[Ya,eM];simp[ah.1]) λi x u e1 e2=>?_;obtain⟨t',rfl⟩:=ah.2 i u (by simpa using e2);have hi:i<n:=by
   have:=(Yj.mp e1).1;rw[Ya,eM] at this;exact this
  rw[Yg,lu hi] at e1;have e3:=Yr e1;subst e3;exact⟨t',by rw[show(0:Int)+(i:Int)*1=(i:Int) by omega]⟩
 have I2:Inv X pins σ (upd H h'.objs.size (.tup ((bc n).map V.int))) {s with heap:=h'.push {cls:=.type "tuple",data:=.seq acc},toks:=tk}:=
  I1.laid (t':=tk) (λb o e=>Yb _ e) (Yd _) (show cG X.prog X.w _ _ _ (.tup _) from⟨by rw[Ya,eM];exact Jj (jF hn),acc.toList,vs,by simpa using mG.new h' acc⟩)
 exact⟨.ref h'.objs.size,_,I2,rfl,q _ (I1.av.fresh (Yd _))⟩
inductive Nr(K:PySem.W.Frag)(vs:List V)(H:Hp)(Q:VK):Prop
 |mk (a C:Addr) (wd y:Str) (aC:vs=[.ref a,.str wd,.str y]) (aR:H a=some (xn a C none)) (a8:du K C) (bC:cZ K C "word") (cD:wd.length<=100) (dC:y.length<=1000000) (fR:∀d,H d=none->d≠a->Q .ay (upd (upd H d (xq d [("word",.str wd)])) a (xn a C (some d)))):Nr K vs H Q
def Qp(K:PySem.W.Frag):Sp:=λvs H Q _=>Nr K vs H Q
def Qq(wd:Str)(c:Addr):Sp:=λvs H Q _=>∃(a:Addr) (y:Str),vs=[.ref a,.str y]/\H a=some (xn a c none)/\y.length<=1000000/\
 ∀d,H d=none->d≠a->Q .ay (upd (upd H d (xq d [("word",.str wd)])) a (xn a c (some d)))
def Ft(P:Program)(w:World)(K:PySem.W.Frag)(mg:Str->Option Value)(base:Heap)(x wd:Str)(c:Addr):Prop:=
 ∃fi fd,uz K c fi/\aE P w K mg base aL 2 fi fd ["self","why"] (Qq wd c)/\Binds K fd ["self","why"] []/\mg x=some (.ref c)/\du K c/\cZ K c "word"
section
variable {X:Cx}{e e2:Expr}{es:List Expr}{te:TE}{t:TF}{pos:Pos}
end
def tW(te:TE)(R:St->Hp->VK):TE:=λσ H Q=>te σ H (R σ H)/\∀v H1,R σ H v H1->Q v H1
theorem PE.weak{X:Cx}{e:Expr}{te:TE}(h:PE X e te)(R:St->Hp->VK):PE X e (tW te R):=λpins s σ H Q I ⟨q,k⟩=>aw (h pins s σ H (R σ H) I q) λ_ _ ⟨v,H1,I1,r,z⟩=>⟨v,H1,I1,r,k v H1 z⟩
def ZbV(c:Addr)(wd:Str)(E:St->XK)(te:TE):TS:=λ_ σ H=>te σ H λv H1=>∃y:Str,v=.str y/\y.length<=1000000/\XP H1 c wd (E σ)
theorem ZA{X:Cx}{j:Nat}{x wd:Str}{c:Addr}{E:St->XK}{e:Expr}{te:TE}{p pos b_:Pos}(h:Ft X.prog X.w X.K X.mg X.base x wd c)(hr:cA j X.A)(hj:3<=j)(hc:X.calm=true)(hg:Gl X x)(hx:nX X E)(he:PE X e te)
  (eC:(x==("__debug__":Str))=false:=by decide)(c7:starEach [e] X.env=[(false,eval e X.env)]:=by rfl):
  PS X (.Raise (some (.Call (.Name x p) [e] [] b_)) none pos) (ZbV c wd E te):=by
 obtain⟨fi,fd,xc,F,b,m,xa,na⟩:=h;intro pins s σ H D I q;refine Zav xc F (hr.mono hj) hc hg m b .nil hx (aa (he.weak λσ _ v H1=>∃y:Str,v=.str y/\y.length<=1000000/\XP H1 c wd (E σ)) ag c7) eC c7 rfl pins s σ H D I ⟨q,?_⟩;rintro v H1 ⟨y,rfl,ly,xp⟩;refine⟨by show 1<=1000;omega,λa ha=>⟨a,y,rfl,aO,ly,λd hd nd=>⟨rfl,d,aO,?_⟩⟩⟩;have Sq:H1 d=none:=by rw[aJ nd] at hd;exact hd
 refine xp a d _ ha Sq (λb o e=>?_) aO ?_
 ·have n1:b≠a:=bT e ha;rw[aJ n1,aJ n1,aJ (bT e Sq),aJ n1];exact e
 ·rw[aJ nd,aJ nd,aO]
theorem Zax{X:Cx}{K:PySem.W.Frag}(h:X.K=K):cV X (.builtin "isinstance") (Qk K):=h▸VU
theorem Zay{X:Cx}{K:PySem.W.Frag}{e:Expr}{ta:TE}{f:Str}{pos:Pos}(h:X.K=K)(he:PE X e ta)(hb:attributeBase e f X.env (eval e X.env)=eval e X.env:=by rfl):PE X (.Attribute e f pos) (Qj K ta f):=h▸ZbO he hb
end L2
namespace L2
open PySem PySem.Spec PyProof.Rows
open PySem.W (Looks InstAt looks_findIn looks_typeIn looks_clsIn looks_mroIn looks_find findObj findIn mroIn clsIn)
section
variable {X:Cx}{B1 B2:Addr}{i:Nat}{n x1 x2:Str}{body Zhg Zhh:List Stmt}{b1 b2:Stmt}{px1 px2 oK dD pos:Pos}{tb:(St->XK)->TS}{th1 th2:TS}
end
theorem ZdA{X:Cx}{k j:Nat}{m:Str}{C:Addr}{ps:List Str}{sp:Sp}{E:St->XK}{pos apos:Pos}{o e:Expr}{es:List Expr}{t:TA}{ta:TE}{pl:Sem Bool}(h:∃f fd,fF X.K C/\Meth X.K C m f/\aE X.prog X.w X.K X.mg X.base (dP X.prog X.w) k f fd ps sp/\Binds X.K fd ps [])(hr:cA j X.A)(hj:k<=j)(hx:nX X E)(ho:PE X o ta)(ha:PA X (e::es) t)
  (c7:starEach (e::es) X.env=(false,eval e X.env)::starEach es X.env:=by rfl)(bN:(backTo pos (starEach es X.env)).any (·.1)=false:=by rfl)
  (ht:eval (.Call (.Attribute o m apos) (e::es) [] pos) X.env=(do
   let ov←eval o X.env
   standAt apos.atName
   let(f,first)←holding [ov] (getMethod ov m pl)
   callWith pos f first (backTo pos (starEach (e::es) X.env)) (backToKw pos (keywordEach [] X.env))):=by rfl):
  PE X (.Call (.Attribute o m apos) (e::es) [] pos) (O0 C m sp E ta t):=by
 obtain⟨f,fd,c,hm,F,b⟩:=h;exact Zan ho c hm F (hr.mono hj) b hx ha c7 bN ht
end L2
namespace AF
open L2
theorem DE(n:Nat):(bc n).Nodup:=by
 exact List.Pairwise.map _ (λa b h e=>h (by omega)) List.nodup_range
section
variable {t:List Int}{n:Nat}
end
end AF
namespace L2
open PySem PySem.Spec PyProof.Rows
def Row(K:PySem.W.Frag)(H:Hp)(p:Addr)(ns:List Int):Prop:=ak K H p (ns.map V.int)\/aB K H p (ns.map V.int)
theorem Row.same{K:PySem.W.Frag}{H H':Hp}{p:Addr}{ns:List Int}(e:ai H H')(h:Row K H p ns):Row K H' p ns:=by
 rcases h with h|h;·exact .inl (e.seq h)
 ·exact .inr (e.jb h)
def full(ns:List Int):Bool:=decide (ns.Perm (bc ns.length))
theorem pk(h:full ns=true):ns.Perm (bc ns.length):=of_decide_eq_true h
theorem qV(h:ns.Perm (bc n)):full ns=true:=decide_eq_true (by rw[h.length_eq,eM];exact h)
theorem WW(n:Nat):(bc n).Pairwise (·<=·):=by
 unfold bc;rw[W1];exact List.pairwise_lt_range.imp λh=>by omega
theorem Ku:∀{as bs:List Int},as.Perm bs->as.Pairwise (·<=·)->bs.Pairwise (·<=·)->as=bs
 |[],bs,p,_,_=>by
  simp_all
 |a::as,[],p,_,_=>by
  simp_all
 |a::as,b::bs,p,h1,h2=>by
  rw[List.pairwise_cons] at h1 h2;have e:a=b:=by
   have ha:=p.subset Yl;have hb:=p.symm.subset Yl
   grind
  subst e;rw[Ku (List.Perm.cons_inv p) h1.2 h2.2]
theorem WX(p:de.Perm ns)(h:de.Pairwise (·<=·)):decide (de=bc ns.length)=full ns:=by
 unfold full;rw[Wj,decide_eq_true_iff,decide_eq_true_iff];constructor;·grind
 ·intro q;exact Ku (p.trans q) h (WW _)
def Qr(K:PySem.W.Frag)(neg:Bool)(tr:TE):TE:=i8 (Ra K neg) (lU (EY K) (gf tr iZ)) (lU LX (gf (lU Nh (gf (lU (wW K) (gf tr iZ)) iZ)) iZ))
theorem Zaz{K:PySem.W.Frag}{i:Nat}{neg:Bool}{σ:St}{H:Hp}{p:Addr}{ns:List Int}{Q:VK}(hi:σ[i]?=some (some (.ref p)))(hR:Row K H p ns)(i_:ns.length<64)(q:∀H',ai H H'->Q (.bl (if neg=true then !full ns else full ns)) H'):
   (Qr K neg (fD i)) σ H Q:=by
 refine⟨_,hi,p,ns,rfl,hR,i_,λl de hl pm so=>?_⟩;have g1:ai H (upd H l (.lst (de.map V.int))):=bY hl _;refine⟨_,hi,p,ns.map V.int,rfl,Row.same g1 hR,_,rfl,λr hr=>⟨r,(ns.map V.int).length,rfl,aO,by rw[Ya];omega,λu hu=>?_⟩⟩;have g3:=(g1.trans (bY hr (.jt 0 (((ns.map V.int).length:Nat):Int)))).trans (bY hu (.lst ((bc (ns.map V.int).length).map V.int)));refine⟨l,u,de,bc (ns.map V.int).length,rfl,rfl,ak.of ?_,ak.of aO,?_⟩
 ·rw[aJ (bT ((bY hr _) _ _ aO) hu)];exact(bY hr _) _ _ aO
 ·rw[Ya,WX pm so]
  grind
theorem any_false(n:Nat):(List.replicate n false).any id=false:=by
 induction n with
 |zero=>rfl
 |succ n ih=>grind
section
open PySem.AutoSeq1 (wpAny_loadPart')
open PySem.MeetsSeq PySem.SeqAt
theorem Vv(l:Addr)(items:Array Value)(n:Nat)(dd:Option Addr)(sl:Array (Option Value))(x:Value)(e:Value->Bool)(j:Nat)(hj:j<items.size)
  (hit:e items[j]=true)(G5:∀m (hm:m<items.size),m<j->e items[m]=false):
  Meets (Builtin.«tuple.index» ⟨[.ref l,x],[]⟩)
   (λA R s=>s.heap.get? l=some {cls:=.type "tuple",dict:=dd,data:=.seq items n,slots:=sl}/\(∀y,y∈items->EqAt A.in1 s y x (e y))/\R (.ok (.ret (.int j s.toks))) {s with toks:=s.toks+1}):=
 .of_wp λprog w A R s h=>by
  obtain⟨hp,g,d,tk,os⟩:=s;obtain⟨hl,he,h⟩:=h
  wp_walk using wpAny_loadPart' hl
  show wpAny _ _ (forIn (m:=Sem) [:min items.size items.size] (none,()) _) _ _ _;rw[Std.Legacy.Range.forIn_eq_forIn_range'];refine wpAny_forIn_list _ (λrest b s'=>s'=⟨hp,g,d,tk,os⟩/\∃i,i<=j/\rest=List.range' i (items.size-i)) _ ?_ ?_ _ _ ⟨rfl,0,Yx _,by simp⟩
  ·rintro k rest b s' ⟨rfl,i,hi,hr⟩;have bL:i<items.size:=by omega
   obtain⟨rfl,wH⟩:k=i/\rest=List.range' (i+1) (items.size-(i+1)):=by
    have e:items.size-i=(items.size-(i+1))+1:=by omega
    rw[e,List.range'_succ] at hr;injection hr with h1 h2;exact⟨h1,h2⟩
   rw[Ww bL];refine wpAny_bind (he _ (Array.getElem_mem bL) prog w _ _ ?_);rcases Nat.lt_or_ge k j with hk|hk
   ·rw[G5 k bL hk]
    wp_walk
    exact⟨rfl,k+1,by omega,wH⟩
   ·obtain rfl:k=j:=by omega
    rw[hit]
    wp_walk
    exact⟨_,rfl,h⟩
  ·grind
end
def ZdB(to:TE)(t:TA):TE:=λσ H Q=>to σ H λx H1=>∃(p:Addr) (ns:List Int),x=.ref p/\H1 p=some (.tup (ns.map V.int))/\t σ H1 λvs H2=>∃(z:Int) (j:Nat),vs=[.int z]/\H2 p=some (.tup (ns.map V.int))/\ns[j]?=some z/\(∀m,m<j->ns[m]?≠some z)/\Q (.int (j:Int)) H2
theorem Vw:∀{ns:List Int} {us:List Value} {j:Nat} (h:j<us.length),Vals (ns.map V.int) us->∃n t,ns[j]?=some n/\us[j]=.int n t:=by
 intro ns;induction ns with
 |nil=>intro us j h r;cases r;simp at h
 |cons n ns ih=>
  intro us j h r;rw[Wo] at r;cases r with
  |cons r t=>
   cases j with
   |zero=>
    obtain⟨t',rfl⟩:=r;exact⟨n,t',rfl,rfl⟩
   |succ j=>
    obtain⟨n',t',e1,e2⟩:=ih (j:=j) (by simpa using h) t;exact⟨n',t',by simpa using e1,by simpa using e2⟩
theorem ZC(ns:List Int):(ns.map V.int).all iU=true:=by
 induction ns with
 |nil=>rfl
 |cons n ns ih=>rw[Wo,Jf,ih];rfl
theorem JY(ho:PE X o to)(ha:PA X [e] t)
  (rC:attributeBase o "index" X.env (eval o X.env)=eval o X.env:=by rfl)
  (Gk:((backTo b_ (starEach [e] X.env)).all (λx=>!x.1)&&(backToKw b_ (keywordEach [] X.env)).all (λx=>x.1.isSome)
   &&decide ([e].length+([]:List Keyword).length+(if([]:List Keyword).isEmpty then 0 else 1)<30))=true:=by rfl)
  (rD:(apos.endLine==b_.line)=true:=by rfl)(hs:starEach [e] X.env=(false,eval e X.env)::starEach [] X.env:=by rfl):
  PE X (.Call (.Attribute o "index" apos) [e] [] b_) (ZdB to t):=by
 intro pins s σ H Q I h;refine wpAny_Call_method_late rC Gk rD rfl (aw (ho pins s σ H _ I h) λv s1 zq=>?_);obtain⟨x,H1,I1,r1,p,ns,ex,hp,q1⟩:=zq;subst ex;obtain rfl:v=Value.ref p:=r1;obtain⟨_,_,_,ob,g,oc,_,_,od⟩:=(show cG X.prog X.w H1 s1.heap p (.tup (ns.map V.int)) from I1.av p _ hp);refine⟨"tuple","tuple.index",F.plainAttrs_tuple,F.slot_tuple_index,F.type_tuple_index,⟨ob,g,oc⟩,λa ea=>by cases ea;exact⟨ob,g,od⟩,?_⟩;have hA:=ha b_ pins s1 σ H1 _ I1 q1;rw[hs] at hA⊢;refine Calls.callWith_builtin rfl (Calls.evalArgs_plain ?_);refine aw hA λus s2 zq=>?_;obtain⟨vs,H2,I2,r2,z,j,ev,dD,hj,G5,q2⟩:=zq;subst ev;obtain⟨u,rfl,ru⟩:=r2.one;obtain⟨tz,rfl⟩:=ru;obtain⟨_,ah,rv,⟨cls,dd,data,sl⟩,g2,Sr,n2,Ss,_⟩:=(show cG X.prog X.w H2 s2.heap p (.tup (ns.map V.int)) from I2.av p _ dD);simp only at Sr Ss;subst Sr Ss;have hlen:ah.length=ns.length:=by have:=rv.length;rw[Ya] at this;omega
 have Su:j<ah.length:=by rw[hlen];exact(Yj.mp hj).1
 have ix:∀m (hm:m<ah.length),gW (.int z) ah[m]=decide (ns[m]?=some z):=λm hm=>by
  obtain⟨n',t',e1,e2⟩:=Vw hm rv;rw[e1,e2];show(n'==z)=decide (some n'=some z)
  grind
 refine call_meets F.slot_tuple_index ⟨_,g2,rfl⟩ F.entry_tuple_index (F.args_tuple_index_2 _ _) (Vv p ah.toArray n2 dd sl (.int z tz) (gW (.int z)) j (by rw[Yu];exact Su) ?_ ?_) ⟨g2,?_,?_⟩;·rw[List.getElem_toArray,ix j Su];exact decide_eq_true hj
 ·intro m hm bL;rw[List.getElem_toArray,ix m (by simpa using hm)];exact decide_eq_false (G5 m bL)
 ·intro y hy;exact vV (x:=.int z) ⟨tz,rfl⟩ rfl rv (ZC ns) y (by simpa using hy)
 ·exact⟨.int _,H2,I2.tok _,⟨_,rfl⟩,q2⟩
section
variable {κ:Type}[DecidableEq κ]
def aQ(kvs:List (κ×V))(k:κ):Option V:=(kvs.find? λkv=>decide (kv.1=k)).map (·.2)
def putK(kvs:List (κ×V))(k:κ)(v:V):List (κ×V):=
 if(kvs.any λkv=>decide (kv.1=k))=true then kvs.map (λkv=>if kv.1=k then(kv.1,v) else kv) else kvs++[(k,v)]
def gm(kvs:List (κ×V))(k:κ):List (κ×V):=kvs.filter λkv=>decide (kv.1≠k)
theorem fw{p:κ×V}{r:List (κ×V)}{k:κ}(e:p.1=k):aQ (p::r) k=some p.2:=by simp[aQ,G6,e]
theorem eS{p:κ×V}{r:List (κ×V)}{k:κ}(e:¬p.1=k):aQ (p::r) k=aQ r k:=by simp[aQ,G6,e]
theorem t8(k:κ):∀kvs:List (κ×V),(kvs.any λkv=>decide (kv.1=k))=(aQ kvs k).isSome
 |[]=>rfl
 |p::r=>by
  rw[Jl];by_cases e:p.1=k;·simp only[fw e,decide_eq_true e,Bool.true_or,Option.isSome_some]
  ·rw[eS e,decide_eq_false e,J9];exact t8 k r
theorem L5(k j:κ)(y:V):∀kvs:List (κ×V),aQ (kvs.map λkv=>if kv.1=k then(kv.1,y) else kv) j=(aQ kvs j).map λx=>if j=k then y else x
 |[]=>rfl
 |p::r=>by
  have ih:=L5 k j y r;rw[Wo];by_cases h:p.1=k
  ·rw[if_pos h];by_cases e:p.1=j;·rw[fw (p:=(p.1,y)) e,fw e,Option.map_some,if_pos (e.symm.trans h)]
   ·rw[eS (p:=(p.1,y)) e,eS e,ih]
  ·rw[if_neg h];by_cases e:p.1=j;·rw[fw e,fw e,Option.map_some,if_neg (λz=>h (e.trans z))]
   ·rw[eS e,eS e,ih]
theorem tT(k j:κ)(y:V):∀kvs:List (κ×V),aQ kvs k=none->aQ (kvs++[(k,y)]) j=if j=k then some y else aQ kvs j
 |[],_=>by
  by_cases e:k=j;·rw[if_pos e.symm];exact fw (p:=(k,y)) e
  ·rw[if_neg (λz=>e z.symm)];exact eS (p:=(k,y)) e
 |p::r,hn=>by
  rw[Sv];have hk:¬p.1=k:=λz=>by rw[fw z] at hn;cases hn
  rw[eS hk] at hn;by_cases e:p.1=j;·rw[fw e,fw e,if_neg (λz=>hk (e.trans z))]
  ·rw[eS e,eS e,(tT k j y r hn)]
theorem ZaA(kvs:List (κ×V))(k j:κ)(y:V):aQ (putK kvs k y) j=if j=k then some y else aQ kvs j:=by
 unfold putK;by_cases a:(kvs.any λkv=>decide (kv.1=k))=true
 ·rw[if_pos a,L5];rw[t8] at a;by_cases e:j=k
  ·obtain⟨x,hx⟩:=Jb.mp a
   grind
  ·simp_all
 ·rw[if_neg a];refine tT k j y kvs ?_;rw[t8] at a;cases q:aQ kvs k with
  |none=>rfl
  |some x=>grind
theorem yz(kvs:List (κ×V))(k:κ)(v:V):(putK kvs k v).length<=kvs.length+1:=by
 unfold putK
 grind
theorem kB{kvs:List (κ×V)}{k:κ}(v:V)(h:aQ kvs k=none):putK kvs k v=kvs++[(k,v)]:=by
 unfold putK;rw[t8,h];rfl
theorem dW.tU(r:dW o u):o.isSome=u.isSome:=by
 cases o with
 |none=>cases u with
  |none=>rfl
  |some _=>exact(show False from r).elim
 |some _=>cases u with
  |none=>exact(show False from r).elim
  |some _=>rfl
theorem dW.getD(r:dW o u)(rd:RelV d d'):RelV (o.getD d) (u.getD d'):=by
 cases o with
 |none=>cases u with
  |none=>exact rd
  |some _=>exact(show False from r).elim
 |some _=>cases u with
  |none=>exact(show False from r).elim
  |some _=>exact r
theorem KV.val{kvs:List (κ×V)}{vs:List (κ×Value)}(r:KV kvs vs)(k:κ):dW (aQ kvs k) (valueAt vs k):=by
 unfold KV at r;induction r with
 |nil=>exact True.intro
 |@cons p q ps qs h t ih=>
  obtain⟨h1,h2⟩:=h;by_cases e:p.1=k
  ·have e':q.1=k:=h1.symm.trans e;have b:valueAt (q::qs) k=some q.2:=by simp[valueAt,G6,e']
   rw[fw e,b];exact h2
  ·have e':¬q.1=k:=λz=>e (h1.trans z);have b:valueAt (q::qs) k=valueAt qs k:=by simp[valueAt,G6,e']
   rw[eS e,b];exact ih
theorem KV.any(r:KV kvs vs)(k:κ):(kvs.any λkv=>decide (kv.1=k))=vs.any λkv=>decide (kv.1=k):=by
 induction r with
 |nil=>rfl
 |cons h t ih=>grind
theorem KV.Gs(r:KV kvs vs)(k:κ)(ry:RelV y u):
  KV (kvs.map λkv=>if kv.1=k then(kv.1,y) else kv) (vs.map λkv=>if kv.1=k then(kv.1,u) else kv):=by
 induction r with
 |nil=>exact .nil
 |@cons p q ps qs h t ih=>
  refine .cons ?_ ih
  grind
theorem KV.put(r:KV kvs vs)(k:κ)(ry:RelV y u):KV (putK kvs k y) (stored vs k u):=by
 unfold putK stored;rw[r.any k];by_cases e:(vs.any λkv=>decide (kv.1=k))=true;·rw[if_pos e,if_pos e];exact r.Gs k ry
 ·rw[if_neg e,if_neg e];exact Paired.snoc r ⟨rfl,ry⟩
theorem KV.drop(r:KV kvs vs)(k:κ):KV (gm kvs k) (without vs k):=by
 unfold gm without;induction r with
 |nil=>exact .nil
 |@cons p q ps qs h t ih=>
  obtain⟨h1,h2⟩:=h;rw[W0,W0];by_cases e:p.1=k;·grind
  ·have e':¬q.1=k:=λz=>e (h1.trans z);have a:decide (p.1≠k)=true:=by simp[e]
   have b:decide (q.1≠k)=true:=by simp[e']
   rw[if_pos a,if_pos b];exact .cons ⟨h1,h2⟩ ih
theorem KV.keys{kvs:List (κ×V)}{vs:List (κ×Value)}(r:KV kvs vs):kvs.map (·.1)=vs.map (·.1):=by
 induction r with
 |nil=>rfl
 |cons h t ih=>grind
theorem KV.length(r:KV kvs vs):kvs.length=vs.length:=Paired.length r
theorem L6(kvs:List (κ×V))(k:κ):(gm kvs k).length<=kvs.length:=Wh _ _
end
theorem lF(r:RelV (kV k) u):(dz P w).is k u=true:=by
 cases k with
 |inl i=>obtain⟨t,e⟩:=(show ∃t,u=Value.int i t from r);subst e;exact WO P w i t
 |inr x=>obtain⟨t,e⟩:=(show ∃t,u=Value.str x t from r);subst e;exact WQ P w x t
theorem La:∀{ks:List Key} {us:List Value},Vals (ks.map kV) us->ItemsAre (dz P w) ks us
 |[],_,r=>by rw[List.map_nil] at r;cases r;exact .nil
 |k::ks,_,r=>by
  cases r with
  |cons h t=>exact .cons (lF h) (La t)
abbrev KT(H:Hp):List (List Key×V)->List (List Key×Addr×Value)->Prop:=Paired λp q=>p.1=q.1/\H q.2.1=some (.tup (p.1.map kV))/\RelV p.2 q.2.2
theorem KT.val{H:Hp}{kvs:List (List Key×V)}{xs:List (List Key×Addr×Value)}(r:KT H kvs xs)(k:List Key):dW (aQ kvs k) ((atKey xs k).map (·.2)):=by
 induction r with
 |nil=>exact True.intro
 |@cons p q ps qs h t ih=>
  obtain⟨h1,_,h2⟩:=h;by_cases e:p.1=k
  ·have e':q.1=k:=h1.symm.trans e;have b:atKey (q::qs) k=some q.2:=by simp[atKey,e']
   rw[fw e,b];exact h2
  ·have e':¬q.1=k:=λz=>e (h1.trans z);have b:atKey (q::qs) k=atKey qs k:=by simp[atKey,e']
   rw[eS e,b];exact ih
theorem KT.Gs(r:KT H kvs xs)(k:List Key)(ry:RelV y u):
  KT H (kvs.map λkv=>if kv.1=k then(kv.1,y) else kv) (xs.map (putAt k u)):=by
 induction r with
 |nil=>exact .nil
 |@cons p q ps qs h t ih=>
  refine .cons ?_ ih;unfold putAt
  grind
theorem KT.put(r:KT H kvs xs)(k:List Key)(hb:H b=some (.tup (k.map kV)))(ry:RelV y u):
  KT H (putK kvs k y) (storedH xs k b u):=by
 have e:(kvs.any λkv=>decide (kv.1=k))=(atKey xs k).isSome:=by
  rw[t8,(r.val k).tU,Sw]
 unfold putK storedH;rw[e];by_cases q:(atKey xs k).isSome=true;·rw[if_pos q,if_pos q];exact r.Gs k ry
 ·rw[if_neg q,if_neg q];exact Paired.snoc r ⟨rfl,hb,ry⟩
theorem KT.keeps(r:KT H kvs xs)(ht:∀b ys,H b=some (.tup ys)->H' b=some (.tup ys)):KT H' kvs xs:=
 Paired.bA r λ_ _ z=>⟨z.1,ht _ _ z.2.1,z.2.2⟩
section
variable {P:Program}{w:World}{H:Hp}{h:Heap}{a:Addr}
theorem Qs(ok:cY P w H h)(e:Rd H a u):cG P w H h a u:=e.ok ok
theorem nZ(ok:cY P w H h)(e:Rd H a (.dK kvs)):kvs.length<=sizeLine/\(a==sysModules)=false/\∃vs,KV kvs vs/\h.DictOf (dz P w) a vs:=
 show cG P w H h a (.dK kvs) from Qs ok e
theorem n5(ok:cY P w H h)(e:H a=some (.dK kvs)):kvs.length<=sizeLine/\(a==sysModules)=false/\∃vs,KV kvs vs/\h.DictOf (dz P w) a vs:=nZ ok (.inl e)
theorem pP(ok:cY P w H h)(e:H a=some (.tup (ks.map kV))):(tupleKind (dz P w)).is h ks a:=by
 obtain⟨_,ah,r,o,h1,h2,n,h3,_⟩:=(show cG P w H h a (.tup (ks.map kV)) from ok a _ e);exact⟨o,ah.toArray,n,h1,h2,h3,by simpa using La r⟩
theorem pT(ok:cY P w H h)(e:Rd H a (.dT kvs)):kvs.length<=sizeLine/\(a==sysModules)=false/\
  ∃xs,KT H kvs xs/\h.DictOfH (tupleKind (dz P w)) a xs:=by
 obtain⟨z,y,xs,r,o,es,ep,h1,h2,h3,h4,h5⟩:=(show cG P w H h a (.dT kvs) from Qs ok e);refine⟨z,y,xs,r,o,es,ep,h1,h2,h3,h4,λx hx=>?_,h5⟩;have all:∀{l:List (List Key×V)} {m:List (List Key×Addr×Value)},KT H l m->∀x∈m,(tupleKind (dz P w)).is h x.1 x.2.1:=by
  intro l m q;induction q with
  |nil=>grind
  |@cons p q ps qs hq t ih=>
   intro x hx;rcases Yo.mp hx with e|hx
   ·subst e;exact pP ok (by rw[←hq.1];exact hq.2.1)
   ·exact ih x hx
 grind
theorem Qt(ok:cY P w H h)(e:H a=some (.dT kvs)):kvs.length<=sizeLine/\(a==sysModules)=false/\
  ∃xs,KT H kvs xs/\h.DictOfH (tupleKind (dz P w)) a xs:=pT ok (.inl e)
end
def dZ(H:Hp)(a:Addr)(y:V)(r:Option V):Prop:=
 (∃kvs k,Rd H a (.dK kvs)/\y=kV k/\r=aQ kvs k)\/∃kvs k b,Rd H a (.dT kvs)/\y=.ref b/\H b=some (.tup (k.map kV))/\r=aQ kvs k
def rQ(H:Hp)(a:Addr)(y v:V)(H':Hp):Prop:=
 (∃kvs k,H a=some (.dK kvs)/\y=kV k/\kvs.length<sizeLine/\H'=upd H a (.dK (putK kvs k v)))\/
 ∃kvs k b,H a=some (.dT kvs)/\y=.ref b/\H b=some (.tup (k.map kV))/\kvs.length<sizeLine/\H'=upd H a (.dT (putK kvs k v))
theorem dZ.k{H:Hp}{a:Addr}{kvs:List (Key×V)}{k:Key}(e:H a=some (.dK kvs)):dZ H a (kV k) (aQ kvs k):=.inl ⟨kvs,k,.inl e,rfl,rfl⟩
theorem dZ.t{H:Hp}{a b:Addr}{kvs:List (List Key×V)}{k:List Key}(e:H a=some (.dT kvs))(eb:H b=some (.tup (k.map kV))):dZ H a (.ref b) (aQ kvs k):=.inr ⟨kvs,k,b,.inl e,rfl,eb,rfl⟩
theorem rQ.k{H:Hp}{a:Addr}{kvs:List (Key×V)}{k:Key}{v:V}(e:H a=some (.dK kvs))(hl:kvs.length<sizeLine):rQ H a (kV k) v (upd H a (.dK (putK kvs k v))):=.inl ⟨kvs,k,e,rfl,hl,rfl⟩
theorem rQ.t{H:Hp}{a b:Addr}{kvs:List (List Key×V)}{k:List Key}{v:V}(e:H a=some (.dT kvs))(eb:H b=some (.tup (k.map kV)))(hl:kvs.length<sizeLine):
  rQ H a (.ref b) v (upd H a (.dT (putK kvs k v))):=.inr ⟨kvs,k,b,e,rfl,eb,hl,rfl⟩
section
variable {X:Cx}{pins:List (Addr×Obj)}{σ:St}{H:Hp}{s:Shared}{a:Addr}{y v:V}{u r:Value}{o:Option V}{A:Around}{E:Value->Shared->Prop}
theorem Inv.big(I:Inv X pins σ H s):sysModules<s.heap.objs.size:=by
 exact Nat.lt_trans (by decide) ((I.mod.glob.keeps I.bk).lt)
theorem ZD(hu:A.units+1<cLine)(I:Inv X pins σ H s)(g:dZ H a y (some v))(ry:RelV y u)(h:∀w' s',Inv X pins σ H s'->RelV v w'->Q w' s'):
  wpAny (model X.prog X.w) A (getItem (.ref a) u) Q E s:=by
 rcases g with⟨kvs,k,e,ey,l⟩|⟨kvs,k,b,e,ey,eb,l⟩
 ·subst ey;obtain⟨z,hd,vs,rel,dd⟩:=nZ I.av e;obtain⟨w',hw,fQ⟩:=dW.some_of (v:=v) (o:=valueAt vs k) (by rw[l];exact rel.val k);exact wpAny_getItem_of (lF ry) dd.mapOf hw (h w' _ (I.tok _) fQ)
 ·subst ey;cases(show u=Value.ref b from ry);obtain⟨z,hd,xs,rel,dd⟩:=pT I.av e;obtain⟨w',hw,fQ⟩:=dW.some_of (v:=v) (o:=(atKey xs k).map (·.2)) (by rw[l];exact rel.val k);obtain⟨p,hp,dD⟩:=Option.map_eq_some_iff.mp hw;refine wpAny_getItem_heap (tupleKind_room_in1 hu) (pP I.av eb) dd hp ?_;rw[dD];exact h w' _ (I.tok _) fQ
theorem Zfz(hu:A.units+1<cLine)(I:Inv X pins σ H s)(g:dZ H a y o)(ry:RelV y u)(h:∀s',Inv X pins σ H s'->Q (.bool o.isSome) s'):
  wpAny (model X.prog X.w) A (compareOp .In u (.ref a)) Q E s:=by
 rcases g with⟨kvs,k,e,ey,l⟩|⟨kvs,k,b,e,ey,eb,l⟩
 ·subst ey;obtain⟨z,hd,vs,rel,dd⟩:=nZ I.av e;refine wpAny_in_of (lF ry) hd dd.mapOf ?_;rw[←(rel.val k).tU,←l];exact h _ (I.tok _)
 ·subst ey;cases(show u=Value.ref b from ry);obtain⟨z,hd,xs,rel,dd⟩:=pT I.av e;refine wpAny_in_heap (tupleKind_room_in1 hu) (pP I.av eb) hd dd ?_;have q:=(rel.val k).tU;rw[Sw] at q;rw[←q,←l];exact h _ (I.tok _)
theorem ZbW(hu:A.units+1<cLine)(I:Inv X pins σ H s)(g:dZ H a y o)(ry:RelV y u)(h:∀s',Inv X pins σ H s'->Q (.bool (!o.isSome)) s'):
  wpAny (model X.prog X.w) A (compareOp .NotIn u (.ref a)) Q E s:=by
 rcases g with⟨kvs,k,e,ey,l⟩|⟨kvs,k,b,e,ey,eb,l⟩
 ·subst ey;obtain⟨z,hd,vs,rel,dd⟩:=nZ I.av e;refine wpAny_notIn_of (lF ry) hd dd.mapOf ?_;rw[←(rel.val k).tU,←l];exact h _ (I.tok _)
 ·subst ey;cases(show u=Value.ref b from ry);obtain⟨z,hd,xs,rel,dd⟩:=pT I.av e;refine wpAny_notIn_heap (tupleKind_room_in1 hu) (pP I.av eb) hd dd ?_;have q:=(rel.val k).tU;rw[Sw] at q;rw[←q,←l];exact h _ (I.tok _)
theorem qW(I:Inv X pins σ H s)(mu:xf (H a))(hs:Heap.SameBut a s.heap h')(he:∃q,h'.get? a=some q)(new:cG X.prog X.w (upd H a ob) h' a ob):
  Inv X pins σ (upd H a ob) {s with heap:=h',toks:=t'}:=
 I.write (x:=a) (e:=a) mu (.inl rfl) (λb q hb z=>(hs.2 b hb).trans z) he new
theorem wo(z:kvs.length<=sizeLine)(hd:(a==sysModules)=false)(rel:KV kvs vs)(dd:h'.DictOf (dz P w) a vs):
  cG P w H' h' a (.dK kvs):=⟨z,hd,vs,rel,dd⟩
theorem Lb(hu:A.units+1<cLine)(I:Inv X pins σ H s)(g:rQ H a y v H')(ry:RelV y u)(rv:RelV v r)(h:∀s',Inv X pins σ H' s'->Q () s'):
  wpAny (model X.prog X.w) A (setItem (.ref a) u r) Q E s:=by
 rcases g with⟨kvs,k,e,ey,l,eH⟩|⟨kvs,k,b,e,ey,eb,l,eH⟩
 ·subst ey eH;obtain⟨z,hd,vs,rel,dd⟩:=n5 I.av e;have hz:vs.length<=sizeLine:=by rw[←rel.length];exact z
  have hl:(putK kvs k v).length<=sizeLine:=by have:=yz kvs k v;omega
  refine wpAny_setItem_pairs (hsz:=hz) (lF ry) dd λh' gX hs=>h _ ?_;have he:∃q,h'.get? a=some q:=let⟨q,_,_,hq,_⟩:=gX;⟨q,hq⟩;exact qW I (by rw[e];exact True.intro) hs he (wo hl hd (rel.put k rv) gX)
 ·subst ey eH;cases(show u=Value.ref b from ry);obtain⟨z,hd,xs,rel,dd⟩:=Qt I.av e;have hz:xs.length<=sizeLine:=by rw[←Paired.length rel];exact z
  have hl:(putK kvs k v).length<=sizeLine:=by have:=yz kvs k v;omega
  refine wpAny_setItem_heap (hsz:=hz) (tupleKind_room_in1 hu) (pP I.av eb) dd λh' gX hs=>h _ ?_;obtain⟨q,es,ep,hq,h2,h3,h4,_,h5⟩:=gX;refine qW I (by rw[e];exact True.intro) hs ⟨q,hq⟩ ⟨hl,hd,_,(rel.put k eb rv).keeps λc ys ec=>?_,q,es,ep,hq,h2,h3,h4,h5⟩;rw[aJ (P6 ec e (λz=>nomatch z))];exact ec
end
section
variable {X:Cx}{pins:List (Addr×Obj)}{σ:St}{H:Hp}{s:Shared}{a:Addr}{kvs:List (Key×V)}{k:Key}{u:Value}{A:Around}{E:Value->Shared->Prop}
theorem ZE(I:Inv X pins σ H s)(e:H a=some (.dK kvs))(ry:RelV (kV k) u)(l:(aQ kvs k).isSome=true)(h:∀s',Inv X pins σ (upd H a (.dK (gm kvs k))) s'->Q () s'):
  wpAny (model X.prog X.w) A (delItem (.ref a) u) Q E s:=by
 obtain⟨z,hd,vs,rel,dd⟩:=n5 I.av e;refine wpAny_delItem_slot dd.typeIs (by decide) slot_dict_delitem
  (call_meetsIn slot_dict_delitem dd.typeIs PySem.F.entry_dict_delitem (PySem.F.args_dict_delitem_2 _ _) (meets_dict_delitem_pairs (dz X.prog X.w) a (lF ry)) ⟨vs,dd,by rw[←rel.length];exact z,by rw[←(rel.val k).tU];exact l,λh' gX hs=>h _ ?_⟩)
 have he:∃q,h'.get? a=some q:=let⟨q,_,_,hq,_⟩:=gX;⟨q,hq⟩;exact qW I (by rw[e];exact True.intro) hs he (wo (Y0 (L6 kvs k) z) hd (rel.drop k) gX)
theorem ZeK(I:Inv X pins σ H s)(e:H a=some (.dK kvs))(ry:RelV (kV k) u)(l:aQ kvs k=some v)(hm:more=[]\/∃x,more=[x])
  (h:∀w' s',Inv X pins σ (upd H a (.dK (gm kvs k))) s'->RelV v w'->Q w' s'):wpAny (model X.prog X.w) A (call (.builtin "dict.pop") (.ref a::u::more)) Q E s:=by
 obtain⟨z,hd,vs,rel,dd⟩:=n5 I.av e;obtain⟨w',hw,fQ⟩:=dW.some_of (v:=v) (o:=valueAt vs k) (by rw[←l];exact rel.val k);have hp:(keyPart u).isSome=true:=by
  cases k with
  |inl i=>obtain⟨t,q⟩:=(show ∃t,u=Value.int i t from ry);subst q;rfl
  |inr x=>obtain⟨t,q⟩:=(show ∃t,u=Value.str x t from ry);subst q;rfl
 have ha:argsOk "dict.pop" ⟨.ref a::u::more,[]⟩:=by
  rcases hm with q|⟨x,q⟩;·subst q;exact PySem.F.args_dict_pop_2 _ _
  ·subst q;exact PySem.F.args_dict_pop_3 _ _ _
 refine call_meetsIn slot_dict_pop dd.typeIs PySem.F.entry_dict_pop ha (meets_dict_pop_there (dz X.prog X.w) a (lF ry) more hm hp)
  ⟨vs,w',dd,by rw[←rel.length];exact z,hw,λh' gX hs=>h w' _ ?_ fQ⟩
 have he:∃q,h'.get? a=some q:=let⟨q,_,_,hq,_⟩:=gX;⟨q,hq⟩;exact qW I (by rw[e];exact True.intro) hs he (wo (Y0 (L6 kvs k) z) hd (rel.drop k) gX)
theorem ZeL(I:Inv X pins σ H s)(e:Rd H a (.dK kvs))(h:∀t s',Inv X pins σ H s'->Q (.int kvs.length t) s'):wpAny (model X.prog X.w) A (call (.builtin "len") [.ref a]) Q E s:=by
 obtain⟨z,hd,vs,rel,dd⟩:=nZ I.av e;refine call_len_dict hd dd (by rw[←rel.length];rw[sizeLine_eq] at z;omega) ?_;rw[←rel.length];exact h _ _ (I.tok _)
end
def Rh(i:Expr):Prop:=∀ov iv,subscripted i false ov iv=operate [ov,iv] (getItem ov iv)
theorem ZbX{prog:Program}{w:World}{A:Around}{E:Value->Shared->Prop}{s:Shared}{env:Env}{value slice:Expr}{pos:Pos}{T id:String}{Q:Value->Shared->Prop}
  (hl:typeLookup (.type T) "__getitem__"=pure (some (.builtin id)))(hs:Rh slice)
  (h:wpAny (model prog w) A (eval value env) (λo bu=>wpAny (model prog w) A (eval slice env) (λi dY=>dY.TypeIs o T/\wpAny (model prog w) A (getItem o i) Q E dY) E bu) E s):
  wpAny (model prog w) A (eval (.Subscript value slice pos) env) Q E s:=by
 refine Subscript_ (wpAny_mono h (λo bu gu=>wpAny_mono gu (λi dY oo=>?_) λ_ _ x=>x) λ_ _ x=>x);obtain⟨hT,oo⟩:=oo;refine wpAny_bind (wpAny_bind (wpAny_specialOf hT hl ?_));have fin:wpAny (model prog w) A (subscripted slice false o i) (λr dN=>wpAny (model prog w) A (letTemporaryGo value o r>>=λ_=>pure r) Q E dN) E dY:=by
  rw[hs o i];exact wpAny_operating (wpAny_mono oo (λr dN uy=>wpAny_bind (wpAny_letTemporaryGo (wpAny_pure uy))) λ_ _ x=>x)
 first
  |exact wpAny_pure (wpAny_bind fin)
  |exact wpAny_bind (wpAny_pure (wpAny_bind fin))
  |exact wpAny_bind fin
theorem WY(I:Inv X pins σ H s)(g:dZ H a y o):s.TypeIs (.ref a) "dict":=by
 rcases g with⟨kvs,k,e,_,_⟩|⟨kvs,k,b,e,_,_,_⟩
 ·obtain⟨_,_,vs,_,dd⟩:=nZ I.av e;exact dd.typeIs
 ·obtain⟨_,_,xs,_,dd⟩:=pT I.av e;exact dd.typeIs
inductive Nt(Q:VK)(x:V)(y:V)(H2:Hp):Prop
 |mk (a v) (aC:x=.ref a) (aR:dZ H2 a y (some v)) (a8:Q v H2):Nt Q x y H2
def ZeM(td ty:TE):TE:=λσ H Q=>td σ H λx H1=>ty σ H1 λy H2=>Nt Q x y H2
inductive O7(Q:VK)(y:V)(x:V)(H2:Hp):Prop
 |mk (a o) (aC:x=.ref a) (aR:dZ H2 a y o) (a8:Q (.bl o.isSome) H2):O7 Q y x H2
def ZfA(ty td:TE):TE:=λσ H Q=>ty σ H λy H1=>td σ H1 λx H2=>O7 Q y x H2
inductive Lc(Q:VK)(y:V)(x:V)(H2:Hp):Prop
 |mk (a o) (aC:x=.ref a) (aR:dZ H2 a y o) (a8:Q (.bl (!o.isSome)) H2):Lc Q y x H2
def ZbY(ty td:TE):TE:=λσ H Q=>ty σ H λy H1=>td σ H1 λx H2=>Lc Q y x H2
section
variable {X:Cx}{o i e value:Expr}{pos pos' z6:Pos}{td ty tv:TE}
theorem df(hu:X.A.units+1<cLine)(ho:PE X o td)(hi:PE X i ty)(hs:Rh i):PE X (.Subscript o i pos) (ZeM td ty):=by
 intro pins s σ H Q I h;refine ZbX PySem.F.slot_dict_getitem.lookup hs (aw (ho pins s σ H _ I h) λu s1 zq=>?_);obtain⟨x,H1,I1,rx,q1⟩:=zq;refine aw (hi pins s1 σ H1 _ I1 q1) λiv s2 zq=>?_;obtain⟨y,H2,I2,ry,a,v,ex,g,q2⟩:=zq;subst ex;obtain rfl:u=Value.ref a:=rx;exact⟨WY I2 g,ZD hu I2 g ry λw' s3 I3 fQ=>⟨v,H2,I3,fQ,q2⟩⟩
theorem zH(hu:X.A.units+1<cLine)(hi:PE X i ty)(ho:PE X o td):PC X .In i o (ZfA ty td):=by
 intro pins s σ H Q I h;refine aw (hi pins s σ H _ I h) λiv s1 zq=>?_;obtain⟨y,H1,I1,ry,q1⟩:=zq;refine aw (ho pins s1 σ H1 _ I1 q1) λu s2 zq=>?_;obtain⟨x,H2,I2,rx,a,ov,ex,g,q2⟩:=zq;subst ex;obtain rfl:u=Value.ref a:=rx;exact Zfz hu I2 g ry λs3 I3=>⟨.bl ov.isSome,H2,I3,rfl,q2⟩
theorem mf(hu:X.A.units+1<cLine)(hi:PE X i ty)(ho:PE X o td):PC X .NotIn i o (ZbY ty td):=by
 intro pins s σ H Q I h;refine aw (hi pins s σ H _ I h) λiv s1 zq=>?_;obtain⟨y,H1,I1,ry,q1⟩:=zq;refine aw (ho pins s1 σ H1 _ I1 q1) λu s2 zq=>?_;obtain⟨x,H2,I2,rx,a,ov,ex,g,q2⟩:=zq;subst ex;obtain rfl:u=Value.ref a:=rx;exact ZbW hu I2 g ry λs3 I3=>⟨.bl (!ov.isSome),H2,I3,rfl,q2⟩
end
theorem L7(h:Heap)(hb:sysModules<h.objs.size):cG P w H (h.push {cls:=.type "dict",data:=.dict #[]}) h.objs.size (.dK []):=
 ⟨Yx _,beq_eq_false_iff_ne.mpr (Ne.symm (Yy hb)),[],.nil,Heap.DictOf.new h⟩
theorem ZaB(h:Heap)(hb:sysModules<h.objs.size):cG P w H (h.push {cls:=.type "dict",data:=.dict #[]}) h.objs.size (.dT []):=
 ⟨Yx _,beq_eq_false_iff_ne.mpr (Ne.symm (Yy hb)),[],.nil,_,#[],0,Yt _ rfl,⟨rfl,rfl,rfl⟩,rfl,rfl,Ja⟩
def ZdC:TE:=λ_ H Q=>∀p,H p=none->Q (.ref p) (upd H p (.dK []))
def ZdD:TE:=λ_ H Q=>∀p,H p=none->Q (.ref p) (upd H p (.dT []))
section
variable {X:Cx}{pos:Pos}
theorem ZaC:PE X (.Dict [] [] pos) ZdC:=λpins s σ H Q I h=>
 wpAny_Dict_empty ⟨.ref s.heap.objs.size,_,I.laid (a:=s.heap.objs.size) (o:=.dK []) (t':=s.toks) (λ_ _ q=>Yb _ q) (Yd _) (L7 s.heap I.big),rfl,h _ (I.av.fresh (Yd _))⟩
theorem ZaD:PE X (.Dict [] [] pos) ZdD:=λpins s σ H Q I h=>
 wpAny_Dict_empty ⟨.ref s.heap.objs.size,_,I.laid (a:=s.heap.objs.size) (o:=.dT []) (t':=s.toks) (λ_ _ q=>Yb _ q) (Yd _) (ZaB s.heap I.big),rfl,h _ (I.av.fresh (Yd _))⟩
end
def Fu:List (TE×TE)->St->Hp->(List (V×V)->Hp->Prop)->Prop
 |[],_,H,Q=>Q [] H
 |(tk,tv)::r,σ,H,Q=>tk σ H λx H1=>tv σ H1 λy H2=>Fu r σ H2 λps H3=>Q ((x,y)::ps) H3
abbrev VV:List (V×V)->List (Value×Value)->Prop:=Paired λp q=>RelV p.1 q.1/\RelV p.2 q.2
def AG(X:Cx)(pos:Pos)(keys:List (Option Expr))(values:List Expr)(sr:List (TE×TE)):Prop:=
 ∀(pins:List (Addr×Obj)) (s:Shared) (σ:St) (H:Hp) (Q:List (V×V)->Hp->Prop),Inv X pins σ H s->Fu sr σ H Q->
  wpAny (model X.prog X.w) X.A (evalPairs (pairTrees keys values X.env pos)) (λvs s'=>∃ps H',Inv X pins σ H' s'/\VV ps vs/\Q ps H') X.xe s
theorem zk:AG X pos [] [] []:=λpins s σ H Q I h=>pairTrees_nil_walk ⟨[],H,I,.nil,h⟩
theorem jG(hk:PE X k tk)(hv:PE X v tv)(hr:AG X pos ks vs sr):
  AG X pos (some k::ks) (v::vs) ((tk,tv)::sr):=λpins s σ H Q I h=>
 pairTrees_cons_walk (aw (hk pins s σ H _ I h) λu s1 ⟨x,H1,I1,rx,q1⟩=>aw (hv pins s1 σ H1 _ I1 q1) λw2 s2 ⟨y,H2,I2,ry,q2⟩=>
  aw (hr pins s2 σ H2 _ I2 q2) λws s3 ⟨ps,H3,I3,rel,q3⟩=>⟨(x,y)::ps,H3,I3,.cons ⟨rx,ry⟩ rel,q3⟩)
def nS(kvs more:List (Key×V)):List (Key×V):=more.foldl (λacc kv=>putK acc kv.1 kv.2) kvs
theorem KV.merge:∀{more:List (Key×V)} {rs:List (Key×Value)} {kvs:List (Key×V)} {vs:List (Key×Value)},KV more rs->KV kvs vs->KV (nS kvs more) (merged vs rs):=by
 intro more rs kvs vs r;induction r generalizing kvs vs with
 |nil=>intro q;exact q
 |@cons p q ps qs h t ih=>
  intro r0;have e:KV (putK kvs p.1 p.2) (stored vs q.1 q.2):=by
   have:=r0.put p.1 h.2
   grind
  exact ih e
theorem JM:∀(more kvs:List (Key×V)),(nS kvs more).length<=kvs.length+more.length
 |[],kvs=>by show kvs.length<=kvs.length+0;omega
 |p::r,kvs=>by
  have h1:=JM r (putK kvs p.1 p.2);have h2:=yz kvs p.1 p.2;show(nS (putK kvs p.1 p.2) r).length<=_
  grind
theorem Kv:∀{kvs:List (Key×V)} {ws:List (Value×Value)},VV (kvs.map λkv=>(kV kv.1,kv.2)) ws->∃rs,Carries (dz P w) ws rs/\KV kvs rs
 |[],_,r=>by rw[List.map_nil] at r;cases r;exact⟨[],True.intro,.nil⟩
 |p::kvs,_,r=>by
  cases r with
  |@cons a b as bs h t=>
   obtain⟨rs,c,q⟩:=Kv t;obtain⟨b1,b2⟩:=b;exact⟨(p.1,b2)::rs,⟨lF h.1,rfl,c⟩,.cons ⟨rfl,h.2⟩ q⟩
def ZeN(sr:List (TE×TE)):TE:=λσ H Q=>∀p,H p=none->Fu sr σ (upd H p (.dK [])) λps H2=>H2 p=some (.dK [])/\∃kvs:List (Key×V),ps=kvs.map (λkv=>(kV kv.1,kv.2))/\kvs.length<=15/\Q (.ref p) (upd H2 p (.dK (nS [] kvs)))
theorem zm(h:AG X pos keys values sr)(Gm:keys.all (·.isSome)=true)(hl:keys.length=values.length)(h0:keys≠[])
  (h15:keys.length<=15):PE X (.Dict keys values pos) (ZeN sr):=by
 intro pins s σ H Q I q;refine wpAny_Dict_walk (knd:=dz X.prog X.w) Gm hl h0 h15 (aw (h pins _ σ _ _ (I.laid (λ_ _ q=>Yb _ q) (Yd _) (L7 s.heap I.big)) (q _ (I.av.fresh (Yd s.heap.objs.size)))) λws s2 ⟨ps,H2,I2,rel,e,kvs,ep,lk,q2⟩=>?_);subst ep;obtain⟨rs,c,rk⟩:=Kv rel;obtain⟨z,hd,vs0,r0,dd⟩:=n5 I2.av e;cases r0;refine⟨rs,c,dd,λh' gX hs=>⟨.ref s.heap.objs.size,_,?_,rfl,q2⟩⟩;have hz:(nS [] kvs).length<=sizeLine:=by
  have h1:=JM kvs [];rw[Sh] at h1;rw[sizeLine_eq];omega
 exact qW I2 (by rw[e];exact True.intro) hs (let⟨q,_,_,hq,_⟩:=gX;⟨q,hq⟩) (wo hz hd (rk.merge .nil) gX)
structure M1(X:Cx)(o:Expr)(m:Str)(apos:Pos)(e:Expr)(b_:Pos):Prop where
 base:attributeBase o m X.env (eval o X.env)=eval o X.env
 iF:((backTo b_ (starEach [e] X.env)).all (λx=>!x.1)&&(backToKw b_ (keywordEach [] X.env)).all (λx=>x.1.isSome)
  &&decide (([e]:List Expr).length+([]:List Keyword).length+(if([]:List Keyword).isEmpty then 0 else 1)<30))=true
 line:(apos.endLine==b_.line)=true
 trees:backTo b_ (starEach [e] X.env)=[(false,eval e X.env)]
structure M2(X:Cx)(o:Expr)(m:Str)(apos:Pos)(e f:Expr)(b_:Pos):Prop where
 base:attributeBase o m X.env (eval o X.env)=eval o X.env
 iF:((backTo b_ (starEach [e,f] X.env)).all (λx=>!x.1)&&(backToKw b_ (keywordEach [] X.env)).all (λx=>x.1.isSome)
  &&decide (([e,f]:List Expr).length+([]:List Keyword).length+(if([]:List Keyword).isEmpty then 0 else 1)<30))=true
 line:(apos.endLine==b_.line)=true
 trees:backTo b_ (starEach [e,f] X.env)=[(false,eval e X.env),(false,eval f X.env)]
def xF(H:Hp)(a:Addr):Prop:=(∃kvs,Rd H a (.dK kvs))\/∃kvs,Rd H a (.dT kvs)
theorem wq(I:Inv X pins σ H s)(d:xF H a):
  s.TypeIs (.ref a) "dict"/\(∀b,Value.ref a=.ref b->∃ob,s.heap.get? b=some ob/\ob.dict=none)/\(a==sysModules)=false:=by
 rcases d with⟨kvs,e⟩|⟨kvs,e⟩
 ·obtain⟨_,hd,vs,_,dd⟩:=nZ I.av e;refine⟨dd.typeIs,λb q=>?_,hd⟩;cases q;obtain⟨ob,_,_,h1,h2,_⟩:=dd;exact⟨ob,h1,h2.2.1⟩
 ·obtain⟨_,hd,xs,_,dd⟩:=pT I.av e;refine⟨dd.typeIs,λb q=>?_,hd⟩;cases q;obtain⟨ob,_,_,h1,h2,_⟩:=dd;exact⟨ob,h1,h2.2.1⟩
section
variable {X:Cx}{pins:List (Addr×Obj)}{σ:St}{H:Hp}{s:Shared}{a:Addr}{y d:V}{u r:Value}{o:Option V}{A:Around}{E:Value->Shared->Prop}
theorem ZdE(hu:A.units+1<cLine)(I:Inv X pins σ H s)(g:dZ H a y o)(ry:RelV y u)(h:∀w' s',Inv X pins σ H s'->RelV (o.getD .ay) w'->Q w' s'):
  wpAny (model X.prog X.w) A (call (.builtin "dict.get") [.ref a,u]) Q E s:=by
 rcases g with⟨kvs,k,e,ey,l⟩|⟨kvs,k,b,e,ey,eb,l⟩
 ·subst ey;obtain⟨z,hd,vs,rel,dd⟩:=nZ I.av e;refine call_meetsIn slot_dict_get dd.typeIs entry_dict_get (PySem.F.args_dict_get_2 _ _) (meets_dict_get (dz X.prog X.w) a (lF ry) hd) ⟨_,dd.mapOf,h _ _ (I.tok _) ?_⟩;rw[l];exact(rel.val k).getD rfl
 ·subst ey;cases(show u=Value.ref b from ry);obtain⟨z,hd,xs,rel,dd⟩:=pT I.av e;refine call_meetsIn slot_dict_get dd.typeIs entry_dict_get (PySem.F.args_dict_get_2 _ _) (meetsH_dict_get (tupleKind (dz X.prog X.w)) a b hd) ⟨tupleKind_room_in1 hu,k,xs,pP I.av eb,dd,h _ _ (I.tok _) ?_⟩;rw[l];exact(rel.val k).getD rfl
theorem ZdF(hu:A.units+1<cLine)(I:Inv X pins σ H s)(g:dZ H a y o)(ry:RelV y u)(rd:RelV d r)(h:∀w' s',Inv X pins σ H s'->RelV (o.getD d) w'->Q w' s'):
  wpAny (model X.prog X.w) A (call (.builtin "dict.get") [.ref a,u,r]) Q E s:=by
 rcases g with⟨kvs,k,e,ey,l⟩|⟨kvs,k,b,e,ey,eb,l⟩
 ·subst ey;obtain⟨z,hd,vs,rel,dd⟩:=nZ I.av e;refine call_meetsIn slot_dict_get dd.typeIs entry_dict_get (PySem.F.args_dict_get_3 _ _ _) (meets_dict_get_default (dz X.prog X.w) a (lF ry) hd r) ⟨_,dd.mapOf,h _ _ (I.tok _) ?_⟩;rw[l];exact(rel.val k).getD rd
 ·subst ey;cases(show u=Value.ref b from ry);obtain⟨z,hd,xs,rel,dd⟩:=pT I.av e;refine call_meetsIn slot_dict_get dd.typeIs entry_dict_get (PySem.F.args_dict_get_3 _ _ _) (meetsH_dict_get_default (tupleKind (dz X.prog X.w)) a b hd r) ⟨tupleKind_room_in1 hu,k,xs,pP I.av eb,dd,h _ _ (I.tok _) ?_⟩;rw[l];exact(rel.val k).getD rd
end
def ZdG(td ty:TE):TE:=λσ H Q=>td σ H λx H1=>∃a,x=.ref a/\xF H1 a/\ty σ H1 λy H2=>∃o,dZ H2 a y o/\Q (o.getD .ay) H2
def ZdH(td ty tx:TE):TE:=λσ H Q=>td σ H λx H1=>∃a,x=.ref a/\xF H1 a/\ty σ H1 λy H2=>tx σ H2 λz H3=>∃o,dZ H3 a y o/\Q (o.getD z) H3
section
variable {X:Cx}{o e f:Expr}{apos b_:Pos}{td ty tx:TE}
theorem ZaE(hu:X.A.units+1<cLine)(ho:PE X o td)(he:PE X e ty)(m:M1 X o "get" apos e b_):PE X (.Call (.Attribute o "get" apos) [e] [] b_) (ZdG td ty):=by
 intro pins s σ H Q I h;refine wpAny_Call_method m.base m.iF m.line plainAttrs_dict slot_dict_get type_dict_get (aw (ho pins s σ H _ I h) λu s1 zq=>?_);obtain⟨x,H1,I1,rx,a,ex,d,q1⟩:=zq;subst ex;obtain rfl:u=Value.ref a:=rx;obtain⟨t1,t2,_⟩:=wq I1 d;refine⟨t1,t2,?_⟩;rw[m.trees];exact Calls.callWith_builtin rfl (Calls.evalArgs_plain (Calls.spliced_cons (aw (he pins s1 σ H1 _ I1 q1) λiv s2 ⟨y,H2,I2,ry,ov,g,q2⟩=>Calls.spliced_nil (ZdE hu I2 g ry λw' s3 I3 fQ=>⟨_,H2,I3,fQ,q2⟩))))
theorem ZaF(hu:X.A.units+1<cLine)(ho:PE X o td)(he:PE X e ty)(hf:PE X f tx)(m:M2 X o "get" apos e f b_):PE X (.Call (.Attribute o "get" apos) [e,f] [] b_) (ZdH td ty tx):=by
 intro pins s σ H Q I h;refine wpAny_Call_method m.base m.iF m.line plainAttrs_dict slot_dict_get type_dict_get (aw (ho pins s σ H _ I h) λu s1 zq=>?_);obtain⟨x,H1,I1,rx,a,ex,d,q1⟩:=zq;subst ex;obtain rfl:u=Value.ref a:=rx;obtain⟨t1,t2,_⟩:=wq I1 d;refine⟨t1,t2,?_⟩;rw[m.trees];refine Calls.callWith_builtin rfl (Calls.evalArgs_plain (Calls.spliced_cons (aw (he pins s1 σ H1 _ I1 q1) λiv s2 ⟨y,H2,I2,ry,q2⟩=>
  Calls.spliced_cons (aw (hf pins s2 σ H2 _ I2 q2) λfv s3 ⟨z,H3,I3,rz,ov,g,q3⟩=>Calls.spliced_nil ?_))))
 exact ZdF hu I3 g ry rz λw' s4 I4 fQ=>⟨_,H3,I4,fQ,q3⟩
end
section
variable {X:Cx}{pins:List (Addr×Obj)}{σ:St}{H:Hp}{s:Shared}{a:Addr}{kvs:List (Key×V)}{A:Around}{E:Value->Shared->Prop}
end
section
variable {X:Cx}{pins:List (Addr×Obj)}{σ:St}{H:Hp}{s:Shared}{a:Addr}{y:V}{u:Value}{A:Around}{E:Value->Shared->Prop}
end
def uq(P:Program)(w:World)(K:PySem.W.Frag)(mg:Str->Option Value)(base:Heap)(k:Nat)(x:Str)(C:Addr)(ps:List Str)(sp:Sp):Prop:=
 ∃f fd,Mk K C f/\aE P w K mg base aL k f fd ps sp/\Binds K fd ps []/\mg x=some (.ref C)
def cz(P:Program)(w:World)(K:PySem.W.Frag)(mg:Str->Option Value)(base:Heap)(k:Nat)(m:Str)(C:Addr)(ps:List Str)(sp:Sp):Prop:=
 ∃f fd,fF K C/\Meth K C m f/\aE P w K mg base aL k f fd ps sp/\Binds K fd ps []
def O8(P:Program)(w:World)(K:PySem.W.Frag)(mg:Str->Option Value)(base:Heap)(k:Nat)(m:Str)(C:Addr)(ps:List Str)(sp:Sp):Prop:=
 ∃f fd,fF K C/\Meth K C m f/\aE P w K mg base (dP P w) k f fd ps sp/\Binds K fd ps []
section
variable {X:Cx}{k j:Nat}{x m:Str}{C:Addr}{ps:List Str}{sp:Sp}{p pos apos:Pos}{o e:Expr}{es:List Expr}{t:TA}{ta:TE}
theorem FX(h:uq X.prog X.w X.K X.mg X.base k x C ps sp)(hr:cA j X.A)(hj:k+1<=j)(hg:Gl X x)(ha:PA X (e::es) t)(eC:(x==("__debug__":Str))=false:=by decide)
  (he:starEach (e::es) X.env=(false,eval e X.env)::starEach es X.env:=by rfl)(bN:(backTo pos (starEach es X.env)).any (·.1)=false:=by rfl):PE X (.Call (.Name x p) (e::es) [] pos) (Qc C sp [] E0 t):=by
 obtain⟨f,fd,M,F,b,hm⟩:=h;exact ZbC M F (hr.mono hj) hg hm b .nil wD ha eC he bN
theorem cP(h:cz X.prog X.w X.K X.mg X.base k m C ps sp)(hr:cA j X.A)(hj:k<=j)(ho:PE X o ta)(ha:PA X (e::es) t)
  (c7:starEach (e::es) X.env=(false,eval e X.env)::starEach es X.env:=by rfl)(bN:(backTo pos (starEach es X.env)).any (·.1)=false:=by rfl)
  (ht:eval (.Call (.Attribute o m apos) (e::es) [] pos) X.env=(do
   let ov←eval o X.env
   standAt apos.atName
   let(f,first)←holding [ov] (getMethod ov m pl)
   callWith pos f first (backTo pos (starEach (e::es) X.env)) (backToKw pos (keywordEach [] X.env))):=by rfl):
  PE X (.Call (.Attribute o m apos) (e::es) [] pos) (zQ C m sp [] E0 ta t):=by
 obtain⟨f,fd,c,hm,F,b⟩:=h;exact ZbB ho c hm F (hr.mono hj) b .nil wD ha c7 bN ht
end
theorem v9{X:Cx}{K:PySem.W.Frag}{e:Expr}{ta:TE}{f:Str}{pos:Pos}(h:X.K=K)(he:PE X e ta)(hb:attributeBase e f X.env (eval e X.env)=eval e X.env):PE X (.Attribute e f pos) (Gi K ta f):=h▸Zc0 he hb
section
open PySem.AutoSeq1 (wpAny_loadPart')
theorem ZF(lo hi x:Int):(Builtin.Range.rangePlace? lo hi 1 x).isSome=decide (lo<=x/\x<hi):=by
 unfold Builtin.Range.rangePlace?
 grind
theorem UR(p:Addr)(lo hi x:Int)(a b c t:Tok):
  Meets (Builtin.«range.__contains__» ⟨[.ref p,.int x t],[]⟩)
   (λ_ R s=>s.heap.get? p=some {cls:=.type "range",data:=.fields #[.int lo a,.int hi b,.int 1 c]}/\R (.ok (.ret (.bool (decide (lo<=x/\x<hi))))) s):=
 .of_wp λprog w A R s h=>by
  obtain⟨hp,g,d,tk,os⟩:=s;obtain⟨hl,h⟩:=h;rw[←ZF] at h
  wp_walk using wpAny_loadPart' hl
  grind
end
def ZdI(neg:Bool):R2:=λx y H Q=>∃(i lo hi:Int) (p:Addr),x=.int i/\y=.ref p/\H p=some (.jt lo hi)/\Q (.bl (if neg=true then !decide (lo<=i/\i<hi) else decide (lo<=i/\i<hi))) H
theorem VX:cB X (compareOp .NotIn) (ZdI true):=by
 rintro pins s σ H x y v u Q I rx ry ⟨i,lo,hi,p,rfl,rfl,hp,q⟩;obtain⟨t,rfl⟩:=rx;cases ry;obtain⟨a,b,c,g⟩:=(show cG X.prog X.w H s.heap p (.jt lo hi) from I.av p _ hp);exact SeqRoads2.notIn_meets ⟨_,g,rfl⟩ F.slot_range_contains F.entry_range_contains (F.args_range_contains_2 _ _) (UR p lo hi i a b c t) ⟨g,_,rfl,.bl _,H,I,rfl,q⟩
theorem tJ(p:Nat->Bool)(n:Nat):(List.range (n+1)).filter p=(List.range n).filter p++(if p n=true then[n] else[]):=by
 rw[List.range_succ,Wq]
 grind
theorem jE{α β:Type}{F:α->β->Prop}:∀{xs:List α} {ys:List β} {x:α} {y:β},Paired F xs ys->F x y->Paired F (xs++[x]) (ys++[y]):=by
 intro xs ys x y h f;induction h with
 |nil=>exact .cons f .nil
 |cons r t ih=>exact .cons r ih
theorem C7:∀{xs:List α} {ys:List β},Paired F xs ys->xs.length=ys.length:=by
 intro xs ys h;induction h with
 |nil=>rfl
 |cons _ _ ih=>rw[Wd,Wd,ih]
theorem Cw:∀{xs:List V} {ys:List β},Paired (λx y=>x=f y) xs ys->xs=ys.map f:=by
 intro xs ys h;induction h with
 |nil=>rfl
 |cons r t ih=>rw[Wo,←r,←ih]
theorem Kw(n:Nat):(List.range n).filter (λ_=>true)=List.range n:=by simp
theorem Vx(xs:List α)(f:Nat->β)(g:α->β)(h:∀(i:Nat) (v:α),xs[i]?=some v->f i=g v):(List.range xs.length).map f=xs.map g:=by
 refine Wu λi=>?_
 grind
def az(D:Addr)(H H':Hp):Prop:=∀b o,H b=some o->b≠D->H' b=some o
theorem az.of(g:ai H H'):az D H H':=λb o e _=>g b o e
theorem az.put(g:az D H H'):az D H (upd H' D o):=λb u e n=>by rw[aJ n];exact g b u e n
def ur(tt:TT)(te:TE)(fv:St)(D:Addr)(H:Hp)(v:V)(b:Bool)(Pe:V->Hp->Prop):Prop:=
 ∀H1,ai H H1->(∃ys,H1 D=some (.lst ys))->∀(Kt:VK) (Kf:Hp->Prop),(∀y H3,b=true->ai H1 H3->Pe y H3->Kt y H3)->(∀H3,b=false->ai H1 H3->Kf H3)->tt (some v::fv) H1 λc H2=>if c=true then te (some v::fv) H2 Kt else Kf H2
theorem DF{K:PySem.W.Frag}{a:Addr}{xs:List V}{tt:TT}{te:TE}{fv:St}{D:Addr}{H:Hp}{Q:VK}(hs:ak K H a xs)(hn:xs.length<=1000)(hD:H D=none)(p:Nat->Bool)(Pe:Nat->V->Hp->Prop)(mono:∀i y H1 H2,az D H1 H2->Pe i y H1->Pe i y H2)
  (turn:∀(i:Nat) (v:V),xs[i]?=some v->ur tt te fv D H v (p i) (Pe i))(fin:∀ys H',ai H H'->H' D=some (.lst ys)->Paired (λy i=>Pe i y H') ys ((List.range xs.length).filter p)->Q (.ref D) H'):iV (ju K a) tt te fv D H Q:=by
 refine D_ (λi ys H1=>i<=xs.length/\ai H H1/\H1 D=some (.lst ys)/\Paired (λy j=>Pe j y H1) ys ((List.range i).filter p)) ⟨Yx _,bY hD _,aO,.nil⟩ (λi ys H1 _ ⟨_,g,_,_⟩=>g.seq hs) ?_ ?_
 ·rintro i v ys H1 hi ⟨_,g,h1,pr⟩;have dE:=(Yj.mp hi).1;have ll:=C7 pr;have fl:=Wh p (List.range i);rw[Sx] at fl;refine turn i v hi H1 g ⟨_,h1⟩ _ _ (λy H3 pi g3 py=>⟨g3 _ _ h1,by rw[sizeLine_eq];omega,dE,?_,aO,?_⟩) (λH3 pi g3=>⟨dE,g.trans g3,g3 _ _ h1,?_⟩)
  ·intro b o e;rw[aJ (bT e hD)];exact g3 _ _ (g _ _ e)
  ·rw[tJ,if_pos pi];exact jE (Paired.bA pr λz j q=>mono _ _ _ _ (az.put (az.of g3)) q) (mono _ _ _ _ (az.put (az.of (ai.refl _))) py)
  ·rw[tJ,if_neg (by rw[pi];exact Yh),Wb];exact Paired.bA pr λz j q=>mono _ _ _ _ (az.of g3) q
 ·grind
theorem XW{K:PySem.W.Frag}{a:Addr}{xs:List V}{tt:TT}{te:TE}{fv:St}{D:Addr}{H:Hp}{Q:VK}(hs:ak K H a xs)(hn:xs.length<=1000)(hD:H D=none)(p:Nat->Bool)(f:Nat->V)
  (turn:∀(i:Nat) (v:V),xs[i]?=some v->ur tt te fv D H v (p i) (λy _=>y=f i))(fin:∀H',ai H H'->H' D=some (.lst (((List.range xs.length).filter p).map f))->Q (.ref D) H'):iV (ju K a) tt te fv D H Q:=
 DF hs hn hD p (λi y _=>y=f i) (λ_ _ _ _ _ e=>e) turn λys H' g h1 pr=>fin H' g (by rw[←Cw pr];exact h1)
theorem XX{K:PySem.W.Frag}{a:Addr}{xs:List V}{te:TE}{fv:St}{D:Addr}{H:Hp}{Q:VK}(hs:ak K H a xs)(hn:xs.length<=1000)(hD:H D=none)(f:V->V)
  (turn:∀(i:Nat) (v:V),xs[i]?=some v->∀H1,ai H H1->∀Kt:VK,(∀H3,ai H1 H3->Kt (f v) H3)->te (some v::fv) H1 Kt)(fin:∀H',ai H H'->H' D=some (.lst (xs.map f))->Q (.ref D) H'):iV (ju K a) Aa te fv D H Q:=by
 refine XW hs hn hD (λ_=>true) (λi=>f (xs.getD i .ay)) (λi v hi H1 g _ Kt Kf kt _=>lL (c5 ?_)) λH' g h1=>fin H' g ?_;·grind
 ·rw[h1,Kw,Vx xs (λi=>f (xs.getD i .ay)) f λi v hi=>by rw[Ye,hi];rfl]
theorem ZG{K:PySem.W.Frag}{a:Addr}{xs:List V}{tt:TT}{te:TE}{fv:St}{D:Addr}{H:Hp}{Q:VK}(hs:aB K H a xs)(hn:xs.length<=1000)(hD:H D=none)(p:Nat->Bool)(Pe:Nat->V->Hp->Prop)(mono:∀i y H1 H2,az D H1 H2->Pe i y H1->Pe i y H2)
  (turn:∀(i:Nat) (v:V),xs[i]?=some v->ur tt te fv D H v (p i) (Pe i))(fin:∀ys H',ai H H'->H' D=some (.lst ys)->Paired (λy i=>Pe i y H') ys ((List.range xs.length).filter p)->Q (.ref D) H'):iV (uK K a) tt te fv D H Q:=by
 refine yX (λi ys H1=>i<=xs.length/\ai H H1/\H1 D=some (.lst ys)/\Paired (λy j=>Pe j y H1) ys ((List.range i).filter p)) ⟨Yx _,bY hD _,aO,.nil⟩ (λi ys H1 _ ⟨_,g,_,_⟩=>g.jb hs) ?_ ?_
 ·rintro i v ys H1 hi ⟨_,g,h1,pr⟩;have dE:=(Yj.mp hi).1;have ll:=C7 pr;have fl:=Wh p (List.range i);rw[Sx] at fl;refine turn i v hi H1 g ⟨_,h1⟩ _ _ (λy H3 pi g3 py=>⟨g3 _ _ h1,by rw[sizeLine_eq];omega,dE,?_,aO,?_⟩) (λH3 pi g3=>⟨dE,g.trans g3,g3 _ _ h1,?_⟩)
  ·intro b o e;rw[aJ (bT e hD)];exact g3 _ _ (g _ _ e)
  ·rw[tJ,if_pos pi];exact jE (Paired.bA pr λz j q=>mono _ _ _ _ (az.put (az.of g3)) q) (mono _ _ _ _ (az.put (az.of (ai.refl _))) py)
  ·rw[tJ,if_neg (by rw[pi];exact Yh),Wb];exact Paired.bA pr λz j q=>mono _ _ _ _ (az.of g3) q
 ·grind
theorem ZH{K:PySem.W.Frag}{a:Addr}{xs:List V}{tt:TT}{te:TE}{fv:St}{D:Addr}{H:Hp}{Q:VK}(hs:aB K H a xs)(hn:xs.length<=1000)(hD:H D=none)(p:Nat->Bool)(f:Nat->V)
  (turn:∀(i:Nat) (v:V),xs[i]?=some v->ur tt te fv D H v (p i) (λy _=>y=f i))(fin:∀H',ai H H'->H' D=some (.lst (((List.range xs.length).filter p).map f))->Q (.ref D) H'):iV (uK K a) tt te fv D H Q:=
 ZG hs hn hD p (λi y _=>y=f i) (λ_ _ _ _ _ e=>e) turn λys H' g h1 pr=>fin H' g (by rw[←Cw pr];exact h1)
theorem WZ{lo:Int}{n:Nat}{tt:TT}{te:TE}{fv:St}{D:Addr}{H:Hp}{Q:VK}(hn:n<=1000)(hD:H D=none)(p:Nat->Bool)(Pe:Nat->V->Hp->Prop)(mono:∀i y H1 H2,az D H1 H2->Pe i y H1->Pe i y H2)
  (turn:∀i,i<n->ur tt te fv D H (.int (lo+i)) (p i) (Pe i))(fin:∀ys H',ai H H'->H' D=some (.lst ys)->Paired (λy i=>Pe i y H') ys ((List.range n).filter p)->Q (.ref D) H'):iV (oA lo n) tt te fv D H Q:=by
 refine vP (λi ys H1=>i<=n/\ai H H1/\H1 D=some (.lst ys)/\Paired (λy j=>Pe j y H1) ys ((List.range i).filter p)) ⟨Yx _,bY hD _,aO,.nil⟩ ?_ ?_
 ·rintro i ys H1 hi ⟨_,g,h1,pr⟩;have dE:=hi;have ll:=C7 pr;have fl:=Wh p (List.range i);rw[Sx] at fl;refine turn i hi H1 g ⟨_,h1⟩ _ _ (λy H3 pi g3 py=>⟨g3 _ _ h1,by rw[sizeLine_eq];omega,dE,?_,aO,?_⟩) (λH3 pi g3=>⟨dE,g.trans g3,g3 _ _ h1,?_⟩)
  ·intro b o e;rw[aJ (bT e hD)];exact g3 _ _ (g _ _ e)
  ·rw[tJ,if_pos pi];exact jE (Paired.bA pr λz j q=>mono _ _ _ _ (az.put (az.of g3)) q) (mono _ _ _ _ (az.put (az.of (ai.refl _))) py)
  ·rw[tJ,if_neg (by rw[pi];exact Yh),Wb];exact Paired.bA pr λz j q=>mono _ _ _ _ (az.of g3) q
 ·grind
theorem W_{lo:Int}{n:Nat}{tt:TT}{te:TE}{fv:St}{D:Addr}{H:Hp}{Q:VK}(hn:n<=1000)(hD:H D=none)(p:Nat->Bool)(f:Nat->V)
  (turn:∀i,i<n->ur tt te fv D H (.int (lo+i)) (p i) (λy _=>y=f i))(fin:∀H',ai H H'->H' D=some (.lst (((List.range n).filter p).map f))->Q (.ref D) H'):iV (oA lo n) tt te fv D H Q:=
 WZ hn hD p (λi y _=>y=f i) (λ_ _ _ _ _ e=>e) turn λys H' g h1 pr=>fin H' g (by rw[←Cw pr];exact h1)
abbrev Nw(H:Hp)(o:HO)(Q:VK):Prop:=∀(p:Addr) (H':Hp),H p=none->ai H H'->H' p=some o->Q (.ref p) H'
theorem Nw.at(h:Nw H o Q):∀p,H p=none->Q (.ref p) (upd H p o):=λp np=>h p _ np (bY np o) aO
def wI(t:TA):TE:=λσ H Q=>t σ H λxs H1=>xs.length<=sizeLine/\Nw H1 (.tup xs) Q
def Qu(t:TA):TE:=λσ H Q=>t σ H λxs H1=>xs.length<=sizeLine/\Nw H1 (.lst xs) Q
section
variable {X:Cx}{es:List Expr}{t:TA}{pos:Pos}{K:PySem.W.Frag}
theorem dm{x1}(h:PA X es t):PE X (.Tuple es x1 pos) (wI t):=by
 intro pins s σ H Q I hq;refine wpAny_Tuple_spliced (aw (h pos pins s σ H _ I hq) λus s1 ⟨xs,H1,I1,r,z,q⟩=>⟨by rw[←r.length];exact z,⟨.ref s1.heap.objs.size,upd H1 s1.heap.objs.size (.tup xs),I1.laid (λb u e=>Yb _ e) (Yd _) ?_,rfl,q.at _ (I1.av.fresh (Yd _))⟩⟩);exact⟨z,us,r,⟨_,Yt _ rfl,rfl,_,rfl,rfl⟩⟩
theorem dt(h:PA X es t):PE X (.List es pos) (Qu t):=by
 intro pins s σ H Q I hq;refine wpAny_List_spliced (aw (h pos pins s σ H _ I hq) λus s1 ⟨xs,H1,I1,r,z,q⟩=>⟨by rw[←r.length];exact z,⟨.ref s1.heap.objs.size,upd H1 s1.heap.objs.size (.lst xs),I1.laid (λb u e=>Yb _ e) (Yd _) ?_,rfl,q.at _ (I1.av.fresh (Yd _))⟩⟩);exact⟨z,us,0,r,Yt _ rfl⟩
theorem cV.mono(h:cV X f r)(m:∀xs H Q,r' xs H Q->r xs H Q):cV X f r':=λpins s σ H xs us Q I v q=>h pins s σ H xs us Q I v (m xs H Q q)
theorem cB.mono(h:cB X f r)(m:∀x y H Q,r' x y H Q->r x y H Q):cB X f r':=λpins s σ H x y v u Q I rx ry q=>h pins s σ H x y v u Q I rx ry (m x y H Q q)
theorem uM.mono(h:uM X r)(m:∀x lo hi H Q,r' x lo hi H Q->r x lo hi H Q):uM X r':=λpins s σ H x v vl vu lo hi sl Q I rx hs pl pu q=>h pins s σ H x v vl vu lo hi sl Q I rx hs pl pu (m x lo hi H Q q)
inductive Kx(xs:List V)(H:Hp)(Q:VK):Prop
 |mk (j:Int) (aC:xs=[.int j]) (aR:Nw H (.jt 0 j) Q):Kx xs H Q
def ZaG:List V->Hp->VK->Prop:=λxs H Q=>Kx xs H Q
theorem CO:cV X (.type "range") ZaG:=yy.mono λ_ _ _ zq=>by obtain⟨j,e,q⟩:=zq;exact⟨j,e,q.at⟩
inductive JZ(xs:List V)(H:Hp)(Q:VK):Prop
 |mk (p:Addr) (n:Nat) (aC:xs=[.ref p]) (aR:H p=some (.jt 0 (n:Int))) (a8:n<=1000) (bC:Nw H (.lst ((bc n).map V.int)) Q):JZ xs H Q
def ZI:List V->Hp->VK->Prop:=λxs H Q=>JZ xs H Q
theorem Vi(hc:X.calm=true):cV X (.type "list") ZI:=(Cv hc).mono λ_ _ _ zq=>by obtain⟨p,n,e,h,l,q⟩:=zq;exact⟨p,n,e,h,l,q.at⟩
inductive Ky(xs:List V)(H:Hp)(Q:VK):Prop
 |mk (p:Addr) (n:Nat) (aC:xs=[.ref p]) (aR:H p=some (.jt 0 (n:Int))) (a8:n<=1000) (bC:Nw H (.tup ((bc n).map V.int)) Q):Ky xs H Q
def ZaH:List V->Hp->VK->Prop:=λxs H Q=>Ky xs H Q
theorem U4(hc:X.calm=true):cV X (.type "tuple") ZaH:=(JI hc).mono λ_ _ _ zq=>by obtain⟨p,n,e,h,l,q⟩:=zq;exact⟨p,n,e,h,l,q.at⟩
def ZaI(K:PySem.W.Frag):List V->Hp->VK->Prop:=λxs H Q=>∃(p:Addr) (ns:List Int),xs=[.ref p]/\(ak K H p (ns.map V.int)\/aB K H p (ns.map V.int))/\ns.length<64/\
  ∀de:List Int,de.Perm ns->de.Pairwise (·<=·)->Nw H (.lst (de.map V.int)) Q
theorem ZaJ(h:X.K=K):cV X (.builtin "sorted") (ZaI K):=h▸JX.mono λ_ _ _ zq=>by obtain⟨p,ns,e,s,l,q⟩:=zq;exact⟨p,ns,e,s,l,λa de na pm so=>(q de pm so).at a na⟩
inductive Nu(K:PySem.W.Frag)(x:V)(lo:Option Int)(hi:Option Int)(H:Hp)(Q:VK):Prop
 |mk (a xs) (aC:x=.ref a) (aR:ak K H a xs) (a8:Nw H (.lst (oj xs lo hi)) Q):Nu K x lo hi H Q
def ZeO(K:PySem.W.Frag):V->Option Int->Option Int->Hp->VK->Prop:=λx lo hi H Q=>Nu K x lo hi H Q
theorem L8(h:X.K=K):uM X (ZeO K):=h▸ZbH.mono λ_ _ _ _ _ zq=>by obtain⟨a,xs,e,s,q⟩:=zq;exact⟨a,xs,e,s,q.at⟩
def ZeP:R2:=λx y H Q=>∃l b xs zs,x=.ref l/\y=.ref b/\H l=some (.lst xs)/\H b=some (.lst zs)/\xs.length+zs.length<=sizeLine/\Nw H (.lst (xs++zs)) Q
theorem zo:cB X (binaryOp .Add) ZeP:=Zc8.mono λ_ _ _ _ zq=>by obtain⟨l,b,xs,zs,e1,e2,h1,h2,z,q⟩:=zq;exact⟨l,b,xs,zs,e1,e2,h1,h2,z,q.at⟩
def ZbZ:TE:=λ_ H Q=>Nw H (.dK []) Q
theorem qR:PE X (.Dict [] [] pos) ZbZ:=λpins s σ H Q I q=>ZaC pins s σ H Q I q.at
def Zb0:TE:=λ_ H Q=>Nw H (.dT []) Q
theorem Le:PE X (.Dict [] [] pos) Zb0:=λpins s σ H Q I q=>ZaD pins s σ H Q I q.at
end
abbrev Ch(H:Hp)(a:Addr)(o:HO)(R:Hp->Prop):Prop:=∀H',az a H H'->H' a=some o->R H'
theorem Ch.at(h:Ch H a o R):R (upd H a o):=h _ (az.put (az.of (ai.refl _))) aO
section
variable {X:Cx}
theorem mY.mono{id:String}{r r':V->List V->Hp->VK->Prop}(h:mY X id r)(m:∀x xs H Q,r' x xs H Q->r x xs H Q):mY X id r':=λpins s σ H x xs v us Q I rx rv q=>h pins s σ H x xs v us Q I rx rv (m x xs H Q q)
inductive Kz(x:V)(vs:List V)(H:Hp)(Q:VK):Prop
 |mk (l xs y) (aC:x=.ref l) (aR:vs=[y]) (a8:H l=some (.lst xs)) (bC:xs.length<sizeLine) (cD:Ch H l (.lst (xs++[y])) (Q .ay)):Kz x vs H Q
def L9:V->List V->Hp->VK->Prop:=λx vs H Q=>Kz x vs H Q
theorem nE:mY X "list.append" L9:=vS.mono λ_ _ _ _ zq=>by obtain⟨l,xs,y,e1,e2,h,z,q⟩:=zq;exact⟨l,xs,y,e1,e2,h,z,q.at⟩
def ZaK:V->List V->Hp->VK->Prop:=λx vs H Q=>∃l b xs zs,x=.ref l/\vs=[.ref b]/\H l=some (.lst xs)/\H b=some (.lst zs)/\xs.length+zs.length<=sizeLine/\Ch H l (.lst (xs++zs)) (Q .ay)
theorem XY:mY X "list.extend" ZaK:=Zp.mono λ_ _ _ _ zq=>by obtain⟨l,b,xs,zs,e1,e2,h1,h2,z,q⟩:=zq;exact⟨l,b,xs,zs,e1,e2,h1,h2,z,q.at⟩
def Zb1:V->List V->Hp->VK->Prop:=λx vs H Q=>∃l xs,x=.ref l/\vs=[]/\H l=some (.lst xs)/\Ch H l (.lst []) (Q .ay)
theorem ZJ:mY X "list.clear" Zb1:=Zai.mono λ_ _ _ _ zq=>by obtain⟨l,xs,e1,e2,h,q⟩:=zq;exact⟨l,xs,e1,e2,h,q.at⟩
theorem rM.mono(h:rM X t)(m:∀o i v H Q,t' o i v H Q->t o i v H Q):rM X t':=by
 intro pins s σ H o i x ov iv v Q I r1 r2 r3 q;exact h pins s σ H o i x ov iv v Q I r1 r2 r3 (m _ _ _ _ _ q)
def ZdJ:V->V->V->Hp->(Hp->Prop)->Prop:=λo i v H Q=>∃p xs k j,o=.ref p/\i=.int k/\H p=some (.lst xs)/\kN xs.length k=some j/\Ch H p (.lst (xs.set j v)) Q
theorem Lf:rM X ZdJ:=set_list.mono λ_ _ _ _ _ zq=>by obtain⟨p,xs,k,j,e1,e2,h,z,q⟩:=zq;exact⟨p,xs,k,j,e1,e2,h,z,q.at⟩
variable {o i value:Expr}{td ty tv ta:TE}{pos pos':Pos}{f:Str}
inductive L_(D:Ends)(σ:St)(v:V)(x:V)(y:V)(H3:Hp):Prop
 |mk (a kvs k) (aC:x=.ref a) (aR:H3 a=some (.dK kvs)) (a8:y=kV k) (bC:kvs.length<sizeLine) (cD:Ch H3 a (.dK (putK kvs k v)) (D.nx σ)):L_ D σ v x y H3
def ZdK(td ty tv:TE):TS:=λD σ H=>tv σ H λv H1=>td σ H1 λx H2=>ty σ H2 λy H3=>L_ D σ v x y H3
inductive Lg(D:Ends)(σ:St)(v:V)(x:V)(y:V)(H3:Hp):Prop
 |mk (a b kvs k) (aC:x=.ref a) (aR:H3 a=some (.dT kvs)) (a8:y=.ref b) (bC:H3 b=some (.tup (k.map kV))) (cD:kvs.length<sizeLine) (dC:Ch H3 a (.dT (putK kvs k v)) (D.nx σ)):Lg D σ v x y H3
def Zb2(td ty tv:TE):TS:=λD σ H=>tv σ H λv H1=>td σ H1 λx H2=>ty σ H2 λy H3=>Lg D σ v x y H3
theorem nJ(hu:X.A.units+1<cLine)(ho:PE X o td)(hi:PE X i ty)(hv:PE X value tv)(hs:swapsWith value (some (.Subscript o i pos')) pos.line X.env=pure false:=by rfl):
  PS X (.Assign [.Subscript o i pos'] value pos) (ZdK td ty tv):=by
 intro pins s σ H D I h;refine wpAny_Assign_Subscript (aw (hv pins s σ H _ I h) λr s1 zq=>?_) hs;obtain⟨v,H1,I1,rv,q1⟩:=zq;refine aw (ho pins s1 σ H1 _ I1 q1) λu s2 zq=>?_;obtain⟨x,H2,I2,rx,q2⟩:=zq;refine aw (hi pins s2 σ H2 _ I2 q2) λiv s3 zq=>?_;obtain⟨y,H3,I3,ry,a,kvs,k,ex,ha,ey,l,q3⟩:=zq;subst ex;subst ey;obtain rfl:u=Value.ref a:=rx;exact Lb hu I3 (rQ.k ha l) ry rv λs4 I4=>⟨σ,_,I4,q3.at⟩
theorem Lh(hu:X.A.units+1<cLine)(ho:PE X o td)(hi:PE X i ty)(hv:PE X value tv)(hs:swapsWith value (some (.Subscript o i pos')) pos.line X.env=pure false:=by rfl):
  PS X (.Assign [.Subscript o i pos'] value pos) (Zb2 td ty tv):=by
 intro pins s σ H D I h;refine wpAny_Assign_Subscript (aw (hv pins s σ H _ I h) λr s1 zq=>?_) hs;obtain⟨v,H1,I1,rv,q1⟩:=zq;refine aw (ho pins s1 σ H1 _ I1 q1) λu s2 zq=>?_;obtain⟨x,H2,I2,rx,q2⟩:=zq;refine aw (hi pins s2 σ H2 _ I2 q2) λiv s3 zq=>?_;obtain⟨y,H3,I3,ry,a,b,kvs,k,ex,ha,ey,hb,l,q3⟩:=zq;subst ex;subst ey;obtain rfl:u=Value.ref a:=rx;exact Lb hu I3 (rQ.t ha hb l) ry rv λs4 I4=>⟨σ,_,I4,q3.at⟩
def ZeQ(K:PySem.W.Frag)(ta tv:TE)(f:Str):TS:=λD σ H=>tv σ H λy H1=>ta σ H1 λx H2=>∃a C dx fs,x=.ref a/\H2 a=some (.ins C dx fs)/\fF K C/\cZ K C f/\fs.length<1000/\Ch H2 a (.ins C dx (cH f y fs)) (D.nx σ)
theorem f_{K:PySem.W.Frag}(hK:X.K=K)(ha:PE X o ta)(hv:PE X value tv)(hs:swapsWith value (some (.Attribute o f pos')) pos.line X.env=pure false:=by rfl):PS X (.Assign [.Attribute o f pos'] value pos) (ZeQ K ta tv f):=by
 subst hK;intro pins s σ H D I h;refine plainObj_wpAny_Assign_Attribute (aw (hv pins s σ H _ I h) λu s1 zq=>?_) hs;obtain⟨y,H1,I1,ry,q⟩:=zq;refine aw (ha pins s1 σ H1 _ I1 q) λov s2 zq=>?_;obtain⟨x,H2,I2,rx,a,C,dx,fs,ex,ea,c,n,l,q2⟩:=zq;subst ex;obtain rfl:ov=Value.ref a:=rx;exact Km I2 ea c n l ry λs3 I3=>⟨σ,_,I3,q2.at⟩
end
def xG(x:Str):It:=⟨λi _=>i<x.length,λi H v H'=>H'=H/\∃c,x.cps[i]?=some c/\v=.str ⟨#[c]⟩,λi _=>x.length<=i⟩
theorem Vj{P:Program}{w:World}{K:PySem.W.Frag}{tg:Expr}(it:Addr)(x:Str)(t:Tok):Turn P w K tg (xG x) [it] it (λi h=>h.IsStrIter it "str_ascii_iterator" x t i) where
 mem:=by simp
 obj:=λi h st b hb=>by
  have e:b=it:=by simpa using hb
  obtain⟨o,e,c,d⟩:=st
  grind
 keep:=λi h h' st k=>let⟨o,e,r⟩:=st;⟨o,k it (by simp) o e,r⟩
 item:=by
  intro X hP hw hK hc i pins s σ H E I hf st hg;obtain⟨f0,f1,f2,f3,f4,f5⟩:=hf it (by simp);have hx:=Ww hg;refine wpAny_pyNext_ascii_item st hx λh' aK sb=>?_;obtain⟨o,e,c,d⟩:=id aK;exact⟨_,rfl,rB e c d (by decide) ⟨.str ⟨#[x.cps[i]]⟩,H,(I.turned (λb o hb e=>(sb.2 b hb).trans e) f0 f1 f3 f4 f5),⟨_,rfl⟩,⟨rfl,_,hx,rfl⟩,aK,λb hb=>(hf b hb).1⟩⟩
 done:=by
  intro X hP hw hK hc i pins s σ H E I hf st hg;obtain⟨f0,f1,f2,f3,f4,f5⟩:=hf it (by simp);exact wpAny_pyNext_ascii_end (I.ok.hd hc) st (Jy hg) λh' eb=>⟨rfl,I.turned (λb o hb e=>eb b o hb e) f0 f1 f3 f4 f5⟩
 self:=λ_ _ _ _ _ st h=>wpAny_pyIter_striter_ascii st h
theorem Vy{P:Program}{w:World}{K:PySem.W.Frag}{tg:Expr}(it:Addr)(x:Str)(t:Tok):Turn P w K tg (xG x) [it] it (λi h=>h.IsStrIter it "str_iterator" x t i) where
 mem:=by simp
 obj:=λi h st b hb=>by
  have e:b=it:=by simpa using hb
  obtain⟨o,e,c,d⟩:=st
  grind
 keep:=λi h h' st k=>let⟨o,e,r⟩:=st;⟨o,k it (by simp) o e,r⟩
 item:=by
  intro X hP hw hK hc i pins s σ H E I hf st hg;obtain⟨f0,f1,f2,f3,f4,f5⟩:=hf it (by simp);have hx:=Ww hg;refine wpAny_pyNext_wide_item st hx λh' aK sb=>?_;obtain⟨o,e,c,d⟩:=id aK;exact⟨_,rfl,rB e c d (by decide) ⟨.str ⟨#[x.cps[i]]⟩,H,(I.turned (λb o hb e=>(sb.2 b hb).trans e) f0 f1 f3 f4 f5),⟨_,rfl⟩,⟨rfl,_,hx,rfl⟩,aK,λb hb=>(hf b hb).1⟩⟩
 done:=by
  intro X hP hw hK hc i pins s σ H E I hf st hg;obtain⟨f0,f1,f2,f3,f4,f5⟩:=hf it (by simp);exact wpAny_pyNext_wide_end (I.ok.hd hc) st (Jy hg) λh' eb=>⟨rfl,I.turned (λb o hb e=>eb b o hb e) f0 f1 f3 f4 f5⟩
 self:=λ_ _ _ _ _ st h=>wpAny_pyIter_striter_wide st h
inductive O9(R:It->Hp->Prop)(v:V)(H1:Hp):Prop
 |mk (x) (aC:v=.str x) (aR:R (xG x) H1):O9 R v H1
def ZfB(te:TE):TI:=λσ H R=>te σ H λv H1=>O9 R v H1
theorem ZdL{X:Cx}{tg l:Expr}{tl:TE}(hl:PE X l tl):PI X tg l (ZfB tl):=by
 intro pins s σ H R I h;refine aw (hl pins s σ H _ I h) λv s1 zq=>?_;obtain⟨x,H1,I1,r1,q1⟩:=zq;obtain⟨z,e,q⟩:=q1;subst e;obtain⟨t,rfl⟩:=r1;have fin:∀b∈[s1.heap.objs.size],iu X pins H1 b:=λb hb=>by
  have e:b=s1.heap.objs.size:=by simpa using hb
  subst e;exact I1.pW (Yd _) (I1.av.fresh (Yd _))
 cases ha:z.cps.all (·<128) with
 |true=>exact wpAny_pyIter_ascii ha ⟨s1.heap.objs.size,[s1.heap.objs.size],_,_,H1,rfl,I1.kept λb o e=>Yb _ e,Vj _ z t,⟨_,Yt _ rfl,rfl,rfl⟩,fin,q⟩
 |false=>exact wpAny_pyIter_wide ha ⟨s1.heap.objs.size,[s1.heap.objs.size],_,_,H1,rfl,I1.kept λb o e=>Yb _ e,Vy _ z t,⟨_,Yt _ rfl,rfl,rfl⟩,fin,q⟩
abbrev sg(c:Nat):V:=.str ⟨#[c]⟩
theorem ZaL(Pv:Nat->List V->Hp->Prop)(h0:Pv 0 [] (upd H D (.lst [])))
  (hs:∀(i c:Nat) (ys:List V) (H:Hp),x.cps[i]?=some c->Pv i ys H->tt (some (sg c)::fv) H λb H1=>if b=true then te (some (sg c)::fv) H1 λy H3=>H3 D=some (.lst ys)/\ys.length<sizeLine/\Pv (i+1) (ys++[y]) (upd H3 D (.lst (ys++[y]))) else Pv (i+1) ys H1)
  (hd:∀ys H,Pv x.length ys H->Q (.ref D) H):iV (xG x) tt te fv D H Q:=by
 refine⟨λi m ys H=>m=x.length-i/\i<=x.length/\Pv i ys H,⟨x.length,by simp,Yx _,h0⟩,?_⟩;rintro i m ys H ⟨rfl,hi,p⟩;by_cases bL:i<x.length
 ·refine .inr ⟨bL,Pv (i+1),λgD H' p'=>⟨x.length-(i+1),by omega,rfl,bL,p'⟩,λv H' y=>?_⟩;obtain⟨e,c,hc,rfl⟩:=y
  grind
 ·have e:i=x.length:=by omega
  subst e;exact .inl ⟨Yd _,hd ys H p⟩
theorem ZK(hn:x.length<=100000)(hD:H D=none)(f:Nat->V)
  (turn:∀(i c:Nat),x.cps[i]?=some c->∀H1,ai H H1->∀Kt:VK,(∀H3,ai H1 H3->Kt (f c) H3)->te (some (sg c)::fv) H1 Kt)(fin:∀H',ai H H'->H' D=some (.lst (x.cps.toList.map f))->Q (.ref D) H'):iV (xG x) Aa te fv D H Q:=by
 refine ZaL (λi ys H1=>i<=x.length/\ai H H1/\H1 D=some (.lst ys)/\ys=(x.cps.toList.take i).map f) ⟨Yx _,bY hD _,aO,rfl⟩ ?_ ?_
 ·rintro i c ys H1 hi ⟨_,g,h1,e⟩;have dE:i<x.length:=(Jp.mp hi).1;refine lL (c5 (turn i c hi H1 g _ λH3 g3=>⟨g3 _ _ h1,?_,dE,?_,aO,?_⟩))
  ·rw[e,Ya,Y9,sizeLine_eq];omega
  ·intro b o q;rw[aJ (bT q hD)];exact g3 _ _ (g _ _ q)
  ·have gF:x.cps.toList[i]?=some c:=by rw[J1];exact hi
   rw[e,Y2,gF,Ys];rfl
 ·rintro ys H1 ⟨_,g,h1,e⟩;refine fin H1 g ?_;rw[h1,e,Ws (by show x.cps.toList.length<=x.cps.size;simp)]
end L2
namespace L2
open PySem PySem.W PySem.Spec PyProof.Rows
def ZdM:List V->Hp->VK->Prop:=λxs H Q=>∃(p:Addr) (kvs:List (Key×V)),xs=[.ref p]/\H p=some (.dK kvs)/\Nw H (.lst (kvs.map λkv=>kV kv.1)) Q
theorem Li:∀{ks:List Key} {us:List Value},us.length=ks.length->(∀(j:Nat) (v:Value),us[j]?=some v->∃k,ks[j]?=some k/\(dz P w).is k v=true)->Vals (ks.map kV) us
 |[],[],_,_=>.nil
 |k::ks,u::us,hl,h=>by
  obtain⟨k',e,hk⟩:=h 0 u rfl;have e':k=k':=by simpa using e
  subst e';refine .cons ?_ (Li (by simpa using hl) λj v hj=>by simpa using h (j+1) v (by simpa using hj));rcases k_ (show rq k u=true from hk) with⟨i,t,rfl,rfl⟩|⟨x,t,rfl,rfl⟩;·exact⟨t,rfl⟩
  ·exact⟨t,rfl⟩
 |[],_::_,hl,_=>by simp at hl
 |_::_,[],hl,_=>by simp at hl
theorem Xa(hc:X.calm=true):cV X (.type "list") ZdM:=by
 rintro pins s σ H xs us Q I r ⟨p,kvs,rfl,hp,q⟩;obtain⟨u,rfl,ru⟩:=vals1 r;obtain rfl:u=Value.ref p:=ru;obtain⟨lim,Gu,vs,kv,dd⟩:=n5 I.av hp;obtain⟨ep,da⟩:=dd.dictAt;have kl:=kv.length;refine kdl_call (kdl_dict Gu) (I.ok.hd hc) da (by omega) λh' tk acc c kp hD it=>?_;have vals:Vals (kvs.map λkv=>kV kv.1) acc.toList:=by
  have e:(kvs.map λkv=>kV kv.1)=(vs.map (·.1)).map kV:=by rw[←kv.keys,Wg];rfl
  rw[e];refine Li (P:=X.prog) (w:=X.w) (by rw[W6,Ya];exact it.1) λj v hj=>?_;obtain⟨k,x,hx,hk⟩:=it.2 j v (by rw[←J1];exact hj)
  grind
 exact⟨.ref s.heap.objs.size,_,(I.laid (o:=.lst (kvs.map λkv=>kV kv.1)) kp (Yd _) ⟨by rw[Ya];exact lim,acc.toList,c,vals,by rw[Array.toArray_toList];exact hD⟩),rfl,q.at _ (I.av.fresh (Yd _))⟩
end L2
namespace L2
open PySem PySem.Spec PyProof.Rows
abbrev zV(D:List (Str×Str)):List (Str×PyData):=D.map λp=>(p.1,PyData.str p.2)
def uA(K:PySem.W.Frag)(a:Addr)(D:List (Str×Str)):Prop:=KTD.tabLook KTD.flatLooks (λb=>K.lookup b) a (zV D)=true
theorem vT(f:δ->ε)(k:Str):∀D:List (Str×δ),KTD.datumAt k (D.map λp=>(p.1,f p.2))=(KTD.datumAt k D).map f
 |[]=>rfl
 |p::D=>by
  rw[Wo];unfold KTD.datumAt;by_cases e:k=p.1;·simp[e]
  ·simp only[e];exact vT f k D
theorem uA.here{K:PySem.W.Frag}{a:Addr}{D:List (Str×Str)}{h:Heap}(t:uA K a D)(lP:K.In h):KTD.Here h h a ((zV D).map λp=>(p.1,KTD.Dat.flat p.2)):=
 ⟨KTD.TabOf.text (KTD.tab_of_look (λ_ _=>KTD.flat_of_looks) (λa o e=>lP a o e) t),λ_ _ e=>e⟩
def mS(D:List (Str×Str))(z:Str):Bool:=(KTD.datumAt z D).isSome
theorem keys_has(D:List (Str×Str))(z:Str):KTD.inKeys z ((zV D).map λp=>(p.1,KTD.Dat.flat p.2))=mS D z:=by
 rw[←KTD.isSome_datumAt,vT KTD.Dat.flat,vT PyData.str];unfold mS
 grind
def ZdN(K:PySem.W.Frag)(neg:Bool):R2:=λx y H Q=>∃(z:Str) (a:Addr) (D:List (Str×Str)),x=.str z/\y=.ref a/\uA K a D/\Q (.bl (if neg=true then !mS D z else mS D z)) H
theorem ZdO{X:Cx}{K:PySem.W.Frag}(hK:X.K=K):cB X (compareOp .In) (ZdN K false):=by
 subst hK;rintro pins s σ H x y v u Q I rx ry ⟨z,a,D,rfl,rfl,t,q⟩;obtain⟨tk,rfl⟩:=rx;obtain rfl:u=Value.ref a:=ry;refine KTD.in_text (t.here I.bV) ?_;rw[keys_has];exact⟨.bl (mS D z),H,I.tok _,rfl,q⟩
def ZdP(K:PySem.W.Frag):R2:=λx y H Q=>∃(a:Addr) (z r:Str) (D:List (Str×Str)),x=.ref a/\y=.str z/\uA K a D/\KTD.datumAt z D=some r/\Q (.str r) H
theorem Zb3{X:Cx}{K:PySem.W.Frag}(hK:X.K=K):iE X (ZdP K):=by
 subst hK;intro value slice pins s σ H x y v u Q I rx ry h hs;obtain⟨a,z,r,D,rfl,rfl,t,e,q⟩:=h;obtain⟨tk,rfl⟩:=ry;obtain rfl:v=Value.ref a:=rx;have T:=t.here I.bV;refine tail_any T.typeIs slot_dict_getitem.lookup ?_ hs;unfold getItem;try with_reducible refine wpAny_holding ?_
 refine wpAny_bind (wpAny_sequenceKey T.typeIs (by decide) ?_);refine wpAny_bind (wpAny_callSpecial?_slot T.typeIs slot_dict_getitem
  (wpAny_call_entry slot_dict_getitem T.typeIs entry_dict_getitem ?_ (args_dict_getitem _ _)))
 show wpAny _ _ (dictGet a (.str z tk)>>=_) _ _ s;have ed:KTD.datumAt z ((zV D).map λp=>(p.1,KTD.Dat.flat p.2))=some (.flat (.str r)):=by rw[vT KTD.Dat.flat,vT PyData.str,e];rfl
 refine wpAny_bind (KTD.dictGet_text T (λd v ha hv=>wpAny_pure ⟨v,rfl,wpAny_pure ?_⟩) λhn=>by rw[ed] at hn;cases hn);rw[ed] at ha;cases ha;cases hv s.heap with
 |str x t'=>exact⟨.str r,H,I.tok _,⟨t',rfl⟩,q⟩
theorem wu(h:cz X.prog X.w X.K X.mg X.base k m C ps sp)(hr:cA j X.A)(hj:k<=j)(ho:PE X o ta)
  (ht:eval (.Call (.Attribute o m apos) [] [] pos) X.env=(do
   let ov←eval o X.env
   standAt apos.atName
   let(f,first)←holding [ov] (getMethod ov m pl)
   callWith pos f first (backTo pos (starEach [] X.env)) (backToKw pos (keywordEach [] X.env))):=by rfl):
  PE X (.Call (.Attribute o m apos) [] [] pos) (zQ C m sp [] E0 ta iZ):=by
 obtain⟨f,fd,c,hm,F,b⟩:=h;exact Zae ho c hm F (hr.mono hj) b .nil wD ht
def Ae(K:PySem.W.Frag)(neg:Bool):R2:=λx y H Q=>∃(p q:Addr) (xs:List V),x=.ref p/\y=.ref q/\ak K H p xs/\ak K H q []/\Q (.bl (if neg=true then !xs.isEmpty else xs.isEmpty)) H
theorem O_(hu:X.A.units<cLine):cB X (compareOp .Eq) (Ae X.K false):=by
 rintro pins s σ H x y v u Q I rx ry ⟨p,q,xs,rfl,rfl,h1,h2,k⟩;cases rx;cases ry;obtain⟨ah,r1,p1,z1⟩:=I.list h1;obtain⟨iy,r2,p2,z2⟩:=I.list h2;cases r2;have l1:=r1.length;cases xs with
 |nil=>
  cases r1;exact SeqAt.eq_listAt (e:=λ_=>true) p1.isList p2.isList rfl hu (λj h1 _=>absurd h1 (by simp)) (cF I k (by simp))
 |cons a r=>exact SeqAt.eq_list_lengthsAt p1.isList p2.isList (by simp;intro z;subst z;simp at l1) hu (cF I k (by simp))
theorem ZdQ(hu:X.A.units<cLine):cB X (compareOp .NotEq) (Ae X.K true):=by
 rintro pins s σ H x y v u Q I rx ry ⟨p,q,xs,rfl,rfl,h1,h2,k⟩;cases rx;cases ry;obtain⟨ah,r1,p1,z1⟩:=I.list h1;obtain⟨iy,r2,p2,z2⟩:=I.list h2;cases r2;have l1:=r1.length;cases xs with
 |nil=>
  cases r1;exact SeqAt.RcNeAt.lists (e:=λ_=>true) p1.isList p2.isList rfl hu (λj h1 _=>absurd h1 (by simp)) _ _ _ _ (cF I k (by simp))
 |cons a r=>exact SeqAt.RcNeAt.lists_lengths p1.isList p2.isList (by simp;intro z;subst z;simp at l1) hu _ _ _ _ (cF I k (by simp))
theorem XZ:cV X (.builtin "len") (λxs H Q=>∃p kvs,xs=[.ref p]/\H p=some (.dK kvs)/\Q (.int (kvs.length:Int)) H):=by
 rintro pins s σ H xs us Q I r ⟨p,kvs,rfl,hp,q⟩;obtain⟨u,rfl,ru⟩:=vals1 r;obtain rfl:u=Value.ref p:=ru;exact ZeL I (.inl hp) λt s' I'=>⟨.int (kvs.length:Int),H,I',⟨t,rfl⟩,q⟩
theorem az.trans(g:az D H H')(g':az D H' G7):az D H G7:=λb o e n=>g' b o (g b o e n) n
def Out(fp:List Addr)(H H':Hp):Prop:=∀b o,H b=some o->b∉fp->H' b=some o
theorem Out.of(g:ai H H'):Out fp H H':=λb o e _=>g b o e
theorem Out.trans(g:Out fp H H')(g':Out fp H' G7):Out fp H G7:=λb o e n=>g' b o (g b o e n) n
theorem Out.bar(g:az a H H')(m:a∈fp):Out fp H H':=λb o e n=>g b o e λz=>n (by rw[z];exact m)
theorem setC(h:u D (σ.set i (some v)) H):wN (uw (tC v) (rA i)) u D σ H:=h
theorem cq(h:te σ H λx H1=>u D (σ.set i (some x)) H1):wN (uw te (rA i)) u D σ H:=h
theorem cU(h:H a=some (.dK kvs))(e:aQ kvs (.inr z)=o):dZ H a (.str z) o:=.inl ⟨kvs,.inr z,.inl h,rfl,e.symm⟩
section
variable {X:Cx}{elt iter tgt:Expr}{xs:List Str}{pos:Pos}{ifs:List Expr}{scope:Scope}{cl:List (Str×Addr)}{fr:List (Str×Nat)}{tg:TG}{tt:TT}{te:TE}{pins:List (Addr×Obj)}{σ:St}
def ZdR(n:Nat)(wi:TI)(fr:List (Str×Nat))(tg:TG)(tt:TT)(te:TE):TE:=λσ H Q=>wi σ H λJ H1=>∀D,H1 D=none->Fh n J tg tt te (gk σ fr) D H1 Q
theorem ZaM(hc:X.calm=true)(S:oZ X scope cl xs fr)(hg:∀C s H fp,PG (cO X xs fr scope cl C s H fp) tgt tg)(hi:PI X tgt iter wi)
  (ht:∀C s H fp,uO (cO X xs fr scope cl C s H fp) ifs tt)(he:∀C s H fp,PE (cO X xs fr scope cl C s H fp) elt te)
  (hs:∀x,foldedSetIterable iter X.env x=pure x:=by intro _;rfl):PE X (.ListComp elt [⟨tgt,iter,ifs,0⟩] scope pos) (ZdR xs.length wi fr tg tt te):=by
 intro pins s σ H Q I h;refine wpAny_comprehension_free rfl hs S.wR S.kind S.names (aw (hi pins s σ H _ I h) λv s1 h1=>aw h1 λuJ s2 h2=>?_);obtain⟨it,fp,tn,J,H2,e,I2,T,c_,f2,hw⟩:=h2;subst e;refine Kn (RR:=λacc C=>compPost (model X.prog X.w) X.A X.xe none (EP X pins σ Q) acc C) hc S hg ht he I2 T c_ f2 hw ?_;intro D C s1 H1 m I1 hn f0 f1 f3 f4 f5 q;exact⟨m,hn,λh' oI=>⟨.ref D,H1,I1.turned (λb o hb e=>oI.extBut b o hb e) f0 f1 (.inr f3) f4 f5,rfl,q⟩⟩
end
theorem X0{K:PySem.W.Frag}{a:Addr}{xs:List V}{n:Nat}{tg:TG}{tt:TT}{te:TE}{fv:St}{D:Addr}{H:Hp}{Q:VK}(Pv:Nat->List V->Hp->Prop)(h0:Pv 0 [] (upd H D (.lst [])))(hl:∀i ys H,i<=xs.length->Pv i ys H->ak K H a xs)
  (hs:∀i v ys H,xs[i]?=some v->Pv i ys H->∀os:St,os.length=n->tg v (os++fv) H λdq H2=>(∃jT:St,jT.length=n/\dq=jT++fv)/\tt dq H2 λc H1=>if c=true then te dq H1 λy H3=>H3 D=some (.lst ys)/\ys.length<sizeLine/\Pv (i+1) (ys++[y]) (upd H3 D (.lst (ys++[y]))) else Pv (i+1) ys H1)
  (hd:∀ys H,Pv xs.length ys H->Q (.ref D) H):Fh n (ju K a) tg tt te fv D H Q:=by
 refine⟨λi m ys H=>m=xs.length-i/\i<=xs.length/\Pv i ys H,⟨xs.length,by simp,Yx _,h0⟩,?_⟩;rintro i m ys H ⟨rfl,hi,p⟩;have q:=hl i ys H hi p;by_cases bL:i<xs.length
 ·refine .inr ⟨⟨xs,xs[i],q,by simp[bL]⟩,Pv (i+1),λgD H' p'=>⟨xs.length-(i+1),by omega,rfl,bL,p'⟩,λx H' y=>?_⟩;obtain⟨e,y⟩:=y
  grind
 ·have e:i=xs.length:=by omega
  subst e;exact .inl ⟨⟨xs,q,Yd _⟩,hd ys H p⟩
abbrev qk(elt t1 i1 t2 i2:Expr)(scope:Scope)(pos:Pos):Expr:=.ListComp elt [⟨t1,i1,[],0⟩,⟨t2,i2,[],0⟩] scope pos
section
variable {prog:Program}{w:World}{A:Around}{R:Result->Shared->Prop}{s:Shared}{elt t1 i1 t2 i2:Expr}{scope:Scope}{pos:Pos}{it acc:Value}{env:Env}
theorem ZL(I:Nat->Shared->Prop)
  (turn:∀n s,I n s->wpAny (model prog w) A (pyNext it) (λr bu=>match r with
   |none=>R (.ok .next) bu
   |some v=>wpAny (model prog w) A (letOwnedTupleGo t2 it v) (λ_ cQ=>wpAny (model prog w) A (assign t2 env v) (λ_ dY=>
     wpAny (model prog w) A (eval elt env) (λx iz=>
       wpAny (model prog w) A (call (.builtin "list.append") [acc,x]) (λ_ lJ=>∃m,m<n/\I m lJ) (notedBy (model prog w) A env λe s'=>R (.error e) s') iz) (notedBy (model prog w) A env λe s'=>R (.error e) s') dY) (notedBy (model prog w) A env λe s'=>R (.error e) s') cQ) (notedBy (model prog w) A env λe s'=>R (.error e) s') bu) (notedBy (model prog w) A env λe s'=>R (.error e) s') s)
  (n:Nat)(h:I n s):codeAny (model prog w) A (.compLoop (qk elt t1 i1 t2 i2 scope pos) 1 it acc env) R s:=by
 refine codeAny_loop rfl I (λn s hI=>wpAny_noted (wpAny_bind (wpAny_standAt (wpAny_bind (wpAny_mono (turn n s hI) (λr bu gu=>?_) λ_ _ h'=>h'))))) n h;cases r with
 |none=>exact wpAny_pure gu
 |some v=>
  exact wpAny_bind (wpAny_mono gu (λ_ cQ h₀=>wpAny_bind (wpAny_mono h₀ (λ_ dY oo=>wpAny_bind (wpAny_tests_nil (wpAny_bind (wpAny_bind (wpAny_mono oo (λx iz wU=>wpAny_bind (wpAny_mono wU (λ_ lJ wV=>wpAny_pure (wpAny_pure ⟨rfl,wV⟩)) λ_ _ h'=>h')) λ_ _ h'=>h'))))) λ_ _ h'=>h')) λ_ _ h'=>h')
theorem ZM(hs:∀x,foldedSetIterable i2 env x=pure x)(I:Nat->Shared->Prop)
  (turn:∀n s,I n s->wpAny (model prog w) A (pyNext it) (λr bu=>match r with
   |none=>R (.ok .next) bu
   |some v=>wpAny (model prog w) A (letOwnedTupleGo t1 it v) (λ_ cQ=>wpAny (model prog w) A (assign t1 env v) (λ_ dY=>
     wpAny (model prog w) A (eval i2 env) (λx dN=>wpAny (model prog w) A (pyIter x) (λAH iz=>
      codeAny (model prog w) A (.compStart (qk elt t1 i1 t2 i2 scope pos) 1 AH acc env) (λr lJ=>match r with|.ok _=>∃m,m<n/\I m lJ|.error _=>False) iz)
      (notedBy (model prog w) A env λe s'=>R (.error e) s') dN) (notedBy (model prog w) A env λe s'=>R (.error e) s') dY) (notedBy (model prog w) A env λe s'=>R (.error e) s') cQ) (notedBy (model prog w) A env λe s'=>R (.error e) s') bu) (notedBy (model prog w) A env λe s'=>R (.error e) s') s)
  (n:Nat)(h:I n s):codeAny (model prog w) A (.compLoop (qk elt t1 i1 t2 i2 scope pos) 0 it acc env) R s:=by
 refine codeAny_loop rfl I (λn s hI=>wpAny_noted (wpAny_bind (wpAny_standAt (wpAny_bind (wpAny_mono (turn n s hI) (λr bu gu=>?_) λ_ _ h'=>h'))))) n h;cases r with
 |none=>exact wpAny_pure gu
 |some v=>
  refine wpAny_bind (wpAny_mono gu (λ_ cQ h₀=>wpAny_bind (wpAny_mono h₀ (λ_ dY oo=>wpAny_bind (wpAny_tests_nil (wpAny_bind (wpAny_mono oo (λx dN uy=>wpAny_bind (wpAny_standAt ?_)) λ_ _ h'=>h')))) λ_ _ h'=>h')) λ_ _ h'=>h');rw[hs];refine wpAny_bind (wpAny_pure (wpAny_bind (wpAny_holding (wpAny_mono uy (λAH iz wU=>wpAny_bind (wpAny_runOwn (codeAny_mono wU λr lJ wV=>?_))) λ_ _ h'=>h'))));cases r with
  |error e=>grind
  |ok f=>exact wpAny_pure ⟨rfl,wV⟩
theorem VY
  (h0:codeAny (model prog w) A (.compLoop (qk elt t1 i1 t2 i2 scope pos) 1 it acc env) R s)
  (h:wpAny (model prog w) A (pyIter it) (λG8 s'=>codeAny (model prog w) A (.compLoop (qk elt t1 i1 t2 i2 scope pos) 1 G8 acc env) R s') (notedBy (model prog w) A env λx s'=>R (.error x) s') s):
  codeAny (model prog w) A (.compStart (qk elt t1 i1 t2 i2 scope pos) 1 it acc env) R s:=by
 refine codeAny_of_tree (wpAny_notedAt (wpAny_bind (wpAny_askSetting (wpAny_ite ?_))));split
 ·first
   |exact wpAny_bind (wpAny_pure (wpAny_pure (And.intro rfl h0)))
   |exact wpAny_pure (And.intro rfl h0)
 ·first
   |exact wpAny_bind (wpAny_rule (wpAny_bind (wpAny_standAt (wpAny_bind (wpAny_mono h (λG8 s' h'=>wpAny_pure (And.intro rfl h')) λ_ _ x=>x)))))
   |(refine wpAny_bind (wpAny_rule ?_);show wpAny _ _ (standAt i2.pos>>=_) _ _ s;exact wpAny_bind (wpAny_standAt (wpAny_bind (wpAny_mono h (λG8 s' h'=>wpAny_pure (And.intro rfl h')) λ_ _ x=>x))))
end
def Fv(n:Nat)(J:It)(jV:TG)(jW:TI)(lW:TG)(te:TE)(fv:St)(D:Addr)(H:Hp)(Q:VK):Prop:=
 ∃W:Nat->Nat->List V->Hp->Prop,(∃m,W 0 m [] (upd H D (.lst [])))/\∀i m ys H,W i m ys H->
  (J.stop i H/\Q (.ref D) H)\/(J.go i H/\∃N:List V->Hp->Prop,(∀gD H',N gD H'->∃m',m'<m/\W (i+1) m' gD H')/\
   ∀v H',J.qg i H v H'->∀os:St,os.length=n->jV v (os++fv) H' λdq H2=>(∃jT:St,jT.length=n/\dq=jT++fv)/\jW dq H2 λJ2 H3=>
    ∃W2:Nat->Nat->List V->St->Hp->Prop,(∃m2,W2 0 m2 ys dq H3)/\∀i2 m2 fS cL H4,W2 i2 m2 fS cL H4->
     (J2.stop i2 H4/\(∃uR:St,uR.length=n/\cL=uR++fv)/\N fS H4)\/(J2.go i2 H4/\∃N2:List V->St->Hp->Prop,(∀gD aF H',N2 gD aF H'->∃m',m'<m2/\W2 (i2+1) m' gD aF H')/\
      ∀v2 H5,J2.qg i2 H4 v2 H5->lW v2 cL H5 λxH H6=>te xH H6 λy H7=>H7 D=some (.lst fS)/\fS.length<sizeLine/\N2 (fS++[y]) xH (upd H7 D (.lst (fS++[y])))))
section
variable {X:Cx}{elt t1 i1 t2 i2:Expr}{xs:List Str}{pos:Pos}{scope:Scope}{cl:List (Str×Addr)}{fr:List (Str×Nat)}{jV lW:TG}{jW:TI}{te:TE}{pins:List (Addr×Obj)}{σ:St}
theorem X1{H2:Hp}{s2:Shared}{it:Addr}{fp:List Addr}{tn:Nat->Heap->Prop}{J:It}{Q:VK}{RR:Value->Addr->Result->Shared->Prop}{E:Value->Shared->Prop}
  (hc:X.calm=true)(S:oZ X scope cl xs fr)(hg:∀C s H fp,PG (cO X xs fr scope cl C s H fp) t1 jV)(G9:∀C s H fp,PI (cO X xs fr scope cl C s H fp) t2 i2 jW)(G_:∀C s H fp,PG (cO X xs fr scope cl C s H fp) t2 lW)(he:∀C s H fp,PE (cO X xs fr scope cl C s H fp) elt te)
  (qi:∀C x,foldedSetIterable i2 (compEnvC scope cl C X.env) x=pure x)
  (I2:Inv X pins σ H2 s2)(T:Turn X.prog X.w X.K t1 J fp it tn)(c_:tn 0 s2.heap)(f2:∀b∈fp,iu X pins H2 b)
  (hw:∀D,H2 D=none->Fv xs.length J jV jW lW te (gk σ fr) D H2 Q)
  (hR:∀D C s1 H1 m,Inv X pins σ H1 s1->s1.heap.Ns C m->H1 C=none->C≠X.env.locals->X.cQ.heap.objs.size<=C->(∀y c,X.env.cells.lookup y=some c->c≠C)->(∀p∈X.pn++pins,p.1≠C)->Q (.ref D) H1->RR (.ref D) C (.ok .next) s1):
  wpAny (model X.prog X.w) X.A (newList []) (λacc dN=>wpAny (model X.prog X.w) X.A (newFunctionEnv scope X.env.globals cl [] X.env.qual none .none (some X.env)) (λlK iz=>
   codeAny (model X.prog X.w) X.A (.compStart (qk elt t1 i1 t2 i2 scope pos) 0 (.ref it) acc {lK with scope:=relabel scope X.env}) (RR acc lK.locals) iz) E dN) E s2:=by
 refine LW (tgt:=t1) (iter:=i1) (ifs:=[]) (rest:=[⟨t2,i2,[],0⟩]) S I2 T c_ f2 hR λD C s H3 dN hD e3 I4 uP uL fin=>?_;obtain⟨W,⟨m0,w0⟩,turn⟩:=hw D hD;rw[←e3] at w0;refine ZM (qi _) (λk s'=>∃i ys H' os,os.length=xs.length/\Inv (cO X xs fr scope cl C s H3 fp) [] (os++gk σ fr) H' s'/\tn i s'.heap/\(∀b∈fp,H' b=none)/\W i k ys H') ?_ m0
  ⟨0,[],_,List.replicate xs.length none,Wy,I4,uP,uL,w0⟩
 rintro n s5 ⟨i,ys,H5,os,oC,I5,oB,rZ,w5⟩;have lI:∀{H':Hp},(∀b∈fp,H' b=none)->∀b∈fp,iu (cO X xs fr scope cl C s H3 fp) [] H' b:=λ{H'} hn b hb=>
  ⟨hn b hb,(I5.ok.qc b hb).1,I5.ok.pV b hb,.inl hb,(I5.ok.qc b hb).2,λp hp=>absurd (show p∈([]:List (Addr×Obj)) from hp) (by simp)⟩
 rcases turn i n ys H5 w5 with⟨stop,qn⟩|⟨go,N,hN,step⟩
 ·refine aw (T.done (cO X xs fr scope cl C s H3 fp) rfl rfl rfl hc i [] s5 _ H5 _ I5 (lI rZ) oB stop) λr s6 zq=>?_;obtain⟨hr,I6⟩:=zq;subst hr;exact fin _ _ _ I6 qn
 ·refine aw (T.item (cO X xs fr scope cl C s H3 fp) rfl rfl rfl hc i [] s5 _ H5 _ I5 (lI rZ) oB go) λr s6 zq=>?_;obtain⟨u,hr,h6⟩:=zq;subst hr;refine aw h6 λ_ s7 zq=>?_;obtain⟨v,H7,I7,r7,y7,r9,GV⟩:=zq;have GW:=I7.pinned (lI GV) (T.obj _ _ r9);refine wpAny_mono (hg _ _ _ _ _ s7 _ H7 v u _ GW r7 (step v H7 y7 os oC)) (λ_ s8 zq=>?_) λ_ _ z=>False.elim z;obtain⟨σ8,H8,I8,⟨jT,Gr,e8⟩,q8⟩:=zq;subst e8;have again:∀{oE:St} {H9:Hp} {s9:Shared} {oF:List V},oE.length=xs.length->Inv (cO X xs fr scope cl C s H3 fp) ([]++pN fp s7.heap) (oE++gk σ fr) H9 s9->N oF H9->
    ∃m,m<n/\∃i ys H' os,os.length=xs.length/\Inv (cO X xs fr scope cl C s H3 fp) [] (os++gk σ fr) H' s9/\tn i s9.heap/\(∀b∈fp,H' b=none)/\W i m ys H':=λ{oE H9 s9 oF} l1 I9 n9=>by
   obtain⟨m',hm,w9⟩:=hN oF H9 n9;refine⟨m',hm,i+1,oF,H9,oE,l1,I9.t4,T.keep _ _ _ r9 λb hb o e=>(I9.pin (b,o) (Yn _ (Yn _ (oY hb e)))).1,λb hb=>?_,w9⟩;obtain⟨o,e,d⟩:=T.obj _ _ r9 b hb;exact(I9.pin (b,o) (Yn _ (Yn _ (oY hb e)))).2.1
  refine wpAny_mono (G9 _ _ _ _ _ s8 _ H8 _ I8 q8) (λx s9 h9=>wpAny_mono h9 (λuJ GX h10=>?_) λ_ _ z=>False.elim z) λ_ _ z=>False.elim z;obtain⟨AH,Hd,tn2,J2,oG,oM,GY,T2,Ri,Hf,W2,⟨m2,w2⟩,ZeR⟩:=h10;subst oM;have FY:∀{H':Hp},(∀b∈Hd,H' b=none)->∀b∈Hd,iu (cO X xs fr scope cl C s H3 fp) ([]++pN fp s7.heap) H' b:=λhn b hb=>⟨hn b hb,(Hf b hb).2⟩;have Qv:codeAny (model X.prog X.w) X.A (.compLoop (qk elt t1 i1 t2 i2 scope pos) 1 (.ref AH) (.ref D) (compEnvC scope cl C X.env)) (λr lJ=>match r with|.ok _=>∃m,m<n/\∃i ys H' os,os.length=xs.length/\Inv (cO X xs fr scope cl C s H3 fp) [] (os++gk σ fr) H' lJ/\tn i lJ.heap/\(∀b∈fp,H' b=none)/\W i m ys H'|.error _=>False) GX:=by
   refine ZL (λk s'=>∃j zs aF H',Inv (cO X xs fr scope cl C s H3 fp) ([]++pN fp s7.heap) aF H' s'/\tn2 j s'.heap/\(∀b∈Hd,H' b=none)/\W2 j k zs aF H') ?_ m2 ⟨0,ys,_,oG,GY,Ri,λb hb=>(Hf b hb).1,w2⟩;rintro k GZ ⟨j,zs,ZfC,xA,AA,Rj,Rk,w11⟩;rcases ZeR j k zs ZfC xA w11 with⟨stop,⟨uR,ZfD,e3⟩,qn⟩|⟨go,N2,hN2,ZeS⟩
   ·refine aw (T2.done (cO X xs fr scope cl C s H3 fp) rfl rfl rfl hc j _ GZ _ xA _ AA (FY Rk) Rj stop) λr s12 zq=>?_;obtain⟨hr,I12⟩:=zq;subst hr;subst e3;exact again ZfD I12 qn
   ·refine aw (T2.item (cO X xs fr scope cl C s H3 fp) rfl rfl rfl hc j _ GZ _ xA _ AA (FY Rk) Rj go) λr s12 zq=>?_;obtain⟨u2,hr,AI⟩:=zq;subst hr;refine aw AI λ_ s13 zq=>?_;obtain⟨v2,AJ,I13,r13,y13,Gv,ZfE⟩:=zq;have ZfF:=I13.pinned (FY ZfE) (T2.obj _ _ Gv);refine wpAny_mono (G_ _ _ _ _ _ s13 _ AJ v2 u2 _ ZfF r13 (ZeS v2 AJ y13)) (λ_ s14 zq=>?_) λ_ _ z=>False.elim z;obtain⟨ZfG,ql,I14,q14⟩:=zq;refine wpAny_mono (he _ _ _ _ _ s14 _ ql _ I14 q14) (λu1 s15 zq=>?_) λ_ _ z=>False.elim z;obtain⟨y,Hg,I15,r15,hD,hz,lX⟩:=zq;refine wpAny_mono (vS (X:=cO X xs fr scope cl C s H3 fp) _ s15 _ Hg (.ref D) [y] _ [u1] (λ_ H'=>N2 (zs++[y]) ZfG H') I15 rfl (.cons r15 .nil) ⟨_,zs,y,rfl,rfl,hD,hz,lX⟩) (λ_ s16 zq=>?_) λ_ _ z=>False.elim z;obtain⟨_,Sy,Hh,_,q16⟩:=zq;obtain⟨m',hm,w16⟩:=hN2 _ _ _ q16;refine⟨m',hm,j+1,_,_,Sy,Hh.t4,T2.keep _ _ _ Gv λb hb o e=>(Hh.pin (b,o) (Yn _ (Yn _ (oY hb e)))).1,λb hb=>?_,w16⟩;obtain⟨o,e,d⟩:=T2.obj _ _ Gv b hb;exact(Hh.pin (b,o) (Yn _ (Yn _ (oY hb e)))).2.1
  exact VY Qv (T2.self _ 0 _ _ _ Ri Qv)
def ZdS(n:Nat)(wi:TI)(fr:List (Str×Nat))(jV:TG)(jW:TI)(lW:TG)(te:TE):TE:=λσ H Q=>wi σ H λJ H1=>∀D,H1 D=none->Fv n J jV jW lW te (gk σ fr) D H1 Q
theorem ZaN(hc:X.calm=true)(S:oZ X scope cl xs fr)(hg:∀C s H fp,PG (cO X xs fr scope cl C s H fp) t1 jV)(hi:PI X t1 i1 wi)(G9:∀C s H fp,PI (cO X xs fr scope cl C s H fp) t2 i2 jW)(G_:∀C s H fp,PG (cO X xs fr scope cl C s H fp) t2 lW)
  (he:∀C s H fp,PE (cO X xs fr scope cl C s H fp) elt te)(hs:∀x,foldedSetIterable i1 X.env x=pure x:=by intro _;rfl)(qi:∀C x,foldedSetIterable i2 (compEnvC scope cl C X.env) x=pure x:=by intro _ _;rfl):
  PE X (.ListComp elt [⟨t1,i1,[],0⟩,⟨t2,i2,[],0⟩] scope pos) (ZdS xs.length wi fr jV jW lW te):=by
 intro pins s σ H Q I h;refine wpAny_comprehension_free rfl hs S.wR S.kind S.names (aw (hi pins s σ H _ I h) λv s1 h1=>aw h1 λuJ s2 h2=>?_);obtain⟨it,fp,tn,J,H2,e,I2,T,c_,f2,hw⟩:=h2;subst e;refine X1 (RR:=λacc C=>compPost (model X.prog X.w) X.A X.xe none (EP X pins σ Q) acc C) hc S hg G9 G_ he qi I2 T c_ f2 hw ?_;intro D C s1 H1 m I1 hn f0 f1 f3 f4 f5 q;exact⟨m,hn,λh' oI=>⟨.ref D,H1,I1.turned (λb o hb e=>oI.extBut b o hb e) f0 f1 (.inr f3) f4 f5,rfl,q⟩⟩
end
theorem fZ{X:Cx}{K:PySem.W.Frag}{tg l:Expr}{tl:TE}(h:X.K=K)(hl:PE X l tl):PI X tg l (Qa K tl):=h▸M5 hl
theorem jj{X:Cx}{K:PySem.W.Frag}{pos:Pos}{es:List Expr}{k:Nat}{t:mW}{n:Nat}(h:X.K=K)(hc:X.calm=true)(hg:xk X es t)
  (hn:(assignEach es X.env).length=n:=by rfl)(c7:(assignEach es X.env).findIdx? (·.1)=none:=by rfl):PG X (.Tuple es k pos) (QZ K n t):=h▸ZcX hc hg hn c7
theorem Zb4{K:PySem.W.Frag}{a:Addr}{xs:List V}{n:Nat}{jV:TG}{jW:TI}{lW:TG}{te:TE}{fv:St}{D:Addr}{H:Hp}{Q:VK}(Pv:Nat->List V->Hp->Prop)(h0:Pv 0 [] (upd H D (.lst [])))(hl:∀i ys H,i<=xs.length->Pv i ys H->ak K H a xs)
  (hs:∀i v ys H,xs[i]?=some v->Pv i ys H->∀os:St,os.length=n->jV v (os++fv) H λdq H2=>(∃jT:St,jT.length=n/\dq=jT++fv)/\jW dq H2 λJ2 H3=>∃(b:Addr) (zs:List V) (Pw:Nat->List V->St->Hp->Prop),J2=ju K b/\Pw 0 ys dq H3/\
   (∀k ys σ H,k<=zs.length->Pw k ys σ H->ak K H b zs)/\
   (∀k v2 ys σ H,zs[k]?=some v2->Pw k ys σ H->lW v2 σ H λxH H6=>te xH H6 λy H7=>H7 D=some (.lst ys)/\ys.length<sizeLine/\Pw (k+1) (ys++[y]) xH (upd H7 D (.lst (ys++[y]))))/\
   ∀ys σ H,Pw zs.length ys σ H->(∃uR:St,uR.length=n/\σ=uR++fv)/\Pv (i+1) ys H)
  (hd:∀ys H,Pv xs.length ys H->Q (.ref D) H)(ZeT:∀σ H (R R':It->Hp->Prop),(∀J H,R J H->R' J H)->jW σ H R->jW σ H R')(ZeU:∀v σ H (R R':St->Hp->Prop),(∀σ H,R σ H->R' σ H)->jV v σ H R->jV v σ H R'):Fv n (ju K a) jV jW lW te fv D H Q:=by
 refine⟨λi m ys H=>m=xs.length-i/\i<=xs.length/\Pv i ys H,⟨xs.length,by simp,Yx _,h0⟩,?_⟩;rintro i m ys H ⟨rfl,hi,p⟩;have q:=hl i ys H hi p;by_cases bL:i<xs.length
 ·refine .inr ⟨⟨xs,xs[i],q,by simp[bL]⟩,Pv (i+1),λgD H' p'=>⟨xs.length-(i+1),by omega,rfl,bL,p'⟩,λx H' y os oC=>?_⟩;obtain⟨e,y⟩:=y;subst e;refine ZeU _ _ _ _ _ (λdq H2 ⟨h1,h2⟩=>⟨h1,ZeT _ _ _ _ (λJ2 H3 h3=>?_) h2⟩) (hs i x ys _ (y xs q) p os oC);obtain⟨b,zs,Pw,rfl,w0,wl,ws,wd⟩:=h3;refine⟨λk m2 fS cL H4=>m2=zs.length-k/\k<=zs.length/\Pw k fS cL H4,⟨zs.length,by simp,Yx _,w0⟩,?_⟩;rintro k m2 fS cL H4 ⟨rfl,hk,w⟩;have q2:=wl k fS cL H4 hk w;by_cases AK:k<zs.length
  ·refine .inr ⟨⟨zs,zs[k],q2,by simp[AK]⟩,Pw (k+1),λgD aF H' p'=>⟨zs.length-(k+1),by omega,rfl,AK,p'⟩,λv2 H5 y2=>?_⟩;obtain⟨e2,y2⟩:=y2;subst e2;exact ws k v2 fS cL _ (y2 zs q2) w
  ·have e:k=zs.length:=by omega
   subst e;exact .inl ⟨⟨zs,q2,Yd _⟩,(wd fS cL H4 w).1,(wd fS cL H4 w).2⟩
 ·have e:i=xs.length:=by omega
  subst e;exact .inl ⟨⟨xs,q,Yd _⟩,hd ys H p⟩
section
variable {prog:Program}{w:World}{κ:Type}[DecidableEq κ]{knd:PySem.KeyKind prog w κ}{A:Around}{E:Value->Shared->Prop}{s:Shared}
theorem UB{d:Addr}{kvs:List (κ×Value)}{k:κ}{key dflt:Value}{Q:Value->Shared->Prop}(mQ:knd.is k key=true)(hm:s.heap.DictOf knd d kvs)
  (ZdT:∀v,valueAt kvs k=some v->Q v {s with toks:=s.toks+1})
  (ZfH:valueAt kvs k=none->∀h',h'.DictOf knd d (stored kvs k dflt)->Heap.SameBut d s.heap h'->Q dflt {s with heap:=h',toks:=s.toks+1})
  (hsz:kvs.length<=sizeLine):wpAny (model prog w) A (dictSetDefault d key dflt) Q E s:=by
 obtain⟨o,es,ep,ho,hc,hd,hk,hp,hn⟩:=hm;have hes:es.size<=sizeLine:=by
  have e1:=hp.length
  grind
 have hf:∀x,findBy knd.is es x=valueAt kvs x:=λx=>by
  rw[←hp.find x];simp[findBy]
 unfold dictSetDefault;try with_reducible refine wpAny_holding ?_
 refine wpAny_bind (knd.pyHash mQ (wpAny_bind (wpAny_dictFind_of mQ ho hd hk ?_)));have Zhv:(es.findIdx? λe=>knd.is k e.key)=kvs.findIdx? λkv=>decide (kv.1=k):=by
  rw[←hp.findIdx k];obtain⟨l⟩:=es;simp
 cases hi:es.findIdx? λe=>knd.is k e.key with
 |some i=>
  have AL:valueAt kvs k=(es[i]?).map (·.val):=by rw[←hf k,findBy_of_findIdx?,hi]
  refine wpAny_bind (wpAny_dictEntries ho hd ?_);cases he:es[i]? with
  |none=>
   have:=Array.findIdx?_eq_some_iff_findIdx_eq.mp hi
   grind
  |some e=>
   rw[he] at AL;exact wpAny_bind (wpAny_rule (wpAny_pure (ZdT e.val AL)))
 |none=>
  have AL:valueAt kvs k=none:=by rw[←hf k,findBy_of_findIdx?,hi]
  have Rl:¬(kvs.any λkv=>decide (kv.1=k))=true:=by
   grind
  refine wpAny_bind (wpAny_rule (wpAny_bind (wpAny_updateDictKeys ho hd (wpAny_pure (ZfH AL _ ⟨_,_,ep+1,Wn _ ho (Obj.isFreed_of_dict (Obj.data_mapDictKeys hd _)),
   hc.mapDictKeys _,Obj.data_mapDictKeys hd _,hk.push mQ _,?_,?_⟩ (Heap.SameBut.update ..))))))
  ·rw[stored,if_neg Rl];have:=hp.append mQ (knd.hash k) dflt
   grind
  ·rw[stored,if_neg Rl,Ys,Wv]
   grind
theorem US{d:Addr}{k:κ}{key:Value}(mQ:knd.is k key=true)(hd:(d==sysModules)=false)(dflt:Value):
  MeetsIn prog w (Builtin.«dict.setdefault» ⟨[.ref d,key,dflt],[]⟩) (λ_ R s=>∃kvs,s.heap.DictOf knd d kvs/\kvs.length<=sizeLine/\
   (∀v,valueAt kvs k=some v->R (.ok (.ret v)) {s with toks:=s.toks+1})/\
   (valueAt kvs k=none->∀h',h'.DictOf knd d (stored kvs k dflt)->Heap.SameBut d s.heap h'->R (.ok (.ret dflt)) {s with heap:=h',toks:=s.toks+1})):=
 .of_wp λA R s ⟨kvs,hm,hz,h1,h2⟩=>by
  refine wpAny_bind (wpAny_bind (wpAny_notOrdered_dict hm.typeIs (wpAny_pure ?_)));show wpAny _ _ (if(d==sysModules)=true then _ else(dictSetDefault d key dflt>>=_)) _ _ s;rw[if_neg (by rw[hd];exact Yh)];exact wpAny_bind (UB mQ hm (λv hv=>wpAny_pure ⟨v,rfl,h1 v hv⟩) (λhn h' hm' oI=>wpAny_pure ⟨dflt,rfl,h2 hn h' hm' oI⟩) hz)
end
section
variable {X:Cx}{pins:List (Addr×Obj)}{σ:St}{H:Hp}{s:Shared}{a:Addr}{kvs:List (Key×V)}{k:Key}{z:V}{u r:Value}{A:Around}{E:Value->Shared->Prop}
theorem ZaO(I:Inv X pins σ H s)(e:H a=some (.dK kvs))(ry:RelV (kV k) u)(rz:RelV z r)(l:kvs.length<sizeLine)
  (h1:∀v w' s',aQ kvs k=some v->Inv X pins σ H s'->RelV v w'->Q w' s')(h2:∀s',aQ kvs k=none->Inv X pins σ (upd H a (.dK (putK kvs k z))) s'->Q r s'):
  wpAny (model X.prog X.w) A (call (.builtin "dict.setdefault") [.ref a,u,r]) Q E s:=by
 obtain⟨zz,hd,vs,rel,dd⟩:=n5 I.av e;have hz:vs.length<=sizeLine:=by rw[←rel.length];exact zz
 have rv:=rel.val k;refine call_meetsIn PySem.F.slot_dict_setdefault dd.typeIs PySem.F.entry_dict_setdefault (PySem.F.args_dict_setdefault_3 _ _ _) (US (lF ry) hd r) ⟨vs,dd,hz,λv hv=>?_,λhn h' gX hs=>?_⟩
 ·cases ev:aQ kvs k with
  |none=>rw[ev,hv] at rv;cases rv
  |some x=>
   rw[ev,hv] at rv;exact h1 x v _ ev (I.tok _) rv
 ·have ev:aQ kvs k=none:=by
   cases ev:aQ kvs k with
   |none=>rfl
   |some x=>rw[ev,hn] at rv;cases rv
  have hl:(putK kvs k z).length<=sizeLine:=by have:=yz kvs k z;omega
  exact h2 _ ev (qW I (by rw[e];exact True.intro) hs (let⟨q,_,_,hq,_⟩:=gX;⟨q,hq⟩) (wo hl hd (rel.put k rz) gX))
end
def Ez(td ty tx:TE):TE:=λσ H Q=>td σ H λx H1=>∃a,x=.ref a/\xF H1 a/\ty σ H1 λy H2=>tx σ H2 λz H3=>∃kvs k,H3 a=some (.dK kvs)/\y=kV k/\kvs.length<sizeLine/\
 (∀v,aQ kvs k=some v->Q v H3)/\(aQ kvs k=none->Ch H3 a (.dK (kvs++[(k,z)])) (Q z))
def Zb5(td ty:TE):TE:=λσ H Q=>td σ H λx H1=>∃a,x=.ref a/\xF H1 a/\ty σ H1 λy H2=>∃kvs k v,H2 a=some (.dK kvs)/\y=kV k/\aQ kvs k=some v/\Ch H2 a (.dK (gm kvs k)) (Q v)
section
variable {X:Cx}{o e f:Expr}{apos b_:Pos}{td ty tx:TE}
theorem KA(ho:PE X o td)(he:PE X e ty)(hf:PE X f tx)(m:M2 X o "setdefault" apos e f b_):PE X (.Call (.Attribute o "setdefault" apos) [e,f] [] b_) (Ez td ty tx):=by
 intro pins s σ H Q I h;refine wpAny_Call_method m.base m.iF m.line plainAttrs_dict PySem.F.slot_dict_setdefault PySem.F.type_dict_setdefault (aw (ho pins s σ H _ I h) λu s1 zq=>?_);obtain⟨x,H1,I1,rx,a,ex,d,q1⟩:=zq;subst ex;obtain rfl:u=Value.ref a:=rx;obtain⟨t1,t2,_⟩:=wq I1 d;refine⟨t1,t2,?_⟩;rw[m.trees];refine Calls.callWith_builtin rfl (Calls.evalArgs_plain (Calls.spliced_cons (aw (he pins s1 σ H1 _ I1 q1) λiv s2 ⟨y,H2,I2,ry,q2⟩=>
  Calls.spliced_cons (aw (hf pins s2 σ H2 _ I2 q2) λfv s3 ⟨z,H3,I3,rz,kvs,k,ea,ey,lz,q3,q4⟩=>Calls.spliced_nil ?_))))
 subst ey;refine ZaO I3 ea ry rz lz (λv w' s4 ev I4 rv=>⟨v,H3,I4,rv,q3 v ev⟩) λs4 ev I4=>?_;rw[kB _ ev] at I4;exact⟨z,_,I4,rz,(q4 ev).at⟩
theorem Lj(ho:PE X o td)(he:PE X e ty)(m:M1 X o "pop" apos e b_):PE X (.Call (.Attribute o "pop" apos) [e] [] b_) (Zb5 td ty):=by
 intro pins s σ H Q I h;refine wpAny_Call_method m.base m.iF m.line plainAttrs_dict slot_dict_pop PySem.F.type_dict_pop (aw (ho pins s σ H _ I h) λu s1 zq=>?_);obtain⟨x,H1,I1,rx,a,ex,d,q1⟩:=zq;subst ex;obtain rfl:u=Value.ref a:=rx;obtain⟨t1,t2,_⟩:=wq I1 d;refine⟨t1,t2,?_⟩;rw[m.trees];refine Calls.callWith_builtin rfl (Calls.evalArgs_plain (Calls.spliced_cons (aw (he pins s1 σ H1 _ I1 q1) λiv s2 ⟨y,H2,I2,ry,kvs,k,v,ea,ey,l,q2⟩=>Calls.spliced_nil ?_)));subst ey;exact ZeK I2 ea ry l (.inl rfl) λw' s3 I3 fQ=>⟨v,_,I3,fQ,q2.at⟩
end
end L2
namespace L2
open PySem PySem.W PySem.Calls PySem.Spec PyProof.Rows
def d5{α:Type}(n:Nat)(P:α->Prop):KasT α->Prop
 |.ret a=>P a
 |.ask i j k=>i<n/\j<n/\∀b,d5 n P (k b)
theorem d5.bind{α β:Type}{n:Nat}{P:α->Prop}{Q:β->Prop}{f:α->KasT β}(hf:∀a,P a->d5 n Q (f a)):∀{t:KasT α},d5 n P t->d5 n Q (t.bind f)
 |.ret a,h=>hf a h
 |.ask _ _ _,h=>⟨h.1,h.2.1,λb=>d5.bind hf (h.2.2 b)⟩
def Good(n:Nat)(p:Array Nat):Prop:=0<n/\p.Perm (List.range n).toArray
theorem Good.get(g:Good n p)(m:Nat):p.getD m 0<n:=by
 by_cases h:m<p.size
 ·have e:p.getD m 0=p[m]:=by rw[Y7,Ww h];rfl
  rw[e];have:=g.2.mem_iff.mp (Array.getElem_mem h);simpa using this
 ·have e:p.getD m 0=0:=by rw[Y7,Jy (by omega)];rfl
  rw[e];exact g.1
theorem Good.rev(g:Good n p)(i j:Nat):Good n (kas_rev p i j):=⟨g.1,(mirror_perm p i j _).trans g.2⟩
theorem EA(g:Good n p):∀f m,d5 n (λ_=>True) (kas_asc p f m)
 |0,_=>trivial
 |f+1,m=>⟨g.get m,g.get (m-1),λb=>by
  cases b with
  |true=>(dsimp only;rw[if_pos rfl]);exact trivial
  |false=>(dsimp only;rw[if_neg Yh]);exact EA g f (m+1)⟩
theorem yN:∀f (p:Array Nat) m q,Good n p->d5 n (λr=>Good n r.1) (kas_desc f p m q)
 |0,_,_,_,g=>g
 |f+1,p,m,q,g=>⟨g.get m,g.get (m-1),λb=>by
  cases b with
  |true=>
   split;·exact yN f _ _ _ (g.rev _ _)
   ·exact yN f _ _ _ g
  |false=>
   refine⟨g.get (m-1),g.get m,λd=>?_⟩;cases d with
   |true=>(dsimp only;rw[if_pos rfl]);exact g
   |false=>(dsimp only;rw[if_neg Yh]);exact yN f _ _ _ g⟩
theorem KC{n m k:Nat}{p:Array Nat}(g:Good n p):d5 n (λr=>Good n r.2) (kas_tail3 m k p):=by
 refine d5.bind (λa _=>?_) (EA (g.rev 0 m) _ _);exact g.rev 0 m
theorem JN{n m k:Nat}{p:Array Nat}(g:Good n p):d5 n (λr=>Good n r.2) (kas_descPart m k p):=by
 refine d5.bind (λr hr=>?_) (yN _ p _ _ g);split;·exact KC (Good.rev hr _ _)
 ·exact KC hr
theorem KD{n k:Nat}{p:Array Nat}(g:Good n p):d5 n (λr=>Good n r.2) (kas_count k p):=by
 refine d5.bind (λm _=>?_) (EA g _ _);split;·exact g
 ·split
  ·refine⟨g.get _,g.get _,λb=>?_⟩;cases b with
   |true=>(dsimp only;rw[if_pos rfl]);exact g
   |false=>(dsimp only;rw[if_neg Yh]);exact JN (g.rev _ _)
  ·exact JN g
theorem DG(g:Good n p):∀f l r,d5 n (λ_=>True) (kas_place p k f l r)
 |0,_,_=>trivial
 |f+1,l,r=>by
  unfold kas_place;split;·exact trivial
  ·refine⟨g.get _,g.get _,λb=>?_⟩;cases b with
   |true=>(dsimp only;rw[if_pos rfl]);exact DG g f _ _
   |false=>(dsimp only;rw[if_neg Yh]);exact DG g f _ _
theorem Ma{n:Nat}:∀f (p:Array Nat) k,Good n p->d5 n (Good n) (kas_bin f p k)
 |0,_,_,g=>g
 |f+1,p,k,g=>d5.bind (λl _=>Ma f _ _ ⟨g.1,(bubble_perm p k _).trans g.2⟩) (DG g _ _ _)
theorem ZN{n:Nat}(h:0<n):d5 n (Good n) (kas_sort n):=by
 refine d5.bind (λr hr=>?_) (KD ⟨h,Array.Perm.refl _⟩);split;·exact Ma _ _ _ hr
 ·exact hr
theorem range_getD(vs:List α)(d:α):(List.range vs.length).map (λi=>vs.getD i d)=vs:=by
 refine Wu λi=>?_
 grind
section
variable {prog:Program}{w:World}{A:Around}{E:Value->Shared->Prop}{s:Shared}
end
def zI(h:Heap)(vs:List Value):Prop:=∀v∈vs,∃(a:Addr) (o:Obj) (n:Nat) (x y:Int) (t u:Tok),v=.ref a/\h.get? a=some o/\o.cls=.type "tuple"/\o.data=.seq #[.int x t,.int y u] n
theorem zI.Sz:∀{vs:List Value},zI h vs->∃fs:List Value,KatTups h vs fs/\fs.length=vs.length/\∀v∈fs,∃x t,v=Value.int x t
 |[],_=>⟨[],KatTups.nil,rfl,λ_ h=>by cases h⟩
 |v::vs,hv=>by
  obtain⟨a,o,n,x,y,t,u,rfl,h1,h2,h3⟩:=hv v Yl;obtain⟨fs,k1,k2,k3⟩:=zI.Sz λz hz=>hv z (Yw _ hz);refine⟨.int x t::fs,KatTups.cons h1 h2 h3 rfl k1,by rw[Wd,Wd,k2],λv hv=>?_⟩
  grind
section
variable {prog:Program}{w:World}{A:Around}{E:Value->Shared->Prop}{s:Shared}
end
section
variable {prog:Program}{w:World}{A:Around}{E:Value->Shared->Prop}{s:Shared}
end
theorem Lk:∀{as:List Addr} {us:List Value},Vals (as.map V.ref) us->us=as.map Value.ref
 |[],_,.nil=>rfl
 |a::as,u::us,.cons r t=>by
  rw[r,Lk t,Wo]
theorem Ll:∀as:List Addr,Vals (as.map V.ref) (as.map Value.ref)
 |[]=>.nil
 |_::as=>.cons rfl (Ll as)
def Run{α:Type}(lt:Nat->Nat->Bool):KasT α->α
 |.ret a=>a
 |.ask i j k=>Run lt (k (lt i j))
theorem Run.bind:∀t:KasT α,Run lt (t.bind f)=Run lt (f (Run lt t))
 |.ret _=>rfl
 |.ask i j k=>Run.bind (k (lt i j))
theorem d5.run(hc:∀i j (C:Bool->Shared->Prop),i<n->j<n->C (lt i j) s->cmp i j C s):∀{t:KasT α},d5 n P t->G (Run lt t) s->t.kasWp cmp G s
 |.ret _,_,hG=>hG
 |.ask i j k,h,hG=>hc i j _ h.1 h.2.1 (d5.run hc (h.2.2 _) hG)
structure jX(n:Nat)(lt:Nat->Nat->Bool):Prop where
 trans:∀i j k,i<n->j<n->k<n->lt i j=true->lt j k=true->lt i k=true
 AM:∀i j,i<n->j<n->i≠j->lt i j=false->lt j i=true
 ZfI:∀i j,i<n->j<n->lt i j=true->lt j i=false
def Sd(lt:Nat->Nat->Bool)(p:Array Nat)(m:Nat):Prop:=∀i j,i<j->j<m->lt (p.getD i 0) (p.getD j 0)=true
def Ds(lt:Nat->Nat->Bool)(p:Array Nat)(m:Nat):Prop:=∀i j,i<j->j<m->lt (p.getD j 0) (p.getD i 0)=true
theorem Good.size(g:Good n p):p.size=n:=by
 have:=g.2.size_eq
 grind
theorem Good.ne(g:Good n p)(hi:i<n)(hj:j<n)(ne:i≠j):p.getD i 0≠p.getD j 0:=by
 have nd:p.toList.Nodup:=by
  have:=(Jq.mp g.2).nodup_iff.mpr (by simpa using List.nodup_range);exact this
 have sz:=g.size;have e:∀k (hk:k<n),p.getD k 0=p.toList[k]'(by rw[W6];omega):=λk hk=>by
  simp_all
 have pw:=Wx.mp nd
 grind
section
variable {n:Nat}{lt:Nat->Nat->Bool}
theorem Nv(L:jX n lt)(g:Good n p)(h1:1<=m)(sd:Sd lt p m)(h:lt (p.getD (m-1) 0) (p.getD m 0)=true):Sd lt p (m+1):=by
 intro i j jY hj;by_cases e:j=m
 ·subst e;by_cases e2:i=j-1;·rw[e2];exact h
  ·exact L.trans _ _ _ (g.get _) (g.get _) (g.get _) (sd i (j-1) (by omega) (by omega)) h
 ·exact sd i j jY (by omega)
theorem Zb6(L:jX n lt)(g:Good n p)(h1:1<=m)(ds:Ds lt p m)(h:lt (p.getD m 0) (p.getD (m-1) 0)=true):Ds lt p (m+1):=by
 intro i j jY hj;by_cases e:j=m
 ·subst e;by_cases e2:i=j-1;·rw[e2];exact h
  ·exact L.trans _ _ _ (g.get _) (g.get _) (g.get _) h (ds i (j-1) (by omega) (by omega))
 ·exact ds i j jY (by omega)
theorem zp(L:jX n lt)(g:Good n p):∀f m,1<=m->m+f<=n->Sd lt p m->Sd lt p (Run lt (kas_asc p f m))/\m<=Run lt (kas_asc p f m)/\Run lt (kas_asc p f m)<=m+f
 |0,m,_,_,sd=>⟨sd,Yd _,Yd _⟩
 |f+1,m,h1,h2,sd=>by
  have e:Run lt (kas_asc p (f+1) m)=Run lt (if lt (p.getD m 0) (p.getD (m-1) 0)=true then KasT.ret m else kas_asc p f (m+1)):=rfl;rw[e];by_cases c:lt (p.getD m 0) (p.getD (m-1) 0)=true
  ·rw[if_pos c];exact⟨sd,Yd _,by show m<=_;omega⟩
  ·rw[if_neg c];have c':lt (p.getD m 0) (p.getD (m-1) 0)=false:=by cases z:lt (p.getD m 0) (p.getD (m-1) 0) with|true=>exact absurd z c|false=>rfl
   obtain⟨a,b,d⟩:=zp L g f (m+1) (by omega) (by omega) (Nv L g h1 sd (L.AM _ _ (g.get _) (g.get _) (g.ne (by omega) (by omega) (by omega)) c'))
   grind
theorem Mb(L:jX n lt)(g:Good n p):∀f m,1<=m->m+f<=n->Ds lt p m->∃m',Run lt (kas_desc f p m 0)=(p,m',0)/\Ds lt p m'/\m<=m'/\m'<=m+f
 |0,m,_,_,ds=>⟨m,rfl,ds,Yd _,Yd _⟩
 |f+1,m,h1,h2,ds=>by
  have e:Run lt (kas_desc (f+1) p m 0)=Run lt (if lt (p.getD m 0) (p.getD (m-1) 0)=true then(if 0>0 then kas_desc f (kas_rev p (m-(0+1)) m) (m+1) 0 else kas_desc f p (m+1) 0) else KasT.ask (p.getD (m-1) 0) (p.getD m 0) λd=>if d=true then KasT.ret (p,m,0) else kas_desc f p (m+1) (0+1)):=rfl;rw[e];by_cases c:lt (p.getD m 0) (p.getD (m-1) 0)=true
  ·rw[if_pos c,if_neg (by omega)];obtain⟨m',a,b,d,d'⟩:=Mb L g f (m+1) (by omega) (by omega) (Zb6 L g h1 ds c)
   grind
  ·rw[if_neg c];have c':lt (p.getD m 0) (p.getD (m-1) 0)=false:=by cases z:lt (p.getD m 0) (p.getD (m-1) 0) with|true=>exact absurd z c|false=>rfl
   have e2:Run lt (KasT.ask (p.getD (m-1) 0) (p.getD m 0) λd=>if d=true then KasT.ret (p,m,0) else kas_desc f p (m+1) (0+1))=Run lt (if lt (p.getD (m-1) 0) (p.getD m 0)=true then KasT.ret (p,m,0) else kas_desc f p (m+1) (0+1)):=rfl;rw[e2,if_pos (L.AM _ _ (g.get m) (g.get (m-1)) (g.ne (by omega) (by omega) (by omega)) c')];exact⟨m,rfl,ds,Yd _,by omega⟩
theorem Nx(hm:m<=p.size)(hi:i<m):(kas_rev p 0 m).getD i 0=p.getD (m-1-i) 0:=by
 unfold kas_rev;rw[Y7,getElem?_mirror_all hm,if_pos ⟨Yx _,hi⟩,←Y7]
 congr 1
 omega
theorem ZO(L:jX n lt)(g:Good n p)(h1:1<=m)(hm:m<=n)(ds:Ds lt p m):Good n (Run lt (kas_tail3 m n p)).2/\Sd lt (Run lt (kas_tail3 m n p)).2 (Run lt (kas_tail3 m n p)).1/\m<=(Run lt (kas_tail3 m n p)).1/\(Run lt (kas_tail3 m n p)).1<=n:=by
 have sd:Sd lt (kas_rev p 0 m) m:=λi j jY hj=>by
  rw[Nx (by rw[g.size];exact hm) (by omega),Nx (by rw[g.size];exact hm) hj];exact ds _ _ (by omega) (by omega)
 have e:Run lt (kas_tail3 m n p)=(Run lt (kas_asc (kas_rev p 0 m) (n-m) m),kas_rev p 0 m):=by
  unfold kas_tail3;rw[Run.bind];rfl
 obtain⟨a,b,c⟩:=zp L (g.rev 0 m) (n-m) m h1 (by omega) sd;rw[e];exact⟨g.rev 0 m,a,b,by show Run lt _<=n;omega⟩
theorem ZP(L:jX n lt)(g:Good n p):Good n (Run lt (kas_count n p)).2/\Sd lt (Run lt (kas_count n p)).2 (Run lt (kas_count n p)).1/\1<=(Run lt (kas_count n p)).1/\(Run lt (kas_count n p)).1<=n:=by
 have n0:=g.1;obtain⟨sd,h1,h2⟩:=zp L g (n-1) 1 (Yd _) (by omega) (λi j jY hj=>by omega);have e:Run lt (kas_count n p)=Run lt (if(Run lt (kas_asc p (n-1) 1)==n)=true then KasT.ret (Run lt (kas_asc p (n-1) 1),p) else if Run lt (kas_asc p (n-1) 1)>1 then KasT.ask (p.getD 0 0) (p.getD (Run lt (kas_asc p (n-1) 1)-1) 0) λc=>if c=true then KasT.ret (Run lt (kas_asc p (n-1) 1),p) else kas_descPart (Run lt (kas_asc p (n-1) 1)) n (kas_rev p 0 (Run lt (kas_asc p (n-1) 1))) else kas_descPart (Run lt (kas_asc p (n-1) 1)) n p):=by
  unfold kas_count;rw[Run.bind]
 rw[e];generalize er:Run lt (kas_asc p (n-1) 1)=r at sd h1 h2;by_cases c1:(r==n)=true
 ·rw[if_pos c1];exact⟨g,sd,h1,by show r<=n;omega⟩
 ·rw[if_neg c1];have rn:r≠n:=λz=>c1 (beq_iff_eq.mpr z);by_cases c2:r>1
  ·rw[if_pos c2];have e2:Run lt (KasT.ask (p.getD 0 0) (p.getD (r-1) 0) λc=>if c=true then KasT.ret (r,p) else kas_descPart r n (kas_rev p 0 r))=Run lt (if lt (p.getD 0 0) (p.getD (r-1) 0)=true then KasT.ret (r,p) else kas_descPart r n (kas_rev p 0 r)):=rfl;rw[e2,if_pos (sd 0 (r-1) (by omega) (by omega))];exact⟨g,sd,h1,by show r<=n;omega⟩
  ·rw[if_neg c2];have r1:r=1:=by omega
   subst r1;have hd:lt (p.getD 1 0) (p.getD 0 0)=true:=by
    have:n-1=(n-2)+1:=by omega
    rw[this] at er;have e3:Run lt (kas_asc p (n-2+1) 1)=Run lt (if lt (p.getD 1 0) (p.getD (1-1) 0)=true then KasT.ret 1 else kas_asc p (n-2) (1+1)):=rfl;rw[e3] at er;by_cases c:lt (p.getD 1 0) (p.getD (1-1) 0)=true;·exact c
    ·rw[if_neg c] at er;have c':lt (p.getD 1 0) (p.getD (1-1) 0)=false:=by cases z:lt (p.getD 1 0) (p.getD (1-1) 0) with|true=>exact absurd z c|false=>rfl
     have uS:Sd lt p 2:=Nv L g (m:=1) (Yd _) (λi j jY hj=>by omega) (L.AM _ _ (g.get _) (g.get _) (g.ne (by omega) (by omega) (by omega)) c');obtain⟨_,b,_⟩:=zp L g (n-2) 2 (by omega) (by omega) uS;rw[show 1+1=2 from rfl] at er;omega
   have ds2:Ds lt p 2:=λi j jY hj=>by
    grind
   obtain⟨m',a,b,c,d⟩:=Mb L g (n-(1+1)) (1+1) (by omega) (by omega) ds2;have e4:Run lt (kas_descPart 1 n p)=Run lt (kas_tail3 m' n p):=by
    unfold kas_descPart;rw[Run.bind,a];dsimp only;rw[if_neg (by omega)]
   rw[e4];obtain⟨x1,x2,x3,x4⟩:=ZO L g (m:=m') (by omega) (by omega) b;exact⟨x1,x2,by omega,x4⟩
theorem Ny(L:jX n lt)(g:Good n p)(sd:Sd lt p n):∀f m,1<=m->m+f<=n->Run lt (kas_asc p f m)=m+f
 |0,_,_,_=>rfl
 |f+1,m,h1,h2=>by
  have e:Run lt (kas_asc p (f+1) m)=Run lt (if lt (p.getD m 0) (p.getD (m-1) 0)=true then KasT.ret m else kas_asc p f (m+1)):=rfl;rw[e,if_neg (by rw[L.ZfI _ _ (g.get _) (g.get _) (sd (m-1) m (by omega) (by omega))];exact Yh),Ny L g sd f (m+1) (by omega) (by omega)];omega
theorem ZQ(L:jX n lt)(g:Good n p)(sd:Sd lt p n):Run lt (kas_count n p)=(n,p):=by
 have n0:=g.1;unfold kas_count;rw[Run.bind,(Ny L g sd (n-1) 1 (Yd _) (by omega)),if_pos (beq_iff_eq.mpr (by omega))];show(1+(n-1),p)=(n,p)
 grind
theorem Ec(L:jX n lt)(g:Good n p)(hk:k<n)(sd:Sd lt p k):∀f l r,l<=r->r<=k->r-l<=f->(∀i,i<l->lt (p.getD i 0) (p.getD k 0)=true)->(∀i,r<=i->i<k->lt (p.getD k 0) (p.getD i 0)=true)->
  Run lt (kas_place p k f l r)<=k/\(∀i,i<Run lt (kas_place p k f l r)->lt (p.getD i 0) (p.getD k 0)=true)/\∀i,Run lt (kas_place p k f l r)<=i->i<k->lt (p.getD k 0) (p.getD i 0)=true
 |0,l,r,h1,h2,h3,hl,hr=>⟨by show l<=k;omega,hl,λi (hi:l<=i) xI=>hr i (by omega) xI⟩
 |f+1,l,r,h1,h2,h3,hl,hr=>by
  rw[kas_place];by_cases c:l≥r
  ·rw[if_pos c];exact⟨by show l<=k;omega,hl,λi (hi:l<=i) xI=>hr i (by omega) xI⟩
  ·rw[if_neg c];have m1:l<=(l+r)/2:=by omega
   have m2:(l+r)/2<r:=by omega
   generalize(l+r)/2=m at m1 m2;have e2:Run lt (KasT.ask (p.getD k 0) (p.getD m 0) λc=>if c=true then kas_place p k f l m else kas_place p k f (m+1) r)=Run lt (if lt (p.getD k 0) (p.getD m 0)=true then kas_place p k f l m else kas_place p k f (m+1) r):=rfl;rw[e2];by_cases c2:lt (p.getD k 0) (p.getD m 0)=true
   ·rw[if_pos c2];refine Ec L g hk sd f l m m1 (by omega) (by omega) hl λi hi xI=>?_;by_cases e:i=m;·rw[e];exact c2
    ·exact L.trans _ _ _ (g.get _) (g.get _) (g.get _) c2 (sd m i (by omega) xI)
   ·rw[if_neg c2];have c':lt (p.getD k 0) (p.getD m 0)=false:=by cases z:lt (p.getD k 0) (p.getD m 0) with|true=>exact absurd z c2|false=>rfl
    have t:=L.AM _ _ (g.get k) (g.get m) (g.ne hk (by omega) (by omega)) c';refine Ec L g hk sd f (m+1) r (by omega) h2 (by omega) (λi hi=>?_) hr;by_cases e:i=m;·rw[e];exact t
    ·exact L.trans _ _ _ (g.get _) (g.get _) (g.get _) (sd i m (by omega) (by omega)) t
theorem Nz(L:jX n lt):∀f (p:Array Nat) k,Good n p->k+f=n->Sd lt p k->Good n (Run lt (kas_bin f p k))/\Sd lt (Run lt (kas_bin f p k)) n
 |0,p,k,g,e,sd=>by
  have e':k=n:=by omega
  refine⟨g,?_⟩;rw[←e'];exact sd
 |f+1,p,k,g,e,sd=>by
  have hk:k<n:=by omega
  obtain⟨a,b,c⟩:=Ec L g hk sd k 0 k (Yx _) (Yd _) (by omega) (λi hi=>absurd hi (Wk _)) (λi h1 h2=>by omega);have e2:Run lt (kas_bin (f+1) p k)=Run lt (kas_bin f (bubble p k (k-Run lt (kas_place p k k 0 k))) (k+1)):=by
   rw[kas_bin,Run.bind]
  rw[e2];generalize Run lt (kas_place p k k 0 k)=l at a b c;have gb:Good n (bubble p k (k-l)):=⟨g.1,(bubble_perm p k _).trans g.2⟩;have sz:=g.size;have get:∀i,(bubble p k (k-l)).getD i 0=if i=l then p.getD k 0 else if l<i/\i<=k then p.getD (i-1) 0 else p.getD i 0:=λi=>by
   have h:=getElem?_bubble (xs:=p) (src:=k) (by omega) (k-l) (by omega) i;rw[show k-(k-l)=l by omega] at h;rw[Y7,h];by_cases z:i=l;·rw[if_pos z,if_pos z,←Y7]
   ·rw[if_neg z,if_neg z];by_cases z2:l<i/\i<=k;·rw[if_pos z2,if_pos z2,←Y7]
    ·rw[if_neg z2,if_neg z2,←Y7]
  refine Nz L f _ (k+1) gb (by omega) λi j jY hj=>?_;rw[get i,get j];by_cases i1:i=l
  ·rw[if_pos i1,if_neg (by omega),if_pos (by omega)];exact c (j-1) (by omega) (by omega)
  ·rw[if_neg i1];by_cases i2:l<i/\i<=k
   ·rw[if_pos i2,if_neg (by omega),if_pos (by omega)];exact sd (i-1) (j-1) (by omega) (by omega)
   ·rw[if_neg i2];have il:i<l:=by omega
    by_cases j1:j=l;·rw[if_pos j1];exact b i il
    ·rw[if_neg j1];by_cases j2:l<j/\j<=k
     ·rw[if_pos j2];exact sd i (j-1) (by omega) (by omega)
     ·rw[if_neg j2];exact sd i j jY (by omega)
theorem ZaP(L:jX n lt)(h:0<n):Good n (Run lt (kas_sort n))/\Sd lt (Run lt (kas_sort n)) n:=by
 obtain⟨a,b,c,d⟩:=ZP L ⟨h,Array.Perm.refl _⟩;have e:Run lt (kas_sort n)=Run lt (if(Run lt (kas_count n (List.toArray (List.range n)))).1<n then kas_bin (n-max (Run lt (kas_count n (List.toArray (List.range n)))).1 1) (Run lt (kas_count n (List.toArray (List.range n)))).2 (max (Run lt (kas_count n (List.toArray (List.range n)))).1 1) else KasT.ret (Run lt (kas_count n (List.toArray (List.range n)))).2):=by
  unfold kas_sort;rw[Run.bind]
 rw[e];generalize Run lt (kas_count n (List.toArray (List.range n)))=r at a b c d;have mx:max r.1 1=r.1:=by omega
 by_cases z:r.1<n
 ·rw[if_pos z,mx];exact Nz L _ _ _ a (by omega) b
 ·rw[if_neg z];have:r.1=n:=by omega
  refine⟨a,?_⟩;rw[this] at b;exact b
end
def iW(p q:Int×Int):Prop:=p.1<q.1\/(p.1=q.1/\p.2<q.2)
def ltB(p q:Int×Int):Bool:=if p.1=q.1 then decide (p.2<q.2) else decide (p.1<q.1)
theorem ltB_iff:ltB p q=true↔iW p q:=by
 unfold ltB iW
 grind
def jZ(ps:List (Int×Int))(i j:Nat):Bool:=ltB (ps.getD i (0,0)) (ps.getD j (0,0))
theorem ZdU(nd:ps.Nodup):jX ps.length (jZ ps):=by
 have fl:∀{p q:Int×Int},ltB p q=false->¬iW p q:=λ{p q} h z=>by rw[ltB_iff.mpr z] at h;cases h
 refine⟨λi j k _ _ _ h1 h2=>?_,λi j hi hj ne h=>?_,λi j _ _ h=>?_⟩
 ·have a:=ltB_iff.mp h1;have b:=ltB_iff.mp h2;refine ltB_iff.mpr ?_;unfold iW at*;omega
 ·refine ltB_iff.mpr ?_;have a:=fl h;have e:ps.getD i (0,0)≠ps.getD j (0,0):=by
   rw[Ye,Ye,Yc hi,Yc hj];have pw:=Wx.mp nd
   grind
  have e':¬((ps.getD i (0,0)).1=(ps.getD j (0,0)).1/\(ps.getD i (0,0)).2=(ps.getD j (0,0)).2):=λz=>e (Prod.ext z.1 z.2);unfold iW at*;omega
 ·cases z:jZ ps j i with
  |false=>rfl
  |true=>
   have a:=ltB_iff.mp h;have b:=ltB_iff.mp z;unfold iW at a b;omega
def rE(h:Heap)(vs:List Value)(ps:List (Int×Int)):Prop:=Paired (λv (p:Int×Int)=>∃(a:Addr) (o:Obj) (n:Nat) (t u:Tok),v=.ref a/\h.get? a=some o/\o.cls=.type "tuple"/\o.data=.seq #[.int p.1 t,.int p.2 u] n) vs ps
theorem rE.gq(q:rE h vs ps):zI h vs:=by
 intro v hv;induction q with
 |nil=>cases hv
 |cons f _ ih=>grind
theorem C8{α β:Type}{F:α->β->Prop}{xs:List α}{ys:List β}(h:Paired F xs ys){i:Nat}(hi:i<xs.length)(x:α)(y:β):F (xs.getD i x) (ys.getD i y):=by
 obtain⟨b,e,f⟩:=fY h (Yc hi)
 grind
section
variable {prog:Program}{w:World}{A:Around}{E:Value->Shared->Prop}{s:Shared}
theorem ZaQ{vs:List Value}{ps:List (Int×Int)}(tv:rE s.heap vs ps){i j:Nat}{C:Bool->Shared->Prop}(hi:i<vs.length)(hj:j<vs.length)(hC:C (jZ ps i j) s):kas_ask prog w A (tuples' true) vs i j C s:=by
 unfold kas_ask;obtain⟨a,o,n,t,u,e1,h1,h2,h3⟩:=C8 tv hi Value.none (0,0);obtain⟨a',o',n',t',u',r_,kQ,kR,SA⟩:=C8 tv hj Value.none (0,0);unfold jZ at hC;rw[e1,r_];generalize ps.getD i (0,0)=p at hC h3;generalize ps.getD j (0,0)=q at hC SA;refine kat_lt h1 h3 kQ SA ?_;unfold ltB at hC;refine kat_cons (SeqAt.EqAt.int_int p.1 t q.1 t' prog w _ _ (kat_go (λb1=>kat_yes (kat_cons (SeqAt.EqAt.int_int p.2 u q.2 u' prog w _ _ (kat_go (λb2=>kat_yes (kat_nil ?_)) λb2=>kat_no ?_)))) λb1=>kat_no ?_));·grind
 ·rw[if_pos (beq_iff_eq.mp b1)] at hC;exact kat_one _ _ (lt_int hC)
 ·rw[if_neg (λz=>by rw[beq_iff_eq.mpr z] at b1;cases b1)] at hC;show wpAny _ _ (oneLt' true _ _) _ _ _;exact kat_lt_int hC
theorem ZdV
  (hQ:∀aK:SortSt,arrOf aK=(List.toArray (List.range 64)).map (kas_item it)->failedOf aK=none->Q () aK s)
  (h:(kas_count 64 (List.toArray (List.range 64))).kasWp (kas_cmp prog w A κ it) (λr s'=>r=(64,List.toArray (List.range 64))/\s'=s) s):kasC (model prog w) A E sortRuns' Q (kas_st κ it (List.toArray (List.range 64))) s:=by
 have Rm:(List.toArray (List.range 64)).size=64:=rfl;have szA:(arrOf (kas_st κ it (List.toArray (List.range 64)))).size=64:=(Array.size_map (f:=kas_item it)).trans Rm;have mr:minRun' 64 64 0=32:=by decide+kernel
 rw[sortRuns'_eq];refine kasC_bind (kasC_get ?_);(try dsimp only);simp only[szA,mr];refine kasC_bind (kasC_range ?_);show kasC _ _ _ (forIn (0::1::List.range' 2 62) _ _) _ _ _;refine kasC_cons ?_;(try dsimp only);rw[if_neg (show ¬(0:Nat)≥64 by omega)];simp only[Nat.sub_zero];refine kasC_bind (kas_count_ (show 1<=64 by omega) (GO Rm.symm) (λm p' s' _ _ _ hg=>?_) h);obtain⟨e,rfl⟩:=hg;cases e;(try dsimp only);rw[if_neg (show ¬(64:Nat)<32 by omega)];refine kasC_bind (kasC_get ?_);rw[show(pendingOf (kas_st κ it (List.toArray (List.range 64)))).back?=none from rfl];(try dsimp only);refine kasC_bind (kasC_modify (kasC_pure ?_));show kasC _ _ _ (forIn (1::List.range' 2 62) _ _) _ _ _;refine kasC_cons ?_;(try dsimp only);rw[if_pos (show(0:Nat)+64≥64 by omega)];refine kasC_pure ?_;(try dsimp only);refine kasC_bind (kasC_range ?_);show kasC _ _ _ (forIn (0::1::List.range' 2 62) _ _) _ _ _;refine kasC_cons ?_;refine kasC_bind (kasC_get ?_);(try dsimp only);rw[if_pos (show(pendingOf (setPending (kas_st κ it (List.toArray (List.range 64))) ((pendingOf (kas_st κ it (List.toArray (List.range 64)))).push (0,64,0)))).size<=1 from Yd 1)];refine kasC_pure ?_;(try dsimp only);exact kasC_pure (hQ _ rfl rfl)
theorem Vz{R:Array Nat->Prop}{a:Addr}{vs:List Value}{n:Nat}{P:PySem.Fin->Shared->Prop}(ho:s.heap.get? a=some (seqObj "list" vs.toArray n))(i_:vs.length<=64)
  (hk:2<=vs.length->∀h':Heap,(∀b o,b≠a->s.heap.get? b=some o->h'.get? b=some o)->∃κ:SortKind,(∀(Q:SortKind->Shared->Prop),Q κ {s with heap:=h'}->wpAny (model prog w) A (keyKind' vs.toArray) Q E {s with heap:=h'})/\
   ∀Q':SortSt->Shared->Prop,(∀(p:Array Nat) (aK:SortSt),p.size=vs.length->arrOf aK=p.map (kas_item (vs.toArray.zip vs.toArray))->failedOf aK=none->Good vs.length p->R p->Q' aK {s with heap:=h'})->wpAny (model prog w) A (sortRuns'.run (SortSt.mk' κ (vs.toArray.zip vs.toArray) #[] 7 none)) (λr s'=>Q' r.2 s') E {s with heap:=h'})
  (h:∀out:List Value,out.Perm vs->(2<=vs.length->∃p:Array Nat,Good vs.length p/\R p/\out=p.toList.map λi=>vs.getD i Value.none)->P (.done (.ret .none)) {s with heap:=sortedHeap s.heap a vs out.toArray}):
  wpAny (model prog w) A (Builtin.«list.sort» ⟨[.ref a],[]⟩) P E s:=by
 rw[list_sort_plain];have ha:a<s.heap.objs.size:=Yp ho;refine wpAny_bind (listItems_at ho rfl ?_);refine wpAny_bind (listUpdate_at ho rfl ?_);obtain⟨e1,su⟩:∃e1,(s.heap.update a (Obj.mapSeq λ_=>#[])).get? a=some (seqObj "list" #[] e1):=⟨_,get?_update_seq ho (λ_=>#[])⟩;refine wpAny_bind (seqEpoch_at su rfl ?_);refine wpAny_bind (wpAny_newTuple ?_);refine wpAny_bind (wpAny_newList ?_);refine wpAny_holding ?_;have AN:(((s.heap.update a (Obj.mapSeq λ_=>#[])).push (seqObj "tuple" vs.toArray 0)).push (seqObj "list" #[] 0)).get? a=some (seqObj "list" #[] e1):=by
  rw[J0 _ _ _ (by rw[size_push',Heap.size_update];exact Yy (Wt ha)),J0 _ _ _ (by rw[Heap.size_update];exact Yy ha)];exact su
 have keep:∀b o,b≠a->s.heap.get? b=some o->(((s.heap.update a (Obj.mapSeq λ_=>#[])).push (seqObj "tuple" vs.toArray 0)).push (seqObj "list" #[] 0)).get? b=some o:=λb o nb e=>
  Yb _ (Yb _ (by rw[Sn _ _ _ _ nb];exact e))
 dsimp only;have hsz:vs.toArray.size=vs.length:=by simp
 by_cases h2:vs.toArray.size<2
 ·rw[if_pos h2,if_pos h2];refine wpAny_bind (wpAny_pure ?_);rw[StateT.run_pure];refine wpAny_bind (wpAny_pure ?_);dsimp only;refine wpAny_bind (seqEpoch_at AN rfl ?_);refine wpAny_bind (listUpdate_at AN rfl ?_ (hsz2:=by rw[Array.size_map];show(pairsOf vs).size<=_;rw[pairsOf_size,sizeLine_eq];omega));simp only[bne_self_eq_false,Bool.false_eq_true,if_false];have e:(arrOf (SortSt.mk' general' (vs.toArray.zip vs.toArray) #[] 7 none)).map (·.2)=vs.toArray:=by
   grind
  have:=h vs (List.Perm.refl _) (λz=>by omega);rw[←e] at this;exact wpAny_pure this
 ·rw[if_neg h2,if_neg h2];have kR:2<=vs.length:=by omega
  obtain⟨κ,kk,cmp⟩:=hk kR _ keep;refine wpAny_bind (kk _ ?_);refine wpAny_bind (wpAny_mono (cmp (λaK s'=>s'={s with heap:=((s.heap.update a (Obj.mapSeq λ_=>#[])).push (seqObj "tuple" vs.toArray 0)).push (seqObj "list" #[] 0)}/\∃p:Array Nat,p.size=vs.length/\arrOf aK=p.map (kas_item (vs.toArray.zip vs.toArray))/\failedOf aK=none/\R p/\Good vs.length p) λp aK a1 a2 a3 a4 a5=>⟨rfl,p,a1,a2,a3,a5,a4⟩) ?_ λ_ _ e=>e);rintro⟨⟨⟩,aK⟩ s' ⟨rfl,p,hp,har,hf,ep,g⟩;dsimp only;have Rn:=kat_snds rfl har;have perm:(p.toList.map λi=>vs.getD i Value.none).Perm vs:=by
   have e1:p.toList.Perm (List.range vs.length):=by
    have:=Jq.mp g.2;simpa using this
   have e2:=e1.map λi=>vs.getD i Value.none;rw[range_getD] at e2;exact e2
  refine wpAny_bind (seqEpoch_at AN rfl ?_);refine wpAny_bind (listUpdate_at AN rfl ?_ (hsz2:=by rw[Rn,Yu,perm.length_eq,sizeLine_eq];omega));rw[hf];simp only[bne_self_eq_false,Bool.false_eq_true,if_false];have:=h _ perm (λ_=>⟨p,g,ep,rfl⟩);rw[←Rn] at this;exact wpAny_pure this
theorem ZaR(h:ps.Pairwise iW):Sd (jZ ps) (List.toArray (List.range ps.length)) ps.length:=λi j jY hj=>by
 have e:∀k,k<ps.length->(List.toArray (List.range ps.length)).getD k 0=k:=λk hk=>by
  simp_all
 rw[e i (by omega),e j hj];refine ltB_iff.mpr ?_;rw[Ye,Ye,Yc (by omega),Yc hj];exact Wx.mp h i j (by omega) hj jY
theorem ZeV{κ:SortKind}{ah:List Value}{ps:List (Int×Int)}{Q':SortSt->Shared->Prop}(Hi:ah.length=64)(lp:ah.length=ps.length)(L:jX ah.length (jZ ps))(pw:ps.Pairwise iW)(ask:∀i j (C:Bool->Shared->Prop),i<ah.length->j<ah.length->C (jZ ps i j) s->kas_ask prog w A κ ah i j C s)
  (Hj:∀(p:Array Nat) (aK:SortSt),p.size=ah.length->arrOf aK=p.map (kas_item (ah.toArray.zip ah.toArray))->failedOf aK=none->Good ah.length p->Sd (jZ ps) p ah.length->Q' aK s):wpAny (model prog w) A (sortRuns'.run (SortSt.mk' κ (ah.toArray.zip ah.toArray) #[] 7 none)) (λr s'=>Q' r.2 s') E s:=by
 have gR:Good ah.length (List.toArray (List.range ah.length)):=⟨by omega,Array.Perm.refl _⟩;have SD:Sd (jZ ps) (List.toArray (List.range ah.length)) ah.length:=by rw[lp];exact ZaR pw
 rw[kat_ask_eq (vs:=ah) rfl] at ask;have sz0:(ah.toArray.zip ah.toArray).size=ah.length:=by simp
 have Hk:SortSt.mk' κ (ah.toArray.zip ah.toArray) #[] 7 none=kas_st κ (ah.toArray.zip ah.toArray) (List.toArray (List.range ah.length)):=by
  unfold kas_st;rw[←sz0,kas_range]
 rw[Hk];have wp:=d5.run (G:=λr s'=>r=(ah.length,List.toArray (List.range ah.length))/\s'=s) ask (KD gR) ⟨(ZQ L gR SD),rfl⟩;have SE:=λaK a b=>Hj _ aK (by simp) a b gR SD;rw[Hi] at wp SE⊢;exact ZdV (Q:=λ_ aK s'=>Q' aK s') SE wp
theorem VZ(ho:s.heap.get? l=some o)(hc:o.cls=.type "list")(hd:o.data=.seq ah.toArray n)(tv:rE s.heap ah ps)(nd:ps.Nodup)(i_:ah.length<64\/(ah.length=64/\ps.Pairwise iW))(hsz:ah.toArray.size<=sizeLine)
  (h:∀(h1 h':Heap) (out:List Value) (e:Nat),(∀b o,s.heap.get? b=some o->h1.get? b=some o)->(∀b o,h1.get? b=some o->h'.get? b=some o)->h'.get? h1.objs.size=some (seqObj "list" out.toArray e)->out.Perm ah->(2<=ah.length->∃p:Array Nat,Good ah.length p/\Sd (jZ ps) p ah.length/\out=p.toList.map λi=>ah.getD i Value.none)->Q (.ref h1.objs.size) {s with heap:=h'}):
  wpAny (model prog w) A (call (.builtin "sorted") [.ref l]) Q E s:=by
 refine Calls.call_function_entry kind_sorted plain_sorted entry_sorted (args_sorted1 _) ?_;unfold Builtin.«sorted»;refine wpAny_bind (m:=checkCount "sorted" 1 1 _) (wpAny_pure ?_);refine wpAny_bind (wpAny_collect_seq l (.inl rfl) ho hc hd (λh1 kp=>?_) hsz);refine wpAny_bind (wpAny_newList ?_);have e1:ah.toArray.toList=ah:=by simp
 rw[e1];have oz:(h1.push (seqObj "list" ah.toArray 0)).get? h1.objs.size=some (seqObj "list" ah.toArray 0):=Yt _ rfl;refine wpAny_bind (wpAny_holding (wpAny_call_entry slot_list_sort ⟨_,oz,rfl⟩ entry_list_sort (Vz (R:=λp=>Sd (jZ ps) p ah.length) oz (by omega) (λh2 h' kp'=>?_) λout pm eo=>⟨_,rfl,?_⟩) (args_list_sort _)))
 ·have Hm:rE h' ah ps:=L2.Paired.bA tv λv p ⟨a,o,n,t,u,e,q1,q2,q3⟩=>by
   have SG:=kp _ _ q1;exact⟨a,o,n,t,u,e,kp' _ _ (Yy (Yp SG)) (Yb _ SG),q2,q3⟩
  obtain⟨fs,k1,k2,k3⟩:=Hm.gq.Sz;have lp:=c9 Hm;have ask:∀(B:Around) i j (C:Bool->Shared->Prop),i<ah.length->j<ah.length->C (jZ ps i j) {s with heap:=h'}->kas_ask prog w B (tuples' true) ah i j C {s with heap:=h'}:=λB i j C hi hj hC=>ZaQ (s:={s with heap:=h'}) Hm hi hj hC;have L:=ZdU nd;rw[←lp] at L;refine⟨tuples' true,λQ hQ=>?_,λQ' Hj=>?_⟩
  rotate_left
  ·rcases i_ with lt|⟨Hi,pw⟩
   ·obtain⟨g,sd⟩:=ZaP L (by omega);refine kat_run (ks:=ah) (vs:=ah) (G:=λp s'=>s'={s with heap:=h'}/\p=Run (jZ ps) (kas_sort ah.length)) rfl h2 lt (λp aK s' a1 a2 a3 a4=>?_) (d5.run (ask _) (ZN (by omega)) ⟨rfl,rfl⟩)
    grind
   ·exact ZeV (s:={s with heap:=h'}) Hi lp L pw (ask _) Hj
  refine kat_kind (s:={s with heap:=h'}) (T:=.type "int") k1 (by omega) (λv hv=>?_) (by decide) hQ;obtain⟨x,t,rfl⟩:=k3 v hv;exact .now
 ·obtain⟨e,he⟩:=sortedHeap_at (out:=out.toArray) oz;exact wpAny_pure ⟨_,rfl,h h1 _ out e kp (λb ob hb=>by
   have bL:=Yp hb;rw[sortedHeap_old (Yy bL) (by rw[size_push'];exact Wt bL),J0 _ _ _ (Yy bL)];exact hb) he pm eo⟩
end
def ZaS(K:PySem.W.Frag):List V->Hp->VK->Prop:=λxs H Q=>∃(p:Addr) (as:List Addr) (bI:List (Int×Int)),xs=[.ref p]/\ak K H p (as.map V.ref)/\Paired (λa (p:Int×Int)=>H a=some (.tup [.int p.1,.int p.2])) as bI/\bI.Nodup/\(as.length<64\/(as.length=64/\bI.Pairwise iW))/\
 ∀(iG:List Addr) (lN:List (Int×Int)),Paired (λa (p:Int×Int)=>H a=some (.tup [.int p.1,.int p.2])) iG lN->lN.Perm bI->lN.Pairwise iW->Nw H (.lst (iG.map V.ref)) Q
theorem J_:∀{zs:List γ},(∀z∈zs,F (f z) (g z))->Paired F (zs.map f) (zs.map g)
 |[],_=>.nil
 |z::zs,h=>.cons (h z Yl) (J_ λz hz=>h z (Yw _ hz))
theorem ZaT{X:Cx}{K:PySem.W.Frag}(hK:X.K=K):cV X (.builtin "sorted") (ZaS K):=by
 subst hK;intro pins s σ H xs us Q I r h;obtain⟨p,as,bI,rfl,hq,ht,nd,i_,q⟩:=h;obtain⟨u,rfl,rx⟩:=vals1 r;cases rx;obtain⟨ah,r',pl,hz⟩:=I.list hq;obtain⟨o,n,ho,hc,_,hd⟩:=pl;have ei:=Lk r';subst ei;rw[Ya] at hz;have lp:=c9 ht;have tq:rE s.heap (as.map Value.ref) bI:=by
  have aux:∀{as:List Addr} {bI:List (Int×Int)},Paired (λa (p:Int×Int)=>H a=some (.tup [.int p.1,.int p.2])) as bI->rE s.heap (as.map Value.ref) bI:=λ{as bI} h=>by
   induction h with
   |nil=>exact .nil
   |cons h1 _ ih=>
    refine .cons ?_ ih;obtain⟨iy,r2,⟨o2,g1,g2,n2,g3⟩,_⟩:=I.tuple (aB.of h1);obtain⟨u1,u2,rfl,⟨t1,rfl⟩,⟨t2,rfl⟩⟩:=vals2 r2
    grind
  exact aux ht
 refine VZ (ps:=bI) ho hc hd tq nd (by rw[Ya];exact i_) (by rw[Yu,Ya];exact hz) λh1 h' out e kp G0 he pm eo=>?_;have I1:Inv X pins σ H {s with heap:=h1}:=I.kept (t':=s.toks) kp;obtain⟨iG,lN,ZfJ,pa,pr,pw⟩:∃(iG:List Addr) (lN:List (Int×Int)),out=iG.map Value.ref/\Paired (λa (p:Int×Int)=>H a=some (.tup [.int p.1,.int p.2])) iG lN/\lN.Perm bI/\lN.Pairwise iW:=by
  by_cases z:2<=(as.map Value.ref).length
  ·have eo:=eo z;rw[Ya] at eo z;obtain⟨P,g,sd,eo⟩:=eo;rw[lp] at g sd;have e1:P.toList.Perm (List.range bI.length):=by
    have:=Jq.mp g.2;simpa using this
   have eX:∀i∈P.toList,i<bI.length:=λi hi=>Wi.mp (e1.subset hi);refine⟨P.toList.map λi=>as.getD i 0,P.toList.map λi=>bI.getD i (0,0),?_,J_ λi hi=>C8 ht (by rw[lp];exact eX i hi) 0 (0,0),?_,?_⟩
   ·rw[eo,Wg];refine W7 λi hi=>?_;have:=eX i hi;show(as.map Value.ref).getD i Value.none=Value.ref (as.getD i 0);rw[Ye,Yg,Yc (by omega),Ye,Yc (by omega)];rfl
   ·have:=e1.map λi=>bI.getD i (0,0);rw[range_getD] at this;exact this
   ·rw[W1,Wx];intro i j hi hj jY;have sz:=g.size;have gi:P.toList[i]=P.getD i 0:=by
     rw[W6] at hi;simp_all
    have gj:P.toList[j]=P.getD j 0:=by
     rw[W6] at hj;simp_all
    rw[gi,gj];rw[W6] at hj;exact ltB_iff.mp (sd i j jY (by omega))
  ·rw[Ya] at z;have eq:out=as.map Value.ref:=by
    match as,out,z,pm with
    |[],out,_,pm=>exact List.Perm.eq_nil pm
    |[a],out,_,pm=>exact List.Perm.eq_singleton pm
    |_::_::_,_,z,_=>exact absurd (by simp) z
   refine⟨as,bI,eq,ht,List.Perm.refl _,?_⟩;match bI,lp with
   |[],_=>exact .nil
   |[a],_=>exact List.pairwise_singleton _ _
   |_::_::_,lp=>exact absurd lp (by simp;omega)
 refine⟨.ref h1.objs.size,_,I1.laid (t':=s.toks) (o:=.lst (iG.map V.ref)) G0 (Yd _) ⟨?_,out,e,by rw[ZfJ];exact Ll iG,by simpa[seqObj] using he⟩,rfl,(q iG lN pa pr pw).at _ (I1.av.fresh (Yd _))⟩;rw[Ya,c9 pa,pr.length_eq];exact Jj (jF (by omega))
end L2
namespace L2
open PySem PySem.Spec PyProof.Rows
theorem mJ{X:Cx}{K:PySem.W.Frag}{ex:Expr}{T:String}{r:V->List V->Hp->VK->Prop}{to:TE}{t:TA}(h:X.K=K)(p:PE X ex (xv X.K T r to t)):PE X ex (xv K T r to t):=h▸p
theorem Zb7{X:Cx}{K:PySem.W.Frag}{ex:Expr}{T:String}{r:V->List V->Hp->VK->Prop}{to:TE}(h:X.K=K)(p:PE X ex (Gj X.K T r to)):PE X ex (Gj K T r to):=h▸p
theorem Ed{X:Cx}{K:PySem.W.Frag}{a:Expr}{ta:TE}(h:X.K=K)(p:PT X a (λσ H Q=>ta σ H λx H'=>∃k,z5 X.K x H' k/\Q k H')):PT X a (λσ H Q=>ta σ H λx H'=>∃k,z5 K x H' k/\Q k H'):=h▸p
theorem E1{X:Cx}{K:PySem.W.Frag}{f:Value->Value->Sem Value}{b:Bool}(h:X.K=K)(p:cB X f (Ae X.K b)):cB X f (Ae K b):=h▸p
def n_(H0:Hp)(d:Addr):Prop:=(∀xs,H0 d≠some (.tup xs))/\(∀o u,H0 d≠some (.cv o u))/\∀ps,H0 d≠some (.qb ps)
section
variable {X:Cx}{pins:List (Addr×Obj)}{σ:St}{H:Hp}{s:Shared}{d:Addr}{kvs:List (Key×V)}
theorem Inv.Qw(I:Inv X pins σ H s)(e:H d=some (.dK kvs)):n_ X.kK d:=
 ⟨(λxs z=>by have:=I.base.gq d xs z;rw[e] at this;cases this),(λo u z=>by have:=I.base.gT d o u z;rw[e] at this;cases this),(λps z=>by obtain⟨m,h⟩:=I.base.ir d ps z;rw[e] at h;cases h)⟩
theorem Inv.swap(I:Inv X pins σ H s)(e:H d=some o)(nf:n_ X.kK d)(no:∀a,o≠.own a)(nt:∀xs,o≠.tup xs)(ok:cG X.prog X.w H s.heap d o'):Inv X pins σ (upd H d o') s:=by
 have gS:∀{a:Addr} {o1:HO},cG X.prog X.w H s.heap a o1->cG X.prog X.w (upd H d o') s.heap a o1:=λ{a o1} x=>x.gS (λ_ _ _ z=>z)
  (λb z=>by rw[aJ (λq=>no a (Yr (e.symm.trans (by rw[←q];exact z))))];exact z)
  (λb xs z=>by rw[aJ (λq=>nt xs (Yr (e.symm.trans (by rw[←q];exact z))))];exact z)
 have ne:∀{b:Addr},H b=none->b≠d:=λ{b} hb z=>by rw[z,e] at hb;cases hb
 refine⟨I.ok,I.os,I.bare,⟨I.base.keep,I.base.slot,λb ob q n hx=>?_,I.base.there,λb xs q=>?_,λb ob u q=>?_,λb ps q=>?_⟩,I.loc,I.cell,?_,λx c ec=>?_,λp hp=>?_,λa o1 e1=>?_,I.len⟩
 ·have h:=I.base.free b ob q n hx;rw[aJ (ne h)];exact h
 ·rw[aJ (λz=>nf.1 xs (by rw[←z];exact q))];exact I.base.gq b xs q
 ·rw[aJ (λz=>nf.2.1 ob u (by rw[←z];exact q))];exact I.base.gT b ob u q
 ·rw[aJ (λz=>nf.2.2 ps (by rw[←z];exact q))];exact I.base.ir b ps q
 ·rw[aJ (ne I.free)];exact I.free
 ·rw[aJ (ne (I.gQ x c ec))];exact I.gQ x c ec
 ·obtain⟨p1,p2,p3⟩:=I.pin p hp;exact⟨p1,by rw[aJ (ne p2)];exact p2,p3⟩
 ·by_cases z:a=d
  ·subst z;rw[aO] at e1
   grind
  ·rw[aJ z] at e1;exact gS (I.av a o1 e1)
end
theorem ZeW(h:(dz P w).is k u=true):RelV (kV k) u:=by
 rcases k_ h with⟨i,t,rfl,rfl⟩|⟨x,t,rfl,rfl⟩;·exact⟨t,rfl⟩
 ·exact⟨t,rfl⟩
theorem Pa:∀{kvs:List (Key×V)} {vs:List (Key×Value)} {i:Nat} {k:Key} {y:V},KV kvs vs->kvs[i]?=some (k,y)->∃v,vs[i]?=some (k,v)/\RelV y v:=λ{kvs vs i k y} r h=>by
 obtain⟨q,e,h1,h2⟩:=fY (F:=λ(p:Key×V) (q:Key×Value)=>p.1=q.1/\RelV p.2 q.2) r h
 grind
theorem zJ(I:Inv X pins σ H s)(e:H d=some (.cv od (.dK kvs)))(jw:od.data=.dict es ep):∃vs,KV kvs vs/\s.heap.DictAt (dz X.prog X.w) d vs ep:=by
 obtain⟨g,_,_,vs,rel,o,Aq,Ar,h1,h2,h3,h4⟩:=(show cG X.prog X.w H s.heap d (.cv od (.dK kvs)) from I.av d _ e);rw[g] at h1;cases h1;rw[jw] at h3;cases h3;exact⟨vs,rel,od,es,g,h2,jw,h4⟩
theorem Inv.Af(I:Inv X pins σ H s)(nf:n_ X.kK d)(e:H d=some (.cv od (.dK kvs))):Inv X pins σ (upd H d (.dK kvs)) s:=
 I.swap e nf (λa z=>by cases z) (λxs z=>by cases z) (show cG X.prog X.w H s.heap d (.cv od (.dK kvs)) from I.av d _ e).2
def Hn(d:Addr)(od:Obj)(kvs:List (Key×V)):It:=⟨λi H=>H d=some (.cv od (.dK kvs))/\i<kvs.length,λi H v H'=>H'=H/\∃k y,kvs[i]?=some (k,y)/\v=kV k,λi H=>H d=some (.cv od (.dK kvs))/\kvs.length<=i⟩
theorem ZR{P:Program}{w:World}{K:PySem.W.Frag}{tg:Expr}(it d:Addr)(od:Obj)(es:Array DictEntry)(ep:Nat)(jw:od.data=.dict es ep)(kvs:List (Key×V)):Turn P w K tg (Hn d od kvs) [it] it (λi h=>h.IsKeyIter it d i kvs.length ep) where
 mem:=by simp
 obj:=λi h st b hb=>by
  have e:b=it:=by simpa using hb
  obtain⟨o,e,c,dd⟩:=st
  grind
 keep:=λi h h' st k=>let⟨o,e,r⟩:=st;⟨o,k it (by simp) o e,r⟩
 item:=by
  intro X hP hw hK hc i pins s σ H E I hf st hg;subst hP hw hK;obtain⟨f0,f1,f2,f3,f4,f5⟩:=hf it (by simp);obtain⟨hz,bL⟩:=hg;obtain⟨vs,rel,da⟩:=zJ I hz jw;have ll:=rel.length;obtain⟨k,y,hk⟩:∃k y,kvs[i]?=some (k,y):=⟨kvs[i].1,kvs[i].2,Yc bL⟩;obtain⟨v,hv,ry⟩:=Pa rel hk;rw[ll] at st;refine wpAny_pyNext_dict_item st da hv λkey h' mQ aK sb=>?_;obtain⟨o,e,c,dd⟩:=id aK;exact⟨_,rfl,rB e c dd (by decide) ⟨kV k,H,(I.turned (λb o hb e=>sb.extBut b o hb e) f0 f1 f3 f4 f5),ZeW mQ,⟨rfl,k,y,hk,rfl⟩,by rw[ll];exact aK,λb hb=>(hf b hb).1⟩⟩
 done:=by
  intro X hP hw hK hc i pins s σ H E I hf st hg;subst hP hw hK;obtain⟨f0,f1,f2,f3,f4,f5⟩:=hf it (by simp);obtain⟨hz,hle⟩:=hg;obtain⟨vs,rel,da⟩:=zJ I hz jw;have ll:=rel.length;rw[ll] at st;exact wpAny_pyNext_dict_end (I.ok.hd hc) st da (Y6 (by omega)) λh' eb=>⟨rfl,I.turned (λb o hb e=>eb b o hb e) f0 f1 f3 f4 f5⟩
 self:=λA i s Q E st h=>wpAny_pyIter_keyiter st h
def FZ(H0:Hp)(td:TE):TI:=λσ H R=>td σ H λx H1=>∃d kvs,x=.ref d/\H1 d=some (.dK kvs)/\∀od,n_ H0 d->R (Hn d od kvs) (upd H1 d (.cv od (.dK kvs)))
theorem Zb8{X:Cx}{H0:Hp}{tg l:Expr}{td:TE}(h0:X.kK=H0)(hl:PE X l td):PI X tg l (FZ H0 td):=by
 subst h0;intro pins s σ H R I h;refine aw (hl pins s σ H _ I h) λv s1 zq=>?_;obtain⟨x,H1,I1,r1,d,kvs,ex,hd,q⟩:=zq;subst ex;obtain rfl:v=Value.ref d:=r1;obtain⟨zz,Ho,vs,rel,dd⟩:=n5 I1.av hd;obtain⟨od,es,ep,jU,hx,jw,wH⟩:=id dd;have nf:=I1.Qw hd;refine wpAny_pyIter_dict Ho ⟨od,es,jU,hx,jw,wH⟩ ?_;have I2:Inv X pins σ H1 {s1 with heap:=s1.heap.push {cls:=.type "dict_keyiterator",data:=.fields #[.ref d,.int 0 0,.int vs.length 0,.int ep 0]},toks:=s1.toks}:=I1.kept λb o e=>Yb _ e;refine⟨s1.heap.objs.size,[s1.heap.objs.size],_,Hn d od kvs,_,rfl,(I2.swap (o':=.cv od (.dK kvs)) hd nf (λa z=>by cases z) (λxs z=>by cases z) ⟨Yb _ jU,(I2.av d _ hd)⟩),ZR _ d od es ep jw kvs,⟨_,Yt _ rfl,rfl,by rw[rel.length];rfl⟩,λb hb=>?_,q od nf⟩;have e:b=s1.heap.objs.size:=by simpa using hb
 subst e;exact I1.pW (Yd _) (by rw[aJ (Jd (Yp jU))];exact I1.av.fresh (Yd _))
def Qx(H0:Hp)(td:TE)(g:TG)(tb:TS):TS:=λD σ H=>Ge (FZ H0 td) g tb ⟨λaF H'=>∃d od kvs,n_ H0 d/\H' d=some (.cv od (.dK kvs))/\D.nx aF (upd H' d (.dK kvs)),λv H'=>∃d od kvs,n_ H0 d/\H' d=some (.cv od (.dK kvs))/\D.rt v (upd H' d (.dK kvs)),λ_ _=>False,λ_ _=>False⟩ σ H
theorem X2(h0:X.kK=H0)(hp:PassesOwn (model X.prog X.w) X.A X.env X.xe)(hc:X.calm=true)(hi:PI X tg l (FZ H0 td))(hg:PG X tg g)(hb:eU X body tb)(hs:∀x,foldedSetIterable l X.env x=pure x:=by intro _;rfl):PS X (.For tg l body [] pos) (Qx H0 td g tb):=by
 subst h0;intro pins s σ H D I h;refine aw (gP hp hc hi hg hb hs pins s σ H _ I h) λf s1 q=>?_;cases f with
 |next=>obtain⟨aF,H',I',d,od,kvs,nf,e,q⟩:=q;exact⟨aF,_,I'.Af nf e,q⟩
 |brk=>obtain⟨_,_,_,q⟩:=q;exact False.elim q
 |cont=>obtain⟨_,_,_,q⟩:=q;exact False.elim q
 |ret u=>obtain⟨v,aF,H',I',r,d,od,kvs,nf,e,q⟩:=q;exact⟨v,aF,_,I'.Af nf e,r,q⟩
theorem ZaU(eF:∀R:VK,R (.ref d) H1->td σ H R)(hd:H1 d=some (.dK kvs))(Pv:Nat->St->Hp->Prop)
  (p0:∀od,Pv 0 σ (upd H1 d (.cv od (.dK kvs))))
  (hs:∀od i k y aF H' (N:St->Hp->Prop) (rt:VK) (bk:St->Hp->Prop),kvs[i]?=some (k,y)->Pv i aF H'->H' d=some (.cv od (.dK kvs))->(∀cL H3,Pv (i+1) cL H3->H3 d=some (.cv od (.dK kvs))->N cL H3)->g (kV k) aF H' λdq H2=>tb ⟨N,rt,bk,N⟩ dq H2)
  (Gw:∀od aF H',Pv kvs.length aF H'->H' d=some (.cv od (.dK kvs))->D.nx aF (upd H' d (.dK kvs))):Qx H0 td g tb D σ H:=by
 refine eF _ ⟨d,kvs,rfl,hd,λod nf=>⟨λi m aF H'=>m=kvs.length-i/\i<=kvs.length/\Pv i aF H'/\H' d=some (.cv od (.dK kvs)),⟨kvs.length,by omega,Yx _,p0 od,aO⟩,?_⟩⟩;rintro i m aF H' ⟨rfl,hi,p,fz⟩;by_cases bL:i<kvs.length
 ·refine .inr ⟨⟨fz,bL⟩,λcL H3=>Pv (i+1) cL H3/\H3 d=some (.cv od (.dK kvs)),λcL H3 ⟨a,c⟩=>⟨kvs.length-(i+1),by omega,rfl,bL,a,c⟩,?_⟩;rintro x H4 ⟨rfl,k,y,hk,rfl⟩;exact hs od i k y aF H4 (λcL H3=>Pv (i+1) cL H3/\H3 d=some (.cv od (.dK kvs))) _ _ hk p fz λcL H3 p3 f3=>⟨p3,f3⟩
 ·have e:i=kvs.length:=by omega
  subst e;exact .inl ⟨⟨fz,Yd _⟩,d,od,kvs,nf,fz,Gw od _ _ p fz⟩
section
variable {P:Program}{w:World}{A:Around}{E:Value->Shared->Prop}{s:Shared}{it d:Addr}{i n ep:Nat}{ok ov:Value}{o:Obj}{es:Array DictEntry}{e:DictEntry}
end
section
variable {P:Program}{w:World}{A:Around}{E:Value->Shared->Prop}{s:Shared}{d o:Addr}{knd:HeapKind P w (List Key)}{xs ms:List (List Key×Addr×Value)}
end
section
variable {X:Cx}
theorem Zb9{H:Hp}{kvs:List (List Key×V)}{xs:List (List Key×Addr×Value)}(r:KT H kvs xs):xs.map (·.1)=kvs.map (·.1):=by
 induction r with
 |nil=>rfl
 |cons f _ ih=>grind
end
section
variable {X:Cx}{pins:List (Addr×Obj)}{σ:St}{H:Hp}{s:Shared}{d:Addr}{kvs:List (List Key×V)}
end
theorem Zb_:bootBuiltins "dict"=some (.type "dict"):=by decide+kernel
def Hq(d:Addr)(od:Obj)(kvs:List (Key×V)):It:=⟨λi H=>H d=some (.cv od (.dK kvs))/\i<kvs.length,λi H v H'=>H'=H/\∃k,kvs[i]?=some (k,v),λi H=>H d=some (.cv od (.dK kvs))/\kvs.length<=i⟩
theorem ZS{P:Program}{w:World}{K:PySem.W.Frag}{tg:Expr}(it d:Addr)(od:Obj)(es:Array DictEntry)(ep:Nat)(jw:od.data=.dict es ep)(kvs:List (Key×V)):Turn P w K tg (Hq d od kvs) [it] it (λi h=>h.IsValIter it d i kvs.length ep) where
 mem:=by simp
 obj:=λi h st b hb=>by
  have e:b=it:=by simpa using hb
  obtain⟨o,e,c,dd⟩:=st
  grind
 keep:=λi h h' st k=>let⟨o,e,r⟩:=st;⟨o,k it (by simp) o e,r⟩
 item:=by
  intro X hP hw hK hc i pins s σ H E I hf st hg;subst hP hw hK;obtain⟨f0,f1,f2,f3,f4,f5⟩:=hf it (by simp);obtain⟨hz,bL⟩:=hg;obtain⟨vs,rel,da⟩:=zJ I hz jw;have ll:=rel.length;obtain⟨k,y,hk⟩:∃k y,kvs[i]?=some (k,y):=⟨kvs[i].1,kvs[i].2,Yc bL⟩;obtain⟨v,hv,ry⟩:=Pa rel hk;rw[ll] at st;refine wpAny_pyNext_values_item st da hv λh' aK sb=>?_;obtain⟨o,e,c,dd⟩:=id aK;exact⟨_,rfl,rB e c dd (by decide) ⟨y,H,(I.turned (λb o hb e=>sb.extBut b o hb e) f0 f1 f3 f4 f5),ry,⟨rfl,k,hk⟩,by rw[ll];exact aK,λb hb=>(hf b hb).1⟩⟩
 done:=by
  intro X hP hw hK hc i pins s σ H E I hf st hg;subst hP hw hK;obtain⟨f0,f1,f2,f3,f4,f5⟩:=hf it (by simp);obtain⟨hz,hle⟩:=hg;obtain⟨vs,rel,da⟩:=zJ I hz jw;have ll:=rel.length;rw[ll] at st;exact wpAny_pyNext_values_end (I.ok.hd hc) st da (Y6 (by omega)) λh' eb=>⟨rfl,I.turned (λb o hb e=>eb b o hb e) f0 f1 f3 f4 f5⟩
 self:=λA i s Q E st h=>wpAny_pyIter_valiter st h
def F0(H0:Hp)(td:TE):TI:=λσ H R=>td σ H λx H1=>∃d kvs,x=.ref d/\H1 d=some (.dK kvs)/\∀od,n_ H0 d->R (Hq d od kvs) (upd H1 d (.cv od (.dK kvs)))
theorem Zca{X:Cx}{H0:Hp}{tg:Expr}{apos b_:Pos}{o:Expr}{td:TE}(h0:X.kK=H0)(ho:PE X o td)(rC:attributeBase o "values" X.env (eval o X.env)=eval o X.env:=by rfl)(rD:(apos.endLine==b_.line)=true:=by rfl):PI X tg (.Call (.Attribute o "values" apos) [] [] b_) (F0 H0 td):=by
 subst h0;intro pins s σ H R I h;refine wpAny_Call_method0_late rC rD (aw (ho pins s σ H _ I h) λv s1 zq=>?_);obtain⟨x,H1,I1,r1,d,kvs,ex,hd,q⟩:=zq;subst ex;obtain rfl:v=Value.ref d:=r1;obtain⟨t1,t2,Ho⟩:=wq I1 (.inl ⟨kvs,.inl hd⟩);refine⟨"dict","dict.values",plainAttrs_dict,PySem.F.slot_dict_values,PySem.F.type_dict_values,t1,t2,Calls.callWith_builtin rfl (PySem.evalArgs_none ?_)⟩;obtain⟨zz,_,vs,rel,dd⟩:=n5 I1.av hd;refine call_meetsIn PySem.F.slot_dict_values dd.typeIs PySem.F.entry_dict_values (PySem.F.args_dict_values_1 _) (meets_dict_values (dz X.prog X.w) d Ho) ⟨⟨vs,dd⟩,?_⟩;obtain⟨od,es,ep,jU,hx,jw,wH⟩:=id dd;have nf:=I1.Qw hd;have up:∀b o,s1.heap.get? b=some o->(s1.heap.push {cls:=.type "dict_values",data:=.fields #[.ref d]}).get? b=some o:=λb o e=>Yb _ e;refine wpAny_pyIter_values (knd:=dz X.prog X.w) (d:=d) (kvs:=vs) (ep:=ep) ⟨_,Yt _ rfl,rfl,rfl⟩ ⟨od,es,up _ _ jU,hx,jw,wH⟩ ?_;generalize hG:s1.heap.push {cls:=.type "dict_values",data:=.fields #[.ref d]}=G at up⊢;have I2:Inv X pins σ H1 {s1 with heap:=G.push {cls:=.type "dict_valueiterator",data:=.fields #[.ref d,.int 0 0,.int vs.length 0,.int ep 0]},toks:=s1.toks}:=I1.kept (t':=s1.toks) λb o e=>Yb _ (up b o e);have hdk:cG X.prog X.w H1 _ d (.dK kvs):=I2.av d _ hd;have I3:=I2.swap (o':=.cv od (.dK kvs)) hd nf (λa z=>by cases z) (λxs z=>by cases z) ⟨Yb _ (up _ _ jU),hdk⟩;have Hs:s1.heap.objs.size<=G.objs.size:=by rw[←hG,Jr];omega
 refine⟨G.objs.size,[G.objs.size],_,Hq d od kvs,_,rfl,I3,ZS _ d od es ep jw kvs,⟨_,Yt _ rfl,rfl,by rw[rel.length];rfl⟩,λb hb=>?_,q od nf⟩;have e:b=G.objs.size:=by simpa using hb
 subst e;have dlt:d<s1.heap.objs.size:=Yp jU;exact I1.pW Hs (by rw[aJ (Jd (Y1 dlt Hs))];exact I1.av.fresh Hs)
def Qy(H0:Hp)(td:TE)(g:TG)(tb:TS):TS:=λD σ H=>Ge (F0 H0 td) g tb ⟨λaF H'=>∃d od kvs,n_ H0 d/\H' d=some (.cv od (.dK kvs))/\D.nx aF (upd H' d (.dK kvs)),λv H'=>∃d od kvs,n_ H0 d/\H' d=some (.cv od (.dK kvs))/\D.rt v (upd H' d (.dK kvs)),λ_ _=>False,λ_ _=>False⟩ σ H
theorem X3(h0:X.kK=H0)(hp:PassesOwn (model X.prog X.w) X.A X.env X.xe)(hc:X.calm=true)(hi:PI X tg (.Call (.Attribute o "values" apos) [] [] b_) (F0 H0 td))(hg:PG X tg g)(hb:eU X body tb):
  PS X (.For tg (.Call (.Attribute o "values" apos) [] [] b_) body [] pos) (Qy H0 td g tb):=by
 subst h0;intro pins s σ H D I h;refine aw (gP hp hc hi hg hb (λ_=>rfl) pins s σ H _ I h) λf s1 q=>?_;cases f with
 |next=>obtain⟨aF,H',I',d,od,kvs,nf,e,q⟩:=q;exact⟨aF,_,I'.Af nf e,q⟩
 |brk=>obtain⟨_,_,_,q⟩:=q;exact False.elim q
 |cont=>obtain⟨_,_,_,q⟩:=q;exact False.elim q
 |ret u=>obtain⟨v,aF,H',I',r,d,od,kvs,nf,e,q⟩:=q;exact⟨v,aF,_,I'.Af nf e,r,q⟩
theorem ZaV(eF:∀R:VK,R (.ref d) H1->td σ H R)(hd:H1 d=some (.dK kvs))(Pv:Nat->St->Hp->Prop)
  (p0:∀od,Pv 0 σ (upd H1 d (.cv od (.dK kvs))))
  (hs:∀od i k y aF H' (N:St->Hp->Prop) (rt:VK) (bk:St->Hp->Prop),kvs[i]?=some (k,y)->Pv i aF H'->H' d=some (.cv od (.dK kvs))->(∀cL H3,Pv (i+1) cL H3->H3 d=some (.cv od (.dK kvs))->N cL H3)->g y aF H' λdq H2=>tb ⟨N,rt,bk,N⟩ dq H2)
  (Gw:∀od aF H',Pv kvs.length aF H'->H' d=some (.cv od (.dK kvs))->D.nx aF (upd H' d (.dK kvs))):Qy H0 td g tb D σ H:=by
 refine eF _ ⟨d,kvs,rfl,hd,λod nf=>⟨λi m aF H'=>m=kvs.length-i/\i<=kvs.length/\Pv i aF H'/\H' d=some (.cv od (.dK kvs)),⟨kvs.length,by omega,Yx _,p0 od,aO⟩,?_⟩⟩;rintro i m aF H' ⟨rfl,hi,p,fz⟩;by_cases bL:i<kvs.length
 ·refine .inr ⟨⟨fz,bL⟩,λcL H3=>Pv (i+1) cL H3/\H3 d=some (.cv od (.dK kvs)),λcL H3 ⟨a,c⟩=>⟨kvs.length-(i+1),by omega,rfl,bL,a,c⟩,?_⟩;rintro x H4 ⟨rfl,k,hk⟩;exact hs od i k x aF H4 (λcL H3=>Pv (i+1) cL H3/\H3 d=some (.cv od (.dK kvs))) _ _ hk p fz λcL H3 p3 f3=>⟨p3,f3⟩
 ·have e:i=kvs.length:=by omega
  subst e;exact .inl ⟨⟨fz,Yd _⟩,d,od,kvs,nf,fz,Gw od _ _ p fz⟩
section
variable {X:Cx}{o i:Expr}{td ty:TE}{z6 pos:Pos}
def ZdW(td ty:TE):TS:=λD σ H=>td σ H λx H1=>ty σ H1 λy H2=>∃a kvs k,x=.ref a/\H2 a=some (.dK kvs)/\y=kV k/\(aQ kvs k).isSome=true/\Ch H2 a (.dK (gm kvs k)) (D.nx σ)
theorem ZaW(ho:PE X o td)(hi:PE X i ty):PS X (.Delete [.Subscript o i z6] pos) (ZdW td ty):=by
 intro pins s σ H D I h;refine wpAny_Delete (wpAny_deleteEach_cons (wpAny_delete_Subscript (aw (ho pins s σ H _ I h) λu s1 zq=>?_)));obtain⟨x,H1,I1,rx,q1⟩:=zq;refine aw (hi pins s1 σ H1 _ I1 q1) λiv s2 zq=>?_;obtain⟨y,H2,I2,ry,a,kvs,k,ex,e,ey,l,q2⟩:=zq;subst ex ey;obtain rfl:u=Value.ref a:=rx;exact ZE I2 e ry l λs3 I3=>wpAny_deleteEach_nil ⟨σ,_,I3,q2.at⟩
theorem Mc[DecidableEq α]:∀{xs:List (α×β)} {j:Nat} {k:α} {p:β},(xs.map (·.1)).Nodup->xs[j]?=some (k,p)->xs.eraseIdx j=xs.filter λx=>decide (x.1≠k)
 |[],_,_,_,_,h=>rfl
 |x::xs,0,k,p,nd,h=>by
  have e:x=(k,p):=by simpa using h
  subst e;rw[List.eraseIdx_cons_zero,List.filter_cons_of_neg (by simp)];refine(List.filter_eq_self.mpr λy hy=>?_).symm
  grind
 |x::xs,j+1,k,p,nd,h=>by
  obtain⟨n1,n2⟩:=Yz.mp (show(x.1::xs.map (·.1)).Nodup from nd);have h':xs[j]?=some (k,p):=by simpa using h
  rw[List.eraseIdx_cons_succ,Mc n2 h',Ju (by simpa using(λz=>n1 (by rw[z];exact Yf.mpr ⟨_,Yi h',rfl⟩)))]
theorem Md(f:α->β):∀(xs:List α) (j:Nat),(xs.map f).eraseIdx j=(xs.eraseIdx j).map f
 |[],_=>rfl
 |_::_,0=>rfl
 |x::xs,j+1=>by
  show f x::(xs.map f).eraseIdx j=f x::(xs.eraseIdx j).map f;rw[Md f xs j]
theorem Zcb(k:List Key)(r:KT H kvs xs):KT H (gm kvs k) (xs.filter λx=>decide (x.1≠k)):=by
 unfold gm;induction r with
 |nil=>exact .nil
 |@cons p x ps xs f t ih=>
  by_cases e:p.1=k;·grind
  ·rw[Ju (by simpa using e),Ju (by rw[←f.1];simpa using e)];exact .cons f ih
theorem ZaX{P:Program}{w:World}{A:Around}{E:Value->Shared->Prop}{s:Shared}{d a:Addr}{knd:HeapKind P w (List Key)}{xs:List (List Key×Addr×Value)}{k:List Key}{Q:Option DictEntry->Shared->Prop}(room:knd.room A)(is:knd.is s.heap k a)(D:s.heap.DictOfH knd d xs)(there:k∈xs.map (·.1))(hz:xs.length<=sizeLine)
  (hQ:∀e h' t',h'.DictOfH knd d (xs.filter λx=>decide (x.1≠k))->Heap.SameBut d s.heap h'->Q (some e) {s with heap:=h',toks:=t'}):wpAny (model P w) A (Builtin.Dict.takeOut d (.ref a)) Q E s:=by
 obtain⟨ob,es,ep,g,ex,hd,he,SH,nd⟩:=D;refine wpAny_holding (wpAny_bind (knd.pyHash room is (wpAny_bind (wpAny_dictFind_heap room is g hd he SH nd (λno=>?_) λj p e=>?_))))
 ·obtain⟨x,hx,e⟩:=Yf.mp there;obtain⟨j,hj,ej⟩:=Wr.mp hx;exact absurd (show xs[j]?=some (k,x.2) by rw[Yc hj,ej,←e]) (no j x.2)
 ·have sz:es.size=xs.length:=by rw[←W6,he,Ya]
  refine wpAny_bind (wpAny_dictEntries g hd ?_);rw[entry_at he j,e];have sb:=Heap.SameBut.update s.heap d (Obj.mapDictKeys λx=>x.eraseIdxIfInBounds j);refine wpAny_bind (wpAny_updateDictKeys g hd (wpAny_pure (hQ _ _ _ ⟨_,_,ep+1,Wn _ g (Obj.isFreed_of_dict (Obj.data_mapDictKeys hd _)),ex.mapDictKeys _,Obj.data_mapDictKeys hd _,?_,λx hx=>?_,?_⟩ sb)) (by rw[sz];exact hz))
  ·have hj:j<xs.length:=(Yj.mp e).1;rw[←Mc nd e];have e1:(es.eraseIdxIfInBounds j).toList=es.toList.eraseIdx j:=by
    simp_all
   rw[e1,he,Md]
  ·exact knd.keeps (SH x (Y4.mp hx).1) g hd sb
  ·grind
theorem X4{pins:List (Addr×Obj)}{σ:St}{H:Hp}{s:Shared}{a b:Addr}{kvs:List (List Key×V)}{k:List Key}{A:Around}{E:Value->Shared->Prop}{Q:Unit->Shared->Prop}(hu:A.units+1<cLine)(I:Inv X pins σ H s)(e:H a=some (.dT kvs))(eb:H b=some (.tup (k.map kV)))(l:(aQ kvs k).isSome=true)(h:∀s',Inv X pins σ (upd H a (.dT (gm kvs k))) s'->Q () s'):
  wpAny (model X.prog X.w) A (delItem (.ref a) (.ref b)) Q E s:=by
 obtain⟨z,sm,xs,rel,dd⟩:=Qt I.av e;have l1:kvs.length=xs.length:=Paired.length rel;have there:k∈xs.map (·.1):=by
  rw[Zb9 rel];cases ev:aQ kvs k with
  |none=>rw[ev] at l;cases l
  |some v=>
   unfold aQ at ev;cases ef:kvs.find? λkv=>decide (kv.1=k) with
   |none=>rw[ef] at ev;cases ev
   |some p=>exact Yf.mpr ⟨p,List.mem_of_find?_eq_some ef,of_decide_eq_true (by simpa using List.find?_some ef)⟩
 refine wpAny_delItem_slot dd.typeIs (by decide) slot_dict_delitem (wpAny_call_entry slot_dict_delitem dd.typeIs PySem.F.entry_dict_delitem ?_ (PySem.F.args_dict_delitem_2 _ _));unfold Builtin.«dict.__delitem__»;refine wpAny_bind ?_;unfold Builtin.Dict.dictSlotArgs;refine wpAny_bind (wpAny_notOrdered_dict dd.typeIs ?_);show wpAny _ _ (pure (Value.ref a,Value.ref b)) _ _ s;refine wpAny_pure ?_;show wpAny _ _ (Builtin.Dict.takeOut a (.ref b)>>=_) _ _ s;refine wpAny_bind (ZaX (tupleKind_room_in1 hu) (pP I.av eb) dd there (by omega) λen h' t' d' sb=>?_);refine wpAny_bind (wpAny_letGo (wpAny_pure ⟨.none,rfl,?_⟩));obtain⟨q',es,ep,hq,h2,h3,h4,_,h5⟩:=d';refine h _ (qW (t':=t') (ob:=.dT (gm kvs k)) I (by rw[e];exact True.intro) sb ⟨q',hq⟩ ⟨Y0 (Wh _ _) z,sm,_,(Zcb k rel).keeps λc ys ec=>by
   rw[aJ (P6 ec e (λz=>nomatch z))];exact ec,q',es,ep,hq,h2,h3,h4,h5⟩)
def ZdX(td ty:TE):TS:=λD σ H=>td σ H λx H1=>ty σ H1 λy H2=>∃a b kvs k,x=.ref a/\H2 a=some (.dT kvs)/\y=.ref b/\H2 b=some (.tup (k.map kV))/\(aQ kvs k).isSome=true/\Ch H2 a (.dT (gm kvs k)) (D.nx σ)
theorem Me(hu:X.A.units+1<cLine)(ho:PE X o td)(hi:PE X i ty):PS X (.Delete [.Subscript o i z6] pos) (ZdX td ty):=by
 intro pins s σ H D I h;refine wpAny_Delete (wpAny_deleteEach_cons (wpAny_delete_Subscript (aw (ho pins s σ H _ I h) λu s1 zq=>?_)));obtain⟨x,H1,I1,rx,q1⟩:=zq;refine aw (hi pins s1 σ H1 _ I1 q1) λiv s2 zq=>?_;obtain⟨y,H2,I2,ry,a,b,kvs,k,ex,e,ey,eb,l,q2⟩:=zq;subst ex ey;obtain rfl:u=Value.ref a:=rx;obtain rfl:iv=Value.ref b:=ry;exact X4 hu I2 e eb l λs3 I3=>wpAny_deleteEach_nil ⟨σ,_,I3,q2.at⟩
end
end L2
namespace L2
open PySem PySem.W PySem.Spec PyProof.Rows
def Zcc:List V->Hp->VK->Prop:=λxs H Q=>∃(p:Addr) (kvs:List (Key×V)),xs=[.ref p]/\H p=some (.dK kvs)/\Nw H (.dK kvs) Q
theorem Xb:cV X (.type "dict") Zcc:=by
 rintro pins s σ H xs us Q I r ⟨p,kvs,rfl,hp,q⟩;obtain⟨u,rfl,ru⟩:=vals1 r;obtain rfl:u=Value.ref p:=ru;obtain⟨lim,Gu,vs,kv,dd⟩:=n5 I.av hp;have kl:=kv.length;exact PySem.kt_call_dict Gu dd (by omega) λh' d' sb=>⟨.ref s.heap.objs.size,_,I.laid (o:=.dK kvs) (λb o e=>(sb.2 b (Yy (Yp e))).trans (Yb _ e)) (Yd _) ⟨lim,beq_eq_false_iff_ne.mpr (Ne.symm (Yy I.big)),vs,kv,d'⟩,rfl,q.at _ (I.av.fresh (Yd _))⟩
theorem X5(val:Nat->Str)(wY:∀i v,P i v->∃t,v=.str (val i) t):CmpOf prog w A .Lt P (λi j=>decide ((val i).cps.toList<(val j).cps.toList)):=λi j vi vj s Q E hi hj h=>by
 obtain⟨t,rfl⟩:=wY i vi hi;obtain⟨u,rfl⟩:=wY j vj hj;exact richCompare_gives (op:=.Lt) (typeIs_str s _ t) (typeIs_str s _ u) F.slot_str_lt F.entry_str_lt (F.args_str_lt_2 _ _) (gives_str_lt _ _ t u) (λx=>nomatch x) h
theorem X6(val:Nat->Str)(wY:∀i v,P i v->∃t,v=.str (val i) t):CmpOf prog w A .Gt P (λi j=>decide ((val j).cps.toList<(val i).cps.toList)):=λi j vi vj s Q E hi hj h=>by
 obtain⟨t,rfl⟩:=wY i vi hi;obtain⟨u,rfl⟩:=wY j vj hj;exact richCompare_gives (op:=.Gt) (typeIs_str s _ t) (typeIs_str s _ u) F.slot_str_gt F.entry_str_gt (F.args_str_gt_2 _ _) (gives_str_gt _ _ t u) (λx=>nomatch x) h
def pX(a b:Str):Str:=if b.cps.toList<a.cps.toList then b else a
def pY(a b:Str):Str:=if a.cps.toList<b.cps.toList then b else a
theorem ZdY{a b:Value}{s:Shared}:(s.heap.push {cls:=.type "tuple",data:=.seq #[a,b]}).IsTuple s.heap.objs.size #[a,b]:=⟨_,Yt _ rfl,rfl,0,rfl⟩
section
variable {prog:Program}{w:World}{A:Around}{E:Value->Shared->Prop}{s:Shared}
theorem NA(i:Nat)(v:Value)(h:(#[Value.str a t,Value.str b u]:Array Value)[i]?=some v):∃t',v=.str (([a,b]:List Str).getD i "") t':=by
 match i,h with
 |0,h=>grind
 |1,h=>grind
 |i+2,h=>simp at h
theorem Mf{a b:Str}{t u:Tok}{Q:Value->Shared->Prop}{op:CmpOp}(f:Str->Str->Bool)(hh:A.handled=none)
  (cmp:CmpOf prog w A.in1 op (λi v=>(#[Value.str a t,Value.str b u]:Array Value)[i]?=some v) λi j=>f (([a,b]:List Str).getD i "") (([a,b]:List Str).getD j ""))
  (h:∀h' tk t',(∀c o,s.heap.get? c=some o->h'.get? c=some o)->Q (.str (if f b a=true then b else a) t') {s with heap:=h',toks:=tk}):
  wpAny (model prog w) A.in1 (pyIter (.ref s.heap.objs.size)) (λit dY=>∃I fp wr n P St bt,it=.ref I/\Walks prog w A.in1 I fp wr n P St/\St 0 dY.heap/\(∀b∈fp,b<dY.heap.objs.size)/\0<n/\CmpOf prog w A.in1 op P bt/\
   ∀v h' tk,P (argBest bt (n-1)) v->(∀b o,b∉wr->dY.heap.get? b=some o->h'.get? b=some o)->Q v {dY with heap:=h',toks:=tk}) E
   {s with heap:=s.heap.push {cls:=.type "tuple",data:=.seq #[.str a t,.str b u]}}:=by
 have hT:=ZdY (a:=.str a t) (b:=.str b u) (s:=s);refine wpAny_pyIter_tuple hT ?_;have hsz:(s.heap.push {cls:=.type "tuple",data:=.seq #[.str a t,.str b u]}).objs.size=s.heap.objs.size+1:=Jr ..;refine⟨_,[_,s.heap.objs.size],[_],_,_,_,_,rfl,Walks.tuple (A:=A.in1) hh _ s.heap.objs.size (by rw[hsz];exact Yy (Jg _)) #[.str a t,.str b u],
  ⟨⟨_,Yt _ rfl,rfl,rfl⟩,hT.push _⟩,λc hc=>?_,by simp,cmp,λv h' tk hP hk=>?_⟩
 ·show c<((s.heap.push _).push _).objs.size;rw[Jr,hsz];rcases Yo.mp hc with rfl|hc;·rw[hsz];exact Jg _
  ·rw[Ym.mp hc];exact Wt (Jg _)
 ·have hold:∀c o,s.heap.get? c=some o->h'.get? c=some o:=λc o e=>by
   refine hk c o (λhm=>?_) (Yb _ (Yb _ e));have:=Yp e;rw[Ym.mp hm,hsz] at this;exact Wa _ (Nat.lt_of_succ_lt this)
  have kO:(#[Value.str a t,Value.str b u]:Array Value)[if f b a=true then 1 else 0]?=some v:=hP;obtain⟨t',ev⟩:∃t',v=.str (if f b a=true then b else a) t':=by
   by_cases c:f b a=true
   ·rw[if_pos c] at kO⊢;exact⟨u,by simpa using kO.symm⟩
   ·rw[if_neg c] at kO⊢;exact⟨t,by simpa using kO.symm⟩
  subst ev;exact h h' tk t' hold
end
theorem X7(hc:X.calm=true):cV X (.builtin "min") (λxs H Q=>∃i j:Str,xs=[.str i,.str j]/\Q (.str (pX i j)) H):=by
 intro pins s σ H xs us Q I r h;obtain⟨i,j,rfl,q⟩:=h;obtain⟨u,w',rfl,⟨t,rfl⟩,⟨t',rfl⟩⟩:=vals2 r;exact call_min_two (Mf (λx y=>decide (x.cps.toList<y.cps.toList)) (I.ok.hd hc) (X5 _ λi v=>NA i v) λh' tk t2 k=>⟨.str (pX i j),H,I.kept k,⟨t2,by unfold pX;simp only[decide_eq_true_eq]⟩,q⟩)
theorem X8(hc:X.calm=true):cV X (.builtin "max") (λxs H Q=>∃i j:Str,xs=[.str i,.str j]/\Q (.str (pY i j)) H):=by
 intro pins s σ H xs us Q I r h;obtain⟨i,j,rfl,q⟩:=h;obtain⟨u,w',rfl,⟨t,rfl⟩,⟨t',rfl⟩⟩:=vals2 r;exact call_max_two (Mf (λx y=>decide (y.cps.toList<x.cps.toList)) (I.ok.hd hc) (X6 _ λi v=>NA i v) λh' tk t2 k=>⟨.str (pY i j),H,I.kept k,⟨t2,by unfold pY;simp only[decide_eq_true_eq]⟩,q⟩)
theorem ZdZ:bootBuiltins "max"=some (.builtin "max"):=by decide+kernel
theorem NB:cB X (binaryOp .Mult) (λx y H Q=>∃(z:Str) (n:Nat),x=.str z/\y=.int (n:Int)/\z.length<=100/\n<=100/\Q (.str (Txt.mul z (n:Int))) H):=by
 intro pins s σ H x y v u Q I rx ry h;obtain⟨z,n,rfl,rfl,lz,ln,q⟩:=h;obtain⟨t,rfl⟩:=rx;obtain⟨t',rfl⟩:=ry;have lm:z.length*n<=10000:=Y0 (Nat.mul_le_mul lz ln) (by omega);refine PySem.SB.mul ⟨?_,λh1 _=>?_,λ_ _=>?_⟩ λt2 k=>⟨.str (Txt.mul z (n:Int)),H,I.tok k,⟨t2,rfl⟩,q⟩;·rw[decide_eq_false (by omega),decide_eq_false (by omega)];rfl
 ·have hn:(1:Int)<=(n:Int):=by omega
  intro hgt;have h3:((2:Int)^63-1)/(n:Int)≥(2^63-1)/100:=by
   refine Int.le_ediv_of_mul_le (by omega) ?_
   grind
  have h4:((2:Int)^63-1)/100>100:=by decide
  omega
 ·rw[Y5];exact decide_eq_false (by rw[sizeLine_eq];omega)
def mZ:V->Bool
 |.int _=>true
 |.str _=>true
 |_=>false
theorem NC(h:mZ x=true):iU x=true:=by cases x<;>first|rfl|cases h
theorem Zd0(hx:mZ x=true)(hy:mZ y=true):jv x y=decide (x=y):=by
 cases x with
 |int a=>
  cases y with
  |int b=>
   show(a==b)=_
   grind
  |str b=>rfl
  |_=>cases hy
 |str a=>
  cases y with
  |int b=>rfl
  |str b=>
   show(a==b)=_
   grind
  |_=>cases hy
 |_=>cases hx
theorem Lm:∀{xs ys:List V},xs.length=ys.length->xs.all mZ=true->ys.all mZ=true->((List.range xs.length).all λj=>jv (xs.getD j .ay) (ys.getD j .ay))=decide (xs=ys)
 |[],[],_,_,_=>rfl
 |[],_::_,h,_,_=>by simp at h
 |_::_,[],h,_,_=>by simp at h
 |x::xs,y::ys,h,fx,fy=>by
  rw[Jf,Wl] at fx fy;rw[Wd,List.range_succ_eq_map,Jf,Hu];have e:((λj=>jv ((x::xs).getD j .ay) ((y::ys).getD j .ay))∘Nat.succ)=λj=>jv (xs.getD j .ay) (ys.getD j .ay):=rfl;rw[e,(Lm (by simpa using h) fx.2 fy.2)];show(jv x y&&_)=_;rw[Zd0 fx.1 fy.1,Wj,Wl,decide_eq_true_iff,decide_eq_true_iff,decide_eq_true_iff,List.cons.injEq]
def ZfK(K:PySem.W.Frag)(neg:Bool):R2:=λx y H Q=>∃(p q:Addr) (xs ys:List V),x=.ref p/\y=.ref q/\aB K H p xs/\aB K H q ys/\xs.all mZ=true/\ys.all mZ=true/\Q (.bl (if neg=true then !decide (xs=ys) else decide (xs=ys))) H
theorem ND(r:Vals xs us):∀{j:Nat} (h:j<us.length),RelV (xs.getD j .ay) us[j]:=by
 induction r with
 |nil=>grind
 |cons f _ ih=>grind
theorem NF{xs:List V}{j:Nat}(f:xs.all mZ=true)(h:j<xs.length):mZ (xs.getD j .ay)=true:=by
 grind
theorem Zd1{X:Cx}{K:PySem.W.Frag}(hK:X.K=K)(hu:X.A.units<cLine):cB X (compareOp .NotEq) (ZfK K true):=by
 subst hK;intro pins s σ H x y v u Q I rx ry h;obtain⟨p,q,xs,ys,rfl,rfl,h1,h2,f1,f2,k⟩:=h;cases rx;cases ry;obtain⟨ah,r1,p1,z1⟩:=I.tuple h1;obtain⟨iy,r2,p2,z2⟩:=I.tuple h2;have l1:=r1.length;have l2:=r2.length;show wpAny _ _ (richCompare .NotEq _ _) _ _ _;refine SeqAt.RcNeAt.tuples (e:=λj=>jv (xs.getD j .ay) (ys.getD j .ay)) p1 p2 hu (λj h1 h2=>?_) _ _ _ _ (cF I k ?_)
 ·have j1:j<ah.length:=by simpa using h1
  have j2:j<iy.length:=by simpa using h2
  have e1:=ND r1 j1;have e2:=ND r2 j2;have a1:ah.toArray[j]=ah[j]:=by simp
  have a2:iy.toArray[j]=iy[j]:=by simp
  rw[a1,a2];exact ON e1 e2 (NC (NF f1 (by omega))) (NC (NF f2 (by omega)))
 ·rw[if_pos rfl,Yu,Yu,←l1,←l2];by_cases hl:xs.length=ys.length
  ·rw[←hl,Nat.min_self,Lm hl f1 f2];simp
  ·grind
section
variable {X:Cx}
end
def uT(g:Nat->Value):Nat->Nat->List Value
 |0,_=>[]
 |n+1,i=>g i::uT g n (i+1)
theorem Fw(g:Nat->Value):∀(us:List Value) (i:Nat),(∀k,us[k]?=some (g (i+k))\/us.length<=k)->us=uT g us.length i
 |[],_,_=>rfl
 |a::r,i,h=>by
  have e:a=g i:=by
   rcases h 0 with z|z;·grind
   ·cases z
  refine congr (congrArg _ e) (Fw g r (i+1) λk=>?_);have:=h (k+1)
  grind
inductive bM(K:PySem.W.Frag)(x:Str)(st:Stmt)(f:Addr):Prop
 |mk {od an:Option Addr} {sl:Array (Option Value)} {oc kV dc pm cd ct:Value} (a:nsIn K mainGlobals x=some (some (.ref f))) (l:K.lookup f=some ⟨oc,od,.func (fnOf x x (kF st) (ie st) (aG st) .none kV dc pm an cd ct),sl⟩) (c:codeIn K cd x=true) (k:keepIn K (.ref f)=true):bM K x st f
inductive cM(K:PySem.W.Frag)(C:Addr)(x q:Str)(st:Stmt)(f:Addr):Prop
 |mk {od an:Option Addr} {sl:Array (Option Value)} {oc kV dc pm cd ct:Value} (a:PySem.W.findIn K (.ref C) x=some (some (.ref f))) (b:isFn K (.ref f)=true) (l:K.lookup f=some ⟨oc,od,.func (fnOf x q (kF st) (ie st) (aG st) .none kV dc pm an cd ct),sl⟩) (c:codeIn K cd q=true) (k:keepIn K (.ref f)=true):cM K C x q st f
inductive iH(P:Program)(w:World)(K:PySem.W.Frag)(mg:Str->Option Value)(base:Heap):Prop
 |mk {h:Heap} (X:K.In h) (G:h.Ns mainGlobals mg):iH P w K mg base
abbrev kT(x q:Str)(st:Stmt)(ps:List Str):Prop:=∀(kV doc pm:Value) (an:Option Addr) (aA ct:Value) (g:Nat->Value),bindArgs (fnOf x q (kF st) (ie st) (aG st) .none kV doc pm an aA ct) ⟨uT g ps.length 0,[]⟩=pure (ps.zip (uT g ps.length 0))
theorem kT.at{x q:Str}{st:Stmt}{ps:List Str}(b:kT x q st ps)(kV doc pm:Value)(an:Option Addr)(aA ct:Value)(us:List Value)(hl:us.length=ps.length):bindArgs (fnOf x q (kF st) (ie st) (aG st) .none kV doc pm an aA ct) ⟨us,[]⟩=pure (ps.zip us):=by
 have e:=Fw (λk=>us.getD k .none) us 0 λk=>by
  grind
 grind
section
variable {P:Program}{w:World}{K:PySem.W.Frag}{mg:Str->Option Value}{base:Heap}{C f:Addr}{x q:Str}{st:Stmt}{ps:List Str}{n:Nat}{sp:Sp}
theorem iH.p(D:iH P w K mg base)(p:bM K x st f)(b:kT x x st ps:=by intro _ _ _ _ _ _ _;rfl):∃fd,aM K x x st f fd/\Binds K fd ps []/\keepIn K (.ref f)=true/\mg x=some (.ref f):=by
 obtain⟨X,G⟩:=D;obtain⟨a,l,c,k⟩:=p;exact⟨_,wj l c k,(wj l c k).binds (kT.at b),k,mg_of X G a⟩
theorem iH.d(D:iH P w K mg base)(p:bM K x st f)(o:∀fd,aM K x x st f fd->aE P w K mg base aL n f fd ps sp)(b:kT x x st ps:=by intro _ _ _ _ _ _ _;rfl):HasFn P w K mg base n x ps sp:=by
 obtain⟨fd,F,b,k,m⟩:=D.p p b;exact⟨f,fd,o _ F,b,k,m⟩
theorem iH.dX(D:iH P w K mg base)(p:bM K x st f)(o:∀fd,aM K x x st f fd->aE P w K mg base (dP P w) n f fd ps sp)(b:kT x x st ps:=by intro _ _ _ _ _ _ _;rfl):Ac P w K mg base n x ps sp:=by
 obtain⟨fd,F,b,k,m⟩:=D.p p b;exact⟨f,fd,o _ F,b,k,m⟩
theorem cM.p(p:cM K C x q st f)(b:kT x q st ps):∃fd,aM K x q st f fd/\Binds K fd ps []/\Meth K C x f/\PySem.W.findIn K (.ref C) x=some (some (.ref f))/\isFn K (.ref f)=true:=by
 obtain⟨a,e,l,c,k⟩:=p;exact⟨_,wj l c k,(wj l c k).binds (kT.at b),⟨a,e,k⟩,a,e⟩
theorem iH.m(_:iH P w K mg base)(kc:fF K C)(p:cM K C x q st f)(o:∀fd,aM K x q st f fd->aE P w K mg base aL n f fd ps sp)(b:kT x q st ps:=by intro _ _ _ _ _ _ _;rfl):cz P w K mg base n x C ps sp:=by
 obtain⟨fd,F,b,m,_,_⟩:=p.p b;exact⟨f,fd,kc,m,o _ F,b⟩
theorem iH.mX(_:iH P w K mg base)(kc:fF K C)(p:cM K C x q st f)(o:∀fd,aM K x q st f fd->aE P w K mg base (dP P w) n f fd ps sp)(b:kT x q st ps:=by intro _ _ _ _ _ _ _;rfl):O8 P w K mg base n x C ps sp:=by
 obtain⟨fd,F,b,m,_,_⟩:=p.p b;exact⟨f,fd,kc,m,o _ F,b⟩
theorem iH.i(_:iH P w K mg base){y:Str}(m:mg y=some (.ref C))(cb:makesIn K C=true)(cc:keepIn K (.ref C)=true)(p:cM K C "__init__" q st f)(o:∀fd,aM K "__init__" q st f fd->aE P w K mg base aL n f fd ps sp)(b:kT "__init__" q st ps:=by intro _ _ _ _ _ _ _;rfl):uq P w K mg base n y C ps sp:=by
 obtain⟨fd,F,b,_,a,e⟩:=p.p b;exact⟨f,fd,⟨cb,a,e,cc⟩,o _ F,b,m⟩
end
end L2
namespace L2
open PySem PySem.Spec PyProof.Rows
section
variable {X:Cx}{K:PySem.W.Frag}
theorem bW(i:Nat){x:Str}{e:Expr}{te:TE}{pos pos':Pos}(hN:X.N.Nodup)(he:PE X e te)(hi:X.N[i]?=some x:=by rfl)(hx:Loc X.env.scope x:=by exact Or.inl rfl)(hs:swapsWith e (some (.Name x pos')) pos.line X.env=pure false:=by rfl)
  (hf:X.fn x=true\/X.env.scope.names.lookup x=some .local:=by first|exact .inl rfl|exact .inr rfl|assumption):PS X (.Assign [.Name x pos'] e pos) (uw te (rA i)):=gc hN hi hx he hs hf
theorem bF(i:Nat){x:Str}{pos:Pos}(hN:X.N.Nodup)(hi:X.N[i]?=some x:=by rfl)(hx:Loc X.env.scope x:=by exact Or.inl rfl)
  (hf:X.fn x=true\/X.env.scope.names.lookup x=some .local:=by first|exact .inl rfl|exact .inr rfl|assumption):PG X (.Name x pos) (rA i):=pH hN hi hx hf
theorem pF(K:PySem.W.Frag)(i:Nat){x f:Str}{p pos:Pos}(h:X.K=K:=by rfl)(hN:X.N[i]?=some x:=by rfl)(hv:rX X.env.scope x:=by first|exact Or.inl rfl|exact Or.inr (Or.inl rfl)|exact Or.inr (Or.inr rfl))(hd:(x==("__debug__":Str))=false:=by decide)
  (eV:(x==("__classdict__":Str))=false:=by decide)(hb:attributeBase (.Name x p) f X.env (eval (.Name x p) X.env)=eval (.Name x p) X.env:=by rfl):PE X (.Attribute (.Name x p) f pos) (Gi K (fD i) f):=v9 h (pv i hN hv hd eV) hb
theorem aU{k j:Nat}{x:Str}{ps:List Str}{sp:Sp}{p pos:Pos}{e:Expr}{es:List Expr}{t:TA}(h:HasFn X.prog X.w X.K X.mg X.base k x ps sp)(hr:cA j X.A)(ha:PA X (e::es) t)(hj:k<=j:=by omega)(hg:Gl X x:=by rfl)
  (eC:(x==("__debug__":Str))=false:=by decide)(he:starEach (e::es) X.env=(false,eval e X.env)::starEach es X.env:=by rfl)(bN:(backTo pos (starEach es X.env)).any (·.1)=false:=by rfl):
  PE X (.Call (.Name x p) (e::es) [] pos) (zP sp [] E0 t):=FU h hr hj hg ha eC he bN
theorem aY{r:R2}{a b:Expr}{ta tb:TE}{pos:Pos}(hr:iE X r)(ha:PE X a ta)(hb:PE X b tb)(hs:Nf b:=by exact λ_ _=>rfl):PE X (.Subscript a b pos) (i8 r ta tb):=Qd hr ha hb hs
end
section
variable {P:Program}{w:World}{K:PySem.W.Frag}{mg:Str->Option Value}{base:Heap}
theorem aM.o{x qual:Str}{st:Stmt}{f:Addr}{fd:FuncData}{N ps:List Str}{k:Nat}{sp:Sp}(F:aM K x qual st f fd)(S:aP N ps (aG st))
  (nW:∀(aA:Value) (A:Around) (outer:List Env) (s:Shared) (H:Hp) (vs:List V) (Q:VK) (E:XK),cA k (A.deeper (envOfC qual (aG st) s.heap.objs.size f aA))->sp vs H Q E->
   ∃t,eU (jO aL P w K mg base N qual (aG st) f aA A outer s H E).mV (ie st) t/\t {nx:=λ_ H'=>Q .ay H',rt:=Q} (start N vs) H)
  (len:∀vs H Q E,sp vs H Q E->vs.length=ps.length:=by intro vs H Q E h;first|(cases h;subst_vars;rfl)|((repeat obtain⟨_,h⟩:=h);subst_vars;rfl)):aE P w K mg base aL (k+1) f fd ps sp:=F.ok S len nW
end
theorem aP.aV{N P:List Str}{sc:Scope}(a:sc.kind=.function:=by rfl)(b:sc.isCoroutine=false:=by rfl)(c:sc.isGenerator=false:=by rfl)(d:N.Nodup:=by decide+kernel)(e:N.take P.length=P:=by rfl)(f:∀x∈P,sc.names.lookup x=some .local\/sc.names.lookup x=some .cell:=by decide+kernel)(g:∀y∈sc.names,y.2≠.free:=by decide+kernel):aP N P sc:=⟨a,b,c,d,e,f,g⟩
theorem yM.g_{X:Cx}{scope:Scope}{cl:List (Str×Addr)}{x:Str}{fr:List (Str×Nat)}(sub:pI X.env.cells cl)(cK:pJ X scope cl fr)(a:closureFor scope X.env=pure cl:=by with_unfolding_all rfl)(b:scope.kind=.function:=by rfl)(c:∀y∈scope.names,y.2=.local->scope.names.lookup y.1=some .local:=by decide+kernel)(d:scope.names.lookup x=some .local:=by rfl)
  (e:∀y∈scope.names,y.2≠.cell:=by decide+kernel)(f:(scope.names.all λy=>!(y.2==.free)||(cl.lookup y.1).isSome)=true:=by rfl)(g:(x::fr.map (·.1)).Nodup:=by decide+kernel):yM X scope cl x fr:=⟨a,sub,b,c,d,e,f,cK,g⟩
theorem oZ.g_{X:Cx}{scope:Scope}{cl:List (Str×Addr)}{xs:List Str}{fr:List (Str×Nat)}(sub:pI X.env.cells cl)(cK:pJ X scope cl fr)(a:closureFor scope X.env=pure cl:=by with_unfolding_all rfl)(b:scope.kind=.function:=by rfl)(c:∀y∈scope.names,y.2=.local->scope.names.lookup y.1=some .local:=by decide+kernel)
  (e:∀y∈scope.names,y.2≠.cell:=by decide+kernel)(f:(scope.names.all λy=>!(y.2==.free)||(cl.lookup y.1).isSome)=true:=by rfl)(g:(xs++fr.map (·.1)).Nodup:=by decide+kernel):oZ X scope cl xs fr:=⟨a,sub,b,c,e,f,cK,g⟩
end L2
namespace L2
open PySem PySem.W PySem.Spec PyProof.Rows
inductive qm(K:PySem.W.Frag):List Str->Prop
 |nil:qm K []
 |cons {x:Str} {l:List Str} (h:nsIn K mainGlobals x=some none) (t:qm K l):qm K (x::l)
theorem qm.at{K:PySem.W.Frag}{x:Str}:∀{l:List Str},qm K l->x∈l->nsIn K mainGlobals x=some none
 |_,.cons h t,m=>by
  cases m with
  |head=>exact h
  |tail _ m=>exact t.at m
theorem qm.bl{K:PySem.W.Frag}{h:Heap}{mg:Str->Option Value}(z:qm K ["len","abs","list","range","tuple","any","all","isinstance","bool","int","str","sorted","min","max","sum","dict","reversed","ValueError"])(X:K.In h)(G:h.Ns mainGlobals mg):Bl mg:=by
 constructor<;>exact PySem.W.mg_none_of X G (z.at (by decide))
inductive xJ(K:PySem.W.Frag)(x:Str)(C:Addr):Prop
 |mk (a:nsIn K mainGlobals x=some (some (.ref C))) (b:makesIn K C=true) (c:keepIn K (.ref C)=true):xJ K x C
theorem iH.j{P:Program}{w:World}{K:PySem.W.Frag}{mg:Str->Option Value}{base:Heap}{C f:Addr}{y q:Str}{st:Stmt}{ps:List Str}{n:Nat}{sp:Sp}(D:iH P w K mg base)(g:xJ K y C)(p:cM K C "__init__" q st f)(o:∀fd,aM K "__init__" q st f fd->aE P w K mg base aL n f fd ps sp)(b:kT "__init__" q st ps:=by intro _ _ _ _ _ _ _;rfl):uq P w K mg base n y C ps sp:=by
 obtain⟨a,m,k⟩:=g;exact D.i (let⟨X,G⟩:=D;mg_of X G a) m k p o b
inductive xK(K:PySem.W.Frag)(x q:Str)(cs:List Addr)(st:Stmt)(C f:Addr):Prop
 |mk {N t:Addr} {nm qn:Str} {bs sub:List Value} {sn:List Str} {ab:Bool} {col:Option Bool} {dd:Option Addr} {k0 k1 k2 k3 k5:Option Value} {od an td:Option Addr} {sl ts:Array (Option Value)} {oc kV dc pm cd ct tc it:Value} {tn:Nat}
  (a:nsIn K mainGlobals x=some (some (.ref C))) (l:K.lookup C=some (excClassObj nm qn C N bs (cs.map Value.ref++oq) true sn sub ab col dd k0 k1 k2 k3 k5 "ValueError.__new__"))
  (g1:PySem.W.findIn K (.ref C) "__getattribute__"=some (some (.builtin "BaseException.__getattribute__"))) (g2:PySem.W.findIn K (.ref C) "__getattr__"=some none) (g3:PySem.W.findIn K (.ref C) "__setattr__"=some (some (.builtin "object.__setattr__"))) (g4:PySem.W.findIn K (.ref C) "__class__"=some (some (.builtin "object.__class__")))
  (g5:specialIn K (.builtin "object.__class__") "__get__"=some (some (.builtin "getset_descriptor.__get__"))) (g6:takesIn K (.builtin "object.__class__")=some true)
  (ci:PySem.W.findIn K (.ref C) "__init__"=some (some (.ref f))) (cn:isFn K (.ref f)=true) (ck:keepIn K (.ref C)=true)
  (fl:K.lookup f=some ⟨oc,od,.func (fnOf "__init__" q (kF st) (ie st) (aG st) (.ref t) kV dc pm an cd ct),sl⟩) (fc:codeIn K cd q=true) (fk:keepIn K (.ref f)=true) (ft:K.lookup t=some ⟨tc,td,.seq #[it] tn,ts⟩)
  (na:PySem.W.findIn K (.ref C) "word"=some none):xK K x q cs st C f
abbrev BdE(q:Str)(st:Stmt)(ps:List Str):Prop:=∀(s:Shared) (kV doc pm it tc:Value) (td:Option Addr) (ts:Array (Option Value)) (tn:Nat) (t:Addr) (an:Option Addr) (aA ct:Value) (g:Nat->Value),s.heap.get? t=some ⟨tc,td,.seq #[it] tn,ts⟩->BindsTo s (fnOf "__init__" q (kF st) (ie st) (aG st) (.ref t) kV doc pm an aA ct) ⟨uT g ps.length 0,[]⟩ (ps.zip (uT g ps.length 0))
theorem xK.b{K:PySem.W.Frag}{h:Heap}{mg:Str->Option Value}{x q:Str}{cs:List Addr}{st:Stmt}{C f:Addr}(p:xK K x q cs st C f)(X:K.In h)(G:h.Ns mainGlobals mg)(ps:List Str)(b:BdE q st ps:=by intro _ _ _ _ _ _ _ _ _ _ _ _ _ _ z;exact BindsTo.of_defaults rfl z rfl rfl rfl):
  ∃fd,wX K "__init__" q st f fd/\Binds K fd ps []/\du K C/\uz K C f/\mg x=some (.ref C)/\cZ K C "word":=by
 obtain⟨a,l,g1,g2,g3,g4,g5,g6,ci,cn,ck,fl,fc,fk,ft,na⟩:=p;have xa:du K C:=⟨⟨_,_,_,_,cs,_,_,_,_,_,_,_,_,_,_,l⟩,g1,g2,g3,g4,g5,g6⟩;refine⟨_,⟨⟨_,_,_,_,_,_,_,_,_,_,rfl,fl,fc⟩,fk⟩,λs us KX hl=>?_,xa,uz.of xa ci cn ck,mg_of X G a,na⟩;rw[Wb] at hl⊢;have e:=Fw (λk=>us.getD k .none) us 0 λk=>by
  grind
 rw[e,hl];exact b s _ _ _ _ _ _ _ _ _ _ _ _ _ (KX _ _ ft)
end L2
namespace L2
open PySem PySem.Spec PyProof.Rows
section
variable {X:Cx}{a b e e2:Expr}{ta tb te SI:TE}{p pos:Pos}
theorem dh(K:PySem.W.Frag)(bl:Bl X.mg)(he:PE X e te)(h:X.K=K:=by rfl)(hg:Gl X "len":=by rfl)(c7:starEach [e] X.env=(false,eval e X.env)::starEach [] X.env:=by rfl)(bN:(backTo pos (starEach [] X.env)).any (·.1)=false:=by rfl):PE X (.Call (.Name "len" p) [e] [] pos) (lU (wW K) (gf te iZ)):=ia (Zfu h) hg bl.zU zE (aa he ag c7) (by decide) (by decide) c7 bN
theorem kU(K:PySem.W.Frag)(bl:Bl X.mg)(he:PE X e te)(h2:PE X e2 SI)(h:X.K=K:=by rfl)(hg:Gl X "isinstance":=by rfl)(qi:starEach [e2] X.env=(false,eval e2 X.env)::starEach [] X.env:=by rfl)(c7:starEach [e,e2] X.env=(false,eval e X.env)::starEach [e2] X.env:=by rfl)(bN:(backTo pos (starEach [e2] X.env)).any (·.1)=false:=by rfl):PE X (.Call (.Name "isinstance" p) [e,e2] [] pos) (lU (Ab K) (gf te (gf SI iZ))):=ia (ZbM h) hg bl.JP JK (aa he (aa h2 ag qi) c7) (by decide) (by decide) c7 bN
theorem iL(K:PySem.W.Frag)(h:X.K=K:=by rfl):iE X (ux K):=Zam h
theorem iT(K:PySem.W.Frag)(h:X.K=K:=by rfl):iE X (z8 K):=ZbL h
theorem bp{op:CmpOp}{r:R2}(ho:cB X (compareOp op) r)(ha:PE X a ta)(hb:PE X b tb)(hm:behindInMarks op b=false:=by exact OH _):PT X (.Compare a [op] [b] pos) (FR (i8 r ta tb)):=ib ho ha hb hm
theorem eG{op:CmpOp}{r:R2}(ho:cB X (compareOp op) r)(ha:PE X a ta)(hb:PE X b tb)(hm:behindInMarks op b=false:=by exact OH _):PE X (.Compare a [op] [b] pos) (i8 r ta tb):=zd ho ha hb hm
end
end L2
namespace Hv
open PySem L2
variable {P:Program}{w:World}{K:PySem.W.Frag}{mg:Str->Option Value}{base:Heap}{f C CL CJ:Addr}{fd:FuncData}
def top(i:Nat):Stmt:=PySem.Challenge.pw_kinhearth_k29_whole_open_sections.main.body.getD i (.Pass ⟨0,0,0,0⟩)
abbrev Ee:Stmt:=top 19
abbrev E2:Stmt:=top 20
abbrev EB:Stmt:=top 21
abbrev Fx:Stmt:=top 23
abbrev CP:Stmt:=top 25
abbrev CQ:Stmt:=top 75
abbrev BY:Stmt:=top 76
abbrev Ef:Stmt:=top 77
abbrev DH:Stmt:=top 22
abbrev Cy:Stmt:=top 24
abbrev DI:Stmt:=top 2
abbrev EC:Stmt:=top 34
abbrev DJ:Stmt:=top 35
abbrev DK:Stmt:=top 38
abbrev C9:Stmt:=top 39
abbrev C_:Stmt:=top 40
abbrev Eg:Stmt:=top 47
abbrev Ce:Stmt:=top 48
abbrev Dc:Stmt:=top 49
abbrev Dd:Stmt:=top 50
abbrev Cf:Stmt:=top 51
abbrev Cg:Stmt:=top 52
abbrev Ci:Stmt:=top 53
abbrev BZ:Stmt:=top 54
abbrev De:Stmt:=top 70
abbrev Eh:Stmt:=top 56
abbrev KG:Stmt:=top 79
abbrev Ka:Stmt:=top 80
abbrev KH:Stmt:=top 81
abbrev Ei:Stmt:=top 82
abbrev Cz:Stmt:=top 83
abbrev Df:Stmt:=top 84
abbrev Dg:Stmt:=top 85
abbrev yD:Stmt:=top 86
abbrev DL:Stmt:=top 87
abbrev CA:Stmt:=top 88
abbrev DM:Stmt:=top 89
abbrev DN:Stmt:=top 90
abbrev ED:Stmt:=top 91
abbrev DO:Stmt:=top 92
abbrev Dh:Stmt:=top 93
abbrev DP:Stmt:=top 94
abbrev DQ:Stmt:=top 95
abbrev DR:Stmt:=top 96
abbrev Ej:Stmt:=top 97
abbrev DS:Stmt:=top 98
abbrev Cj:Stmt:=top 99
abbrev rF:Stmt:=top 100
abbrev Di:Stmt:=inClass (top 74) 0
abbrev Dj:Stmt:=inClass (top 74) 1
abbrev CS:Stmt:=inClass (top 58) 0
abbrev Dk:Stmt:=inClass (top 58) 1
abbrev Dl:Stmt:=inClass (top 58) 2
abbrev Dm:Stmt:=inClass (top 58) 3
abbrev B0:Stmt:=inClass (top 58) 4
abbrev CT:Stmt:=inClass (top 58) 5
abbrev BQ:Stmt:=inClass (top 58) 6
abbrev CB:Stmt:=inClass (top 58) 8
abbrev Ck:Stmt:=inClass (top 58) 12
abbrev BA:Stmt:=inClass (top 58) 13
abbrev CU:Stmt:=inClass (top 58) 14
abbrev CC:Stmt:=inClass (top 69) 0
abbrev B3:Stmt:=inClass (top 69) 1
abbrev CV:Stmt:=inClass (top 69) 2
abbrev CW:Stmt:=inClass (top 69) 3
abbrev CD:Stmt:=inClass (top 69) 4
abbrev CF:Stmt:=inClass (top 69) 5
abbrev B4:Stmt:=inClass (top 69) 10
abbrev BR:Stmt:=inClass (top 69) 11
abbrev VA:Stmt:=inClass (top 69) 12
abbrev CY:Stmt:=inClass (top 69) 13
abbrev BG:Stmt:=inClass (top 69) 17
abbrev BD:Stmt:=inClass (top 69) 18
abbrev Cm:Stmt:=inClass (top 69) 19
abbrev BU:Stmt:=inClass (top 69) 20
abbrev Cn:Stmt:=inClass (top 69) 21
abbrev B5:Stmt:=inClass (top 69) 22
abbrev BH:Stmt:=inClass (top 69) 23
abbrev BM:Stmt:=inClass (top 69) 24
abbrev BN:Stmt:=inClass (top 69) 16
abbrev B6:Stmt:=inClass (top 4) 0
abbrev B7:Stmt:=inClass (top 11) 0
abbrev Qz:Stmt:=KG
abbrev Pb:Stmt:=Ka
abbrev QA:Stmt:=KH
section
theorem UT:aP ["self","word","why"] ["self","word","why"] (aG B6):=.aV
theorem Xc(F:wX K "__init__" "KinError.__init__" B6 f fd)(bl:Bl mg):aE P w K mg base aL 1 f fd ["self","word","why"] (Qp K):=by
 refine F.ok UT (λvs H Q E h=>?_) (λaA A outer s H vs Q E hr h=>?_)
 ·obtain⟨a,C,wd,y,rfl,_⟩:=h;rfl
 obtain⟨a,C,wd,y,rfl,ha,xa,na,lw,ly,q⟩:=h;refine⟨_,(aj (bU (Zau rfl bl.VW (aa (pv 0) (aa (Z_ (Ed (K:=K) rfl (Ex (pv 2) (λ_=>rfl))) (ZbS (EZ (O3 hr (pv 1)) (EZ a9 (EZ (O3 hr (pv 2)) Zdi)))) (pv 1)) ag)))) (aq (ZbN (pv 0) (pv 1)))),?_⟩;have fin:∀t:Str,Fp K [.ref a,.str t] H λ_ H1=>Qi K (fD 0) (fD 1) "word" {nx:=λ_ H'=>Q .ay H',rt:=Q} [some (.ref a),some (.str wd),some (.str y)] H1:=λt=>
  ⟨a,C,.str t,rfl,xa,ha,_,rfl,_,rfl,a,C,rfl,xa,na,.inl ⟨ha,λd hd nd=>q d hd nd⟩⟩
 have lim:(1000200:Nat)<=sizeLine:=by rw[sizeLine_eq];omega
 refine⟨_,rfl,_,rfl,_,⟨by omega,rfl⟩,?_⟩;refine bB (λc=>?_) (λc=>?_)
 ·refine⟨_,rfl,.inl ⟨wd,rfl,by omega,wd,rfl,?_,?_⟩⟩
  ·rw[strLen_append];show 0+wd.length<=sizeLine;omega
  refine⟨_,rfl,?_,?_⟩
  ·rw[strLen_append,strLen_append];show 0+wd.length+2<=sizeLine;omega
  refine⟨_,rfl,.inl ⟨y,rfl,by omega,y,rfl,?_,?_,fin _⟩⟩
  ·rw[strLen_append,strLen_append,strLen_append];show 0+wd.length+2+y.length<=sizeLine;omega
  ·rw[strLen_append,strLen_append,strLen_append];show 0+wd.length+2+y.length<=sizeLine;omega
 ·exact⟨_,rfl,fin _⟩
end
section
variable {fk ck c:Addr}{SJ:FuncData}
theorem UU:aP ["self","why"] ["self","why"] (aG B7):=.aV
theorem Xd(F:wX K "__init__" "NoPerson.__init__" B7 f fd)(Dn:FW K ck "__init__" fk)(X9:aE P w K mg base aL 1 fk SJ ["self","word","why"] (Qp K))(DT:Binds K SJ ["self","word","why"] [])(tP:mg "KinError"=some (.ref ck))(xa:du K c)(na:cZ K c "word"):
  aE P w K mg base aL 2 f fd ["self","why"] (Qq "no person" c):=by
 refine F.ok UU (λvs H Q E h=>?_) (λaA A outer s H vs Q E hr h=>?_)
 ·obtain⟨a,y,rfl,_⟩:=h;rfl
 obtain⟨a,y,rfl,ha,ly,q⟩:=h;refine⟨_,(aq (bU (Zas Dn X9 (hr.mono (by omega)) rfl tP DT .nil wD (aa (pv 0) (aa a9 (aa (pv 1) ag)))))),?_⟩;exact⟨_,rfl,_,rfl,a,c,_,y,rfl,ha,xa,na,by decide,ly,λd hd nd=>q d hd nd⟩
end
section
theorem Zd2:aP ["_law_script","_law_k"] ["_law_script","_law_k"] (aG Qz):=⟨rfl,rfl,rfl,by decide+kernel,rfl,by decide+kernel,by decide+kernel⟩
theorem Zcd(F:aM K "_law_cell" "_law_cell" Qz f fd)(ml:mg "len"=none):aE P w K mg base aL 1 f fd ["_law_script","_law_k"] (OW K):=by
 refine F.ok Zd2 (λvs H Q E h=>?_) (λaA A outer s H vs Q E hr h=>?_)
 ·obtain⟨a,ns,k,rfl,_⟩:=h;rfl
 obtain⟨a,ns,k,rfl,hS,h0,q⟩:=h;refine⟨_,aj (aS (bp mO (pv 1) (ia JO rfl ml zE (aa (pv 0) ag))) (aq (aI (Qd EX (pv 0) (pv 1) (λ_ _=>rfl)))) aW)
  (aq (aI aN)),?_⟩
 refine⟨_,rfl,_,rfl,a,_,rfl,.inl hS,_,_,rfl,rfl,_,rfl,?_⟩;refine bB (λc=>?_) (λc=>?_)
 ·have c':k<(((ns.map V.int).length:Nat):Int):=of_decide_eq_true c;rw[(Ya _)] at c';exact⟨_,rfl,_,rfl,a,_,_,_,rfl,rfl,hS,mI h0 c',q _⟩
 ·exact q _
theorem nO:aP ["_law_cell_here","_law_parts","_law_one","_law_two","_law_six","_law_found","_law_part"] ["_law_cell_here","_law_parts"] (aG Pb):=⟨rfl,rfl,rfl,by decide+kernel,rfl,by decide+kernel,by decide+kernel⟩
theorem ZaY(F:aM K "_law_draws" "_law_draws" Pb f fd)(ma:mg "abs"=none):aE P w K mg base aL 1 f fd ["_law_cell_here","_law_parts"] (zg K):=by
 refine F.ok nO (λvs H Q E h=>?_) (λaA A outer s H vs Q E hr h=>?_)
 ·obtain⟨c,a,ps,rfl,_⟩:=h;rfl
 obtain⟨c,a,ps,rfl,hS,hps,hlen,q⟩:=h;refine⟨_,aj (aS (bp mO (ia LS rfl ma OT (aa (pv 0) ag)) (aZ OF aN aN))
   (aj (gc (i:=2) nO.nd rfl (Or.inl rfl) (aZ dU (aZ ig (aZ nR (pv 0) aN) aN) aN))
   (aj (gc (i:=3) nO.nd rfl (Or.inl rfl) (aZ dU (aZ ig (aZ ig (aZ nR (pv 2) (pv 2)) (aZ nR aN (pv 2))) (pv 0)) aN))
   (aj (gc (i:=4) nO.nd rfl (Or.inl rfl) (aZ dU (aZ ig (aZ nR (pv 3) aN) (pv 2)) aN))
   (aq (gc (i:=0) nO.nd rfl (Or.inl rfl) (aZ ig (pv 3) (aZ nR aN (aZ ig (pv 4) (aZ nR aN (pv 2))))))))))
   (aq (gc (i:=0) nO.nd rfl (Or.inl rfl) (aZ zB (ia LS rfl ma OT (aa (pv 0) ag)) (aZ OF aN aN)))))
  (aj (gc (i:=5) nO.nd rfl (Or.inl rfl) (we ag))
  (aj (gP PassesOwn.never rfl (M5 (pv 1)) (pH (i:=6) nO.nd rfl (Or.inl rfl))
   (aj (bU (jL plainAttrs_list PySem.F.slot_list_append PySem.F.type_list_append vS (pv 5) (aa (aZ dU (pv 0) (pv 6)) ag)))
   (aq (gc (i:=0) nO.nd rfl (Or.inl rfl) (aZ zb (pv 0) (pv 6))))))
  (aq (aI (pv 5))))),?_⟩
 refine iQ (λσ H'=>H'=H/\∃c' o2 o3 o4,σ=[some (.int c'),some (.ref a),o2,o3,o4,none,none]) (λnx k=>?_) ?_
 ·refine⟨_,rfl,c,rfl,_,_,rfl,rfl,⟨by decide,by decide,by decide⟩,_,_,rfl,rfl,_,rfl,?_⟩;refine bB (λ_=>?_) (λ_=>?_)
  ·refine⟨_,rfl,_,_,rfl,rfl,.inr ⟨by decide,by decide⟩,_,_,rfl,rfl,_,_,rfl,rfl,(by show(0:Int)<2147483647;decide),?_⟩;refine⟨_,rfl,_,rfl,_,_,rfl,rfl,.inl (Zc_ _ (by decide) (by decide)),_,rfl,_,_,rfl,rfl,.inl ⟨by decide,by decide⟩,_,_,rfl,rfl,_,rfl,_,_,rfl,rfl,_,_,rfl,rfl,(by show(0:Int)<2147483399;decide),?_⟩;refine⟨_,rfl,_,_,rfl,rfl,.inr ⟨by decide,by decide⟩,_,rfl,_,_,rfl,rfl,_,_,rfl,rfl,(by show(0:Int)<1000000007;decide),?_⟩;refine⟨_,rfl,_,rfl,_,rfl,_,_,rfl,rfl,.inl ⟨by decide,by decide⟩,_,_,rfl,rfl,_,_,rfl,rfl,.inl ⟨by decide,by decide⟩,_,_,rfl,rfl,k _ _ ⟨rfl,_,_,_,_,rfl⟩⟩
  ·exact⟨_,rfl,c,rfl,_,_,rfl,rfl,⟨by decide,by decide,by decide⟩,_,_,rfl,rfl,k _ _ ⟨rfl,_,_,_,_,rfl⟩⟩
 ·rintro σ H0 ⟨rfl,c',o2,o3,o4,rfl⟩;refine⟨(by show 0<=sizeLine;decide),λl hl=>?_⟩;have s1:ai H0 (upd H0 l (.lst [])):=bY hl _;refine⟨_,rfl,a,rfl,⟨_,s1.seq hS⟩,kA (K:=K) (a:=a) (xs:=ps.map V.int) (λi σ H2=>∃c o2 o3 o4 o6 ds,σ=[some (.int c),some (.ref a),o2,o3,o4,some (.ref l),o6]/\ai H0 H2/\H2 l=some (.lst (ds.map V.int))/\Paired Bd ds (ps.take i))
   ⟨c',o2,o3,o4,none,[],rfl,s1,aO,by rw[List.take_zero];exact .nil⟩ (λi σ H2 _ ⟨_,_,_,_,_,_,_,s2,_⟩=>s2.seq hS) ?_ ?_⟩
  ·rintro i y σ H2 hi ⟨c,o2,o3,o4,o6,ds,rfl,s2,h2,b2⟩;obtain⟨p,rfl,hp⟩:=mC hi;have dE:i<ps.length:=(Yj.mp hp).1;obtain⟨p0,p1⟩:=hps p (Yi hp);have dl:=b2.length;rw[Y9] at dl;refine⟨_,rfl,.inl ⟨rfl,_,ak.of h2⟩,_,rfl,_,rfl,_,_,rfl,rfl,p0,l,_,_,rfl,rfl,h2,(by rw[Ya];exact jF (by omega)),?_⟩;refine⟨_,rfl,_,rfl,_,_,rfl,rfl,⟨p0,p1⟩,?_⟩;refine⟨_,o2,o3,o4,_,ds++[c % p],rfl,λb o e=>?_,?_,?_⟩
   ·rw[aJ (bT e hl)];exact s2 b o e
   ·rw[aO,LY]
   ·rw[Y2,hp];exact b2.snoc ⟨W5 _ (G1 p0),Wp _ p0⟩
  ·rintro σ H2 ⟨c,o2,o3,o4,o6,ds,rfl,s2,h2,b2⟩;rw[Ya,We] at b2;exact⟨_,rfl,q l ds H2 hl s2 h2 b2⟩
theorem wx:aP ["_law_code","_law_size","_law_free","_law_found","_law_k"] ["_law_code","_law_size"] (aG QA):=⟨rfl,rfl,rfl,by decide+kernel,rfl,by decide+kernel,by decide+kernel⟩
theorem Zce(F:aM K "_law_turn" "_law_turn" QA f fd)(mL:mg "list"=none)(mR:mg "range"=none)(mT:mg "tuple"=none):aE P w K mg base aL 1 f fd ["_law_code","_law_size"] OX:=by
 refine F.ok wx (λvs H Q E h=>?_) (λaA A outer s H vs Q E hr h=>?_)
 ·obtain⟨c,n,rfl,_⟩:=h;rfl
 obtain⟨c,n,rfl,hn,q⟩:=h;refine⟨_,aj (gc (i:=2) wx.nd rfl (Or.inl rfl) (eN (Cv rfl) rfl mL ua (aa (eN yy rfl mR t6 (aa (pv 1) ag)) ag)))
  (aj (gc (i:=3) wx.nd rfl (Or.inl rfl) (we ag))
  (aj (gP PassesOwn.never rfl (pj rfl mR (aa (pv 1) ag)) (pH (i:=4) wx.nd rfl (Or.inl rfl))
   (aj (bU (jL plainAttrs_list PySem.F.slot_list_append PySem.F.type_list_append vS (pv 3) (aa (jL plainAttrs_list PySem.F.slot_list_pop PySem.F.type_list_pop Zah (pv 2) (aa (aZ dU (pv 0) (aZ zB (pv 1) (pv 4))) ag)) ag)))
   (aq (gc (i:=0) wx.nd rfl (Or.inl rfl) (aZ zb (pv 0) (aZ zB (pv 1) (pv 4)))))))
  (aq (aI (eN tD rfl mT mn (aa (pv 3) ag)))))),?_⟩
 refine⟨_,rfl,_,rfl,λr uU=>?_⟩;refine⟨r,n,rfl,aO,by omega,λu hu=>?_⟩;refine⟨(by show 0<=sizeLine;decide),λl hl=>?_⟩;have g1:ai H (upd H r (.jt 0 (n:Int))):=bY uU _;have g2:=g1.trans (bY hu (.lst ((bc n).map V.int)));have g3:=g2.trans (bY hl (.lst []));have Hw:u≠l:=bT aO hl;refine⟨_,rfl,(n:Int),rfl,by omega,by omega,D8 (lo:=0) (n:=n) (λi σ H2=>∃c o4 ds fs,σ=[some (.int c),some (.int (n:Int)),some (.ref u),some (.ref l),o4]/\ai H H2/\H2 u=some (.lst (fs.map V.int))/\H2 l=some (.lst (ds.map V.int))/\(ds++fs).Perm (bc n)/\ds.length=i)
  ⟨c,none,[],bc n,rfl,g3,by rw[aJ Hw];exact aO,aO,by rw[SK],rfl⟩ ?_ ?_⟩
 ·rintro i σ H2 hi ⟨c,o4,ds,fs,rfl,s2,Hx,uN,pm,dl⟩;have pl:=pm.length_eq;rw[Yk,eM,dl] at pl;have Ag:(0:Int)<(n:Int)-(0+(i:Int)):=by omega
  have m0:=W5 c (G1 Ag);have m1:=Wp c Ag;have hk:(c % ((n:Int)-(0+(i:Int)))).toNat<fs.length:=by omega
  refine⟨_,rfl,.inl ⟨rfl,_,ak.of uN⟩,_,rfl,.inl ⟨rfl,_,ak.of Hx⟩,_,rfl,_,rfl,_,rfl,_,_,rfl,rfl,_,_,rfl,rfl,Ag,u,_,_,_,.int fs[(c % ((n:Int)-(0+(i:Int)))).toNat],rfl,rfl,Hx,by omega,by omega,((EV (Fm m0 (by rw[Ya];omega))).1),by rw[Yg,Yc hk];rfl,?_⟩;refine⟨l,_,_,rfl,rfl,by rw[aJ Hw.symm];exact uN,(by rw[Ya];exact jF (by omega)),?_⟩;refine⟨_,rfl,_,rfl,_,rfl,_,_,rfl,rfl,_,_,rfl,rfl,⟨Ag,by omega⟩,?_⟩;refine⟨_,_,ds++[fs[(c % ((n:Int)-(0+(i:Int)))).toNat]],fs.eraseIdx (c % ((n:Int)-(0+(i:Int)))).toNat,rfl,λb o e=>?_,?_,?_,?_,?_⟩
  ·have nl:b≠l:=bT (g2 b o e) hl;have nu:b≠u:=bT (g1 b o e) hu;rw[aJ nl,aJ nu];exact s2 b o e
  ·rw[aJ Hw,aO,K8]
  ·rw[aO,LY]
  ·refine List.Perm.trans ?_ pm;rw[Jn];refine List.Perm.append_left ds ?_;exact(Kq fs _ hk).symm
  ·rw[Yk,List.length_singleton,dl]
 ·rintro σ H2 ⟨c,o4,ds,fs,rfl,s2,Hx,uN,pm,dl⟩;have pl:=pm.length_eq;rw[Yk,eM,dl] at pl;have e:fs=[]:=List.eq_nil_of_length_eq_zero (by omega);rw[e,Wb] at pm;refine⟨_,rfl,l,_,rfl,.inl ⟨ak.of uN,λt ht=>?_⟩⟩;exact q t ds _ (s2.free ht) (s2.trans (bY ht _)) aO pm
end
theorem Zcf{ds:List Int}{a b c d e:Int}(h:Paired Bd ds [a,b,c,d,e]):∃v w x y z,ds=[v,w,x,y,z]/\Bd v a/\Bd w b/\Bd x c/\Bd y d/\Bd z e:=by
 cases h with|cons h1 h=>cases h with|cons h2 h=>cases h with|cons h3 h=>cases h with|cons h4 h=>cases h with|cons h5 h=>
  cases h
  grind
theorem bo{q:St->Hp->Prop}{i:Nat}{x:V}{σ:St}{H:Hp}(h:q (σ.set i (some x)) H):rA i x σ H q:=h
theorem Pc{K:PySem.W.Frag}{H:Hp}{p:Addr}{xs:List V}{i:Nat}{x:V}{Q:VK}(hp:ak K H p xs\/aB K H p xs)(h:xs[i]?=some x)(q:Q x H):GQ K (.ref p) (.int (0+(i:Int))) H Q:=by
 rcases hp with hp|hp;·exact .inl ⟨p,_,_,_,rfl,rfl,hp,L4 h,q⟩
 ·exact .inr (.inl ⟨p,_,_,_,rfl,rfl,hp,L4 h,q⟩)
theorem yY(v:V):decide (v=v)=true:=decide_eq_true rfl
theorem all_true(n:Nat):(List.replicate n true).all id=true:=by
 induction n with
 |zero=>rfl
 |succ n ih=>rw[List.replicate_succ,Jf,ih];rfl
inductive Mg(m:Nat)(vs:List V)(H:Hp)(Q:VK):Prop
 |mk (x y:V) (d:Dt) (k:Nat) (aC:vs=[x,y]) (aR:m=k+1) (a8:At H k x d) (bC:At H k y d) (cD:∀H',ai H H'->Q (.bl true) H'):Mg m vs H Q
def rb(m:Nat):Sp:=λvs H Q _=>Mg m vs H Q
section
theorem Xe:aP ["_law_found","_law_due"] ["_law_found","_law_due"] (aG yD):=.aV
theorem ZaZ{n:Nat}(F:aM K "_law_same" "_law_same" yD f fd)(o_:HasFn P w K mg base n "_law_same" ["_law_found","_law_due"] (rb n))(bl:Bl mg):aE P w K mg base aL (n+1) f fd ["_law_found","_law_due"] (rb (n+1)):=by
 refine F.o Xe λaA A outer s H vs Q E hr h=>?_;obtain⟨x,y,d,k,rfl,ek,hx,hy,q⟩:=h;obtain rfl:k=n:=by omega
 have hu:=hr.uh;refine⟨_,(aj (aS (bp Fg (pv 1) lC) (aq (aI (eG Fg (pv 0) lC))) aW) (aj (aS (eO (kU K bl (pv 1) (kI rfl bl.zG zf))) (aq (aI (pL (kU K bl (pv 0) (kI rfl bl.zG zf)) (mH (eG bZ (pv 0) (pv 1)))))) aW) (aj (aS (eO (kU K bl (pv 1) (kI rfl bl.Qo OV))) (aq (aI (pL (kU K bl (pv 0) (kI rfl bl.Qo OV)) (pL (ZcV (kU K bl (pv 0) (kI rfl bl.zG zf))) (mH (eG bZ (pv 0) (pv 1))))))) aW) (aj (aS (eO (kU K bl (pv 1) (kI rfl bl.wF wk))) (aq (aI (pL (kU K bl (pv 0) (kI rfl bl.wF wk)) (mH (eG bZ (pv 0) (pv 1)))))) aW) (aj (aS (PW.pt (pw_or (bp lE (kU K bl (pv 1) (kI rfl bl.ui ua)) (kU K bl (pv 0) (kI rfl bl.ui ua))) (pw_or1 (bp lE (kU K bl (pv 1) (kI rfl bl.mD mn)) (kU K bl (pv 0) (kI rfl bl.mD mn)))))) (aq (aI iS)) aW) (aj (aS (bp lE (dh K bl (pv 0)) (dh K bl (pv 1))) (aq (aI iS)) aW) (aq (aI (ia (Rg (K:=K) rfl rfl) rfl bl.Qn OU (aa (ji (x:="_law_k") (fr:=[("_law_found",0),("_law_due",1)]) (cl:=[("_law_found",s.heap.objs.size+1),("_law_due",s.heap.objs.size+1+1)]) rfl (.g_ ⟨rfl,⟨rfl,trivial⟩⟩ ⟨⟨rfl,.inl rfl,.inl rfl,rfl⟩,⟨⟨rfl,.inl rfl,.inl rfl,rfl⟩,trivial⟩⟩) (pj rfl bl.jI (aa (dh K bl (pv 1)) ag)) (λ_ _ _ _=>mw) (λ_ _ _ _=>(FU o_ hr (by omega) rfl (aa (aY (Np (K:=K) rfl) (pv 1) (pv 0)) (aa (aY (Np (K:=K) rfl) (pv 2) (pv 0)) ag))))) ag)))))))))),?_⟩;have sq:(∃(p r:Addr) (xs ys:List V) (ds:List Dt) (t:Value) (b1 b2:Bool) (m:Nat),x=.ref p/\y=.ref r/\iY K H (.ref p) t/\iY K H (.ref r) t/\kitOne K t (.type "bool")=some false/\kitOne K t (.type "int")=some false/\kitOne K t (.type "str")=some false/\
   kitOne K t (.type "list")=some b1/\kitOne K t (.type "tuple")=some b2/\(ak K H p xs\/aB K H p xs)/\(ak K H r ys\/aB K H r ys)/\ds.length<=1000/\Paired (At H m) xs ds/\Paired (At H m) ys ds/\k=m+1)\/
   (x=.ay/\y=.ay)\/(∃b,x=.bl b/\y=.bl b)\/(∃i,x=.int i/\y=.int i)\/∃z,x=.str z/\y=.str z:=by
  cases d with
  |ay=>unfold At at hx hy;exact .inr (.inl ⟨hx,hy⟩)
  |bl b=>unfold At at hx hy;exact .inr (.inr (.inl ⟨b,hx,hy⟩))
  |int i=>unfold At at hx hy;exact .inr (.inr (.inr (.inl ⟨i,hx,hy⟩)))
  |str z=>unfold At at hx hy;exact .inr (.inr (.inr (.inr ⟨z,hx,hy⟩)))
  |lst ds=>
   cases k with
   |zero=>unfold At at hx;exact hx.elim
   |succ m=>
    unfold At at hx hy;obtain⟨a,xs,e0,e1,lz,p1⟩:=hx;obtain⟨b,ys,Hy,e2,_,p2⟩:=hy;exact .inl ⟨a,b,xs,ys,ds,.type "list",true,false,m,e0,Hy,.lst e1,.lst e2,Zdm,Zdn,Zdo,Zdp,Zdq,.inl (ak.of e1),.inl (ak.of e2),lz,p1,p2,rfl⟩
  |tup ds=>
   cases k with
   |zero=>unfold At at hx;exact hx.elim
   |succ m=>
    unfold At at hx hy;obtain⟨a,xs,e0,e1,lz,p1⟩:=hx;obtain⟨b,ys,Hy,e2,_,p2⟩:=hy;exact .inl ⟨a,b,xs,ys,ds,.type "tuple",false,true,m,e0,Hy,.tup e1,.tup e2,Zdr,Zds,Zdt,Zdu,Zdv,.inr (aB.of e1),.inr (aB.of e2),lz,p1,p2,rfl⟩
 clear hx hy;rcases sq with⟨p,r,xs,ys,ds,t,b1,b2,m,rfl,rfl,T1,T2,kb,ki,ksr,kl,kt,hp,hq,hz,p1,p2,ek⟩|⟨rfl,rfl⟩|⟨b,rfl,rfl⟩|⟨i,rfl,rfl⟩|⟨z,rfl,rfl⟩
 ·have l1:=c9 p1;have l2:=c9 p2;refine⟨_,rfl,rfl,_,rfl,?_⟩;refine bB (λc=>absurd (of_decide_eq_true c) (λz=>nomatch z)) (λ_=>aT ?_);refine⟨_,rfl,_,_,_,false,rfl,T2,kb,_,rfl,bO (aT ?_)⟩;refine⟨_,rfl,_,_,_,false,rfl,T2,ki,_,rfl,bO (aT ?_)⟩;refine⟨_,rfl,_,_,_,false,rfl,T2,ksr,_,rfl,bO (aT ?_)⟩;refine⟨_,rfl,_,_,_,b1,rfl,T2,kl,_,rfl,_,_,_,b1,rfl,T1,kl,rfl,_,rfl,uo rfl ?_⟩;refine⟨_,rfl,_,_,_,b2,rfl,T2,kt,_,rfl,_,_,_,b2,rfl,T1,kt,rfl,_,rfl,uo rfl (aT ?_)⟩;refine⟨_,rfl,p,_,rfl,hp,_,rfl,r,_,rfl,hq,rfl,_,rfl,uo (by rw[l1,l2]) (aT ?_)⟩;refine⟨_,rfl,r,_,rfl,hq,_,rfl,by omega,by omega,λD hD=>vP (lo:=0) (n:=((ys.length:Nat):Int).toNat)
   (λi zs H1=>ai H H1/\H1 D=some (.lst zs)/\zs=(List.replicate i true).map V.bl) ⟨bY hD _,aO,rfl⟩ ?_ ?_⟩
  ·rintro i zs H1 hi ⟨g,h1,rfl⟩;rw[Y5] at hi;have sq:∀{a:Addr} {us:List V},(ak K H a us\/aB K H a us)->(ak K H1 a us\/aB K H1 a us):=λ{a us} z=>by
    rcases z with z|z;·exact .inl (g.seq z)
    ·exact .inr (g.jb z)
   have gx:xs[i]?=some xs[i]:=Yc (by omega);have gy:ys[i]?=some ys[i]:=Yc (by omega);obtain⟨d1,e1,a1⟩:=fY p1 gx;obtain⟨d2,e2,a2⟩:=fY p2 gy;rw[e1] at e2;cases e2;refine lL (c5 ?_);refine⟨_,rfl,_,rfl,Pc (sq hp) gx ?_⟩;refine⟨_,rfl,_,rfl,Pc (sq hq) gy ?_⟩;refine⟨_,_,d1,m,rfl,ek,a1.same g,a2.same g,λH2 g2=>?_⟩;refine⟨g2 _ _ h1,by rw[Ya,Wy];exact jF (by omega),λb o e=>?_,aO,?_⟩
   ·rw[aJ (bT e hD)];exact g2 b o (g b o e)
   ·rw[List.replicate_succ',Ys];rfl
  ·rintro zs H1 ⟨g,h1,e⟩;refine⟨D,_,rfl,ak.of (by rw[h1,e]),?_⟩;rw[all_true];exact q H1 g
 ·refine⟨_,rfl,rfl,_,rfl,?_⟩;refine bB (λc=>?_) (λc=>absurd (yY _) c);exact⟨_,rfl,rfl,q H (ai.refl H)⟩
 ·refine⟨_,rfl,rfl,_,rfl,?_⟩;refine bB (λc=>absurd (of_decide_eq_true c) (λz=>nomatch z)) (λ_=>aT ?_);refine⟨_,rfl,_,_,_,true,rfl,.bl b,O5,_,rfl,c5 ?_⟩;refine⟨_,rfl,_,_,_,true,rfl,.bl b,O5,_,rfl,c5 ?_⟩;refine⟨_,rfl,_,rfl,rfl,?_⟩;rw[yY];exact q H (ai.refl H)
 ·refine⟨_,rfl,rfl,_,rfl,?_⟩;refine bB (λc=>absurd (of_decide_eq_true c) (λz=>nomatch z)) (λ_=>aT ?_);refine⟨_,rfl,_,_,_,false,rfl,.int i,Fs,_,rfl,bO (aT ?_)⟩;refine⟨_,rfl,_,_,_,true,rfl,.int i,O4,_,rfl,c5 ?_⟩;refine⟨_,rfl,_,_,_,true,rfl,.int i,O4,_,rfl,c5 ?_⟩;refine⟨_,rfl,_,_,_,false,rfl,.int i,Fs,_,rfl,_,rfl,c5 ?_⟩;refine⟨_,rfl,_,rfl,rfl,?_⟩;rw[yY];exact q H (ai.refl H)
 ·refine⟨_,rfl,rfl,_,rfl,?_⟩;refine bB (λc=>absurd (of_decide_eq_true c) (λz=>nomatch z)) (λ_=>aT ?_);refine⟨_,rfl,_,_,_,false,rfl,.str z,Zdk,_,rfl,bO (aT ?_)⟩;refine⟨_,rfl,_,_,_,false,rfl,.str z,Zdl,_,rfl,bO (aT ?_)⟩;refine⟨_,rfl,_,_,_,true,rfl,.str z,O6,_,rfl,c5 ?_⟩;refine⟨_,rfl,_,_,_,true,rfl,.str z,O6,_,rfl,c5 ?_⟩;refine⟨_,rfl,_,rfl,rfl,?_⟩;rw[yY];exact q H (ai.refl H)
theorem same_none:aE P w K mg base aL 0 f fd ["_law_found","_law_due"] (rb 0):=by
 have no:∀vs H Q E,¬rb 0 vs H Q E:=λvs H Q E h=>by
  obtain⟨_,_,_,_,_,z,_⟩:=h;omega
 exact⟨λvs H Q E h=>absurd h (no vs H Q E),λA outer s H args us vs Q E _ _ _ _ h=>absurd h (no vs H Q E)⟩
theorem NG(F:aM K "_law_same" "_law_same" yD f fd)(bS:Binds K fd ["_law_found","_law_due"] [])(kS:keepIn K (.ref f)=true)(m:mg "_law_same"=some (.ref f))(bl:Bl mg):
  ∀n:Nat,aE P w K mg base aL n f fd ["_law_found","_law_due"] (rb n)
 |0=>same_none
 |n+1=>ZaZ F ⟨f,fd,NG F bS kS m bl n,bS,kS,m⟩ bl
end
inductive Pd(K:PySem.W.Frag)(vs:List V)(H:Hp)(Q:VK):Prop
 |mk (p:Addr) (ns:List Int) (aC:vs=[.ref p]) (aR:Row K H p ns) (a8:ns.length<64) (bC:∀H',ai H H'->Q (.bl (full ns)) H'):Pd K vs H Q
def Gx(K:PySem.W.Frag):Sp:=λvs H Q _=>Pd K vs H Q
def bw(ys xs:List Int):List Int:=xs.map λx=>ys.getD x.toNat 0
theorem pK{ys:List Int}(h:full ys=true){x:Int}(hx:x∈ys):0<=x/\x<ys.length:=by
 have hm:=(pk h).subset hx;unfold bc at hm;obtain⟨i,hi,rfl⟩:=Yf.mp hm;have:=Wi.mp hi;omega
section
variable {c:Addr}
theorem X_:aP ["row"] ["row"] (aG Ee):=.aV
theorem YA(F:aM K "is_turn" "is_turn" Ee f fd)(bl:Bl mg):aE P w K mg base aL 1 f fd ["row"] (Gx K):=by
 refine F.o X_ λaA A outer s H vs Q E hr h=>?_;obtain⟨p,ns,rfl,hR,i_,q⟩:=h;have hu:=hr.uh;refine⟨_,(aj (aS (eO (ia (Zfy (K:=K) rfl rfl) rfl bl.ZeF Zda (aa (ji (x:="number") (fr:=[]) (cl:=[]) rfl (.g_ trivial trivial) (Zc9 (pv 0)) (λ_ _ _ _=>mw) (λ_ _ _ _=>(kU K bl (pv 0) (kI rfl bl.zG zf)))) ag))) (aq (aI iS)) aW) (aq (aI (eG (OS hu) (ia (sortedK (K:=K) rfl) rfl bl.Ey Ea (aa (pv 0) ag)) (eN (Cv rfl) rfl bl.ui ua (aa (eN yy rfl bl.jI t6 (aa (dh K bl (pv 0)) ag)) ag)))))),?_⟩;have hl:(ns.map V.int).length=ns.length:=Ya _;have rest:∀(D:Addr) (H1:Hp),ai H H1->H1 D=some (.lst ((List.replicate ns.length false).map V.bl))->
   ∃(SM:Addr) (bs:List Bool),[V.ref D]=[V.ref SM]/\ak K H1 SM (bs.map V.bl)/\tB (tC (V.bl (bs.any id))) [] H1 (λc H2=>if c=true then Q (.bl false) H2 else
    (Qr K false (fD 0)) [some (.ref p)] H2 Q):=λD H1 g1 h1=>by
  refine⟨D,_,rfl,ak.of h1,_,rfl,?_⟩;rw[any_false];refine bO ?_;exact Zaz rfl (Row.same g1 hR) i_ λH' g=>q H' (g1.trans g)
 have turn:∀(D:Addr),H D=none->∀(i:Nat) (v:V) (ys:List V) (H1:Hp),(ns.map V.int)[i]?=some v->(ai H H1/\H1 D=some (.lst ys)/\ys=(List.replicate i false).map V.bl)->
   lU (Ab K) (gf (fD 0) (gf (tC (V.ty "bool")) iZ)) [some v] H1 λy H3=>H3 D=some (.lst ys)/\ys.length<sizeLine/\
    (ai H (upd H3 D (.lst (ys++[y])))/\upd H3 D (.lst (ys++[y])) D=some (.lst (ys++[y]))/\ys++[y]=(List.replicate (i+1) false).map V.bl):=λD hD i v ys H1 hi ⟨g,h1,e⟩=>by
  obtain⟨z,rfl,hz⟩:=mC hi;have dE:i<ns.length:=(Yj.mp hz).1;refine⟨_,rfl,_,_,_,false,rfl,.int z,Fs,h1,?_,λb o q=>?_,aO,?_⟩
  ·rw[e,Ya,Wy];exact jF (by omega)
  ·rw[aJ (bT q hD)];exact g b o q
  ·rw[e,List.replicate_succ',Ys];rfl
 refine⟨_,rfl,p,rfl,?_⟩;rcases hR with xM|xM
 ·refine .inl ⟨⟨_,xM⟩,λD hD=>D_ (xs:=ns.map V.int) (λi ys H1=>ai H H1/\H1 D=some (.lst ys)/\ys=(List.replicate i false).map V.bl) ⟨bY hD _,aO,rfl⟩ (λi ys H1 _ ⟨g,_,_⟩=>g.seq xM) (λi v ys H1 hi h=>lL (c5 (turn D hD i v ys H1 hi h))) ?_⟩;rintro ys H1 ⟨g,h1,e⟩;exact rest D H1 g (by rw[h1,e,hl])
 ·refine .inr ⟨⟨_,xM⟩,λD hD=>yX (xs:=ns.map V.int) (λi ys H1=>ai H H1/\H1 D=some (.lst ys)/\ys=(List.replicate i false).map V.bl) ⟨bY hD _,aO,rfl⟩ (λi ys H1 _ ⟨g,_,_⟩=>g.jb xM) (λi v ys H1 hi h=>lL (c5 (turn D hD i v ys H1 hi h))) ?_⟩;rintro ys H1 ⟨g,h1,e⟩;exact rest D H1 g (by rw[h1,e,hl])
end
inductive NH(K:PySem.W.Frag)(vs:List V)(H:Hp)(Q:VK):Prop
 |mk (a b:Addr) (xs ys:List Int) (aC:vs=[.ref a,.ref b]) (aR:aB K H a (xs.map V.int)) (a8:aB K H b (ys.map V.int)) (bC:(∀x∈xs,0<=x/\x<ys.length)) (cD:xs.length<64) (dC:∀(t:Addr) (H':Hp),H t=none->ai H H'->H' t=some (.tup ((bw ys xs).map V.int))->Q (.ref t) H'):NH K vs H Q
def F1(K:PySem.W.Frag):Sp:=λvs H Q _=>NH K vs H Q
section
theorem Xf:aP ["first","then"] ["first","then"] (aG DH):=.aV
theorem Xg(F:aM K "followed" "followed" DH f fd)(bl:Bl mg):aE P w K mg base aL 1 f fd ["first","then"] (F1 K):=by
 refine F.o Xf λaA A outer s H vs Q E hr h=>?_;obtain⟨a,b,xs,ys,rfl,hA,hB,jx,hl,q⟩:=h;have al:(bw ys xs).length=xs.length:=by unfold bw;rw[Ya]
 refine⟨_,(aq (aI (eN (tD) rfl bl.mD mn (aa (ji (x:="section") (fr:=[("then",1)]) (cl:=[("then",s.heap.objs.size+1)]) rfl (.g_ ⟨rfl,trivial⟩ ⟨⟨rfl,.inl rfl,.inl rfl,rfl⟩,trivial⟩) (Ff (pv 0)) (λ_ _ _ _=>mw) (λ_ _ _ _=>(aY (iT K) (pv 1) (pv 0)))) ag)))),?_⟩;refine⟨_,rfl,a,rfl,⟨_,hA⟩,λD hD=>yX (xs:=xs.map V.int) (λi zs H3=>ai H H3/\H3 D=some (.lst zs)/\zs=((bw ys xs).take i).map V.int) ⟨bY hD _,aO,rfl⟩ (λi zs H3 _ ⟨g3,_,_⟩=>g3.jb hA) ?_ ?_⟩
 ·rintro i v zs H3 hi ⟨g3,h3,e3⟩;obtain⟨z,rfl,hz⟩:=mC hi;have bz:=jx z (Yi hz);refine lL (c5 ⟨_,rfl,_,rfl,b,_,_,_,rfl,rfl,g3.jb hB,mI bz.1 bz.2,h3,?_,λd o qd=>?_,aO,?_⟩)
  ·rw[e3,Ya,Y9,al];exact jF (by omega)
  ·rw[aJ (bT qd hD)];exact g3 d o qd
  ·rw[e3,Y2,Eb];unfold bw;rw[Yg,hz];rfl
 ·rintro zs H3 ⟨g3,h3,e3⟩;refine⟨D,_,rfl,.inl ⟨ak.of h3,λt ht=>q t _ (g3.free ht) (g3.trans (bY ht _)) ?_⟩⟩;show upd H3 t (.tup zs) t=_;rw[aO,e3,Ya,Ws (by rw[al];omega)]
end
def jQ(x:Int):List Int->Nat
 |[]=>0
 |y::r=>if y=x then 0 else jQ x r+1
theorem yZ{x:Int}:∀{l:List Int},x∈l->l[jQ x l]?=some x/\∀m,m<jQ x l->l[m]?≠some x
 |[],h=>by cases h
 |y::r,h=>by
  unfold jQ;by_cases e:y=x;·grind
  ·rw[if_neg e];obtain⟨h1,h2⟩:=yZ ((Yo.mp h).resolve_left λz=>e z.symm);refine⟨by rw[Jv];exact h1,λm hm=>?_⟩;cases m with
   |zero=>grind
   |succ m=>grind
theorem yO{l:List Int}(nd:l.Nodup){k:Nat}{x:Int}(h:l[k]?=some x):jQ x l=k:=by
 obtain⟨h1,h2⟩:=yZ (Yi h);exact(List.getElem?_inj (by rcases Yj.mp h1 with⟨z,_⟩;exact z) nd).mp (h1.trans h.symm)
def inv(xs:List Int):List Int:=(bc xs.length).map λi=>(jQ i xs:Int)
theorem fq(xs:List Int):(inv xs).length=xs.length:=by unfold inv;rw[Ya,eM]
theorem zr{xs:List Int}{i:Nat}(h:i<xs.length):(inv xs)[i]?=some (jQ (i:Int) xs:Int):=by
 unfold inv;rw[Yg,lu h];rfl
theorem yE{xs:List Int}(h:full xs=true):xs.Nodup:=(pk h).nodup_iff.mpr (AF.DE _)
theorem Mh{xs:List Int}(h:full xs=true){i:Nat}(hi:i<xs.length):(i:Int)∈xs:=(pk h).symm.subset (Yi (lu hi))
theorem jH{xs:List Int}(h:full xs=true):full (inv xs)=true:=by
 have p:(xs.map λi=>(jQ i xs:Int)).Perm (inv xs):=(pk h).map _;have e:xs.map (λi=>(jQ i xs:Int))=bc xs.length:=by
  refine Wu λi=>?_;rw[Yg];by_cases hi:i<xs.length
  ·rw[lu hi,Yc hi];show some (jQ xs[i] xs:Int)=some (i:Int);rw[yO (yE h) (Yc hi)]
  ·rw[Y6 (by omega),Y6 (by rw[eM];omega)];rfl
 rw[e] at p;exact qV p.symm
theorem inv_inv{xs:List Int}(h:full xs=true):inv (inv xs)=xs:=by
 refine Wu λi=>?_;by_cases hi:i<xs.length
 ·rw[zr (by rw[fq];exact hi),Yc hi];have b:=pK h (Js hi);have hk:(xs[i]).toNat<xs.length:=by omega
  have e:((xs[i].toNat:Nat):Int)=xs[i]:=by omega
  have g:(inv xs)[(xs[i]).toNat]?=some (i:Int):=by rw[zr hk,e,yO (yE h) (Yc hi)]
  rw[yO (yE (jH h)) g,e]
 ·rw[Y6 (by rw[fq,fq];omega),Y6 (by omega)]
theorem Mi{xs:List Int}{i:Nat}(hi:i<xs.length):(inv xs).take (i+1)=(inv xs).take i++[(jQ (i:Int) xs:Int)]:=by
 rw[Y2,zr hi];rfl
inductive Pf(vs:List V)(H:Hp)(Q:VK):Prop
 |mk (a:Addr) (xs:List Int) (aC:vs=[.ref a]) (aR:H a=some (.tup (xs.map V.int))) (a8:xs.length<64) (bC:full xs=true) (cD:∀(t:Addr) (H':Hp),H t=none->ai H H'->H' t=some (.tup ((inv xs).map V.int))->Q (.ref t) H'):Pf vs H Q
def Ah:Sp:=λvs H Q _=>Pf vs H Q
section
theorem Vk:aP ["turn"] ["turn"] (aG Cy):=.aV
theorem Vl(F:aM K "turned_back" "turned_back" Cy f fd)(bl:Bl mg):aE P w K mg base aL 1 f fd ["turn"] Ah:=by
 refine F.ok Vk (λvs H Q E h=>?_) (λaA A outer s H1 vs Q E hr h=>?_)
 ·obtain⟨a,xs,rfl,_⟩:=h;rfl
 obtain⟨a,xs,rfl,hA,lx,fx,q⟩:=h;refine⟨_,(aq (aI (eN (tD) rfl bl.mD mn (aa (ji (x:="section") (fr:=[("turn",0)]) (cl:=[("turn",s.heap.objs.size+1)]) rfl (.g_ ⟨rfl,trivial⟩ ⟨⟨rfl,.inl rfl,.inl rfl,rfl⟩,trivial⟩) (pj rfl bl.jI (aa (dh K bl (pv 0)) ag)) (λ_ _ _ _=>mw) (λ_ _ _ _=>(JY (pv 1) (aa (pv 0) ag)))) ag)))),?_⟩;have el:(xs.map V.int).length=xs.length:=Ya _;refine⟨_,rfl,a,_,rfl,.inr (aB.of hA),_,rfl,by rw[el];omega,by rw[el];omega,λD hD=>vP (lo:=0) (n:=(((xs.map V.int).length:Nat):Int).toNat)
   (λi zs H2=>ai H1 H2/\H2 D=some (.lst zs)/\zs=((inv xs).take i).map V.int) ⟨bY hD _,aO,rfl⟩ ?_ ?_⟩
 ·rintro i zs H2 hi ⟨g2,h2,e2⟩;rw[Y5,el] at hi;rw[AO];have hx:=yZ (Mh fx hi);have xN:=g2 _ _ hA;refine lL (c5 ⟨_,rfl,a,xs,rfl,xN,_,rfl,(i:Int),jQ (i:Int) xs,rfl,xN,hx.1,hx.2,h2,?_,λd o qd=>?_,aO,?_⟩)
  ·rw[e2,Ya,Y9,fq];exact jF (by omega)
  ·rw[aJ (bT qd hD)];exact g2 d o qd
  ·rw[e2,Mi hi,Ys];rfl
 ·rintro zs H2 ⟨g2,h2,e2⟩;refine⟨D,_,rfl,.inl ⟨ak.of h2,λt ht=>q t _ (g2.free ht) (g2.trans (bY ht _)) ?_⟩⟩;rw[aO,e2,Y5,el,Ws (by rw[fq];omega)]
end
inductive Ln(vs:List V)(H:Hp)(Q:VK):Prop
 |mk (n:Nat) (aC:vs=[.int (n:Int)]) (aR:n<=1000) (a8:∀(t:Addr) (H':Hp),H t=none->ai H H'->H' t=some (.tup ((bc n).map V.int))->Q (.ref t) H'):Ln vs H Q
def E3:Sp:=λvs H Q _=>Ln vs H Q
section
variable {c:Addr}
theorem Za0:aP ["size"] ["size"] (aG E2):=.aV
theorem Za1(F:aM K "still" "still" E2 f fd)(bl:Bl mg):aE P w K mg base aL 1 f fd ["size"] E3:=by
 refine F.o Za0 λaA A outer s H vs Q E hr h=>?_;obtain⟨n,rfl,hn,q⟩:=h;refine⟨_,(aq (aI (eN (JI rfl) rfl bl.mD mn (aa (eN yy rfl bl.jI t6 (aa (pv 0) ag)) ag)))),?_⟩;exact⟨_,rfl,_,rfl,λr uU=>⟨r,n,rfl,aO,hn,λt ht=>q t _ ((bY uU _).free ht) ((bY uU _).trans (bY ht _)) aO⟩⟩
end
inductive NI(K:PySem.W.Frag)(vs:List V)(H:Hp)(Q:VK):Prop
 |mk (p:Addr) (ns:List Int) (aC:vs=[.ref p]) (aR:aB K H p (ns.map V.int)) (a8:ns.length<64) (bC:full ns=true) (cD:∀H',ai H H'->Q .ay H'):NI K vs H Q
def F2(K:PySem.W.Frag):Sp:=λvs H Q _=>NI K vs H Q
inductive Pg(K:PySem.W.Frag)(vs:List V)(H:Hp)(Q:VK):Prop
 |mk (a b:Addr) (xs ys:List Int) (aC:vs=[.ref a,.ref b]) (aR:aB K H a (xs.map V.int)) (a8:aB K H b (ys.map V.int)) (bC:xs.length<64) (cD:full xs=true) (dC:full ys=true) (fR:xs.length=ys.length) (jd:∀(t:Addr) (H':Hp),H t=none->ai H H'->H' t=some (.tup ((bw ys xs).map V.int))->Q (.ref t) H'):Pg K vs H Q
def Gy(K:PySem.W.Frag):Sp:=λvs H Q _=>Pg K vs H Q
inductive Ph(vs:List V)(H:Hp)(Q:VK):Prop
 |mk (a:Addr) (xs:List Int) (aC:vs=[.ref a]) (aR:H a=some (.tup (xs.map V.int))) (a8:xs.length<64) (bC:full xs=true) (cD:∀(t:Addr) (H':Hp),H t=none->ai H H'->H' t=some (.tup ((inv xs).map V.int))->Q (.ref t) H'):Ph vs H Q
def Ro:Sp:=λvs H Q _=>Ph vs H Q
inductive Mj(K:PySem.W.Frag)(vs:List V)(H:Hp)(Q:VK):Prop
 |mk (l a0:Addr) (as:List Addr) (n:Nat) (aC:vs=[.ref l]) (aR:ak K H l ((a0::as).map V.ref)) (a8:2<=n) (bC:n<=8) (cD:(∀a∈a0::as,∃xs:List Int,aB K H a (xs.map V.int)/\xs.length=n/\full xs=true)) (dC:∀H',ai H H'->Q .ay H'):Mj K vs H Q
def Fy(K:PySem.W.Frag):Sp:=λvs H Q _=>Mj K vs H Q
inductive Kb(K:PySem.W.Frag)(vs:List V)(H:Hp)(Q:VK):Prop
 |mk (m f w:Addr) (xs ys:List Int) (aC:vs=[.ref m,.ref f,.ref w]) (aR:aB K H m (xs.map V.int)) (a8:aB K H f ((bw xs ys).map V.int)) (bC:aB K H w (ys.map V.int)) (cD:full xs=true) (dC:full ys=true) (fR:xs.length=ys.length) (jd:xs.length<=8) (qj:∀H',ai H H'->Q .ay H'):Kb K vs H Q
def Lo(K:PySem.W.Frag):Sp:=λvs H Q _=>Kb K vs H Q
theorem qN(xs ys:List Int):(bw xs ys).length=ys.length:=by unfold bw;rw[Ya]
theorem EE{xs ys:List Int}(fx:full xs=true)(fy:full ys=true)(e:xs.length=ys.length):full (bw xs ys)=true:=by
 have p1:(bw xs ys).Perm ((bc ys.length).map λx=>xs.getD x.toNat 0):=(pk fy).map _;have e2:((bc ys.length).map λx=>xs.getD x.toNat 0)=xs:=by
  refine Wu λi=>?_;rw[Yg];by_cases hi:i<ys.length
  ·rw[lu hi]
   grind
  ·rw[Y6 (by rw[eM];omega),Y6 (by omega)];rfl
 rw[e2] at p1;exact qV (p1.trans (pk fx))
abbrev ZeX(n:Nat)(m f w d:Addr):List (Str×V):=[("size",.int (n:Int)),("mother",.ref m),("father",.ref f),("wife",.ref w),("steps",.ref d)]
abbrev wy(m f w im jf iw st:Addr):List (Key×V):=[(.inr "c",.ref m),(.inr "k",.ref f),(.inr "w",.ref w),(.inr "m",.ref im),(.inr "f",.ref jf),(.inr "h",.ref iw),(.inr "s",.ref st)]
def bJ(H:Hp)(a:Addr)(ns:List Int):Prop:=H a=some (.tup (ns.map V.int))
inductive Ml(H:Hp)(C L:Addr)(xs ys:List Int):Prop
 |mk (dx d m f w im jf iw st:Addr) (aC:H L=some (.ins C dx (ZeX xs.length m f w d))) (aR:H d=some (.dK (wy m f w im jf iw st))) (a8:bJ H m xs) (bC:bJ H f (bw xs ys)) (cD:bJ H w ys) (dC:bJ H im (inv xs)) (fR:bJ H jf (inv (bw xs ys))) (jd:bJ H iw (inv ys)) (qj:bJ H st (bc xs.length)):Ml H C L xs ys
def ij(H:Hp)(C L:Addr)(xs ys:List Int):Prop:=Ml H C L xs ys
theorem ij.same{H H':Hp}{C L:Addr}{xs ys:List Int}(g:ai H H')(h:ij H C L xs ys):ij H' C L xs ys:=by
 obtain⟨dx,d,m,f,w,im,jf,iw,st,h1,h2,h3,h4,h5,h6,h7,h8,h9⟩:=h;exact⟨dx,d,m,f,w,im,jf,iw,st,g _ _ h1,g _ _ h2,g _ _ h3,g _ _ h4,g _ _ h5,g _ _ h6,g _ _ h7,g _ _ h8,g _ _ h9⟩
inductive Mm(C:Addr)(vs:List V)(H:Hp)(Q:VK):Prop
 |mk (x dx m f w:Addr) (xs ys:List Int) (aC:vs=[.ref x,.ref m,.ref f,.ref w]) (aR:H x=some (.ins C dx [])) (a8:bJ H m xs) (bC:bJ H f (bw xs ys)) (cD:bJ H w ys) (dC:full xs=true) (fR:full ys=true) (jd:xs.length=ys.length) (qj:2<=xs.length) (xB:xs.length<=8) (Gz:∀H',(∀b o,H b=some o->b≠x->H' b=some o)->ij H' C x xs ys->Q .ay H'):Mm C vs H Q
def Pj(C:Addr):Sp:=λvs H Q _=>Mm C vs H Q
inductive KI(C:Addr)(vs:List V)(H:Hp)(Q:VK):Prop
 |mk (m w:Addr) (xs ys:List Int) (aC:vs=[.ref m,.ref w]) (aR:bJ H m xs) (a8:bJ H w ys) (bC:full xs=true) (cD:full ys=true) (dC:xs.length=ys.length) (fR:2<=xs.length) (jd:xs.length<=8) (qj:∀(L:Addr) (H':Hp),ai H H'->ij H' C L xs ys->Q (.ref L) H'):KI C vs H Q
def Mn(C:Addr):Sp:=λvs H Q _=>KI C vs H Q
structure uu(K:PySem.W.Frag)(C:Addr):Prop where
 cls:fF K C
 rf:cZ K C "size"
 Za2:cZ K C "mother"
 Za3:cZ K C "father"
 Zd3:cZ K C "wife"
 E4:cZ K C "steps"
section
variable {c:Addr}
theorem VB:aP ["row"] ["row"] (aG CP):=.aV
theorem Zd4(F:aM K "check_turn" "check_turn" CP f fd)(tV:HasFn P w K mg base 1 "is_turn" ["row"] (Gx K)):aE P w K mg base aL 2 f fd ["row"] (F2 K):=by
 refine F.o VB λaA A outer s H vs Q E hr h=>?_;obtain⟨p,ns,rfl,hT,i_,fl,q⟩:=h;refine⟨_,(aq (aS (jk (eO (aU tV hr (aa (pv 0) ag)))) fM aW)),?_⟩;refine⟨_,rfl,p,ns,rfl,.inr hT,i_,λH1 g=>⟨_,rfl,?_⟩⟩;rw[fl];exact bO (q H1 g)
theorem ZT:aP ["first","then"] ["first","then"] (aG EB):=.aV
theorem ZeY(F:aM K "behind" "behind" EB f fd)(qK:HasFn P w K mg base 2 "check_turn" ["row"] (F2 K))(pd:HasFn P w K mg base 1 "followed" ["first","then"] (F1 K))(bl:Bl mg):aE P w K mg base aL 3 f fd ["first","then"] (Gy K):=by
 refine F.o ZT λaA A outer s H vs Q E hr h=>?_;obtain⟨a,b,xs,ys,rfl,hA,hB,lx,fx,fy,eq,q⟩:=h;refine⟨_,(aj (bU (aU qK hr (aa (pv 0) ag))) (aj (bU (aU qK hr (aa (pv 1) ag))) (aj (aS (bp lE (dh K bl (pv 0)) (dh K bl (pv 1))) fM aW) (aq (aI (aU pd hr (aa (pv 0) (aa (pv 1) ag)))))))),?_⟩;refine⟨_,rfl,a,xs,rfl,hA,lx,fx,λH1 g1=>?_⟩;refine⟨_,rfl,b,ys,rfl,g1.jb hB,by omega,fy,λH2 g2=>?_⟩;have g:=g1.trans g2;have SN:=g.jb hA;have SO:=g.jb hB;have el:∀zs:List Int,(zs.map V.int).length=zs.length:=λzs=>Ya _;refine⟨_,rfl,a,_,rfl,.inr SN,_,rfl,b,_,rfl,.inr SO,rfl,_,rfl,uo (by rw[el,el,eq]) (aT ?_)⟩;exact⟨_,rfl,_,rfl,a,b,xs,ys,rfl,SN,SO,λz hz=>by rw[←eq];exact pK fx hz,lx,λt H3 nt g3 ht=>q t H3 (g.free nt) (g.trans g3) ht⟩
theorem Zcg:aP ["turn"] ["turn"] (aG Fx):=.aV
theorem ZeZ(F:aM K "back" "back" Fx f fd)(qK:HasFn P w K mg base 2 "check_turn" ["row"] (F2 K))(nv:HasFn P w K mg base 1 "turned_back" ["turn"] Ah)(bl:Bl mg):aE P w K mg base aL 3 f fd ["turn"] Ro:=by
 refine F.o Zcg λaA A outer s H vs Q E hr h=>?_;obtain⟨a,xs,rfl,hA,lx,fx,q⟩:=h;refine⟨_,(aj (bU (aU qK hr (aa (pv 0) ag))) (aq (aI (aU nv hr (aa (pv 0) ag))))),?_⟩;refine⟨_,rfl,a,xs,rfl,aB.of hA,lx,fx,λH1 g1=>?_⟩;exact⟨_,rfl,a,xs,rfl,g1 _ _ hA,lx,fx,λt H2 nt g2 ht=>q t H2 (g1.free nt) (g1.trans g2) ht⟩
theorem CG:aP ["rows","size","row"] ["rows"] (aG CQ):=.aV
theorem Zch(F:aM K "check_rows" "check_rows" CQ f fd)(tV:HasFn P w K mg base 1 "is_turn" ["row"] (Gx K)){t1 t2:Tok}(CZ:mg "LEAST_SIZE"=some (.int 2 t1))(Dp:mg "MOST_SIZE"=some (.int 8 t2))(bl:Bl mg):aE P w K mg base aL 2 f fd ["rows"] (Fy K):=by
 refine F.o CG λaA A outer s H vs Q E hr h=>?_;obtain⟨l,a0,as,n,rfl,hL,n2,n8,rows,q⟩:=h;refine⟨_,(aj (bW 1 CG.nd (dh K bl (aY (iL K) (pv 0) aN))) (aj (aS (PW.pt (pw_or (bp mO (pv 1) (dk (v:=.int (2)) rfl CZ ⟨_,rfl⟩)) (pw_or1 (bp FQ (pv 1) (dk (v:=.int (8)) rfl Dp ⟨_,rfl⟩))))) fM aW) (aq (gP PassesOwn.never rfl (fZ (K:=K) rfl (pv 0)) (bF 2 CG.nd) (aq (aS (PW.pt (pw_or (bp lE (dh K bl (pv 2)) (pv 1)) (pw_or1 (jk (eO (aU tV hr (aa (pv 2) ag))))))) fM aW)))))),?_⟩;have el:∀zs:List Int,(zs.map V.int).length=zs.length:=λzs=>Ya _;obtain⟨x0,h0,l0,f0⟩:=rows a0 Yl;refine⟨_,rfl,l,_,0,.ref a0,rfl,rfl,hL,ic (j:=0) rfl,a0,_,rfl,.inr h0,?_⟩;rw[el,l0];refine⟨_,rfl,_,_,rfl,rfl,_,rfl,bB (λcc=>absurd (of_decide_eq_true cc) (by omega)) (λ_=>?_)⟩;refine⟨_,rfl,_,_,rfl,rfl,_,rfl,bB (λcc=>absurd (of_decide_eq_true cc) (by omega)) (λ_=>aT ?_)⟩;refine⟨_,rfl,l,rfl,⟨_,hL⟩,kA (xs:=(a0::as).map V.ref) (λi σ H1=>ai H H1/\∃o2:Option V,σ=[some (.ref l),some (.int (n:Int)),o2]) ⟨ai.refl _,none,rfl⟩ (λi σ H1 _ ⟨g,_⟩=>g.seq hL) ?_ ?_⟩
 ·rintro i v σ H1 hi ⟨g,o2,rfl⟩;rw[Yg] at hi;obtain⟨a,ha,rfl⟩:∃a,a∈a0::as/\V.ref a=v:=by
   cases e:(a0::as)[i]? with
   |none=>rw[e] at hi;cases hi
   |some a=>grind
  obtain⟨xs,hx,lx,fx⟩:=rows a ha;refine⟨_,rfl,a,_,rfl,.inr (g.jb hx),_,rfl,rfl,_,rfl,uo (by rw[el,lx]) ?_⟩;refine⟨_,rfl,a,xs,rfl,.inr (g.jb hx),by omega,λH2 g2=>⟨_,rfl,?_⟩⟩;rw[fx];exact bO (aT ⟨g.trans g2,_,rfl⟩)
 ·rintro σ H1 ⟨g,o2,rfl⟩;exact q H1 g
theorem BV:aP ["mother","father","wife","by_mothers","section"] ["mother","father","wife"] (aG BY):=.aV
theorem YB(F:aM K "check_parents" "check_parents" BY f fd)(t9:HasFn P w K mg base 3 "behind" ["first","then"] (Gy K))(bl:Bl mg):aE P w K mg base aL 4 f fd ["mother","father","wife"] (Lo K):=by
 refine F.o BV λaA A outer s H vs Q E hr h=>?_;obtain⟨m,fa,wi,xs,ys,rfl,hM,hF,hW,fx,fy,eq,l8,q⟩:=h;refine⟨_,(aj (bW 3 BV.nd (aU t9 hr (aa (pv 2) (aa (pv 0) ag)))) (aq (gP PassesOwn.never rfl (pj rfl bl.jI (aa (dh K bl (pv 1)) ag)) (bF 4 BV.nd) (aq (aS (bp lE (aY (iT K) (pv 3) (pv 4)) (aY (iT K) (pv 1) (pv 4))) fM aW))))),?_⟩;have el:∀zs:List Int,(zs.map V.int).length=zs.length:=λzs=>Ya _;refine⟨_,rfl,_,rfl,wi,m,ys,xs,rfl,hW,hM,by omega,fy,fx,eq.symm,λt H1 nt g ht=>?_⟩;have al:=qN xs ys;refine⟨_,rfl,fa,_,rfl,.inr (g.jb hF),_,rfl,by rw[el];omega,by rw[el];omega,D8 (lo:=0) (n:=((((bw xs ys).map V.int).length:Nat):Int).toNat)
  (λi σ H2=>H2=H1/\∃o4:Option V,σ=[some (.ref m),some (.ref fa),some (.ref wi),some (.ref t),o4]) ⟨rfl,none,rfl⟩ ?_ ?_⟩
 ·rintro i σ H2 hi ⟨rfl,o4,rfl⟩;rw[Y5,el] at hi;have at_:dJ ((bw xs ys).map V.int) (0+(i:Int))=some (.int ((bw xs ys).getD (0+(i:Int)).toNat 0)):=mI (by omega) (by omega);refine⟨_,rfl,_,rfl,t,_,_,_,rfl,rfl,aB.of ht,at_,_,rfl,_,rfl,fa,_,_,_,rfl,rfl,g.jb hF,at_,rfl,_,rfl,uo rfl (aT ⟨rfl,_,rfl⟩)⟩
 ·rintro σ H2 ⟨rfl,o4,rfl⟩;exact q _ g
end
theorem uV{f:Str}{y:V}{fs:List (Str×V)}{n:Nat}(h:fs.length<=n):(cH f y fs).length<=n+1:=Y0 (C5 f y fs) (Nat.succ_le_succ h)
theorem fs4(a b c d:V):cH "wife" d (cH "father" c (cH "mother" b (cH "size" a [])))=([("size",a),("mother",b),("father",c),("wife",d)]:List (Str×V)):=rfl
theorem fs5(a b c d e:V):cH "steps" e [("size",a),("mother",b),("father",c),("wife",d)]=([("size",a),("mother",b),("father",c),("wife",d),("steps",e)]:List (Str×V)):=rfl
theorem ds7(a b c d e f g:V):nS [] [(.inr "c",a),(.inr "k",b),(.inr "w",c),(.inr "m",d),(.inr "f",e),(.inr "h",f),(.inr "s",g)]=[(.inr "c",a),(.inr "k",b),(.inr "w",c),(.inr "m",d),(.inr "f",e),(.inr "h",f),(.inr "s",g)]:=rfl
section
variable {c:Addr}
theorem V0:aP ["self","mother","father","wife"] ["self","mother","father","wife"] (aG Di):=.aV
theorem Zci(F:aM K "__init__" "Land.__init__" Di f fd)(lc:uu K C)(tG:HasFn P w K mg base 2 "check_rows" ["rows"] (Fy K))(B8:HasFn P w K mg base 4 "check_parents" ["mother","father","wife"] (Lo K))
  (wz:HasFn P w K mg base 3 "back" ["turn"] Ro)(ub:HasFn P w K mg base 1 "still" ["size"] E3)(bl:Bl mg):aE P w K mg base aL 5 f fd ["self","mother","father","wife"] (Pj C):=by
 refine F.o V0 λaA A outer s H vs Q E hr h=>?_;obtain⟨x,dx,m,fa,wi,xs,ys,rfl,hx,hM,hF,hW,fx,fy,eq,l2,l8,q⟩:=h;refine⟨_,(aj (bU (aU tG hr (aa (we (aa (pv 1) (aa (pv 2) (aa (pv 3) ag)))) ag))) (aj (bU (aU B8 hr (aa (pv 1) (aa (pv 2) (aa (pv 3) ag))))) (aj (wc (pv 0) (dh K bl (pv 1)) rfl) (aj (wc (pv 0) (pv 1) rfl) (aj (wc (pv 0) (pv 2) rfl) (aj (wc (pv 0) (pv 3) rfl) (aq (wc (pv 0) (zm (jG a9 (pv 1) (jG a9 (pv 2) (jG a9 (pv 3) (jG a9 (aU wz hr (aa (pv 1) ag)) (jG a9 (aU wz hr (aa (pv 2) ag)) (jG a9 (aU wz hr (aa (pv 3) ag)) (jG a9 (aU ub hr (aa (dh K bl (pv 1)) ag)) zk))))))) rfl rfl (λz=>nomatch z) (Jk rfl)) rfl)))))))),?_⟩;have el:∀zs:List Int,(zs.map V.int).length=zs.length:=λzs=>Ya _;have SQ:=EE fx fy eq;have al:=qN xs ys;refine⟨_,rfl,_,rfl,_,rfl,by show 3<=sizeLine;decide,λl nl=>?_⟩;have g1:=bY nl (.lst [.ref m,.ref fa,.ref wi]);refine⟨l,m,[fa,wi],xs.length,rfl,ak.of aO,l2,l8,λa ha=>?_,λH2 g2=>?_⟩
 ·rcases Yo.mp ha with rfl|ha;·exact⟨xs,aB.of (g1 _ _ hM),rfl,fx⟩
  ·rcases Yo.mp ha with rfl|ha;·exact⟨bw xs ys,aB.of (g1 _ _ hF),by rw[al,eq],SQ⟩
   ·rw[Ym] at ha;subst ha;exact⟨ys,aB.of (g1 _ _ hW),eq.symm,fy⟩
 have AQ:=g1.trans g2;refine⟨_,rfl,_,rfl,_,rfl,m,fa,wi,xs,ys,rfl,aB.of (AQ _ _ hM),aB.of (AQ _ _ hF),aB.of (AQ _ _ hW),fx,fy,eq,l8,λH3 g3=>?_⟩;have g:=AQ.trans g3;have AR:=g _ _ hx;have AS:=g _ _ hM;have Hz:=g _ _ hF;have HH:=g _ _ hW;have nm:m≠x:=λe=>by rw[e,AR] at AS;cases AS
 have nf:fa≠x:=λe=>by rw[e,AR] at Hz;cases Hz
 have nw:wi≠x:=λe=>by rw[e,AR] at HH;cases HH
 refine⟨_,rfl,m,_,rfl,.inr (aB.of AS),_,rfl,x,C,dx,_,rfl,AR,lc.cls,lc.rf,by decide,?_⟩;refine⟨_,rfl,_,rfl,x,C,dx,_,rfl,aO,lc.cls,lc.Za2,W9 (uV (Yd 0)) (by decide),?_⟩;refine⟨_,rfl,_,rfl,x,C,dx,_,rfl,aO,lc.cls,lc.Za3,W9 (uV (uV (Yd 0))) (by decide),?_⟩;refine⟨_,rfl,_,rfl,x,C,dx,_,rfl,aO,lc.cls,lc.Zd3,W9 (uV (uV (uV (Yd 0)))) (by decide),?_⟩;rw[ET,ET,ET,el,fs4];have HQ:upd H3 x (.ins C dx [("size",.int (xs.length:Int)),("mother",.ref m),("father",.ref fa),("wife",.ref wi)]) x=some (.ins C dx [("size",.int (xs.length:Int)),("mother",.ref m),("father",.ref fa),("wife",.ref wi)]):=aO;have o4:∀b o,H3 b=some o->b≠x->upd H3 x (.ins C dx [("size",.int (xs.length:Int)),("mother",.ref m),("father",.ref fa),("wife",.ref wi)]) b=some o:=λb o e n=>by rw[aJ n];exact e
 generalize upd H3 x (.ins C dx [("size",.int (xs.length:Int)),("mother",.ref m),("father",.ref fa),("wife",.ref wi)])=H4 at HQ o4⊢;have HR:=o4 _ _ AS nm;have SR:=o4 _ _ Hz nf;have SS:=o4 _ _ HH nw;intro d nd;have g5:=bY nd (.dK []);have HS:upd H4 d (.dK []) d=some (.dK []):=aO;generalize upd H4 d (.dK [])=H5 at g5 HS⊢;refine⟨_,rfl,_,rfl,_,rfl,?_⟩;refine⟨_,rfl,m,xs,rfl,g5 _ _ HR,by omega,fx,λim H6 nim g6 HU=>?_⟩;refine⟨_,rfl,fa,bw xs ys,rfl,g6 _ _ (g5 _ _ SR),by omega,SQ,λjf H7 njf g7 HV=>?_⟩;refine⟨_,rfl,wi,ys,rfl,g7 _ _ (g6 _ _ (g5 _ _ SS)),by omega,fy,λiw H8 niw g8 hiw=>?_⟩;have SU:=(g6.trans g7).trans g8;refine⟨_,rfl,m,_,rfl,.inr (aB.of (SU _ _ (g5 _ _ HR))),xs.length,by rw[el];rfl,by omega,λst H9 AU g9 c7=>?_⟩;have sv:=SU.trans g9;refine⟨sv _ _ HS,wy m fa wi im jf iw st,rfl,by show 7<=15;decide,?_⟩;have je:d≠x:=bT HQ nd |>.symm;have SV:=sv _ _ (g5 _ _ HQ);refine⟨_,rfl,x,C,dx,_,rfl,by rw[aJ je.symm];exact SV,lc.cls,lc.E4,by show 4<1000;decide,?_⟩;rw[fs5,ds7];have key:∀{b:Addr} {o:HO},H9 b=some o->b≠d->b≠x->upd (upd H9 d (.dK (wy m fa wi im jf iw st))) x (.ins C dx [("size",.int (xs.length:Int)),("mother",.ref m),("father",.ref fa),("wife",.ref wi),("steps",.ref d)]) b=some o:=λ{b o} e n1 n2=>by
  rw[aJ n2,aJ n1];exact e
 have rR:∀{b:Addr} {zs:List Int},H9 b=some (.tup (zs.map V.int))->bJ (upd (upd H9 d (.dK (wy m fa wi im jf iw st))) x (.ins C dx [("size",.int (xs.length:Int)),("mother",.ref m),("father",.ref fa),("wife",.ref wi),("steps",.ref d)])) b zs:=λ{b zs} e=>
  key e (λz=>by rw[z,sv _ _ HS] at e;cases e) (λz=>by rw[z,SV] at e;cases e)
 refine q _ (λb o e n=>?_) ⟨dx,d,m,fa,wi,im,jf,iw,st,aO,by rw[aJ je];exact aO,rR (sv _ _ (g5 _ _ HR)),rR (sv _ _ (g5 _ _ SR)),rR (sv _ _ (g5 _ _ SS)),rR (g9 _ _ (g8 _ _ (g7 _ _ HU))),rR (g9 _ _ (g8 _ _ HV)),rR (g9 _ _ hiw),rR c7⟩;have e4:=o4 _ _ (g _ _ e) n;refine key (sv _ _ (g5 _ _ e4)) (bT e4 nd) n
theorem YC:aP ["mother","wife"] ["mother","wife"] (aG Ef):=.aV
theorem YD(F:aM K "land_of" "land_of" Ef f fd)(tG:HasFn P w K mg base 2 "check_rows" ["rows"] (Fy K))(t9:HasFn P w K mg base 3 "behind" ["first","then"] (Gy K))
  (Fz:uq P w K mg base 5 "Land" C ["self","mother","father","wife"] (Pj C)):aE P w K mg base aL 7 f fd ["mother","wife"] (Mn C):=by
 refine F.o YC λaA A outer s H vs Q E hr h=>?_;obtain⟨m,wi,xs,ys,rfl,hM,hW,fx,fy,eq,l2,l8,q⟩:=h;refine⟨_,(aj (bU (aU tG hr (aa (we (aa (pv 0) (aa (pv 1) ag))) ag))) (aq (aI (FX Fz hr (by omega) rfl (aa (pv 0) (aa (aU t9 hr (aa (pv 1) (aa (pv 0) ag))) (aa (pv 1) ag))))))),?_⟩;refine⟨_,rfl,_,rfl,by show 2<=sizeLine;decide,λl nl=>?_⟩;have g1:=bY nl (.lst [.ref m,.ref wi]);refine⟨l,m,[wi],xs.length,rfl,ak.of aO,l2,l8,λa ha=>?_,λH2 g2=>?_⟩
 ·rcases Yo.mp ha with rfl|ha;·exact⟨xs,aB.of (g1 _ _ hM),rfl,fx⟩
  ·rw[Ym] at ha;subst ha;exact⟨ys,aB.of (g1 _ _ hW),eq.symm,fy⟩
 have g:=g1.trans g2;refine⟨_,rfl,_,rfl,_,rfl,wi,m,ys,xs,rfl,aB.of (g _ _ hW),aB.of (g _ _ hM),by omega,fy,fx,eq.symm,λfa H3 SW g3 c8=>?_⟩;have eY:=g.trans g3;refine⟨_,rfl,λx dx nx xO ne=>?_⟩;have xP:upd H3 dx (.own x) x=none:=by rw[aJ (λz=>ne z.symm)];exact nx
 have g4:ai H3 (upd (upd H3 dx (.own x)) x (.ins C dx [])):=(bY xO _).trans (bY xP _);refine⟨x,dx,m,fa,wi,xs,ys,rfl,aO,g4 _ _ (eY _ _ hM),g4 _ _ c8,g4 _ _ (eY _ _ hW),fx,fy,eq,l2,l8,λH5 k5 la=>⟨rfl,q x H5 (λb o e=>?_) la⟩⟩;have e3:=eY _ _ e;exact k5 b o (g4 _ _ e3) (bT e3 nx)
end
abbrev zK(xs ys:List Int):List (Str×List Int):=[("c",xs),("k",bw xs ys),("w",ys),("m",inv xs),("f",inv (bw xs ys)),("h",inv ys),("s",bc xs.length)]
inductive Mo(C:Addr)(vs:List V)(H:Hp)(Q:VK):Prop
 |mk (L:Addr) (z:Str) (xs ys ns:List Int) (aC:vs=[.ref L,.str z]) (aR:ij H C L xs ys) (a8:(z,ns)∈zK xs ys) (bC:∀t:Addr,bJ H t ns->Q (.ref t) H):Mo C vs H Q
def Pk(C:Addr):Sp:=λvs H Q _=>Mo C vs H Q
theorem step_at{H:Hp}{xs ys ns:List Int}{z:Str}{m f w im jf iw st:Addr}(h:(z,ns)∈zK xs ys)(h3:bJ H m xs)(h4:bJ H f (bw xs ys))(h5:bJ H w ys)(h6:bJ H im (inv xs))(h7:bJ H jf (inv (bw xs ys)))(h8:bJ H iw (inv ys))(h9:bJ H st (bc xs.length)):
  ∃t,aQ (wy m f w im jf iw st) (.inr z)=some (.ref t)/\bJ H t ns:=by
 simp only[Yo,Y3,or_false] at h;rcases h with⟨rfl,rfl⟩|⟨rfl,rfl⟩|⟨rfl,rfl⟩|⟨rfl,rfl⟩|⟨rfl,rfl⟩|⟨rfl,rfl⟩|⟨rfl,rfl⟩;·exact⟨m,rfl,h3⟩
 ·exact⟨f,rfl,h4⟩
 ·exact⟨w,rfl,h5⟩
 ·exact⟨im,rfl,h6⟩
 ·exact⟨jf,rfl,h7⟩
 ·exact⟨iw,rfl,h8⟩
 ·exact⟨st,rfl,h9⟩
section
theorem V1:aP ["self","letter"] ["self","letter"] (aG Dj):=.aV
theorem Zcj(F:aM K "step" "Land.step" Dj f fd)(lc:uu K C):aE P w K mg base aL 1 f fd ["self","letter"] (Pk C):=by
 refine F.o V1 λaA A outer s H vs Q E hr h=>?_;obtain⟨L,z,xs,ys,ns,rfl,la,hz,q⟩:=h;refine⟨_,(aj (aS (jK (mf (bj hr) (pv 1) (pF K 0)) (by with_unfolding_all rfl)) fM aW) (aq (aI (df (bj hr) (pF K 0) (pv 1) (λ_ _=>rfl))))),?_⟩;obtain⟨dx,d,m,fa,wi,im,jf,iw,st,h1,h2,h3,h4,h5,h6,h7,h8,h9⟩:=la;obtain⟨t,hv,ht⟩:=step_at hz h3 h4 h5 h6 h7 h8 h9;have dg:=hv▸dZ.k h2;exact⟨_,rfl,_,rfl,L,C,dx,_,.ref d,rfl,h1,lc.cls,lc.E4,rfl,d,_,rfl,dg,_,rfl,bO (aT ⟨_,rfl,L,C,dx,_,.ref d,rfl,h1,lc.cls,lc.E4,rfl,_,rfl,d,_,rfl,dg,q t ht⟩)⟩
end
structure JS where
 hd:List Nat
 ld:List (List Int)
 mem:List (Nat×List Nat)
 fr:List (Nat×List Int)
structure JL where
 J:Addr
 ha:Addr
 la:Addr
 md:Addr
 fd:Addr
 eI:List Addr
 fG:List Addr
 bQ:List Addr
def JL.fp(l:JL):List Addr:=l.J::l.ha::l.la::l.md::l.fd::l.fG
abbrev JF(n:Nat)(ha la md fd:Addr):List (Str×V):=[("size",.int (n:Int)),("heads",.ref ha),("leads",.ref la),("members",.ref md),("free",.ref fd)]
theorem jf5(a b c d e:V):cH "free" e (cH "members" d (cH "leads" c (cH "heads" b (cH "size" a []))))=([("size",a),("heads",b),("leads",c),("members",d),("free",e)]:List (Str×V)):=rfl
abbrev dF(is:List Nat):List V:=is.map λi:Nat=>V.int (i:Int)
def bh(ks:List Nat)(as:List Addr):List (Key×V):=(ks.zip as).map λp=>(.inl (p.1:Int),.ref p.2)
structure cI(H:Hp)(C:Addr)(n:Nat)(l:JL)(st:JS):Prop where
 obj:∃dx,H l.J=some (.ins C dx (JF n l.ha l.la l.md l.fd))
 heads:H l.ha=some (.lst (dF st.hd))
 iq:H l.la=some (.lst (l.eI.map V.ref))
 lead:Paired (λa xs=>H a=some (.tup (xs.map V.int))) l.eI st.ld
 jr:H l.md=some (.dK (bh (st.mem.map (·.1)) l.fG))
 mem:Paired (λa p=>H a=some (.lst (dF p.2))) l.fG st.mem
 frees:H l.fd=some (.dK (bh (st.fr.map (·.1)) l.bQ))
 free:Paired (λa p=>H a=some (.lst (p.2.map V.int))) l.bQ st.fr
 nd:l.fp.Nodup
 out:∀a∈l.bQ,a∉l.fp
theorem cI.same{H H':Hp}{C:Addr}{n:Nat}{l:JL}{st:JS}(g:ai H H')(a:cI H C n l st):cI H' C n l st:=
 ⟨let⟨dx,h⟩:=a.obj;⟨dx,g _ _ h⟩,g _ _ a.heads,g _ _ a.iq,L2.Paired.bA a.lead λ_ _ h=>g _ _ h,g _ _ a.jr,L2.Paired.bA a.mem λ_ _ h=>g _ _ h,g _ _ a.frees,L2.Paired.bA a.free λ_ _ h=>g _ _ h,a.nd,a.out⟩
theorem vQ{α β:Type}{F:α->β->Prop}:∀{xs:List α} {ys:List β} {x:α},Paired F xs ys->x∈xs->∃y,F x y:=by
 intro xs ys x p;induction p with
 |nil=>grind
 |cons f t ih=>grind
theorem cI.ne{H:Hp}{C p:Addr}{n:Nat}{l:JL}{st:JS}(a:cI H C n l st)(h:H p=none):p∉l.fp:=by
 intro z;unfold JL.fp at z;simp only[Yo] at z;rcases z with rfl|rfl|rfl|rfl|rfl|z
 ·obtain⟨dx,e⟩:=a.obj
  grind
 ·rw[a.heads] at h;cases h
 ·rw[a.iq] at h;cases h
 ·rw[a.jr] at h;cases h
 ·rw[a.frees] at h;cases h
 ·obtain⟨y,e⟩:=vQ a.mem z
  grind
theorem nG{α:Type}{H:Hp}{f:α->HO}:∀{as:List Addr} {ps:List (Nat×α)} {k:Nat} {v:α},Paired (λa p=>H a=some (f p.2)) as ps->ps.lookup k=some v->∃a,a∈as/\aQ (bh (ps.map (·.1)) as) (.inl (k:Int))=some (.ref a)/\H a=some (f v):=by
 intro as ps k v pr;induction pr with
 |nil=>grind
 |@cons a p as ps e t ih=>
  intro h;have e0:bh ((p::ps).map (·.1)) (a::as)=(Sum.inl (p.1:Int),V.ref a)::bh (ps.map (·.1)) as:=rfl;rw[Wz] at h;by_cases ek:k=p.1
  ·have eb:(k==p.1)=true:=beq_iff_eq.mpr ek;rw[eb] at h;exact⟨a,Yl,fw (p:=((Sum.inl (p.1:Int):Key),V.ref a)) (by rw[ek]),by rw[←(Yr h)];exact e⟩
  ·have eb:(k==p.1)=false:=beq_eq_false_iff_ne.mpr ek;rw[eb] at h;obtain⟨b,hb,q,w⟩:=ih h;refine⟨b,Yw _ hb,?_,w⟩;rw[e0,eS (p:=((Sum.inl (p.1:Int):Key),V.ref a)) (λz=>ek (by have:=AV z;omega))];exact q
theorem Za4{q k:Nat}{ks:List Nat}{v:V}(z:((Sum.inl (q:Int):Key),v).1=.inl (k:Int)):k∈q::ks:=by
 grind
theorem yP:∀{as:List Addr} {ks:List Nat} {k:Nat},k∉ks->aQ (bh ks as) (.inl (k:Int))=none
 |[],ks,k,_=>by unfold bh;rw[List.zip_nil_right];rfl
 |a::as,[],k,_=>rfl
 |a::as,q::ks,k,h=>by
  have e0:bh (q::ks) (a::as)=(Sum.inl (q:Int),V.ref a)::bh ks as:=rfl;rw[e0,eS (p:=((Sum.inl (q:Int):Key),V.ref a)) (λz=>h (Za4 z))];exact yP λz=>h (Yw _ z)
theorem yF:∀{ks:List Nat} {as:List Addr} (k:Nat) (a:Addr),ks.length=as.length->bh ks as++[(.inl (k:Int),.ref a)]=bh (ks++[k]) (as++[a])
 |[],[],_,_,_=>rfl
 |q::ks,b::as,k,a,h=>by
  have e0:bh (q::ks) (b::as)=(Sum.inl (q:Int),V.ref b)::bh ks as:=rfl;rw[e0,Sv,(yF (ks:=ks) (as:=as) k a (by simpa using h))];rfl
 |[],_::_,_,_,h=>by simp at h
 |_::_,[],_,_,h=>by simp at h
structure mK(K:PySem.W.Frag)(C:Addr):Prop where
 cls:fF K C
 rf:cZ K C "size"
 jJ:cZ K C "heads"
 mE:cZ K C "leads"
 tX:cZ K C "members"
 rh:cZ K C "free"
def JS.more(n:Nat)(st:JS):JS:=⟨st.hd++[st.hd.length],st.ld++[bc n],st.mem++[(st.hd.length,[st.hd.length])],st.fr++[(st.hd.length,bc n)]⟩
inductive Mp(C:Addr)(vs:List V)(H:Hp)(Q:VK):Prop
 |mk (x dx:Addr) (n:Nat) (aC:vs=[.ref x,.int (n:Int)]) (aR:H x=some (.ins C dx [])) (a8:∀(l:JL) (H':Hp),l.J=x->l.fG=[]->(∀b∈l.fp,b≠x->H b=none)->az x H H'->cI H' C n l ⟨[],[],[],[]⟩->Q .ay H'):Mp C vs H Q
def NJ(C:Addr):Sp:=λvs H Q _=>Mp C vs H Q
inductive Kc(C:Addr)(vs:List V)(H:Hp)(Q:VK):Prop
 |mk (l:JL) (st:JS) (n i j a b:Nat) (aC:vs=[.ref l.J,.int (i:Int),.int (j:Int)]) (aR:cI H C n l st) (a8:st.hd[i]?=some a) (bC:st.hd[j]?=some b) (cD:Q (.bl (decide (a=b))) H):Kc C vs H Q
def DU(C:Addr):Sp:=λvs H Q _=>Kc C vs H Q
inductive Lp(C:Addr)(vs:List V)(H:Hp)(Q:VK):Prop
 |mk (l:JL) (st:JS) (n i h:Nat) (t secs:List Int) (aC:vs=[.ref l.J,.int (i:Int)]) (aR:cI H C n l st) (a8:st.hd[i]?=some h) (bC:st.ld[i]?=some t) (cD:st.fr.lookup h=some secs) (dC:(∀z∈secs,0<=z/\z<t.length)) (fR:secs.length<64) (jd:∀(p:Addr) (ns:List Int) (H':Hp),H p=none->ai H H'->ns.Perm (secs.map λz=>t.getD z.toNat 0)->ns.Pairwise (·<=·)->H' p=some (.lst (ns.map V.int))->Q (.ref p) H'):Lp C vs H Q
def vW(C:Addr):Sp:=λvs H Q _=>Lp C vs H Q
inductive Pl(C:Addr)(vs:List V)(H:Hp)(Q:VK):Prop
 |mk (l:JL) (st:JS) (n:Nat) (aC:vs=[.ref l.J]) (aR:cI H C n l st) (a8:n<=1000) (bC:st.hd.length<1000) (cD:st.mem.length<=st.hd.length) (dC:st.fr.length<=st.hd.length) (fR:st.ld.length=st.hd.length) (jd:st.hd.length∉st.mem.map (·.1)) (qj:st.hd.length∉st.fr.map (·.1)) (xB:∀(l':JL) (H':Hp),l'.J=l.J->Out l.fp H H'->(∀b∈l'.fp,b∈l.fp\/H b=none)->cI H' C n l' (st.more n)->Q (.int (st.hd.length:Int)) H'):Pl C vs H Q
def F3(C:Addr):Sp:=λvs H Q _=>Pl C vs H Q
theorem nP{is:List Nat}{i h:Nat}(e:is[i]?=some h):dJ (dF is) (i:Int)=some (.int (h:Int)):=ic (by rw[Yg,e];rfl)
section
theorem VC:aP ["self","size"] ["self","size"] (aG CS):=.aV
theorem Za5(F:aM K "__init__" "Joins.__init__" CS f fd)(jc:mK K C)(bl:Bl mg):aE P w K mg base aL 1 f fd ["self","size"] (NJ C):=by
 refine F.o VC λaA A outer s H vs Q E hr h=>?_;obtain⟨x,dx,n,rfl,hx,q⟩:=h;refine⟨_,(aj (f_ (K:=K) rfl (pv 0) (pv 1)) (aj (f_ (K:=K) rfl (pv 0) (dt ag)) (aj (f_ (K:=K) rfl (pv 0) (dt ag)) (aj (f_ (K:=K) rfl (pv 0) qR) (aq (f_ (K:=K) rfl (pv 0) qR)))))),?_⟩;refine⟨_,rfl,_,rfl,x,C,dx,[],rfl,hx,jc.cls,jc.rf,by show 0<1000;omega,λH1 b1 h1=>?_⟩;refine⟨by show 0<=sizeLine;exact Yx _,λha H2 n2 g2 e2=>⟨_,rfl,x,C,dx,_,rfl,g2 _ _ h1,jc.cls,jc.jJ,by show 1<1000;omega,λH3 b3 h3=>?_⟩⟩;refine⟨by show 0<=sizeLine;exact Yx _,λla H4 n4 g4 e4=>⟨_,rfl,x,C,dx,_,rfl,g4 _ _ h3,jc.cls,jc.mE,by show 2<1000;omega,λH5 b5 h5=>?_⟩⟩;refine λmd H6 n6 g6 e6=>⟨_,rfl,x,C,dx,_,rfl,g6 _ _ h5,jc.cls,jc.tX,by show 3<1000;omega,λH7 b7 h7=>?_⟩;refine λfe H8 n8 g8 e8=>⟨_,rfl,x,C,dx,_,rfl,g8 _ _ h7,jc.cls,jc.rh,by show 4<1000;omega,λH9 b9 h9=>?_⟩;rw[jf5] at h9;have k8:az x H8 H9:=b9;have k6:az x H6 H9:=b7.trans ((az.of g8).trans k8);have k4:az x H4 H9:=b5.trans ((az.of g6).trans k6);have k2:az x H2 H9:=b3.trans ((az.of g4).trans k4);have k0:az x H H9:=b1.trans ((az.of g2).trans k2);have d2:ha≠x:=λz=>by rw[z,h1] at n2;cases n2
 have d4:la≠x:=λz=>by rw[z,h3] at n4;cases n4
 have d6:md≠x:=λz=>by rw[z,h5] at n6;cases n6
 have d8:fe≠x:=λz=>by rw[z,h7] at n8;cases n8
 have i3:=b3 _ _ e2 d2;have i5:=b5 _ _ (g4 _ _ i3) d2;have i7:=b7 _ _ (g6 _ _ i5) d2;have j5:=b5 _ _ e4 d4;have j7:=b7 _ _ (g6 _ _ j5) d4;have l7:=b7 _ _ e6 d6;have a1:ha≠la:=λz=>by rw[←z,i3] at n4;cases n4
 have a2:ha≠md:=λz=>by rw[←z,i5] at n6;cases n6
 have a3:ha≠fe:=λz=>by rw[←z,i7] at n8;cases n8
 have a4:la≠md:=λz=>by rw[←z,j5] at n6;cases n6
 have a5:la≠fe:=λz=>by rw[←z,j7] at n8;cases n8
 have a6:md≠fe:=λz=>by rw[←z,l7] at n8;cases n8
 have AW:∀{b:Addr} {H':Hp},az x H H'->b≠x->H' b=none->H b=none:=λ{b H'} k d n=>by
  cases e:H b with
  |none=>rfl
  |some o=>rw[k b o e d] at n;cases n
 have t3:az x H H3:=b1.trans ((az.of g2).trans b3);have t5:az x H H5:=t3.trans ((az.of g4).trans b5);have t7:az x H H7:=t5.trans ((az.of g6).trans b7);refine q ⟨x,ha,la,md,fe,[],[],[]⟩ H9 rfl rfl (λb hb nb=>?_) k0 ⟨⟨dx,h9⟩,k2 _ _ e2 d2,k4 _ _ e4 d4,.nil,k6 _ _ e6 d6,.nil,k8 _ _ e8 d8,.nil,?_,λa qo=>by cases qo⟩
 ·simp only[JL.fp,Yo,Y3,or_false] at hb;rcases hb with rfl|rfl|rfl|rfl|rfl;·exact absurd rfl nb
  ·exact AW b1 d2 n2
  ·exact AW t3 d4 n4
  ·exact AW t5 d6 n6
  ·exact AW t7 d8 n8
 ·simp only[JL.fp,Yz,Yo,Y3,or_false,not_or,not_false_eq_true,Ja,and_true];exact⟨⟨λz=>d2 z.symm,λz=>d4 z.symm,λz=>d6 z.symm,λz=>d8 z.symm⟩,⟨a1,a2,a3⟩,⟨a4,a5⟩,a6⟩
theorem UL:aP ["self","one","other"] ["self","one","other"] (aG BQ):=.aV
theorem Xh(F:aM K "together" "Joins.together" BQ f fd)(jc:mK K C)(bl:Bl mg):aE P w K mg base aL 1 f fd ["self","one","other"] (DU C):=by
 refine F.o UL λaA A outer s H vs Q E hr h=>?_;obtain⟨l,st,n,i,j,a,b,rfl,ja,hi,hj,q⟩:=h;refine⟨_,(aq (aI (eG bZ (aY (iL K) (pF K 0) (pv 1)) (aY (iL K) (pF K 0) (pv 2))))),?_⟩;obtain⟨dx,ho⟩:=ja.obj;have q':Q (.bl (decide (V.int (a:Int)=V.int (b:Int)))) H:=by
  have e:decide (V.int (a:Int)=V.int (b:Int))=decide (a=b):=by
   rw[Wj,decide_eq_true_iff,decide_eq_true_iff];exact⟨λz=>by have:=V.int.inj z;omega,λz=>by rw[z]⟩
  rw[e];exact q
 exact⟨_,rfl,l.J,C,dx,_,_,rfl,ho,jc.cls,jc.jJ,rfl,_,rfl,l.ha,_,_,_,rfl,rfl,ak.of ja.heads,nP hi,_,rfl,l.J,C,dx,_,_,rfl,ho,jc.cls,jc.jJ,rfl,_,rfl,l.ha,_,_,_,rfl,rfl,ak.of ja.heads,nP hj,rfl,q'⟩
end
theorem dM{H:Hp}{a b:Addr}{o o':HO}(h:H a=some o)(h':H b=some o')(ne:o≠o'):a≠b:=λz=>by
 grind
theorem Za6(is:List Nat)(k:Nat):dF (is++[k])=dF is++[.int (k:Int)]:=Ys
theorem qL{H:Hp}{a b:Addr}{o:HO}(h:H a=some o)(h':H b=none):b≠a:=λz=>by
 grind
theorem jE{α β:Type}{F:α->β->Prop}{x:α}{y:β}(f:F x y){xs:List α}{ys:List β}(h:Paired F xs ys):Paired F (xs++[x]) (ys++[y]):=by
 induction h with
 |nil=>exact .cons f .nil
 |cons r t ih=>exact .cons r ih
theorem tY{α β:Type}{F:α->β->Prop}:∀{xs:List α} {ys:List β},Paired F xs ys->Paired (λa b=>F a b/\a∈xs) xs ys
 |_,_,.nil=>.nil
 |_,_,.cons g t=>.cons ⟨g,Yl⟩ (L2.Paired.bA (tY t) λ_ _ h=>⟨h.1,Yw _ h.2⟩)
theorem pQ{H:Hp}{a:Addr}{kvs:List (Key×V)}{k:Nat}{o:Option V}(h:H a=some (.dK kvs))(e:aQ kvs (.inl (k:Int))=o):dZ H a (.int (k:Int)) o:=.inl ⟨kvs,.inl (k:Int),.inl h,rfl,e.symm⟩
section
theorem JE:aP ["self","one","lead"] ["self","one"] (aG B0):=.aV
theorem YE(F:aM K "open_at" "Joins.open_at" B0 f fd)(jc:mK K C)(bl:Bl mg):aE P w K mg base aL 2 f fd ["self","one"] (vW C):=by
 refine F.o JE λaA A outer s H vs Q E hr h=>?_;obtain⟨l,st,n,i,h,t,secs,rfl,ja,hi,ht,hf,jx,i_,q⟩:=h;refine⟨_,(aj (gc (i:=2) JE.nd rfl (Or.inr rfl) (aY (iL K) (pF K 0) (pv 1))) (aq (aI (ia (ZaJ (K:=K) rfl) rfl bl.Ey Ea (aa (ji (x:="section") (fr:=[("lead",2)]) (cl:=[("lead",s.heap.objs.size+1)]) rfl (.g_ ⟨rfl,trivial⟩ ⟨⟨rfl,.inl rfl,.inl rfl,rfl⟩,trivial⟩) (fZ (K:=K) rfl (df (bj hr) (pF K 0) (aY (iL K) (pF K 0) (pv 1)) (λ_ _=>rfl))) (λ_ _ _ _=>mw) (λ_ _ _ _=>(aY (iT K) (pv 1) (pv 0)))) ag))))),?_⟩;obtain⟨dx,ho⟩:=ja.obj;obtain⟨fa,SX,vf,c8⟩:=nG (f:=λv:List Int=>HO.lst (v.map V.int)) ja.free hf;obtain⟨ta,eta,HW⟩:∃ta,l.eI[i]?=some ta/\H ta=some (.tup (t.map V.int)):=by
  have hl:=c9 ja.lead;have dE:i<l.eI.length:=by rw[hl];exact(Yj.mp ht).1
  obtain⟨y,ey,hy⟩:=fY ja.lead (Yc dE)
  grind
 have HX:dJ (l.eI.map V.ref) (i:Int)=some (.ref ta):=ic (by rw[Yg,eta];rfl);refine cq ?_;refine⟨_,rfl,l.J,C,dx,_,_,rfl,ho,jc.cls,jc.mE,rfl,_,rfl,l.la,_,_,_,rfl,rfl,ak.of ja.iq,HX,?_⟩;refine⟨_,rfl,l.J,C,dx,_,_,rfl,ho,jc.cls,jc.rh,rfl,_,rfl,l.J,C,dx,_,_,rfl,ho,jc.cls,jc.jJ,rfl,_,rfl,l.ha,_,_,_,rfl,rfl,ak.of ja.heads,nP hi,l.fd,_,rfl,pQ ja.frees vf,fa,rfl,⟨_,ak.of c8⟩,λD hD=>XX (xs:=secs.map V.int) (ak.of c8) (by rw[Ya];omega) hD (λv=>match v with|.int z=>.int (t.getD z.toNat 0)|_=>.ay) (λj v hj H1 g1 Kt k=>?_) λH1 g1 h1=>?_⟩
 ·obtain⟨z,rfl,hz⟩:=mC hj;have bz:=jx z (Yi hz);exact⟨_,rfl,_,rfl,ta,_,_,_,rfl,rfl,aB.of (g1 _ _ HW),mI bz.1 bz.2,k H1 (ai.refl _)⟩
 ·have hy:H1 D=some (.lst ((secs.map λz=>t.getD z.toNat 0).map V.int)):=by
   rw[h1,Wg,Wg];rfl
  exact⟨D,_,rfl,.inl (ak.of hy),by rw[Ya];exact i_,λde pm so p H2 np g2 h2=>q p de H2 (g1.free np) (g1.trans g2) pm so h2⟩
theorem JQ:aP ["self","number"] ["self"] (aG Dk):=.aV
theorem Zd5(F:aM K "add" "Joins.add" Dk f fd)(jc:mK K C)(ub:HasFn P w K mg base 1 "still" ["size"] E3)(bl:Bl mg):aE P w K mg base aL 2 f fd ["self"] (F3 C):=by
 refine F.o JQ λaA A outer s H vs Q E hr h=>?_;obtain⟨l,st,n,rfl,ja,hn,lh,lm,lf,ll,nm,nf,q⟩:=h;refine⟨_,(aj (bW 1 JQ.nd (dh K bl (pF K 0))) (aj (bU (mJ (K:=K) rfl (jL plainAttrs_list PySem.F.slot_list_append PySem.F.type_list_append nE (pF K 0) (aa (pv 1) ag)))) (aj (bU (mJ (K:=K) rfl (jL plainAttrs_list PySem.F.slot_list_append PySem.F.type_list_append nE (pF K 0) (aa (aU ub hr (aa (pF K 0) ag)) ag)))) (aj (nJ (bj hr) (pF K 0) (pv 1) (dt (aa (pv 1) ag))) (aj (nJ (bj hr) (pF K 0) (pv 1) (eN (Vi rfl) rfl bl.ui ua (aa (eN CO rfl bl.jI t6 (aa (pF K 0) ag)) ag))) (aq (aI (pv 1)))))))),?_⟩;have sz:(10000:Nat)<=sizeLine:=by rw[sizeLine_eq];omega
 obtain⟨dx,ho⟩:=ja.obj;have hl:(dF st.hd).length=st.hd.length:=Ya _;have pl1:=c9 ja.lead;have H_:=c9 ja.mem;have AX:=c9 ja.free;have nd:=ja.nd;simp only[JL.fp,Yz,Yo,not_or] at nd;obtain⟨⟨x1,x2,x3,x4,x5⟩,⟨y1,y2,y3,y4⟩,⟨z1,z2,z3⟩,⟨w1,w2⟩,v1,v2⟩:=nd;have dl:∀{ks:List Nat} {as:List Addr},(bh ks as).length<=as.length:=λ{ks as}=>by unfold bh;rw[Ya,Jc];exact Nat.min_le_right _ _
 refine cq ?_;refine⟨_,rfl,l.J,C,dx,_,_,rfl,ho,jc.cls,jc.jJ,rfl,l.ha,_,rfl,.inl (ak.of ja.heads),?_⟩;rw[hl];refine⟨_,rfl,l.J,C,dx,_,_,rfl,ho,jc.cls,jc.jJ,rfl,.inl ⟨rfl,_,ak.of ja.heads⟩,_,rfl,l.ha,_,_,rfl,rfl,ja.heads,by rw[hl];omega,λH1 b1 e1=>?_⟩;have o1:=b1 _ _ ho x1;have l1:=b1 _ _ ja.iq (λz=>y1 z.symm);refine⟨_,rfl,l.J,C,dx,_,_,rfl,o1,jc.cls,jc.mE,rfl,.inl ⟨rfl,_,ak.of l1⟩,_,rfl,l.J,C,dx,_,_,rfl,o1,jc.cls,jc.rf,rfl,n,rfl,hn,λt H2 nt g2 ht=>?_⟩;refine⟨l.la,_,_,rfl,rfl,g2 _ _ l1,by rw[Ya];omega,λH3 b3 e3=>?_⟩;have o3:=b3 _ _ (g2 _ _ o1) x2;have m3:=b3 _ _ (g2 _ _ (b1 _ _ ja.jr (λz=>y2 z.symm))) (λz=>z1 z.symm);refine⟨_,rfl,by show 1<=sizeLine;omega,λm H4 uW g4 em=>?_⟩;have o4:=g4 _ _ o3;refine⟨_,rfl,l.J,C,dx,_,_,rfl,o4,jc.cls,jc.tX,rfl,_,rfl,l.md,_,.inl (st.hd.length:Int),rfl,g4 _ _ m3,rfl,?_,λH5 b5 e5=>?_⟩
 ·have:=dl (ks:=st.mem.map (·.1)) (as:=l.fG);omega
 have o5:=b5 _ _ o4 x3;refine⟨_,rfl,l.J,C,dx,_,_,rfl,o5,jc.cls,jc.rf,rfl,(n:Int),rfl,λr H6 nr g6 er=>⟨r,n,rfl,er,hn,λfa H7 SW g7 ef=>?_⟩⟩;have AY:=g6.trans g7;have f5:=b5 _ _ (g4 _ _ (b3 _ _ (g2 _ _ (b1 _ _ ja.frees (λz=>y3 z.symm))) (λz=>z2 z.symm))) (λz=>w1 z.symm);refine⟨_,rfl,l.J,C,dx,_,_,rfl,AY _ _ o5,jc.cls,jc.rh,rfl,_,rfl,l.fd,_,.inl (st.hd.length:Int),rfl,AY _ _ f5,rfl,?_,λH8 b8 e8=>?_⟩
 ·have:=dl (ks:=st.fr.map (·.1)) (as:=l.bQ);omega
 have keep:∀b o,H b=some o->b≠l.ha->b≠l.la->b≠l.md->b≠l.fd->H8 b=some o:=λb o e n1 n2 n3 n4=>b8 _ _ (AY _ _ (b5 _ _ (g4 _ _ (b3 _ _ (g2 _ _ (b1 _ _ e n1)) n2)) n3)) n4;rw[kB _ (yP nm),yF _ _ (by rw[Ya];omega)] at e5;rw[kB _ (yP nf),yF _ _ (by rw[Ya];omega)] at e8;have Ia:H m=none:=by
  cases e:H m with
  |none=>rfl
  |some o=>
   have hm1:m≠l.ha:=λz=>by rw[z,b3 _ _ (g2 _ _ e1) y1] at uW;cases uW
   have hm2:m≠l.la:=λz=>by rw[z,e3] at uW;cases uW
   rw[b3 _ _ (g2 _ _ (b1 _ _ e hm1)) hm2] at uW;cases uW
 have en:=ja.ne Ia;have Ib:fa∉l.fp/\fa≠m:=by
  have e6:H6 fa=none:=SW;have h5:∀b o,H b=some o->b≠l.ha->b≠l.la->b≠l.md->H6 b=some o:=λb o e n1 n2 n3=>g6 _ _ (b5 _ _ (g4 _ _ (b3 _ _ (g2 _ _ (b1 _ _ e n1)) n2)) n3);have f1:H6 l.ha=some _:=g6 _ _ (b5 _ _ (g4 _ _ (b3 _ _ (g2 _ _ e1) y1)) y2);have f2:H6 l.la=some _:=g6 _ _ (b5 _ _ (g4 _ _ e3) z1);have f3:H6 l.md=some _:=g6 _ _ e5;have f4:H6 m=some _:=g6 _ _ (b5 _ _ em (λz=>en (by rw[z];simp[JL.fp])));have f5':H6 l.fd=some _:=g6 _ _ f5;have f6:H6 l.J=some _:=g6 _ _ o5;refine⟨λz=>?_,qL f4 e6⟩;simp only[JL.fp,Yo] at z;rcases z with z|z|z|z|z|z;·exact qL f6 e6 z
  ·exact qL f1 e6 z
  ·exact qL f2 e6 z
  ·exact qL f3 e6 z
  ·exact qL f5' e6 z
  ·obtain⟨y,ey⟩:=vQ ja.mem z;refine qL (h5 _ _ ey ?_ ?_ ?_) e6 rfl;·exact λq=>y4 (by rw[←q];exact z)
   ·exact λq=>z3 (by rw[←q];exact z)
   ·exact λq=>w2 (by rw[←q];exact z)
 have kt:∀a∈l.eI,∀xs:List Int,H a=some (.tup (xs.map V.int))->H8 a=some (.tup (xs.map V.int)):=λa _ xs e=>keep a _ e (dM e ja.heads (λz=>by cases z)) (dM e ja.iq (λz=>by cases z)) (dM e ja.jr (λz=>by cases z)) (dM e ja.frees (λz=>by cases z));have k8:∀b o,H5 b=some o->b≠l.fd->H8 b=some o:=λb o e n=>b8 _ _ (AY _ _ e) n;have nmd:m≠l.md:=λz=>en (by rw[z];simp[JL.fp]);have nmf:m≠l.fd:=λz=>en (by rw[z];simp[JL.fp]);have ntf:t≠l.fd:=λz=>by
  have:=b1 _ _ ja.frees (λz=>y3 z.symm);rw[←z,nt] at this;cases this
 have Ic:t≠l.la:=λz=>by rw[←z,nt] at l1;cases l1
 have SY:t≠l.md:=λz=>by
  have:=b1 _ _ ja.jr (λz=>y2 z.symm);rw[←z,nt] at this;cases this
 refine⟨_,rfl,q ⟨l.J,l.ha,l.la,l.md,l.fd,l.eI++[t],l.fG++[m],l.bQ++[fa]⟩ H8 rfl (λb o e nb=>?_) (λb hb=>?_) ⟨⟨dx,k8 _ _ o5 x4⟩,?_,?_,?_,?_,?_,?_,?_,?_,?_⟩⟩
 ·simp only[JL.fp,Yo,not_or] at nb;exact keep b o e nb.2.1 nb.2.2.1 nb.2.2.2.1 nb.2.2.2.2.1
 ·simp only[JL.fp,Yo,Yv,Y3,or_false] at hb⊢;rcases hb with h|h|h|h|h|h|h;·exact .inl (.inl h)
  ·exact .inl (.inr (.inl h))
  ·exact .inl (.inr (.inr (.inl h)))
  ·exact .inl (.inr (.inr (.inr (.inl h))))
  ·exact .inl (.inr (.inr (.inr (.inr (.inl h)))))
  ·exact .inl (.inr (.inr (.inr (.inr (.inr h)))))
  ·rw[h];exact .inr Ia
 ·show H8 l.ha=some (.lst (dF (st.hd++[st.hd.length])));rw[k8 _ _ (b5 _ _ (g4 _ _ (b3 _ _ (g2 _ _ e1) y1)) y2) y3,Za6]
 ·show H8 l.la=some (.lst ((l.eI++[t]).map V.ref));rw[k8 _ _ (b5 _ _ (g4 _ _ e3) z1) z2,Ys];rfl
 ·exact jE (F:=λa (xs:List Int)=>H8 a=some (.tup (xs.map V.int))) (k8 _ _ (b5 _ _ (g4 _ _ (b3 _ _ ht Ic)) SY) ntf) (L2.Paired.bA (tY ja.lead) λa xs h=>kt a h.2 xs h.1)
 ·show H8 l.md=some (.dK (bh ((st.mem++[(st.hd.length,[st.hd.length])]).map (·.1)) (l.fG++[m])));rw[k8 _ _ e5 w1,Ys];rfl
 ·refine jE (F:=λa (p:Nat×List Nat)=>H8 a=some (.lst (dF p.2))) (k8 _ _ (b5 _ _ em nmd) nmf) (L2.Paired.bA (tY ja.mem) λa p h=>keep a _ h.1 ?_ ?_ ?_ ?_);·exact λz=>y4 (by rw[←z];exact h.2)
  ·exact λz=>z3 (by rw[←z];exact h.2)
  ·exact λz=>w2 (by rw[←z];exact h.2)
  ·exact λz=>v1 (by rw[←z];exact h.2)
 ·show H8 l.fd=some (.dK (bh ((st.fr++[(st.hd.length,bc n)]).map (·.1)) (l.bQ++[fa])));rw[e8,Ys];rfl
 ·have nfd:fa≠l.fd:=λz=>Ib.1 (by rw[z];simp[JL.fp]);refine jE (F:=λa (p:Nat×List Int)=>H8 a=some (.lst (p.2.map V.int))) (b8 _ _ ef nfd) (L2.Paired.bA (tY ja.free) λa p h=>?_);have no:=ja.out a h.2;simp only[JL.fp,Yo,not_or] at no;exact keep a _ h.1 no.2.1 no.2.2.1 no.2.2.2.1 no.2.2.2.2.1
 ·have nd:=ja.nd;have e0:JL.fp ⟨l.J,l.ha,l.la,l.md,l.fd,l.eI++[t],l.fG++[m],l.bQ++[fa]⟩=l.fp++[m]:=rfl;rw[e0,Wv];refine⟨nd,by simp,λa ha b hb=>?_⟩;have eb:b=m:=by simpa using hb
  intro z;rw[z,eb] at ha;exact en ha
 ·intro a ha;have e0:JL.fp ⟨l.J,l.ha,l.la,l.md,l.fd,l.eI++[t],l.fG++[m],l.bQ++[fa]⟩=l.fp++[m]:=rfl;rw[e0,Yv];have qo:a∈l.bQ++[fa]:=ha;rcases Yv.mp qo with h|h
  ·rintro(z|z);·exact ja.out a h z
   ·have e:a=m:=by simpa using z
    obtain⟨y,ey⟩:=vQ ja.free h;rw[e,Ia] at ey;cases ey
  ·have e:a=fa:=by simpa using h
   rw[e];rintro(z|z);·exact Ib.1 z
   ·exact Ib.2 (by simpa using z)
end
theorem YF{K:PySem.W.Frag}{a:Addr}{ns:List Int}{tt:TT}{te:TE}{fv:St}{D:Addr}{H:Hp}{Q:VK}(hs:ak K H a (ns.map V.int))(hn:ns.length<=1000)(hD:H D=none)(p:Int->Bool)(g:Int->V)
  (turn:∀z∈ns,∀H1,ai H H1->∀(Kt:VK) (Kf:Hp->Prop),(p z=true->∀H3,ai H1 H3->Kt (g z) H3)->(p z=false->∀H3,ai H1 H3->Kf H3)->tt (some (.int z)::fv) H1 λc H2=>if c=true then te (some (.int z)::fv) H2 Kt else Kf H2)
  (fin:∀H',ai H H'->H' D=some (.lst ((ns.filter p).map g))->Q (.ref D) H'):iV (ju K a) tt te fv D H Q:=by
 refine D_ (λi ys H1=>i<=ns.length/\ai H H1/\H1 D=some (.lst ys)/\ys=((ns.take i).filter p).map g) ⟨Yx _,bY hD _,aO,rfl⟩ (λi ys H1 _ ⟨_,g1,_,_⟩=>g1.seq hs) ?_ ?_
 ·rintro i v ys H1 hi ⟨_,g1,h1,e⟩;obtain⟨z,rfl,hz⟩:=mC hi;have dE:=(Yj.mp hz).1;have yl:ys.length<sizeLine:=by
   have:=Wh p (ns.take i);rw[Y9] at this;rw[e,Ya,sizeLine_eq];omega
  refine turn z (Yi hz) H1 g1 _ _ (λpz H3 g3=>⟨g3 _ _ h1,yl,dE,λb o q=>?_,aO,?_⟩) (λpz H3 g3=>⟨dE,g1.trans g3,g3 _ _ h1,?_⟩)
  ·rw[aJ (bT q hD)];exact g3 _ _ (g1 _ _ q)
  ·rw[e,Y2,hz,Wq,Ys]
   grind
  ·rw[e,Y2,hz,Wq,Ys]
   grind
 ·grind
theorem zt(x:Int):∀ss:List Int,eW (.int x) (ss.map V.int)=decide (x∈ss)
 |[]=>rfl
 |s::ss=>by
  have ih:=zt x ss;unfold eW at ih⊢;rw[Wo,Jl,ih];show((s==x)||decide (x∈ss))=_
  grind
theorem EF(ss:List Int):(ss.map V.int).all iU=true:=by
 rw[Hu,Wm];intro p _;rfl
def i4(ks:List Nat)(as:List Addr)(h:Nat)(a':Addr):List Addr:=(ks.zip as).map λp=>if p.1=h then a' else p.2
theorem Lq(h:Nat)(a':Addr):∀{ks:List Nat} {as:List Addr},ks.length=as.length->(bh ks as).map (λkv=>if kv.1=(.inl (h:Int):Key) then(kv.1,V.ref a') else kv)=bh ks (i4 ks as h a')
 |[],[],_=>rfl
 |k::ks,a::as,e=>by
  have ih:=Lq h a' (by simpa using e);have e0:bh (k::ks) (a::as)=(Sum.inl (k:Int),V.ref a)::bh ks as:=rfl;have e1:i4 (k::ks) (a::as) h a'=(if k=h then a' else a)::i4 ks as h a':=rfl;have e2:bh (k::ks) ((if k=h then a' else a)::i4 ks as h a')=(Sum.inl (k:Int),V.ref (if k=h then a' else a))::bh ks (i4 ks as h a'):=rfl
  grind
 |[],_::_,e=>rfl
 |_::_,[],e=>rfl
theorem Za7{ks:List Nat}{as:List Addr}{h:Nat}{a a':Addr}(e:ks.length=as.length)(hv:aQ (bh ks as) (.inl (h:Int))=some (.ref a)):putK (bh ks as) (.inl (h:Int)) (.ref a')=bh ks (i4 ks as h a'):=by
 unfold putK;rw[if_pos (by rw[t8,hv];rfl)];exact Lq h a' e
def d7{α:Type}(h:Nat)(v:α)(ps:List (Nat×α)):List (Nat×α):=ps.map λp=>if p.1=h then(p.1,v) else p
theorem qS{α:Type}(h:Nat)(v:α):∀ps:List (Nat×α),(d7 h v ps).map (·.1)=ps.map (·.1)
 |[]=>rfl
 |p::ps=>by
  have ih:=qS h v ps;show(if p.1=h then(p.1,v) else p).1::(d7 h v ps).map (·.1)=_
  grind
theorem YG{α:Type}{F G:Addr->Nat×α->Prop}{h:Nat}{a':Addr}{v:α}(new:∀k,G a' (k,v)):∀{as:List Addr} {ps:List (Nat×α)},Paired F as ps->(∀a p,F a p->a∈as->G a p)->Paired G (i4 (ps.map (·.1)) as h a') (d7 h v ps):=by
 intro as ps pr;induction pr with
 |nil=>intro _;exact .nil
 |@cons a p as ps f t ih=>
  intro k;have e1:i4 ((p::ps).map (·.1)) (a::as) h a'=(if p.1=h then a' else a)::i4 (ps.map (·.1)) as h a':=rfl;have e2:d7 h v (p::ps)=(if p.1=h then(p.1,v) else p)::d7 h v ps:=rfl;refine .cons ?_ (ih λb q fb hb=>k b q fb (Yw _ hb))
  grind
theorem Mq{h:Nat}{a' b:Addr}:∀{ks:List Nat} {as:List Addr},b∈i4 ks as h a'->b=a'\/b∈as
 |[],_,m=>by unfold i4 at m;simp at m
 |_::_,[],m=>by unfold i4 at m;simp at m
 |k::ks,a::as,m=>by
  have e1:i4 (k::ks) (a::as) h a'=(if k=h then a' else a)::i4 ks as h a':=rfl;rcases Yo.mp m with z|z;·grind
  ·rcases Mq z with w|w;·exact .inl w
   ·grind
def JS.kJ(st:JS)(h:Nat)(v:List Int):JS:={st with fr:=d7 h v st.fr}
structure rS(st:JS)(i h:Nat)(t secs:List Int):Prop where
 hd:st.hd[i]?=some h
 ld:st.ld[i]?=some t
 fr:st.fr.lookup h=some secs
 eX:∀z∈secs,0<=z/\z<t.length
 iF:secs.length<64
 dist:(secs.map λz=>t.getD z.toNat 0).Nodup
inductive Lr(K:PySem.W.Frag)(C:Addr)(vs:List V)(H:Hp)(Q:VK):Prop
 |mk (l:JL) (st:JS) (n i h:Nat) (t secs ss:List Int) (sl:Addr) (aC:vs=[.ref l.J,.int (i:Int),.ref sl]) (aR:cI H C n l st) (a8:rS st i h t secs) (bC:st.fr.length<1000) (cD:ak K H sl (ss.map V.int)) (dC:∀(l':JL) (H':Hp),l'.J=l.J->l'.fp=l.fp->Out l.fp H H'->cI H' C n l' (st.kJ h (secs.filter λz=>decide (t.getD z.toNat 0∈ss)))->Q .ay H'):Lr K C vs H Q
def EG(K:PySem.W.Frag)(C:Addr):Sp:=λvs H Q _=>Lr K C vs H Q
section
theorem B9:aP ["self","one","sections","lead","head"] ["self","one","sections"] (aG Ck):=.aV
theorem ZU(F:aM K "narrow" "Joins.narrow" Ck f fd)(jc:mK K C)(bl:Bl mg):aE P w K mg base aL 2 f fd ["self","one","sections"] (EG K C):=by
 refine F.o B9 λaA A outer s H vs Q E hr h=>?_;obtain⟨l,st,n,i,h,t,secs,ss,sl,rfl,ja,one,lf,hss,q⟩:=h;refine⟨_,(aj (gc (i:=3) B9.nd rfl (Or.inr rfl) (aY (iL K) (pF K 0) (pv 1))) (aj (bW 4 B9.nd (aY (iL K) (pF K 0) (pv 1))) (aq (nJ (bj hr) (pF K 0) (pv 4) (ji (x:="section") (fr:=[("sections",2),("lead",3)]) (cl:=[("sections",s.heap.objs.size+1),("lead",s.heap.objs.size+1+1)]) rfl (.g_ ⟨rfl,⟨rfl,trivial⟩⟩ ⟨⟨rfl,.inl rfl,.inl rfl,rfl⟩,⟨⟨rfl,.inl rfl,.inl rfl,rfl⟩,trivial⟩⟩) (fZ (K:=K) rfl (df (bj hr) (pF K 0) (pv 4) (λ_ _=>rfl))) (λ_ _ _ _=>vZ (ib (lV (K:=K) rfl) (aY (iT K) (pv 2) (pv 0)) (pv 1) (by with_unfolding_all rfl))) (λ_ _ _ _=>(pv 0))))))),?_⟩;have sz:(10000:Nat)<=sizeLine:=by rw[sizeLine_eq];omega
 obtain⟨dx,ho⟩:=ja.obj;obtain⟨fa,SX,vf,c8⟩:=nG (f:=λv:List Int=>HO.lst (v.map V.int)) ja.free one.fr;obtain⟨ta,eta,HW⟩:∃ta,l.eI[i]?=some ta/\H ta=some (.tup (t.map V.int)):=by
  have hl:=c9 ja.lead;have dE:i<l.eI.length:=by rw[hl];exact(Yj.mp one.ld).1
  obtain⟨y,ey,hy⟩:=fY ja.lead (Yc dE);rw[one.ld] at ey;cases ey;exact⟨_,Yc dE,hy⟩
 have HX:dJ (l.eI.map V.ref) (i:Int)=some (.ref ta):=ic (by rw[Yg,eta];rfl);have AX:=c9 ja.free;refine cq ?_;refine⟨_,rfl,l.J,C,dx,_,_,rfl,ho,jc.cls,jc.mE,rfl,_,rfl,l.la,_,_,_,rfl,rfl,ak.of ja.iq,HX,?_⟩;refine cq ?_;refine⟨_,rfl,l.J,C,dx,_,_,rfl,ho,jc.cls,jc.jJ,rfl,_,rfl,l.ha,_,_,_,rfl,rfl,ak.of ja.heads,nP one.hd,?_⟩;refine⟨_,rfl,l.J,C,dx,_,_,rfl,ho,jc.cls,jc.rh,rfl,_,rfl,l.fd,_,rfl,pQ ja.frees vf,fa,rfl,⟨_,ak.of c8⟩,λD hD=>YF (ns:=secs) (ak.of c8) (by have:=one.iF;omega) hD (λz=>decide (t.getD z.toNat 0∈ss)) V.int (λz hz H1 g1 Kt Kf kt kf=>?_) λH1 g1 h1=>?_⟩
 ·have bz:=one.eX z hz;refine⟨_,rfl,_,rfl,ta,_,_,_,rfl,rfl,aB.of (g1 _ _ HW),mI bz.1 bz.2,_,rfl,sl,_,rfl,.inl (g1.seq hss),rfl,EF ss,_,rfl,?_⟩;rw[if_neg Yh,zt];refine bB (λc=>?_) (λc=>?_);·exact⟨_,rfl,kt c H1 (ai.refl _)⟩
  ·exact kf (by cases e:decide (t.getD z.toNat 0∈ss) with|true=>exact absurd e c|false=>rfl) H1 (ai.refl _)
 ·refine⟨_,rfl,l.J,C,dx,_,_,rfl,g1 _ _ ho,jc.cls,jc.rh,rfl,_,rfl,l.fd,_,.inl (h:Int),rfl,g1 _ _ ja.frees,rfl,?_,λH2 b2 e2=>?_⟩
  ·unfold bh;rw[Ya,Jc,Ya];omega
  rw[Za7 (by rw[Ya];exact AX.symm) vf] at e2;have nd:=ja.nd;have AZ:l.fd∈l.fp:=by simp[JL.fp]
  simp only[JL.fp,Yz,Yo,not_or] at nd;obtain⟨⟨x1,x2,x3,x4,x5⟩,⟨y1,y2,y3,y4⟩,⟨z1,z2,z3⟩,⟨w1,w2⟩,v1,v2⟩:=nd;have keep:∀b o,H b=some o->b≠l.fd->H2 b=some o:=λb o e nb=>b2 _ _ (g1 _ _ e) nb;have nD:D∉l.fp:=ja.ne hD;have nDf:D≠l.fd:=λz=>nD (by rw[z];exact AZ);refine q ⟨l.J,l.ha,l.la,l.md,l.fd,l.eI,l.fG,i4 (st.fr.map (·.1)) l.bQ h D⟩ H2 rfl rfl ((Out.of g1).trans (Out.bar b2 AZ)) ⟨⟨dx,keep _ _ ho x4⟩,keep _ _ ja.heads y3,keep _ _ ja.iq z2,L2.Paired.bA ja.lead λa xs e=>keep a _ e (dM e ja.frees (λz=>by cases z)),keep _ _ ja.jr w1,L2.Paired.bA (tY ja.mem) λa p e=>keep a _ e.1 (λz=>v1 (by rw[←z];exact e.2)),?_,?_,ja.nd,λa ha=>?_⟩
  ·show H2 l.fd=some (.dK (bh ((d7 h _ st.fr).map (·.1)) _));rw[qS];exact e2
  ·exact YG (λk=>b2 _ _ h1 nDf) ja.free λa p e ma=>keep a _ e (λz=>ja.out a ma (by rw[z];exact AZ))
  ·rcases Mq ha with rfl|z;·exact nD
   ·exact ja.out a z
end
inductive Pm(C:Addr)(vs:List V)(H:Hp)(Q:VK):Prop
 |mk (l:JL) (st:JS) (n i h:Nat) (t secs:List Int) (a:Int) (aC:vs=[.ref l.J,.int (i:Int),.int a]) (aR:cI H C n l st) (a8:rS st i h t secs) (bC:st.fr.length<1000) (cD:(a∈secs.map (λz=>t.getD z.toNat 0)->∀(l':JL) (H':Hp),l'.J=l.J->l'.fp=l.fp->Out l.fp H H'->cI H' C n l' (st.kJ h (secs.filter λz=>decide (t.getD z.toNat 0∈[a])))->Q (.bl true) H')) (dC:(a∉secs.map (λz=>t.getD z.toNat 0)->∀H',ai H H'->Q (.bl false) H')):Pm C vs H Q
def QB(C:Addr):Sp:=λvs H Q _=>Pm C vs H Q
section
theorem V2:aP ["self","one","section"] ["self","one","section"] (aG Dm):=.aV
theorem Zd6(F:aM K "say" "Joins.say" Dm f fd)(jD:cz P w K mg base 2 "open_at" C ["self","one"] (vW C))(sZ:cz P w K mg base 2 "narrow" C ["self","one","sections"] (EG K C))(bl:Bl mg):aE P w K mg base aL 3 f fd ["self","one","section"] (QB C):=by
 refine F.o V2 λaA A outer s H vs Q E hr h=>?_;obtain⟨l,st,n,i,h,t,secs,a,rfl,ja,one,lf,q1,q2⟩:=h;refine⟨_,(aj (aS (ib (Fq (K:=K) rfl) (pv 2) (cP jD hr (by omega) (pv 0) (aa (pv 1) ag)) (by with_unfolding_all rfl)) (aq (aI iS)) aW) (aj (bU (cP sZ hr (by omega) (pv 0) (aa (pv 1) (aa (dt (aa (pv 2) ag)) ag)))) (aq (aI iS)))),?_⟩;obtain⟨dx,ho⟩:=ja.obj;refine⟨_,rfl,_,rfl,l.J,dx,_,rfl,ho,rfl,_,rfl,l,st,n,i,h,t,secs,rfl,ja,one.hd,one.ld,one.fr,one.eX,one.iF,λp ns H1 np g1 pm so hp=>⟨p,_,rfl,.inl (ak.of hp),rfl,EF ns,_,rfl,?_⟩⟩;rw[if_pos rfl,zt];refine bB (λc=>?_) (λc=>aT ?_)
 ·refine q2 (λz=>?_) H1 g1;rw[decide_eq_true (pm.symm.subset z)] at c;cases c
 ·have jx:a∈ns:=by
   by_cases z:a∈ns;·exact z
   ·rw[decide_eq_false z] at c;exact absurd rfl c
  refine⟨_,rfl,l.J,dx,_,rfl,g1 _ _ ho,rfl,_,rfl,_,rfl,by show 1<=sizeLine;rw[sizeLine_eq];omega,λsl H2 n2 g2 e2=>?_⟩;exact⟨l,st,n,i,h,t,secs,[a],sl,rfl,(ja.same g1).same g2,one,lf,ak.of e2,λl' H3 k1 k2 o3 j3=>q1 (pm.subset jx) l' H3 k1 k2 ((Out.of (g1.trans g2)).trans o3) j3⟩
end
def dI(ks:List Nat)(as:List Addr)(h:Nat):List Addr:=((ks.zip as).filter λp=>decide (p.1≠h)).map (·.2)
def cR{α:Type}(h:Nat)(ps:List (Nat×α)):List (Nat×α):=ps.filter λp=>decide (p.1≠h)
theorem yG(h:Nat):∀{ks:List Nat} {as:List Addr},ks.length=as.length->gm (bh ks as) (.inl (h:Int))=bh (ks.filter λk=>decide (k≠h)) (dI ks as h)
 |[],[],_=>rfl
 |k::ks,a::as,e=>by
  have ih:=yG h (by simpa using e);have e0:bh (k::ks) (a::as)=(Sum.inl (k:Int),V.ref a)::bh ks as:=rfl;unfold gm at ih⊢;rw[e0,W0,W0];have e1:dI (k::ks) (a::as) h=(if decide (k≠h)=true then(a::dI ks as h) else dI ks as h):=by
   unfold dI;rw[S0,W0];split<;>rfl
  rw[e1,ih];by_cases z:k=h;·grind
  ·have z':¬((Sum.inl (k:Int):Key)=.inl (h:Int)):=λw=>z (by have:=AV w;omega);rw[if_pos (by simp[z']),if_pos (by simp[z]),if_pos (by simp[z])];rfl
 |[],_::_,e=>rfl
 |_::_,[],e=>by simp at e
theorem nK{α:Type}(h:Nat):∀ps:List (Nat×α),(cR h ps).map (·.1)=(ps.map (·.1)).filter λk=>decide (k≠h)
 |[]=>rfl
 |p::ps=>by
  have ih:=nK h ps;unfold cR at ih⊢
  grind
theorem DV{α:Type}{F G:Addr->Nat×α->Prop}{h:Nat}:∀{as:List Addr} {ps:List (Nat×α)},Paired F as ps->(∀a p,F a p->a∈as->p.1≠h->G a p)->Paired G (dI (ps.map (·.1)) as h) (cR h ps):=by
 intro as ps pr;induction pr with
 |nil=>intro _;exact .nil
 |@cons a p as ps f t ih=>
  intro k;have e1:dI ((p::ps).map (·.1)) (a::as) h=(if decide (p.1≠h)=true then(a::dI (ps.map (·.1)) as h) else dI (ps.map (·.1)) as h):=by
   unfold dI;rw[Wo,S0,W0];split<;>rfl
  have e2:cR h (p::ps)=(if decide (p.1≠h)=true then(p::cR h ps) else cR h ps):=by
   unfold cR
   grind
  rw[e1,e2];by_cases z:p.1=h;·grind
  ·rw[if_pos (by simp[z]),if_pos (by simp[z])];exact .cons (k a p f Yl z) (ih λb q fb hb nq=>k b q fb (Yw _ hb) nq)
theorem y6{h:Nat}:∀{ks:List Nat} {as:List Addr},(dI ks as h).Sublist as
 |[],as=>by
  unfold dI;simp_all
 |_::_,[]=>by
  unfold dI;simp_all
 |k::ks,a::as=>by
  have ih:=y6 (h:=h) (ks:=ks) (as:=as);have e1:dI (k::ks) (a::as) h=(if decide (k≠h)=true then(a::dI ks as h) else dI ks as h):=by
   unfold dI;rw[S0,W0];split<;>rfl
  grind
theorem tQ{α:Type}{h k:Nat}(ne:k≠h):∀{ps:List (Nat×α)},(cR h ps).lookup k=ps.lookup k
 |[]=>rfl
 |p::ps=>by
  have ih:=tQ ne (ps:=ps);have e2:cR h (p::ps)=(if decide (p.1≠h)=true then(p::cR h ps) else cR h ps):=by
   unfold cR
   grind
  grind
theorem YH{α:Type}{F G:Addr->Nat×α->Prop}{h:Nat}{m:Addr}{v:α}(new:∀k,G m (k,v)):∀{as:List Addr} {ps:List (Nat×α)},Paired F as ps->as.Nodup->(ps.map (·.1)).Nodup->aQ (bh (ps.map (·.1)) as) (.inl (h:Int))=some (.ref m)->(∀a p,F a p->a∈as->a≠m->G a p)->Paired G as (d7 h v ps):=by
 intro as ps pr;induction pr with
 |nil=>intro _ _ e _;cases e
 |@cons a p as ps f t ih=>
  intro n1 n2 e k;have e0:bh ((p::ps).map (·.1)) (a::as)=(Sum.inl (p.1:Int),V.ref a)::bh (ps.map (·.1)) as:=rfl;have e2:d7 h v (p::ps)=(if p.1=h then(p.1,v) else p)::d7 h v ps:=rfl;rw[Yz] at n1;rw[Wo,Yz] at n2;rw[e2];by_cases z:p.1=h
  ·rw[e0,fw (p:=((Sum.inl (p.1:Int):Key),V.ref a)) (by rw[z])] at e;have ea:a=m:=V.ref.inj (Yr e);have same:d7 h v ps=ps:=by
    unfold d7;refine(W7 λq hq=>?_).trans (List.map_id _);rw[if_neg λw=>n2.1 (by rw[z,←w];exact Yf.mpr ⟨q,hq,rfl⟩)];rfl
   rw[if_pos z,same,ea];refine .cons (new p.1) (L2.Paired.bA (tY t) λb q hb=>k b q hb.1 (Yw _ hb.2) λw=>n1.1 (by rw[ea,←w];exact hb.2))
  ·rw[e0,eS (p:=((Sum.inl (p.1:Int):Key),V.ref a)) (λw=>z (by have:=AV w;omega))] at e;rw[if_neg z];have am:a≠m:=λw=>by
    have:∀{ks:List Nat} {bs:List Addr},aQ (bh ks bs) (.inl (h:Int))=some (.ref m)->m∈bs:=λ{ks}=>by
     induction ks with
     |nil=>intro bs q;unfold bh at q;rw[List.zip_nil_left] at q;cases q
     |cons x xs ih=>
      intro bs q;cases bs with
      |nil=>unfold bh at q;rw[List.zip_nil_right] at q;cases q
      |cons b bs=>
       have e0:bh (x::xs) (b::bs)=(Sum.inl (x:Int),V.ref b)::bh xs bs:=rfl;rw[e0] at q;by_cases y:x=h
       ·rw[fw (p:=((Sum.inl (x:Int):Key),V.ref b)) (by rw[y])] at q;have eb:b=m:=V.ref.inj (Yr q);rw[eb];exact Yl
       ·rw[eS (p:=((Sum.inl (x:Int):Key),V.ref b)) (λw=>y (by have:=AV w;omega))] at q;exact Yw _ (ih q)
    exact n1.1 (by rw[w];exact this e)
   exact .cons (k a p f Yl am) (ih n1.2 n2.2 e λb q fb hb nb=>k b q fb (Yw _ hb) nb)
def oN(aX:List Int)(ld:List (List Int))(i:Nat):List (List Int):=ld.set i (bw (ld.getD i []) aX)
theorem iR(xs ys:List Int):(bw xs ys).length=ys.length:=by unfold bw;rw[Ya]
theorem Zd7{xs ys:List Int}{n:Nat}(hx:∀x∈xs,0<=x/\x<n)(hy:∀y∈ys,0<=y/\y<xs.length):∀z∈bw xs ys,0<=z/\z<n:=λz hz=>by
 obtain⟨y,my,rfl⟩:=Yf.mp hz;obtain⟨y0,y1⟩:=hy y my;have hl:y.toNat<xs.length:=by omega
 have e:xs.getD y.toNat 0=xs[y.toNat]:=by rw[Ye,Yc hl];rfl
 simp_all
def jM(hb:Nat)(mv:List Nat)(hd:List Nat):List Nat:=mv.foldl (λacc i=>acc.set i hb) hd
def gn(aX:List Int)(mv:List Nat)(ld:List (List Int)):List (List Int):=mv.foldl (oN aX) ld
def JS.mv(st:JS)(hb hm:Nat)(mb mv:List Nat)(aX:List Int):JS:=⟨jM hb mv st.hd,gn aX mv st.ld,d7 hb (mb++mv) (cR hm st.mem),cR hm st.fr⟩
inductive NK(C:Addr)(vs:List V)(H:Hp)(Q:VK):Prop
 |mk (l:JL) (st:JS) (n a b ha hb:Nat) (ta tb tn fm:List Int) (tu:Addr) (ma mb:List Nat) (aC:vs=[.ref l.J,.int (a:Int),.int (b:Int),.ref tu]) (aR:cI H C n l st) (a8:H tu=some (.tup (tn.map V.int))) (bC:n<=8) (cD:tn.length=n) (dC:full tn=true) (fR:st.hd[a]?=some ha) (jd:st.hd[b]?=some hb) (qj:st.ld[a]?=some ta) (xB:st.ld[b]?=some tb) (Gz:(∀t∈st.ld,full t=true/\t.length=n)) (Rp:st.ld.length=st.hd.length) (Zhw:st.mem.lookup ha=some ma) (Zhx:st.mem.lookup hb=some mb) (Zhy:st.fr.lookup ha=some fm) (Zhz:ha≠hb) (ZhA:(∀i∈ma,i<st.hd.length)) (ZhB:ma.length+mb.length<=1000) (ZhC:(st.mem.map (·.1)).Nodup) (ZhD:∀(l':JL) (H':Hp),l'.J=l.J->(∀c∈l'.fp,c∈l.fp)->Out l.fp H H'->cI H' C n l' (st.mv hb ha mb ma (bw (inv ta) (bw tn tb)))->Q .ay H'):NK C vs H Q
def Pn(C:Addr):Sp:=λvs H Q _=>NK C vs H Q
theorem vG{α β:Type}{g:List α->β->List α}(hg:∀acc i,(g acc i).length=acc.length):∀(is:List β) (xs:List α),(is.foldl g xs).length=xs.length
 |[],_=>rfl
 |i::is,xs=>by
  rw[List.foldl_cons,vG hg is,hg]
theorem KJ{α β:Type}{g:List α->β->List α}{is:List β}{j:Nat}{i:β}(h:is[j]?=some i)(xs:List α):(is.take (j+1)).foldl g xs=g ((is.take j).foldl g xs) i:=by
 rw[Y2,h,List.foldl_append];rfl
theorem Zck(is:List Nat)(i k:Nat):(dF is).set i (.int (k:Int))=dF (is.set i k):=by
 simp_all
theorem KL{α β:Type}{F:α->β->Prop}{x:α}{y:β}(f:F x y):∀{xs:List α} {ys:List β} (i:Nat),Paired F xs ys->Paired F (xs.set i x) (ys.set i y)
 |_,_,_,.nil=>.nil
 |_,_,0,.cons _ t=>.cons f t
 |_,_,i+1,.cons g t=>.cons g (KL f i t)
theorem pB{xs ys:List Int}(fx:full xs=true)(fy:full ys=true)(e:xs.length=ys.length):full (bw xs ys)=true:=by
 have p1:(bw xs ys).Perm ((bc ys.length).map λx=>xs.getD x.toNat 0):=(pk fy).map _;have e2:((bc ys.length).map λx=>xs.getD x.toNat 0)=xs:=by
  refine Wu λi=>?_;rw[Yg];by_cases hi:i<ys.length
  ·rw[lu hi]
   grind
  ·rw[Y6 (by rw[eM];omega),Y6 (by omega)];rfl
 rw[e2] at p1;exact qV (p1.trans (pk fx))
inductive F4(H5:Hp)(l:JL)(hd:List Nat)(ld:List (List Int))(n:Nat)(sg:Option V->St)(σ:St)(H6:Hp):Prop
 |mk (gU:List Addr) (o9:Option V) (k1:H6 l.ha=some (.lst (dF hd))) (k2:H6 l.la=some (.lst (gU.map V.ref))) (k3:Paired (λa (xs:List Int)=>H6 a=some (.tup (xs.map V.int))) gU ld) (k4:∀t∈ld,full t=true/\t.length=n) (kp:∀c o,H5 c=some o->c≠l.ha->c≠l.la->H6 c=some o) (e:σ=sg o9):F4 H5 l hd ld n sg σ H6
def Rq(l:JL)(a b hb ha:Int)(tu tm to mo:Addr)(o9:Option V):St:=[some (.ref l.J),some (.int a),some (.int b),some (.ref tu),some (.int hb),some (.int ha),some (.ref tm),some (.ref to),some (.ref mo),o9]
section
theorem qI:aP ["self","mover","stayer","turn","head","old_head","to_mover","to_old_head","moved","number"] ["self","mover","stayer","turn"] (aG CU):=.aV
theorem Zcl(F:aM K "move" "Joins.move" CU f fd)(jc:mK K C)(pd:HasFn P w K mg base 1 "followed" ["first","then"] (F1 K))(nv:HasFn P w K mg base 1 "turned_back" ["turn"] Ah)(bl:Bl mg):aE P w K mg base aL 2 f fd ["self","mover","stayer","turn"] (Pn C):=by
 refine F.o qI λaA A outer s H vs Q E hr h=>?_;obtain⟨l,st,n,a,b,ha,hb,ta,tb,tn,fm,tu,ma,mb,rfl,ja,hu,n8,tl,ft,hA,hB,lA,lB,fl,ll,mA,mB,fA,neq,min,lm,ndk,q⟩:=h;refine⟨_,(aj (bW 4 qI.nd (aY (iL K) (pF K 0) (pv 2))) (aj (bW 5 qI.nd (aY (iL K) (pF K 0) (pv 1))) (aj (bW 6 qI.nd (aU pd hr (aa (aY (iL K) (pF K 0) (pv 2)) (aa (pv 3) ag)))) (aj (bW 7 qI.nd (aU pd hr (aa (pv 6) (aa (aU nv hr (aa (aY (iL K) (pF K 0) (pv 1)) ag)) ag)))) (aj (bW 8 qI.nd (Lj (pF K 0) (pv 5) ⟨rfl,rfl,rfl,rfl⟩)) (aj (bU (Lj (pF K 0) (pv 5) ⟨rfl,rfl,rfl,rfl⟩)) (aj (gP PassesOwn.never rfl (fZ (K:=K) rfl (pv 8)) (bF 9 qI.nd) (aj (Nj (pF K 0) (pv 9) Lf (pv 4)) (aq (Nj (pF K 0) (pv 9) Lf (aU pd hr (aa (pv 7) (aa (aY (iL K) (pF K 0) (pv 9)) ag))))))) (aq (bU (mJ (K:=K) rfl (jL plainAttrs_list PySem.F.slot_list_extend PySem.F.type_list_extend XY (df (bj hr) (pF K 0) (pv 4) (λ_ _=>rfl)) (aa (pv 8) ag)))))))))))),?_⟩;have sz:(10000:Nat)<=sizeLine:=by rw[sizeLine_eq];omega
 obtain⟨dx,ho⟩:=ja.obj;have wJ:∀{i:Nat} {t:List Int},st.ld[i]?=some t->∃x,l.eI[i]?=some x/\H x=some (.tup (t.map V.int)):=λ{i t} ht=>by
  have hl:=c9 ja.lead;have dE:i<l.eI.length:=by rw[hl];exact(Yj.mp ht).1
  obtain⟨y,ey,hy⟩:=fY ja.lead (Yc dE);rw[ht] at ey;cases ey;exact⟨_,Yc dE,hy⟩
 obtain⟨xa,exa,Ie⟩:=wJ lA;obtain⟨xb,exb,Ig⟩:=wJ lB;have ata:dJ (l.eI.map V.ref) (a:Int)=some (.ref xa):=ic (by rw[Yg,exa];rfl);have atb:dJ (l.eI.map V.ref) (b:Int)=some (.ref xb):=ic (by rw[Yg,exb];rfl);obtain⟨S1,lta⟩:=fl ta (Yi lA);obtain⟨Ih,Ii⟩:=fl tb (Yi lB);obtain⟨mo,xQ,vmo,S2⟩:=nG (f:=λv:List Nat=>HO.lst (dF v)) ja.mem mA;obtain⟨ms,mms,vms,hms⟩:=nG (f:=λv:List Nat=>HO.lst (dF v)) ja.mem mB;obtain⟨fo,mfo,vfo,hfo⟩:=nG (f:=λv:List Int=>HO.lst (v.map V.int)) ja.free fA;have H_:=c9 ja.mem;have AX:=c9 ja.free;have nd:=ja.nd;have AZ:∀{x:Addr},x∈l.fG->x∈l.fp:=λ{x} h=>by simp[JL.fp,h]
 simp only[JL.fp,Yz,Yo,not_or] at nd;obtain⟨⟨x1,x2,x3,x4,x5⟩,⟨y1,y2,y3,y4⟩,⟨z1,z2,z3⟩,⟨w1,w2⟩,v1,v2⟩:=nd;refine cq ?_;refine⟨_,rfl,l.J,C,dx,_,_,rfl,ho,jc.cls,jc.jJ,rfl,_,rfl,l.ha,_,_,_,rfl,rfl,ak.of ja.heads,nP hB,?_⟩;refine cq ?_;refine⟨_,rfl,l.J,C,dx,_,_,rfl,ho,jc.cls,jc.jJ,rfl,_,rfl,l.ha,_,_,_,rfl,rfl,ak.of ja.heads,nP hA,?_⟩;refine cq ?_;refine⟨_,rfl,l.J,C,dx,_,_,rfl,ho,jc.cls,jc.mE,rfl,_,rfl,l.la,_,_,_,rfl,rfl,ak.of ja.iq,atb,_,rfl,xb,tu,tb,tn,rfl,aB.of Ig,aB.of hu,λx hx=>by rw[tl,←Ii];exact pK Ih hx,by omega,λtm H1 SY g1 htm=>?_⟩;refine cq ?_;refine⟨_,rfl,_,rfl,l.J,C,dx,_,_,rfl,g1 _ _ ho,jc.cls,jc.mE,rfl,_,rfl,l.la,_,_,_,rfl,rfl,ak.of (g1 _ _ ja.iq),ata,xa,ta,rfl,g1 _ _ Ie,by omega,S1,λti H2 nti g2 A0=>?_⟩;refine⟨tm,ti,bw tn tb,inv ta,rfl,aB.of (g2 _ _ htm),aB.of A0,?_,by rw[iR];omega,λto H3 A1 g3 S3=>?_⟩
 ·rw[fq,lta];exact Zd7 (n:=n) (λx hx=>by rw[←tl];exact pK ft hx) (λy hy=>by rw[tl,←Ii];exact pK Ih hy)
 have jy:=(g1.trans g2).trans g3;generalize ZfL:bw (inv ta) (bw tn tb)=aX at S3 q;have uB:full aX=true/\aX.length=n:=by
  rw[←ZfL];refine⟨pB (jH S1) (pB ft Ih (by omega)) (by rw[fq,iR];omega),by rw[iR,iR];exact Ii⟩
 refine cq ?_;refine⟨_,rfl,l.J,C,dx,_,_,rfl,jy _ _ ho,jc.cls,jc.tX,rfl,l.md,rfl,.inl ⟨_,.inl (jy _ _ ja.jr)⟩,_,rfl,_,.inl (ha:Int),.ref mo,jy _ _ ja.jr,rfl,vmo,λH4 b4 e4=>?_⟩;rw[yG ha (by rw[Ya];exact H_.symm)] at e4;have o4:=b4 _ _ (jy _ _ ho) x3;have f4:=b4 _ _ (jy _ _ ja.frees) (λz=>w1 z.symm);refine⟨_,rfl,l.J,C,dx,_,_,rfl,o4,jc.cls,jc.rh,rfl,l.fd,rfl,.inl ⟨_,.inl f4⟩,_,rfl,_,.inl (ha:Int),.ref fo,f4,rfl,vfo,λH5 b5 e5=>?_⟩;rw[yG ha (by rw[Ya];exact AX.symm)] at e5;have lG:∀c o,H c=some o->c≠l.md->c≠l.fd->H5 c=some o:=λc o e n1 n2=>b5 _ _ (b4 _ _ (jy _ _ e) n1) n2;have e45:H5 l.md=some _:=b5 _ _ e4 w1;have pZ:∀{x:Addr},x∈l.fG->x≠l.ha/\x≠l.la/\x≠l.md/\x≠l.fd:=λ{x} hx=>⟨λz=>y4 (by rw[←z];exact hx),λz=>z3 (by rw[←z];exact hx),λz=>w2 (by rw[←z];exact hx),λz=>v1 (by rw[←z];exact hx)⟩;have S4:=lG _ _ S2 (pZ xQ).2.2.1 (pZ xQ).2.2.2;have uX:H5 to=some (.tup (aX.map V.int)):=by
  have n1:to≠l.md:=λz=>by rw[z,g1.trans g2 _ _ ja.jr] at A1;cases A1
  have n2:to≠l.fd:=λz=>by rw[z,g1.trans g2 _ _ ja.frees] at A1;cases A1
  exact b5 _ _ (b4 _ _ S3 n1) n2
 dsimp only;have Ij:(dF ma).length=ma.length:=Ya _;have hlen:∀is:List Nat,(jM hb is st.hd).length=st.hd.length:=λis=>vG (λ_ _=>W4) is st.hd;have ZfM:∀is:List Nat,(gn aX is st.ld).length=st.ld.length:=λis=>vG (λ_ _=>by unfold oN;exact W4) is st.ld;refine iQ (F4 H5 l (jM hb ma st.hd) (gn aX ma st.ld) n (Rq l a b hb ha tu tm to mo)) (λoO fU=>?_) ?_
 ·refine⟨_,rfl,mo,rfl,⟨_,ak.of S4⟩,kA (K:=K) (a:=mo) (xs:=dF ma) (λj=>F4 H5 l (jM hb (ma.take j) st.hd) (gn aX (ma.take j) st.ld) n (Rq l a b hb ha tu tm to mo))
   ⟨l.eI,none,lG _ _ ja.heads y2 y3,lG _ _ ja.iq z1 z2,L2.Paired.bA ja.lead λc xs e=>lG c _ e (dM e ja.jr (λz=>by cases z)) (dM e ja.frees (λz=>by cases z)),fl,λc o e _ _=>e,rfl⟩
   (λj σ H6 _ ⟨_,_,_,_,_,_,kp,_⟩=>ak.of (kp _ _ S4 (pZ xQ).1 (pZ xQ).2.1)) ?_ ?_⟩
  ·rintro j v σ H6 hj ⟨gU,o9,k1,k2,k3,k4,kp,rfl⟩;rw[Yg] at hj;obtain⟨i,mi,rfl⟩:∃i,ma[j]?=some i/\V.int (i:Int)=v:=by
    cases e:ma[j]? with
    |none=>rw[e] at hj;cases hj
    |some i=>rw[e] at hj;exact⟨i,rfl,Yr hj⟩
   have hi:=min i (Yi mi);have il:i<(gn aX (ma.take j) st.ld).length:=by rw[ZfM];omega
   have Zhn:=c9 k3;obtain⟨t,et,A0⟩:=fY k3 (Yc (show i<gU.length by omega));obtain⟨ftt,S5⟩:=k4 t (Yi et);have oJ:=kp _ _ (lG _ _ ho x3 x4) x1 x2;have ixh:kN (dF (jM hb (ma.take j) st.hd)).length (i:Int)=some i:=by
    rw[Fm (by omega) (by rw[Ya,hlen];omega),Y5]
   have ixl:kN (gU.map V.ref).length (i:Int)=some i:=by
    rw[Fm (by omega) (by rw[Ya];omega),Y5]
   refine bo ?_;refine⟨_,rfl,_,rfl,l.J,C,dx,_,_,rfl,oJ,jc.cls,jc.jJ,rfl,_,rfl,l.ha,_,_,i,rfl,rfl,k1,ixh,λH7 b7 e7=>?_⟩;have S6:=b7 _ _ oJ x1;have xR:=b7 _ _ k2 (λz=>y1 z.symm);have to7:H7 to=some (.tup (aX.map V.int)):=b7 _ _ (kp _ _ uX (dM uX (lG _ _ ja.heads y2 y3) (λz=>by cases z)) (dM uX (lG _ _ ja.iq z1 z2) (λz=>by cases z))) (dM (kp _ _ uX (dM uX (lG _ _ ja.heads y2 y3) (λz=>by cases z)) (dM uX (lG _ _ ja.iq z1 z2) (λz=>by cases z))) k1 (λz=>by cases z));have x7:H7 gU[i]=some (.tup (t.map V.int)):=b7 _ _ A0 (dM A0 k1 (λz=>by cases z));have atx:dJ (gU.map V.ref) (i:Int)=some (.ref gU[i]):=ic (by rw[Yg,Yc (show i<gU.length by omega)];rfl);refine⟨_,rfl,_,rfl,l.J,C,dx,_,_,rfl,S6,jc.cls,jc.mE,rfl,_,rfl,l.la,_,_,_,rfl,rfl,ak.of xR,atx,to,gU[i],aX,t,rfl,aB.of to7,aB.of x7,λx hx=>by rw[S5,←uB.2];exact pK uB.1 hx,by have:=uB.2;omega,λtt H8 S7 g8 htt=>?_⟩;refine⟨_,rfl,l.J,C,dx,_,_,rfl,g8 _ _ S6,jc.cls,jc.mE,rfl,_,rfl,l.la,_,_,i,rfl,rfl,g8 _ _ xR,ixl,λH9 b9 e9=>?_⟩;have gt:(gn aX (ma.take j) st.ld).getD i []=t:=by rw[Ye,et];rfl
   have eh:jM hb (ma.take (j+1)) st.hd=(jM hb (ma.take j) st.hd).set i hb:=KJ mi st.hd;have el:gn aX (ma.take (j+1)) st.ld=(gn aX (ma.take j) st.ld).set i (bw t aX):=by
    have e1:gn aX (ma.take (j+1)) st.ld=oN aX (gn aX (ma.take j) st.ld) i:=KJ mi st.ld;rw[e1,←gt];rfl
   have Ic:tt≠l.la:=λz=>by rw[z,xR] at S7;cases S7
   have h9:∀c o,H6 c=some o->c≠l.ha->c≠l.la->H9 c=some o:=λc o e n1 n2=>b9 _ _ (g8 _ _ (b7 _ _ e n1)) n2;refine⟨gU.set i tt,_,?_,?_,?_,?_,λc o e n1 n2=>h9 c o (kp c o e n1 n2) n1 n2,rfl⟩
   ·rw[eh,←Zck];exact b9 _ _ (g8 _ _ e7) y1
   ·rw[e9,List.map_set]
   ·rw[el];exact KL (F:=λa (xs:List Int)=>H9 a=some (.tup (xs.map V.int))) (b9 _ _ htt Ic) i (L2.Paired.bA k3 λc xs e=>h9 c _ e (dM e k1 (λz=>by cases z)) (dM e k2 (λz=>by cases z)))
   ·intro u xS;rw[el] at xS;rcases List.mem_or_eq_of_mem_set xS with z|z;·exact k4 u z
    ·rw[z];exact⟨pB ftt uB.1 (by rw[S5,uB.2]),by rw[iR];exact uB.2⟩
  ·rintro σ H6 ⟨gU,o9,k1,k2,k3,k4,kp,rfl⟩;rw[Ij,We] at k1 k3 k4;exact fU _ _ ⟨gU,o9,k1,k2,k3,k4,kp,rfl⟩
 rintro σ H6 ⟨gU,o9,k1,k2,k3,k4,kp,rfl⟩;have oJ:=kp _ _ (lG _ _ ho x3 x4) x1 x2;have S8:=kp _ _ e45 (λz=>y2 z.symm) (λz=>z1 z.symm);have fd6:=kp _ _ e5 (λz=>y3 z.symm) (λz=>z2 z.symm);have A2:=pZ mms;have A3:=pZ xQ;have wL:∀c o,H c=some o->c≠l.ha->c≠l.la->c≠l.md->c≠l.fd->H6 c=some o:=λc o e n1 n2 n3 n4=>kp _ _ (lG _ _ e n3 n4) n1 n2;have ms6:=wL _ _ hms A2.1 A2.2.1 A2.2.2.1 A2.2.2.2;have mo6:=wL _ _ S2 A3.1 A3.2.1 A3.2.2.1 A3.2.2.2;have S9:Paired (λc (p:Nat×List Nat)=>H6 c=some (.lst (dF p.2))/\c∈l.fG) (dI (st.mem.map (·.1)) l.fG ha) (cR ha st.mem):=DV ja.mem λc p e mc _=>by
  obtain⟨q1,q2,q3,q4⟩:=pZ mc;exact⟨wL _ _ e q1 q2 q3 q4,mc⟩
 have lkB:(cR ha st.mem).lookup hb=some mb:=by rw[tQ (λz=>neq z.symm)];exact mB
 obtain⟨uY,ZfN,GA,GB⟩:=nG (f:=λv:List Nat=>HO.lst (dF v)) (L2.Paired.bA S9 λ_ _ h=>h.1) lkB;rw[nK] at GA;have zW:uY∈l.fG:=y6.subset ZfN;refine⟨_,rfl,l.J,C,dx,_,_,rfl,oJ,jc.cls,jc.tX,rfl,_,rfl,l.md,.ref uY,rfl,pQ S8 GA,.inl ⟨rfl,_,ak.of GB⟩,_,rfl,uY,mo,_,_,rfl,rfl,GB,mo6,by rw[Ij,Ya];omega,λH7 b7 e7=>?_⟩;obtain⟨r1,r2,r3,r4⟩:=pZ zW;have sub:=y6 (h:=ha) (ks:=st.mem.map (·.1)) (as:=l.fG);have ZfO:=y6 (h:=ha) (ks:=st.fr.map (·.1)) (as:=l.bQ);have S_:∀c∈JL.fp ⟨l.J,l.ha,l.la,l.md,l.fd,gU,dI (st.mem.map (·.1)) l.fG ha,dI (st.fr.map (·.1)) l.bQ ha⟩,c∈l.fp:=λc hc=>by
  simp only[JL.fp,Yo] at hc⊢;rcases hc with h|h|h|h|h|h;·exact .inl h
  ·exact .inr (.inl h)
  ·exact .inr (.inr (.inl h))
  ·exact .inr (.inr (.inr (.inl h)))
  ·exact .inr (.inr (.inr (.inr (.inl h))))
  ·exact .inr (.inr (.inr (.inr (.inr (sub.subset h)))))
 have h7:∀c o,H6 c=some o->c≠uY->H7 c=some o:=λc o e n1=>b7 _ _ e n1;refine q ⟨l.J,l.ha,l.la,l.md,l.fd,gU,dI (st.mem.map (·.1)) l.fG ha,dI (st.fr.map (·.1)) l.bQ ha⟩ H7 rfl S_ (λc o e nc=>?_) ⟨⟨dx,h7 _ _ oJ (λz=>x5 (by rw[z];exact zW))⟩,h7 _ _ k1 (λz=>r1 z.symm),h7 _ _ k2 (λz=>r2 z.symm),L2.Paired.bA k3 λc xs e=>h7 c _ e (dM e GB (λz=>by cases z)),?_,?_,?_,?_,?_,λc hc z=>?_⟩
 ·simp only[JL.fp,Yo,not_or] at nc;exact h7 _ _ (wL _ _ e nc.2.1 nc.2.2.1 nc.2.2.2.1 nc.2.2.2.2.1) (λz=>nc.2.2.2.2.2 (by rw[z];exact zW))
 ·show H7 l.md=some (.dK (bh ((d7 hb (mb++ma) (cR ha st.mem)).map (·.1)) _));rw[qS,nK];exact h7 _ _ S8 (λz=>r3 z.symm)
 ·refine YH (F:=λc (p:Nat×List Nat)=>H6 c=some (.lst (dF p.2))/\c∈l.fG) (m:=uY) (λk=>?_) S9 (sub.nodup v2) ?_ (by rw[nK];exact GA) λc p e _ nc=>h7 _ _ e.1 nc
  ·show H7 uY=some (.lst (dF (mb++ma)));rw[e7,dF,dF,dF,Ys]
  ·rw[nK];exact ndk.filter _
 ·show H7 l.fd=some (.dK (bh ((cR ha st.fr).map (·.1)) _));rw[nK];exact h7 _ _ fd6 (λz=>r4 z.symm)
 ·refine DV ja.free λc p e mc _=>?_;have no:=ja.out c mc;simp only[JL.fp,Yo,not_or] at no;exact h7 _ _ (wL _ _ e no.2.1 no.2.2.1 no.2.2.2.1 no.2.2.2.2.1) (λz=>no.2.2.2.2.2 (by rw[z];exact zW))
 ·have e0:(JL.fp ⟨l.J,l.ha,l.la,l.md,l.fd,gU,dI (st.mem.map (·.1)) l.fG ha,dI (st.fr.map (·.1)) l.bQ ha⟩).Sublist l.fp:=(((((sub.cons₂ l.fd).cons₂ l.md).cons₂ l.la).cons₂ l.ha).cons₂ l.J);exact e0.nodup ja.nd
 ·exact ja.out c (ZfO.subset hc) (S_ c z)
end
structure Rr(st:JS)(n a b ha hb:Nat)(ta tb fma xT:List Int)(ma mb:List Nat):Prop where
 hA:st.hd[a]?=some ha
 hB:st.hd[b]?=some hb
 lA:st.ld[a]?=some ta
 lB:st.ld[b]?=some tb
 fl:∀t∈st.ld,full t=true/\t.length=n
 ll:st.ld.length=st.hd.length
 mA:st.mem.lookup ha=some ma
 mB:st.mem.lookup hb=some mb
 fA:st.fr.lookup ha=some fma
 fB:st.fr.lookup hb=some xT
 ne:ha≠hb
 iA:∀i∈ma,i<st.hd.length
 iB:∀i∈mb,i<st.hd.length
 lm:ma.length+mb.length<=1000
 nd:(st.mem.map (·.1)).Nodup
inductive Mr(C:Addr)(vs:List V)(H:Hp)(Q:VK):Prop
 |mk (l:JL) (st:JS) (n a b ha hb:Nat) (ta tb tn fma xT:List Int) (tu:Addr) (ma mb:List Nat) (aC:vs=[.ref l.J,.int (a:Int),.int (b:Int),.ref tu]) (aR:cI H C n l st) (a8:H tu=some (.tup (tn.map V.int))) (bC:n<=8) (cD:tn.length=n) (dC:full tn=true) (fR:Rr st n a b ha hb ta tb fma xT ma mb) (jd:∀(l':JL) (aK:JS) (H':Hp),l'.J=l.J->(∀c∈l'.fp,c∈l.fp)->Out l.fp H H'->cI H' C n l' aK->(aK=st.mv hb ha mb ma (bw (inv ta) (bw (inv tn) tb))\/aK=st.mv ha hb ma mb (bw (inv tb) (bw tn ta)))->Q .ay H'):Mr C vs H Q
def NL(C:Addr):Sp:=λvs H Q _=>Mr C vs H Q
section
theorem Uz:aP ["self","one","other","turn"] ["self","one","other","turn"] (aG BA):=.aV
theorem Za8(F:aM K "bring_together" "Joins.bring_together" BA f fd)(jc:mK K C)(nv:HasFn P w K mg base 1 "turned_back" ["turn"] Ah)(yw:cz P w K mg base 2 "move" C ["self","mover","stayer","turn"] (Pn C))(bl:Bl mg):aE P w K mg base aL 3 f fd ["self","one","other","turn"] (NL C):=by
 refine F.o Uz λaA A outer s H vs Q E hr h=>?_;obtain⟨l,st,n,a,b,ha,hb,ta,tb,tn,fma,xT,tu,ma,mb,rfl,ja,hu,n8,tl,ft,two,q⟩:=h;refine⟨_,(aq (aS (bp mO (dh K bl (df (bj hr) (pF K 0) (aY (iL K) (pF K 0) (pv 1)) (λ_ _=>rfl))) (dh K bl (df (bj hr) (pF K 0) (aY (iL K) (pF K 0) (pv 2)) (λ_ _=>rfl)))) (aq (bU (cP yw hr (by omega) (pv 0) (aa (pv 1) (aa (pv 2) (aa (aU nv hr (aa (pv 3) ag)) ag)))))) (aq (bU (cP yw hr (by omega) (pv 0) (aa (pv 2) (aa (pv 1) (aa (pv 3) ag)))))))),?_⟩;obtain⟨dx,ho⟩:=ja.obj;obtain⟨xa,mxa,vxa,Ie⟩:=nG (f:=λv:List Nat=>HO.lst (dF v)) ja.mem two.mA;obtain⟨xb,mxb,vxb,Ig⟩:=nG (f:=λv:List Nat=>HO.lst (dF v)) ja.mem two.mB;refine⟨_,rfl,l.J,C,dx,_,_,rfl,ho,jc.cls,jc.tX,rfl,_,rfl,l.J,C,dx,_,_,rfl,ho,jc.cls,jc.jJ,rfl,_,rfl,l.ha,_,_,_,rfl,rfl,ak.of ja.heads,nP two.hA,l.md,.ref xa,rfl,pQ ja.jr vxa,xa,_,rfl,.inl (ak.of Ie),?_⟩;refine⟨_,rfl,l.J,C,dx,_,_,rfl,ho,jc.cls,jc.tX,rfl,_,rfl,l.J,C,dx,_,_,rfl,ho,jc.cls,jc.jJ,rfl,_,rfl,l.ha,_,_,_,rfl,rfl,ak.of ja.heads,nP two.hB,l.md,.ref xb,rfl,pQ ja.jr vxb,xb,_,rfl,.inl (ak.of Ig),_,_,rfl,rfl,_,rfl,bB (λ_=>?_) (λ_=>?_)⟩
 ·refine⟨_,rfl,l.J,dx,_,rfl,ho,rfl,_,rfl,_,rfl,_,rfl,tu,tn,rfl,hu,by omega,ft,λtv H1 ntv g1 htv=>?_⟩;refine⟨l,st,n,a,b,ha,hb,ta,tb,inv tn,fma,tv,ma,mb,rfl,ja.same g1,htv,n8,by rw[fq];exact tl,jH ft,two.hA,two.hB,two.lA,two.lB,two.fl,two.ll,two.mA,two.mB,two.fA,two.ne,two.iA,two.lm,two.nd,λl' H2 k1 k2 o2 j2=>q l' _ H2 k1 k2 ((Out.of g1).trans o2) j2 (.inl rfl)⟩
 ·refine⟨_,rfl,l.J,dx,_,rfl,ho,rfl,_,rfl,_,rfl,_,rfl,?_⟩;exact⟨l,st,n,b,a,hb,ha,tb,ta,tn,xT,tu,mb,ma,rfl,ja,hu,n8,tl,ft,two.hB,two.hA,two.lB,two.lA,two.fl,two.ll,two.mB,two.mA,two.fB,(λz=>two.ne z.symm),two.iB,by have:=two.lm;omega,two.nd,λl' H2 k1 k2 o2 j2=>q l' _ H2 k1 k2 o2 j2 (.inr rfl)⟩
end
def QC(H:Hp)(as:List Addr)(bI:List (Int×Int)):Prop:=Paired (λa (p:Int×Int)=>H a=some (.tup [.int p.1,.int p.2])) as bI
def iX(hi hj:Nat)(ti tj si sj:List Int):List (Int×Int):=if hi=hj then si.map λz=>(ti.getD z.toNat 0,tj.getD z.toNat 0) else(si.map λz=>ti.getD z.toNat 0).flatMap λx=>sj.map λz=>(x,tj.getD z.toNat 0)
inductive Ms(C:Addr)(vs:List V)(H:Hp)(Q:VK):Prop
 |mk (l:JL) (st:JS) (n i j hi hj:Nat) (ti tj si sj:List Int) (aC:vs=[.ref l.J,.int (i:Int),.int (j:Int)]) (aR:cI H C n l st) (a8:rS st i hi ti si) (bC:rS st j hj tj sj) (cD:∀(p:Addr) (as:List Addr) (bI:List (Int×Int)) (H':Hp),H p=none->ai H H'->H' p=some (.lst (as.map V.ref))->QC H' as bI->bI.Perm (iX hi hj ti tj si sj)->bI.Pairwise iW->Q (.ref p) H'):Ms C vs H Q
def NM(C:Addr):Sp:=λvs H Q _=>Ms C vs H Q
inductive NN(C:Addr)(vs:List V)(H:Hp)(Q:VK):Prop
 |mk (l:JL) (st:JS) (n i j hi hj:Nat) (ti tj si sj tn:List Int) (tu:Addr) (aC:vs=[.ref l.J,.int (i:Int),.int (j:Int),.ref tu]) (aR:cI H C n l st) (a8:rS st i hi ti si) (bC:rS st j hj tj sj) (cD:H tu=some (.tup (tn.map V.int))) (dC:(∀q∈iX hi hj ti tj si sj,0<=q.1/\q.1<tn.length)) (fR:(iX hi hj ti tj si sj).length<=1000) (jd:∀(p:Addr) (ns:List Int) (H':Hp),H p=none->ai H H'->H' p=some (.lst (ns.map V.int))->ns.Perm (((iX hi hj ti tj si sj).filter λq=>decide (tn.getD q.1.toNat 0=q.2)).map (·.1))->ns.Pairwise (·<·)->Q (.ref p) H'):NN C vs H Q
def FA(C:Addr):Sp:=λvs H Q _=>NN C vs H Q
section
theorem VD:aP ["self","one","other","turn"] ["self","one","other","turn"] (aG CT):=.aV
theorem Zcm(F:aM K "left" "Joins.left" CT f fd)(CH:cz P w K mg base 3 "pairs" C ["self","one","other"] (NM C))(bl:Bl mg):aE P w K mg base aL 4 f fd ["self","one","other","turn"] (FA C):=by
 refine F.o VD λaA A outer s H vs Q E hr h=>?_;obtain⟨l,st,n,i,j,hi,hj,ti,tj,si,sj,tn,tu,rfl,ja,o1,o2,hu,eX,iF,q⟩:=h;refine⟨_,(aq (aI (ZaM (xs:=["first","second"]) (fr:=[("turn",3)]) (cl:=[("turn",s.heap.objs.size+1)]) rfl (.g_ ⟨rfl,trivial⟩ ⟨⟨rfl,.inl rfl,.inl rfl,rfl⟩,trivial⟩) (λ_ _ _ _=>(jj (K:=K) (n:=2) rfl rfl (bR (pH (i:=0) (show(["first","second","turn"]:List Str).Nodup by decide+kernel) rfl (Or.inl rfl)) (bR (pH (i:=1) (show(["first","second","turn"]:List Str).Nodup by decide+kernel) rfl (Or.inl rfl)) jh)))) (fZ (K:=K) rfl (cP CH hr (by omega) (pv 0) (aa (pv 1) (aa (pv 2) ag)))) (λ_ _ _ _=>vZ (bp bZ (aY (iT K) (pv 2) (pv 0)) (pv 1))) (λ_ _ _ _=>(pv 0))))),?_⟩;obtain⟨dx,ho⟩:=ja.obj;refine⟨_,rfl,l.J,dx,_,rfl,ho,rfl,_,rfl,_,rfl,l,st,n,i,j,hi,hj,ti,tj,si,sj,rfl,ja,o1,o2,λp as bI H1 np g1 hp pr pm pw=>?_⟩;have pl:=c9 pr;have al:(as.map V.ref).length=bI.length:=by rw[Ya];exact pl
 have Rt:=pm.length_eq;refine⟨p,rfl,⟨_,ak.of hp⟩,λD hD=>X0 (xs:=as.map V.ref) (λk ys H2=>k<=bI.length/\ai H1 H2/\H2 D=some (.lst ys)/\ys=((bI.take k).filter λq=>decide (tn.getD q.1.toNat 0=q.2)).map λq=>V.int q.1) ⟨Yx _,bY hD _,aO,rfl⟩ (λk ys H2 _ ⟨_,g2,_,_⟩=>ak.of (g2 _ _ hp)) ?_ ?_⟩
 ·rintro k v ys H2 hk ⟨_,g2,h2,ey⟩ os oC;obtain⟨u1,u2,rfl⟩:∃u1 u2,os=[u1,u2]:=by
   match os,oC with
   |[u1,u2],_=>exact⟨u1,u2,rfl⟩
  rw[Yg] at hk;obtain⟨c,ec,rfl⟩:∃c,as[k]?=some c/\V.ref c=v:=by
   cases e:as[k]? with
   |none=>rw[e] at hk;cases hk
   |some c=>rw[e] at hk;exact⟨c,rfl,Yr hk⟩
  obtain⟨⟨x,y⟩,Ik,hxy⟩:=fY pr ec;have kl:k<bI.length:=(Yj.mp Ik).1;have bx:=eX (x,y) (pm.subset (Yi Ik));have hx2:=g2 _ _ hxy;have yl:ys.length<sizeLine:=by
   have:=Wh (λq:Int×Int=>decide (tn.getD q.1.toNat 0=q.2)) (bI.take k);rw[Y9] at this;rw[ey,Ya,sizeLine_eq];omega
  refine⟨c,_,rfl,aB.of hx2,rfl,_,_,rfl,bo ⟨_,_,rfl,bo ⟨rfl,⟨[some (.int x),some (.int y)],rfl,rfl⟩,?_⟩⟩⟩;refine⟨_,rfl,_,rfl,tu,_,_,_,rfl,rfl,aB.of (g2 _ _ (g1 _ _ hu)),mI bx.1 bx.2,_,rfl,rfl,_,rfl,?_⟩;have ed:decide (V.int (tn.getD x.toNat 0)=V.int y)=decide (tn.getD x.toNat 0=y):=by
   rw[Wj,decide_eq_true_iff,decide_eq_true_iff];exact⟨V.int.inj,λz=>by rw[z]⟩
  rw[ed];have et:∀(b:Bool),decide (tn.getD x.toNat 0=y)=b->((bI.take (k+1)).filter λq=>decide (tn.getD q.1.toNat 0=q.2)).map (λq=>V.int q.1)=ys++(if b=true then[V.int x] else[]):=λb eb=>by
   rw[ey,Y2,Ik,Wq,Ys]
   congr 1
   show([((x,y):Int×Int)].filter _).map _=_;rw[W0,eb];cases b<;>rfl
  refine bB (λcc=>?_) (λcc=>?_)
  ·refine⟨_,rfl,h2,yl,kl,λb o e=>?_,aO,?_⟩
   ·rw[aJ (bT e hD)];exact g2 _ _ e
   ·rw[et true cc];rfl
  ·refine⟨kl,g2,h2,?_⟩;rw[et false (by cases e:decide (tn.getD x.toNat 0=y) with|true=>exact absurd e cc|false=>rfl)];simp
 ·rintro ys H2 ⟨_,g2,h2,ey⟩;rw[al,We] at ey;refine q D ((bI.filter λq=>decide (tn.getD q.1.toNat 0=q.2)).map (·.1)) H2 (g1.free hD) (g1.trans g2) (by rw[h2,ey,Wg];rfl) ((pm.filter _).map _) ?_;rw[W1];refine(List.Pairwise.and_mem.mp (pw.filter _)).imp ?_;rintro a b ⟨ma,mb,lt⟩;have e1:tn.getD a.1.toNat 0=a.2:=of_decide_eq_true (Y4.mp ma).2;have e2:tn.getD b.1.toNat 0=b.2:=of_decide_eq_true (Y4.mp mb).2;rcases lt with lt|⟨e,lt⟩;·exact lt
  ·rw[←e1,←e2,e] at lt;exact absurd lt (Int.lt_irrefl _)
end
theorem Zd8{H:Hp}{g:Nat->Int×Int}:∀{ys:List V} {ks:List Nat},Paired (λy k=>∃a,y=V.ref a/\H a=some (.tup [.int (g k).1,.int (g k).2])) ys ks->∃as:List Addr,ys=as.map V.ref/\QC H as (ks.map g):=by
 intro ys ks pr;induction pr with
 |nil=>exact⟨[],rfl,.nil⟩
 |cons z t ih=>
  obtain⟨a,e,h⟩:=z;obtain⟨as,e2,h2⟩:=ih;exact⟨a::as,by rw[e,e2];rfl,.cons h h2⟩
theorem map_range{α:Type}(g:Int->α)(si:List Int):(List.range si.length).map (λk=>g (si.getD k 0))=si.map g:=by
 have e2:(List.range si.length).map (λk=>g (si.getD k 0))=((List.range si.length).map λk=>si.getD k 0).map g:=by rw[Wg];rfl
 rw[e2,(range_getD si 0)]
def Ru(D:Addr)(H:Hp)(as:List Addr)(bI:List (Int×Int)):Prop:=Paired (λa (p:Int×Int)=>a≠D/\H a=some (.tup [.int p.1,.int p.2])) as bI
theorem EH{α β γ:Type}(g:α->β->γ)(ys:List β):∀xs:List α,(xs.flatMap λx=>ys.map (g x)).length=xs.length*ys.length
 |[]=>by simp
 |x::xs=>by rw[List.flatMap_cons,Yk,EH g ys xs,Ya,Wd,Nat.succ_mul];omega
theorem ZV{α β γ:Type}{g:α->List γ}{xs:List α}{i:Nat}{x:α}(h:xs[i]?=some x):(xs.take (i+1)).flatMap g=(xs.take i).flatMap g++g x:=by
 rw[Y2,h,List.flatMap_append];simp
theorem Ls{ns:List Int}(so:ns.Pairwise (·<=·))(nd:ns.Nodup):ns.Pairwise (·<·):=by
 refine(List.Pairwise.and so (W8.mp nd)).imp ?_
 grind
theorem Zcn(x:Int){ns:List Int}(st:ns.Pairwise (·<·)):(ns.map λy=>((x,y):Int×Int)).Pairwise iW:=by
 rw[W1];exact st.imp λh=>.inr ⟨rfl,h⟩
theorem Zco{ns:List Int}(st:ns.Pairwise (·<·)){k:Nat}{x y:Int}(hx:ns[k]?=some x)(my:y∈ns.take k):y<x:=by
 obtain⟨i,hi,rfl⟩:=Wr.mp my;obtain⟨hk,rfl⟩:=Yj.mp hx;rw[Y9] at hi;rw[List.getElem_take];exact Wx.mp st i k (by omega) hk (by omega)
section
theorem Co:aP ["self","one","other","here","there"] ["self","one","other"] (aG CB):=.aV
theorem Za9(F:aM K "pairs" "Joins.pairs" CB f fd)(jc:mK K C)(sY:cz P w K mg base 1 "together" C ["self","one","other"] (DU C))(jD:cz P w K mg base 2 "open_at" C ["self","one"] (vW C))(bl:Bl mg):aE P w K mg base aL 3 f fd ["self","one","other"] (NM C):=by
 refine F.o Co λaA A outer s H vs Q E hr h=>?_;obtain⟨l,st,n,i,j,hi,hj,ti,tj,si,sj,rfl,ja,o1,o2,q⟩:=h;refine⟨_,(aj (aS (jk (eO (cP sY hr (by omega) (pv 0) (aa (pv 1) (aa (pv 2) ag))))) (aq (aI (ZaN (xs:=["first","second"]) (fr:=[("self",0),("other",2)]) (cl:=[("self",s.heap.objs.size+1),("other",s.heap.objs.size+1+1)]) rfl (.g_ ⟨rfl,⟨rfl,trivial⟩⟩ ⟨⟨rfl,.inl rfl,.inl rfl,rfl⟩,⟨⟨rfl,.inl rfl,.inl rfl,rfl⟩,trivial⟩⟩) (λ_ _ _ _=>(pH (i:=0) (show(["first","second","self","other"]:List Str).Nodup by decide+kernel) rfl (Or.inl rfl))) (fZ (K:=K) rfl (cP jD hr (by omega) (pv 0) (aa (pv 1) ag))) (λ_ _ _ _=>(fZ (K:=K) rfl (cP jD hr (by omega) (pv 2) (aa (pv 3) ag)))) (λ_ _ _ _=>(pH (i:=1) (show(["first","second","self","other"]:List Str).Nodup by decide+kernel) rfl (Or.inl rfl))) (λ_ _ _ _=>(dm (aa (pv 0) (aa (pv 1) ag))))))) aW) (aj (gc (i:=3) Co.nd rfl (Or.inr rfl) (aY (iL K) (pF K 0) (pv 1))) (aj (gc (i:=4) Co.nd rfl (Or.inr rfl) (aY (iL K) (pF K 0) (pv 2))) (aq (aI (ia (ZaT (K:=K) rfl) rfl bl.Ey Ea (aa (ji (x:="section") (fr:=[("there",4),("here",3)]) (cl:=[("there",s.heap.objs.size+1+1+1+1),("here",s.heap.objs.size+1+1+1)]) rfl (.g_ ⟨rfl,⟨rfl,trivial⟩⟩ ⟨⟨rfl,.inl rfl,.inl rfl,rfl⟩,⟨⟨rfl,.inl rfl,.inl rfl,rfl⟩,trivial⟩⟩) (fZ (K:=K) rfl (df (bj hr) (pF K 0) (aY (iL K) (pF K 0) (pv 1)) (λ_ _=>rfl))) (λ_ _ _ _=>mw) (λ_ _ _ _=>(dm (aa (aY (iT K) (pv 2) (pv 0)) (aa (aY (iT K) (pv 1) (pv 0)) ag))))) ag))))))),?_⟩;obtain⟨dx,ho⟩:=ja.obj;have f1:=o1.iF;have f2:=o2.iF;refine⟨_,rfl,l.J,dx,_,rfl,ho,rfl,_,rfl,_,rfl,l,st,n,i,j,hi,hj,rfl,ja,o1.hd,o2.hd,_,rfl,?_⟩;by_cases eh:hi=hj
 ·rw[decide_eq_true eh];refine bO (aT ?_);have es:si=sj:=by have a:=o1.fr;have b:=o2.fr;rw[eh,b] at a;exact(Yr a).symm
  have wJ:∀{k:Nat} {t:List Int},st.ld[k]?=some t->∃x,l.eI[k]?=some x/\H x=some (.tup (t.map V.int)):=λ{k t} ht=>by
   have hl:=c9 ja.lead;have dE:k<l.eI.length:=by rw[hl];exact(Yj.mp ht).1
   obtain⟨y,ey,hy⟩:=fY ja.lead (Yc dE);rw[ht] at ey;cases ey;exact⟨_,Yc dE,hy⟩
  obtain⟨xi,exi,hxi⟩:=wJ o1.ld;obtain⟨xj,exj,hxj⟩:=wJ o2.ld;have ati:dJ (l.eI.map V.ref) (i:Int)=some (.ref xi):=ic (by rw[Yg,exi];rfl);have atj:dJ (l.eI.map V.ref) (j:Int)=some (.ref xj):=ic (by rw[Yg,exj];rfl);obtain⟨fa,SX,vf,c8⟩:=nG (f:=λv:List Int=>HO.lst (v.map V.int)) ja.free o1.fr;refine cq ?_;refine⟨_,rfl,l.J,C,dx,_,_,rfl,ho,jc.cls,jc.mE,rfl,_,rfl,l.la,_,_,_,rfl,rfl,ak.of ja.iq,ati,?_⟩;refine cq ?_;refine⟨_,rfl,l.J,C,dx,_,_,rfl,ho,jc.cls,jc.mE,rfl,_,rfl,l.la,_,_,_,rfl,rfl,ak.of ja.iq,atj,?_⟩;refine⟨_,rfl,l.J,C,dx,_,_,rfl,ho,jc.cls,jc.rh,rfl,_,rfl,l.J,C,dx,_,_,rfl,ho,jc.cls,jc.jJ,rfl,_,rfl,l.ha,_,_,_,rfl,rfl,ak.of ja.heads,nP o1.hd,l.fd,_,rfl,pQ ja.frees vf,fa,rfl,⟨_,ak.of c8⟩,λD hD=>DF (xs:=si.map V.int) (ak.of c8) (by rw[Ya];omega) hD (λ_=>true) (λk y H1=>∃a,y=V.ref a/\a≠D/\H1 a=some (.tup [.int (ti.getD (si.getD k 0).toNat 0),.int (tj.getD (si.getD k 0).toNat 0)])) (λk y H1 H2 b ⟨a,e1,e2,e3⟩=>⟨a,e1,e2,b _ _ e3 e2⟩) (λk v hk H1 g1 Il Kt Kf kt kf=>?_) λys H1 g1 h1 pr=>?_⟩
  ·obtain⟨z,rfl,hz⟩:=mC hk;have gz:si.getD k 0=z:=by rw[Ye,hz];rfl
   have b1:=o1.eX z (Yi hz);have b2:=o2.eX z (by rw[←es];exact Yi hz);refine lL (c5 ?_);refine⟨_,rfl,_,rfl,xi,_,_,_,rfl,rfl,aB.of (g1 _ _ hxi),mI b1.1 b1.2,_,rfl,_,rfl,xj,_,_,_,rfl,rfl,aB.of (g1 _ _ hxj),mI b2.1 b2.2,by show 2<=sizeLine;rw[sizeLine_eq];omega,λa H2 na g2 ha=>?_⟩;obtain⟨ys,Il⟩:=Il;exact kt _ H2 rfl g2 ⟨a,rfl,(λz=>by rw[z,Il] at na;cases na),by rw[gz];exact ha⟩
  ·rw[Kw,Ya] at pr;obtain⟨as,eas,dQ⟩:=Zd8 (g:=λk=>(ti.getD (si.getD k 0).toNat 0,tj.getD (si.getD k 0).toNat 0)) (L2.Paired.bA pr λy k ⟨a,e1,e2,e3⟩=>⟨a,e1,e3⟩);have em:(List.range si.length).map (λk=>((ti.getD (si.getD k 0).toNat 0,tj.getD (si.getD k 0).toNat 0):Int×Int))=si.map λz=>(ti.getD z.toNat 0,tj.getD z.toNat 0):=map_range (λz=>(ti.getD z.toNat 0,tj.getD z.toNat 0)) si;rw[em] at dQ;have al:=c9 dQ;rw[Ya] at al;rw[eas] at h1;have ndp:(si.map λz=>((ti.getD z.toNat 0,tj.getD z.toNat 0):Int×Int)).Nodup:=by
    have d:=o1.dist;rw[W8,W1] at d⊢;exact d.imp λh e=>h (congrArg (·.1) e)
   refine⟨D,as,_,rfl,ak.of h1,dQ,ndp,.inl (by omega),λiG lN pr2 p2 pw p H2 np g2 hp=>?_⟩;refine q p iG lN H2 (g1.free np) (g1.trans g2) hp (L2.Paired.bA pr2 λ_ _ e=>g2 _ _ e) ?_ pw;unfold iX;rw[if_pos eh];exact p2
 ·rw[decide_eq_false eh];refine c5 ?_;refine⟨_,rfl,l.J,dx,_,rfl,ho,rfl,_,rfl,l,st,n,i,hi,ti,si,rfl,ja,o1.hd,o1.ld,o1.fr,o1.eX,o1.iF,λp ns H1 np g1 pm srt hp=>?_⟩;have nl:=pm.length_eq;rw[Ya] at nl;have sns:=Ls srt (pm.nodup_iff.mpr o1.dist);refine⟨p,rfl,⟨_,ak.of hp⟩,λD hD=>Zb4 (xs:=ns.map V.int) (λk ys H2=>k<=ns.length/\ai H1 H2/\H2 D=some (.lst ys)/\∃(as:List Addr) (bI:List (Int×Int)),ys=as.map V.ref/\Ru D H2 as bI/\bI.Perm ((ns.take k).flatMap λx=>sj.map λz=>(x,tj.getD z.toNat 0))/\bI.Pairwise iW/\∀p∈bI,p.1∈ns.take k) ⟨Yx _,bY hD _,aO,[],[],rfl,.nil,.nil,.nil,λ_ h=>(nomatch h)⟩ (λk ys H2 _ ⟨_,g2,_⟩=>ak.of (g2 _ _ hp)) ?_ ?_ ?_ (λv σ H R R' m h=>m _ _ h)⟩
  ·rintro k v ys H2 hk ⟨kl,g2,h2,as,bI,ey,pa,pp,pw,pin⟩ os oC;obtain⟨u1,u2,rfl⟩:∃u1 u2,os=[u1,u2]:=by
    match os,oC with
    |[u1,u2],_=>exact⟨u1,u2,rfl⟩
   obtain⟨x,rfl,hx⟩:=mC hk;have kl':k<ns.length:=(Yj.mp hx).1;refine bo ⟨⟨[some (.int x),u2],rfl,rfl⟩,?_⟩;refine⟨_,rfl,l.J,dx,_,rfl,g2 _ _ (g1 _ _ ho),rfl,_,rfl,l,st,n,j,hj,tj,sj,rfl,ja.same (g1.trans g2),o2.hd,o2.ld,o2.fr,o2.eX,o2.iF,λp2 sy H3 xU g3 Im ZfP dD=>?_⟩;have j9:=Im.length_eq;rw[Ya] at j9;have ZfQ:=Ls ZfP (Im.nodup_iff.mpr o2.dist);have pD:p2≠D:=λz=>by rw[z,h2] at xU;cases xU
   have Rt:=pp.length_eq;rw[EH (λx z=>((x,tj.getD z.toNat 0):Int×Int)) sj (ns.take k),Y9] at Rt;have ZhE:=c9 pa;have ZhF:min k ns.length*sj.length<=64*64:=Nat.mul_le_mul (by omega) (by omega);refine⟨p2,rfl,⟨_,ak.of dD⟩,p2,sy.map V.int,λk2 fS σ H4=>k2<=sy.length/\ai H1 H4/\H4 D=some (.lst fS)/\H4 p2=some (.lst (sy.map V.int))/\(∃o2,σ=[some (.int x),o2]++_)/\∃(uZ:List Addr) (uC:List (Int×Int)),fS=uZ.map V.ref/\Ru D H4 uZ uC/\uC=bI++(sy.take k2).map λy=>(x,y),rfl,⟨Yx _,g2.trans g3,g3 _ _ h2,dD,⟨u2,rfl⟩,as,bI,ey,L2.Paired.bA pa λ_ _ e=>⟨e.1,g3 _ _ e.2⟩,by simp⟩,λk2 fS σ H4 _ ⟨_,_,_,e,_⟩=>ak.of e,?_,?_⟩
   ·rintro k2 v2 fS σ H4 hk2 ⟨k2l,g4,h4,e4,⟨Ta,rfl⟩,uZ,uC,A4,A5,sA⟩;obtain⟨y,rfl,hy⟩:=mC hk2;have ZfR:k2<sy.length:=(Yj.mp hy).1;have Tb:=c9 A5;rw[sA,Yk,Ya,Y9] at Tb;refine bo ⟨_,rfl,_,rfl,by show 2<=sizeLine;rw[sizeLine_eq];omega,λa H5 na g5 ha=>⟨g5 _ _ h4,by rw[A4,Ya,Tb,sizeLine_eq];have:=o2.iF;omega,ZfR,?_,aO,?_,⟨some (.int y),rfl⟩,uZ++[a],uC++[(x,y)],by rw[A4,Ys];rfl,?_,?_⟩⟩
    ·intro b o e;rw[aJ (bT e hD)];exact g5 _ _ (g4 _ _ e)
    ·rw[aJ pD];exact g5 _ _ e4
    ·have aD:a≠D:=λz=>by rw[z,h4] at na;cases na
     exact jE (F:=λa (p:Int×Int)=>a≠D/\upd H5 D _ a=some (.tup [.int p.1,.int p.2])) ⟨aD,by rw[aJ aD];exact ha⟩ (L2.Paired.bA A5 λb p e=>⟨e.1,by rw[aJ e.1];exact g5 _ _ e.2⟩)
    ·rw[sA,Y2,hy,Ys,Jn];rfl
   ·rintro fS σ H4 ⟨_,g4,h4,e4,⟨Ta,rfl⟩,uZ,uC,A4,A5,sA⟩;rw[Ya,We] at sA;refine⟨⟨[some (.int x),Ta],rfl,rfl⟩,kl',g4,h4,uZ,uC,A4,A5,?_,?_,λp mp=>?_⟩
    ·rw[sA,ZV (β:=Int) hx];refine pp.append ?_;have:=Im.map λy:Int=>((x,y):Int×Int);rw[Wg] at this;exact this
    ·rw[sA];refine List.pairwise_append.mpr ⟨pw,Zcn x ZfQ,λp mp q' mq=>.inl ?_⟩;obtain⟨y,_,rfl⟩:=Yf.mp mq;exact Zco sns hx (pin p mp)
    ·rw[sA] at mp;rw[Y2,hx];rcases Yv.mp mp with mp|mp;·exact Yq _ (pin p mp)
     ·obtain⟨y,_,rfl⟩:=Yf.mp mp;exact Yn _ Yl
  ·rintro ys H2 ⟨_,g2,h2,as,bI,ey,pa,pp,pw,_⟩;rw[Ya,We] at pp;rw[ey] at h2;refine q D as bI H2 (g1.free hD) (g1.trans g2) h2 (L2.Paired.bA pa λ_ _ e=>e.2) (pp.trans ?_) pw;unfold iX;rw[if_neg eh];exact pm.flatMap_right _
  ·rintro σ H R R' m ⟨x1,e1,x2,x3,x4,e2,e3,e4,x5,e5,l,st,n,i,h,t,secs,e6,j1,j2,j3,j4,j5,j6,k⟩;refine⟨x1,e1,x2,x3,x4,e2,e3,e4,x5,e5,l,st,n,i,h,t,secs,e6,j1,j2,j3,j4,j5,j6,λp ns H' a b c d e=>?_⟩;obtain⟨a,e,s,r⟩:=k p ns H' a b c d e;exact⟨a,e,s,m _ _ r⟩
end
def ap(t:List Int)(z:Int):Int:=t.getD z.toNat 0
theorem FC(h0:0<=z)(h:z<t.length):t[z.toNat]?=some (ap t z):=by
 unfold ap
 grind
theorem lH{t:List Int}{n:Nat}(ft:full t=true)(lt:t.length=n){z:Int}(h:0<=z/\z<n):0<=ap t z/\ap t z<n:=by
 have:=pK ft (Yi (FC h.1 (by omega)));omega
theorem uc{t:List Int}{n:Nat}(ft:full t=true)(lt:t.length=n){z:Int}(h:0<=z/\z<n):ap (inv t) (ap t z)=z:=by
 have b:=lH ft lt h;have e2:=zr (xs:=t) (i:=(ap t z).toNat) (by omega);rw[(Jt b.1),yO (yE ft) (FC h.1 (by omega))] at e2;have e3:ap (inv t) (ap t z)=((z.toNat:Nat):Int):=by
  show(inv t).getD (ap t z).toNat 0=_
  grind
 grind
theorem NO{t:List Int}{n:Nat}(ft:full t=true)(lt:t.length=n){z:Int}(h:0<=z/\z<n):ap t (ap (inv t) z)=z:=by
 have:=uc (jH ft) (by rw[fq];exact lt) h;rw[inv_inv ft] at this;exact this
theorem zL{t:List Int}{n:Nat}(ft:full t=true)(lt:t.length=n){z z':Int}(h:0<=z/\z<n)(h':0<=z'/\z'<n)(e:ap t z=ap t z'):z=z':=by
 have a:=uc ft lt h;rw[e,uc ft lt h'] at a;exact a.symm
theorem zM{xs ys:List Int}{z:Int}(h:0<=z/\z<ys.length):ap (bw xs ys) z=ap xs (ap ys z):=by
 show(bw xs ys).getD z.toNat 0=_;unfold bw;rw[Ye,Yg,(FC h.1 h.2)];rfl
def JS.ae(st:JS)(i:Nat):Nat:=st.hd.getD i 0
def JS.bG(st:JS)(i:Nat):List Int:=st.ld.getD i []
def JS.cj(st:JS)(h:Nat):List Int:=(st.fr.lookup h).getD []
def c6(st:JS)(f:Nat->Int):Prop:=∃s:Nat->Int,∀i,i<st.hd.length->s (st.ae i)∈st.cj (st.ae i)/\f i=ap (st.bG i) (s (st.ae i))
structure WF(n:Nat)(st:JS):Prop where
 ll:st.ld.length=st.hd.length
 fl:∀t∈st.ld,full t=true/\t.length=n
 fr:∀i,i<st.hd.length->∃secs,st.fr.lookup (st.ae i)=some secs/\secs.Nodup/\∀z∈secs,0<=z/\z<(n:Int)
 mem:∀i,i<st.hd.length->∃ms,st.mem.lookup (st.ae i)=some ms/\ms.Nodup/\∀k,k∈ms↔k<st.hd.length/\st.ae k=st.ae i
 nm:(st.mem.map (·.1)).Nodup
 lm:∀k∈st.mem.map (·.1),k<st.hd.length
 nf:(st.fr.map (·.1)).Nodup
 lf:∀k∈st.fr.map (·.1),k<st.hd.length
 hf:∀k∈st.fr.map (·.1),∃i,i<st.hd.length/\st.ae i=k
theorem vH{xs:List Nat}{m:Nat}(nd:xs.Nodup)(h:∀x∈xs,x<m):xs.length<=m:=by
 have l:=nd.length_le_of_subset λx hx=>Wi.mpr (h x hx)
 grind
theorem yx{xs:List Int}{n:Nat}(nd:xs.Nodup)(h:∀x∈xs,0<=x/\x<(n:Int)):xs.length<=n:=by
 have l:=nd.length_le_of_subset (l₂:=bc n) λx hx=>by
  obtain⟨a,b⟩:=h x hx;have:=Yi (lu (n:=n) (i:=x.toNat) (by omega))
  grind
 rwa [eM] at l
theorem DW{α:Type}:∀{ps:List (Nat×α)} {k:Nat} {v:α},ps.lookup k=some v->k∈ps.map (·.1)
 |[],_,_,h=>by simp at h
 |p::ps,k,v,h=>by
  rw[Wz] at h;by_cases e:k=p.1;·grind
  ·rw[beq_eq_false_iff_ne.mpr e] at h;exact Yw _ (DW h)
theorem yA{α:Type}(h:Nat)(v:α)(k:Nat):∀ps:List (Nat×α),(d7 h v ps).lookup k=if k=h then(ps.lookup h).map λ_=>v else ps.lookup k
 |[]=>by show([]:List (Nat×α)).lookup k=_;simp
 |p::ps=>by
  have ih:=yA h v k ps;have e0:d7 h v (p::ps)=(if p.1=h then(p.1,v) else p)::d7 h v ps:=rfl
  grind
section
variable {n:Nat}{st:JS}
theorem v_{i:Nat}(h:i<st.hd.length):st.hd[i]?=some (st.ae i):=by
 unfold JS.ae;rw[Ye,Yc h];rfl
theorem WF.zN(wf:WF n st){i:Nat}(h:i<st.hd.length):st.ld[i]?=some (st.bG i):=by
 unfold JS.bG;rw[Ye,Yc (by rw[wf.ll];exact h)];rfl
theorem WF.j_(wf:WF n st){i:Nat}(h:i<st.hd.length):full (st.bG i)=true/\(st.bG i).length=n:=wf.fl _ (Yi (wf.zN h))
theorem WF.dH(wf:WF n st){i:Nat}(h:i<st.hd.length):st.fr.lookup (st.ae i)=some (st.cj (st.ae i))/\(st.cj (st.ae i)).Nodup/\∀z∈st.cj (st.ae i),0<=z/\z<(n:Int):=by
 obtain⟨secs,e,a,b⟩:=wf.fr i h;have e2:st.cj (st.ae i)=secs:=by unfold JS.cj;rw[e];rfl
 grind
theorem WF.dist(wf:WF n st){i:Nat}(h:i<st.hd.length):((st.cj (st.ae i)).map λz=>(st.bG i).getD z.toNat 0).Nodup:=by
 obtain⟨e,a,b⟩:=wf.dH h;rw[W8,W1];refine(List.Pairwise.and_mem.mp (W8.mp a)).imp ?_;rintro u v ⟨mu,mv,ne⟩ z;exact ne (zL (wf.j_ h).1 (wf.j_ h).2 (b u mu) (b v mv) z)
theorem WF.one(wf:WF n st)(n8:n<=8){i:Nat}(h:i<st.hd.length):rS st i (st.ae i) (st.bG i) (st.cj (st.ae i)):=by
 obtain⟨e,a,b⟩:=wf.dH h;have:=yx a b;refine⟨v_ h,wf.zN h,e,λz hz=>by rw[(wf.j_ h).2];exact b z hz,by omega,wf.dist h⟩
theorem WF.two(wf:WF n st){i j:Nat}(hi:i<st.hd.length)(hj:j<st.hd.length)(m4:st.hd.length<=400)(ne:st.ae i≠st.ae j):∃ma mb,Rr st n i j (st.ae i) (st.ae j) (st.bG i) (st.bG j) (st.cj (st.ae i)) (st.cj (st.ae j)) ma mb/\(ma.Nodup/\∀k,k∈ma↔k<st.hd.length/\st.ae k=st.ae i)/\(mb.Nodup/\∀k,k∈mb↔k<st.hd.length/\st.ae k=st.ae j):=by
 obtain⟨ma,e1,a1,b1⟩:=wf.mem i hi;obtain⟨mb,e2,a2,b2⟩:=wf.mem j hj;have l1:=vH a1 λk hk=>((b1 k).mp hk).1;have l2:=vH a2 λk hk=>((b2 k).mp hk).1;exact⟨ma,mb,⟨v_ hi,v_ hj,wf.zN hi,wf.zN hj,wf.fl,wf.ll,e1,e2,(wf.dH hi).1,(wf.dH hj).1,ne,λk hk=>((b1 k).mp hk).1,λk hk=>((b2 k).mp hk).1,by omega,wf.nm⟩,⟨a1,b1⟩,a2,b2⟩
theorem WF.zX(wf:WF n st):st.fr.length<=st.hd.length:=by
 have:=vH wf.nf wf.lf
 grind
theorem WF.Po(wf:WF n st):st.mem.length<=st.hd.length:=by
 have:=vH wf.nm wf.lm
 grind
theorem wf0:WF n ⟨[],[],[],[]⟩:=⟨rfl,λ_ h=>(nomatch h),λ_ h=>absurd h (Wk _),λ_ h=>absurd h (Wk _),.nil,λ_ h=>(nomatch h),.nil,λ_ h=>(nomatch h),λ_ h=>(nomatch h)⟩
theorem Ek(st:JS)(h k:Nat)(v:List Int)(hv:st.fr.lookup h≠none):(st.kJ h v).cj k=if k=h then v else st.cj k:=by
 show((d7 h v st.fr).lookup k).getD []=_;rw[yA];by_cases e:k=h
 ·rw[if_pos e,if_pos e];cases e2:st.fr.lookup h with
  |none=>grind
  |some x=>rfl
 ·rw[if_neg e,if_neg e];rfl
theorem WF.kJ(wf:WF n st){i:Nat}(hi:i<st.hd.length){p:Int->Bool}:WF n (st.kJ (st.ae i) ((st.cj (st.ae i)).filter p)):=by
 refine⟨wf.ll,wf.fl,λk hk=>?_,wf.mem,wf.nm,wf.lm,?_,?_,?_⟩
 ·obtain⟨e,a,b⟩:=wf.dH hk;show ∃secs,(d7 _ _ st.fr).lookup (st.ae k)=some secs/\_;rw[yA]
  grind
 ·show((d7 _ _ st.fr).map (·.1)).Nodup;rw[qS];exact wf.nf
 ·show ∀k∈(d7 _ _ st.fr).map (·.1),_;rw[qS];exact wf.lf
 ·show ∀k∈(d7 _ _ st.fr).map (·.1),_;rw[qS];exact wf.hf
theorem vK(wf:WF n st){i:Nat}(hi:i<st.hd.length)(ss:List Int)(f:Nat->Int):c6 (st.kJ (st.ae i) ((st.cj (st.ae i)).filter λz=>decide ((st.bG i).getD z.toNat 0∈ss))) f↔c6 st f/\f i∈ss:=by
 have hv:st.fr.lookup (st.ae i)≠none:=by rw[(wf.dH hi).1];exact λz=>nomatch z
 constructor
 ·rintro⟨s,h⟩;have hk:∀k,k<st.hd.length->s (st.ae k)∈st.cj (st.ae k)/\f k=ap (st.bG k) (s (st.ae k)):=λk hk=>by
   obtain⟨a,b⟩:=h k hk;refine⟨?_,b⟩;have a':s (st.ae k)∈(st.kJ (st.ae i) ((st.cj (st.ae i)).filter λz=>decide ((st.bG i).getD z.toNat 0∈ss))).cj (st.ae k):=a;rw[Ek st _ _ _ hv] at a'
   grind
  refine⟨⟨s,hk⟩,?_⟩;obtain⟨a,b⟩:=h i hi;have a':s (st.ae i)∈(st.kJ (st.ae i) ((st.cj (st.ae i)).filter λz=>decide ((st.bG i).getD z.toNat 0∈ss))).cj (st.ae i):=a;rw[Ek st _ _ _ hv,if_pos rfl] at a';rw[b];exact of_decide_eq_true (Y4.mp a').2
 ·rintro⟨⟨s,h⟩,m⟩;refine⟨s,λk hk=>?_⟩;obtain⟨a,b⟩:=h k hk;refine⟨?_,b⟩;show s (st.ae k)∈(st.kJ (st.ae i) ((st.cj (st.ae i)).filter λz=>decide ((st.bG i).getD z.toNat 0∈ss))).cj (st.ae k);rw[Ek st _ _ _ hv];by_cases z:st.ae k=st.ae i
  ·rw[if_pos z];rw[z] at a⊢;refine Y4.mpr ⟨a,decide_eq_true ?_⟩;rw[((h i hi).2)] at m;exact m
  ·grind
theorem yQ(wf:WF n st){f:Nat->Int}(d:c6 st f)(h1 h2:Nat)(z1 z2:Int)(m1:z1∈st.cj h1)(m2:z2∈st.cj h2)(ne:h1=h2->z1=z2):∃f',c6 st f'/\∀k,k<st.hd.length->(st.ae k=h1->f' k=ap (st.bG k) z1)/\(st.ae k=h2->f' k=ap (st.bG k) z2):=by
 obtain⟨s,h⟩:=d;refine⟨λk=>ap (st.bG k) ((λq=>if q=h1 then z1 else if q=h2 then z2 else s q) (st.ae k)),⟨λq=>if q=h1 then z1 else if q=h2 then z2 else s q,λk hk=>⟨?_,rfl⟩⟩,λk hk=>⟨λe=>?_,λe=>?_⟩⟩;·grind
 ·grind
 ·grind
theorem vX(wf:WF n st){i j:Nat}(hi:i<st.hd.length)(hj:j<st.hd.length){f:Nat->Int}(d:c6 st f):(f i,f j)∈iX (st.ae i) (st.ae j) (st.bG i) (st.bG j) (st.cj (st.ae i)) (st.cj (st.ae j)):=by
 obtain⟨s,h⟩:=d;obtain⟨a1,b1⟩:=h i hi;obtain⟨a2,b2⟩:=h j hj;unfold iX;by_cases e:st.ae i=st.ae j
 ·rw[if_pos e];refine Yf.mpr ⟨s (st.ae i),a1,?_⟩;rw[b1,b2,←e];rfl
 ·rw[if_neg e];refine Tc.mpr ⟨f i,Yf.mpr ⟨_,a1,b1.symm⟩,Yf.mpr ⟨_,a2,?_⟩⟩;rw[b2];rfl
theorem Mt(wf:WF n st){i j:Nat}(hi:i<st.hd.length)(hj:j<st.hd.length)(live:∃f,c6 st f){x y:Int}(m:(x,y)∈iX (st.ae i) (st.ae j) (st.bG i) (st.bG j) (st.cj (st.ae i)) (st.cj (st.ae j))):∃f,c6 st f/\f i=x/\f j=y:=by
 obtain⟨f0,d0⟩:=live;unfold iX at m;by_cases e:st.ae i=st.ae j
 ·rw[if_pos e] at m;obtain⟨z,mz,ez⟩:=Yf.mp m;obtain⟨f,d,q⟩:=yQ wf d0 (st.ae i) (st.ae i) z z mz mz (λ_=>rfl);exact⟨f,d,((q i hi).1 rfl).trans (congrArg (·.1) ez),((q j hj).1 e.symm).trans (congrArg (·.2) ez)⟩
 ·rw[if_neg e] at m;obtain⟨x',mx,my⟩:=Tc.mp m;obtain⟨z1,Io,Ip⟩:=Yf.mp mx;obtain⟨z2,Iq,xV⟩:=Yf.mp my;obtain⟨f,d,q⟩:=yQ wf d0 (st.ae i) (st.ae j) z1 z2 Io Iq (λz=>absurd z e);exact⟨f,d,(((q i hi).1 rfl).trans Ip).trans (congrArg (·.1) xV),((q j hj).2 rfl).trans (congrArg (·.2) xV)⟩
end
theorem Lu(hb:Nat):∀(mv:List Nat) (hd:List Nat) (i:Nat),i<hd.length->(jM hb mv hd)[i]?=if i∈mv then some hb else hd[i]?
 |[],hd,i,h=>rfl
 |k::mv,hd,i,h=>by
  have ih:=Lu hb mv (hd.set k hb) i (by rw[W4];exact h);have e0:jM hb (k::mv) hd=jM hb mv (hd.set k hb):=rfl
  grind
theorem Lv(aX:List Int):∀(mv:List Nat) (ld:List (List Int)) (i:Nat),mv.Nodup->i<ld.length->(gn aX mv ld)[i]?=if i∈mv then some (bw (ld.getD i []) aX) else ld[i]?
 |[],ld,i,_,h=>rfl
 |k::mv,ld,i,nd,h=>by
  obtain⟨n1,n2⟩:=Yz.mp nd;have e0:gn aX (k::mv) ld=gn aX mv (oN aX ld k):=rfl;rw[e0,(Lv aX mv (oN aX ld k) i n2 (by unfold oN;rw[W4];exact h))];by_cases m:i∈mv
  ·have ne:k≠i:=λz=>n1 (by rw[z];exact m);unfold oN
   grind
  ·rw[if_neg m];unfold oN
   grind
theorem Lw(hb:Nat)(mv hd:List Nat):(jM hb mv hd).length=hd.length:=vG (λ_ _=>W4) mv hd
theorem Lx(aX:List Int)(mv:List Nat)(ld:List (List Int)):(gn aX mv ld).length=ld.length:=vG (λ_ _=>by unfold oN;exact W4) mv ld
section
variable {n:Nat}{st:JS}{a b:Nat}{ma mb:List Nat}{tn:List Int}
theorem pR(wf:WF n st)(im:∀k,k∈ma↔k<st.hd.length/\st.ae k=st.ae a)(aX:List Int){i:Nat}(hi:i<st.hd.length):(st.mv (st.ae b) (st.ae a) mb ma aX).ae i=if st.ae i=st.ae a then st.ae b else st.ae i:=by
 show(jM (st.ae b) ma st.hd).getD i 0=_;rw[Ye,Lu _ _ _ _ hi];by_cases e:st.ae i=st.ae a;·grind
 ·rw[if_neg (λz=>e ((im i).mp z).2),if_neg e,←Ye];rfl
theorem FD(wf:WF n st)(nd:ma.Nodup)(im:∀k,k∈ma↔k<st.hd.length/\st.ae k=st.ae a)(aX:List Int)(hb:Nat){i:Nat}(hi:i<st.hd.length):(st.mv hb (st.ae a) mb ma aX).bG i=if st.ae i=st.ae a then bw (st.bG i) aX else st.bG i:=by
 show(gn aX ma st.ld).getD i []=_;rw[Ye,Lv _ _ _ _ nd (by rw[wf.ll];exact hi)];by_cases e:st.ae i=st.ae a;·rw[if_pos ((im i).mpr ⟨hi,e⟩),if_pos e];rfl
 ·rw[if_neg (λz=>e ((im i).mp z).2),if_neg e,←Ye];rfl
theorem Pp(hb ha:Nat)(aX:List Int){h:Nat}(ne:h≠ha):(st.mv hb ha mb ma aX).cj h=st.cj h:=by
 show((cR ha st.fr).lookup h).getD []=_;rw[tQ ne];rfl
theorem wA(hb ha:Nat)(aX:List Int):(st.mv hb ha mb ma aX).hd.length=st.hd.length:=Lw _ _ _
theorem WF.mv(wf:WF n st)(hA:a<st.hd.length)(hB:b<st.hd.length)(ne:st.ae a≠st.ae b)(m5:ma.Nodup)(hJ:∀k,k∈ma↔k<st.hd.length/\st.ae k=st.ae a)(u3:mb.Nodup)(sC:∀k,k∈mb↔k<st.hd.length/\st.ae k=st.ae b)(eb:st.mem.lookup (st.ae b)=some mb){aX:List Int}(ft:full aX=true)(tl:aX.length=n):WF n (st.mv (st.ae b) (st.ae a) mb ma aX):=by
 have len:(st.mv (st.ae b) (st.ae a) mb ma aX).hd.length=st.hd.length:=wA _ _ _;have AD:∀k,k<st.hd.length->(if st.ae k=st.ae a then st.ae b else st.ae k)≠st.ae a:=λk hk=>by
  grind
 have ky:(st.mv (st.ae b) (st.ae a) mb ma aX).mem.map (·.1)=(st.mem.map (·.1)).filter λk=>decide (k≠st.ae a):=by
  show(d7 _ _ (cR _ st.mem)).map (·.1)=_;rw[qS,nK]
 have kf:(st.mv (st.ae b) (st.ae a) mb ma aX).fr.map (·.1)=(st.fr.map (·.1)).filter λk=>decide (k≠st.ae a):=nK _ _;refine⟨?_,λt ht=>?_,λi hi=>?_,λi hi=>?_,?_,?_,?_,?_,?_⟩
 ·show(gn _ _ _).length=(jM _ _ _).length;rw[Lx,Lw];exact wf.ll
 ·obtain⟨i,hi,rfl⟩:=Wr.mp ht;have gF:i<st.hd.length:=by
   have:(gn aX ma st.ld).length=st.ld.length:=Lx _ _ _;have h2:i<(gn aX ma st.ld).length:=hi;have:=wf.ll;omega
  have e:=FD (mb:=mb) wf m5 hJ aX (st.ae b) gF;have e2:(st.mv (st.ae b) (st.ae a) mb ma aX).bG i=(st.mv (st.ae b) (st.ae a) mb ma aX).ld[i]:=by
   unfold JS.bG;rw[Ye,Yc hi];rfl
  rw[←e2,e];obtain⟨f1,f2⟩:=wf.j_ gF;by_cases z:st.ae i=st.ae a;·rw[if_pos z];exact⟨pB f1 ft (by omega),by rw[iR];exact tl⟩
  ·rw[if_neg z];exact⟨f1,f2⟩
 ·rw[len] at hi;rw[pR (mb:=mb) wf hJ aX hi];show ∃secs,(cR (st.ae a) st.fr).lookup _=some secs/\_;rw[tQ (AD i hi)];by_cases e:st.ae i=st.ae a;·rw[if_pos e];exact⟨_,wf.dH hB⟩
  ·rw[if_neg e];exact⟨_,wf.dH hi⟩
 ·rw[len] at hi;rw[pR (mb:=mb) wf hJ aX hi];show ∃ms,(d7 (st.ae b) (mb++ma) (cR (st.ae a) st.mem)).lookup _=some ms/\_;rw[yA,tQ (AD i hi),tQ (λz=>ne z.symm),eb];have iff:∀k,k<st.hd.length->((st.mv (st.ae b) (st.ae a) mb ma aX).ae k=(if st.ae k=st.ae a then st.ae b else st.ae k)):=λk hk=>pR (mb:=mb) wf hJ aX hk;by_cases e:(if st.ae i=st.ae a then st.ae b else st.ae i)=st.ae b
  ·rw[if_pos e];refine⟨_,rfl,?_,λk=>?_⟩;·grind
   ·grind
  ·have e1:¬st.ae i=st.ae a:=λz=>e (if_pos z);rw[if_neg e1] at e⊢;rw[if_neg e];obtain⟨ms,m1,m2,m3⟩:=wf.mem i hi
   grind
 ·rw[ky];exact wf.nm.filter _
 ·rw[ky,len];exact λk hk=>wf.lm k (Y4.mp hk).1
 ·rw[kf];exact wf.nf.filter _
 ·rw[kf,len];exact λk hk=>wf.lf k (Y4.mp hk).1
 ·rw[kf,len];intro k hk;obtain⟨m1,m2⟩:=Y4.mp hk;obtain⟨i,hi,e⟩:=wf.hf k m1;refine⟨i,hi,?_⟩;rw[pR (mb:=mb) wf hJ aX hi,if_neg (λz=>of_decide_eq_true m2 (e.symm.trans z))];exact e
theorem NP(wf:WF n st)(hA:a<st.hd.length)(hB:b<st.hd.length)(ne:st.ae a≠st.ae b)(m5:ma.Nodup)(hJ:∀k,k∈ma↔k<st.hd.length/\st.ae k=st.ae a)(ft:full tn=true)(tl:tn.length=n)(f:Nat->Int):
  c6 (st.mv (st.ae b) (st.ae a) mb ma (bw (inv (st.bG a)) (bw tn (st.bG b)))) f↔∃s:Nat->Int,(∀i,i<st.hd.length->(0<=s (st.ae i)/\s (st.ae i)<(n:Int))/\(st.ae i≠st.ae a->s (st.ae i)∈st.cj (st.ae i))/\f i=ap (st.bG i) (s (st.ae i)))/\f a=ap tn (f b):=by
 obtain⟨fa,la⟩:=wf.j_ hA;obtain⟨fb,lb⟩:=wf.j_ hB;have fi:=jH fa;have li:(inv (st.bG a)).length=n:=by rw[fq];exact la
 generalize et:bw (inv (st.bG a)) (bw tn (st.bG b))=aX;have Ir:∀z:Int,0<=z/\z<(n:Int)->ap aX z=ap (inv (st.bG a)) (ap tn (ap (st.bG b) z)):=λz hz=>by
  rw[←et,zM (by rw[iR,lb];exact hz),zM (by rw[lb];exact hz)]
 have ZfS:∀z:Int,0<=z/\z<(n:Int)->0<=ap aX z/\ap aX z<(n:Int):=λz hz=>by
  rw[Ir z hz];exact lH fi li (lH ft tl (lH fb lb hz))
 have Rv:aX.length=n:=by rw[←et,iR,iR];exact lb
 constructor
 ·rintro⟨s,h⟩;have h':∀i,i<st.hd.length->s (if st.ae i=st.ae a then st.ae b else st.ae i)∈st.cj (if st.ae i=st.ae a then st.ae b else st.ae i)/\f i=ap (if st.ae i=st.ae a then bw (st.bG i) aX else st.bG i) (s (if st.ae i=st.ae a then st.ae b else st.ae i)):=λi hi=>by
   have x:=h i (by rw[wA];exact hi);rw[pR (mb:=mb) wf hJ aX hi,FD (mb:=mb) wf m5 hJ aX _ hi,Pp] at x;·exact x
   ·by_cases e:st.ae i=st.ae a;·rw[if_pos e];exact λz=>ne z.symm
    ·rw[if_neg e];exact e
  have hb:=h' b hB;rw[if_neg (λz=>ne z.symm),if_neg (λz=>ne z.symm)] at hb;have eX:=(wf.dH hB).2.2 _ hb.1;have eq:∀i,i<st.hd.length->f i=ap (st.bG i) (if st.ae i=st.ae a then ap aX (s (st.ae b)) else s (st.ae i)):=λi hi=>by
   have x:=(h' i hi).2;by_cases e:st.ae i=st.ae a
   ·rw[if_pos e,if_pos e,zM (by rw[Rv];exact eX)] at x;rw[if_pos e];exact x
   ·rw[if_neg e,if_neg e] at x;rw[if_neg e];exact x
  refine⟨λq=>if q=st.ae a then ap aX (s (st.ae b)) else s q,λi hi=>⟨?_,λe=>?_,eq i hi⟩,?_⟩
  ·show 0<=(if st.ae i=st.ae a then _ else _)/\(if st.ae i=st.ae a then _ else _)<_;by_cases e:st.ae i=st.ae a;·rw[if_pos e];exact ZfS _ eX
   ·rw[if_neg e];have x:=(h' i hi).1;rw[if_neg e] at x;exact(wf.dH hi).2.2 _ x
  ·show(if st.ae i=st.ae a then _ else _)∈_;have x:=(h' i hi).1;rw[if_neg e] at x;rw[if_neg e];exact x
  ·rw[eq a hA,if_pos rfl,Ir _ eX,NO fa la (lH ft tl (lH fb lb eX)),hb.2]
 ·rintro⟨s,h,ef⟩;have sb:=(h b hB).1;have sa:=(h a hA).1;have et2:ap aX (s (st.ae b))=s (st.ae a):=by
   rw[Ir _ sb,←(h b hB).2.2,←ef,(h a hA).2.2,uc fa la sa]
  refine⟨s,λi hi=>?_⟩;rw[wA] at hi;rw[pR (mb:=mb) wf hJ aX hi,FD (mb:=mb) wf m5 hJ aX _ hi,Pp]
  ·by_cases e:st.ae i=st.ae a
   ·rw[if_pos e,if_pos e];refine⟨(h b hB).2.1 (λz=>ne z.symm),?_⟩;rw[zM (by rw[Rv];exact sb),et2,←e];exact(h i hi).2.2
   ·rw[if_neg e,if_neg e];exact⟨(h i hi).2.1 e,(h i hi).2.2⟩
  ·by_cases e:st.ae i=st.ae a;·rw[if_pos e];exact λz=>ne z.symm
   ·rw[if_neg e];exact e
end
section
variable {n:Nat}{st:JS}{i j:Nat}{tn ns:List Int}
theorem Mu{P:List (Int×Int)}(pm:ns.Perm ((P.filter λq=>decide (tn.getD q.1.toNat 0=q.2)).map (·.1)))(x:Int):x∈ns↔(x,ap tn x)∈P:=by
 rw[pm.mem_iff,Yf];constructor
 ·rintro⟨⟨u,v⟩,m,rfl⟩;obtain⟨m1,m2⟩:=Y4.mp m;have e:ap tn u=v:=of_decide_eq_true m2;rw[e];exact m1
 ·intro m;exact⟨_,Y4.mpr ⟨m,decide_eq_true rfl⟩,rfl⟩
abbrev JS.bI(st:JS)(i j:Nat):List (Int×Int):=iX (st.ae i) (st.ae j) (st.bG i) (st.bG j) (st.cj (st.ae i)) (st.cj (st.ae j))
theorem El(ne:st.ae i≠st.ae j){x y:Int}(m:(x,y)∈st.bI i j):(∃z∈st.cj (st.ae i),ap (st.bG i) z=x)/\∃z∈st.cj (st.ae j),ap (st.bG j) z=y:=by
 unfold JS.bI iX at m;rw[if_neg ne] at m;obtain⟨x',mx,my⟩:=Tc.mp m;obtain⟨z1,Io,Ip⟩:=Yf.mp mx;obtain⟨z2,Iq,xV⟩:=Yf.mp my;exact⟨⟨z1,Io,Ip.trans (congrArg (·.1) xV)⟩,z2,Iq,(congrArg (·.2) xV)⟩
theorem Pq(wf:WF n st)(hi:i<st.hd.length){x y:Int}(m:(x,y)∈st.bI i j):0<=x/\x<(n:Int):=by
 obtain⟨f1,l1⟩:=wf.j_ hi;by_cases e:st.ae i=st.ae j
 ·unfold JS.bI iX at m;rw[if_pos e] at m;obtain⟨z,mz,ez⟩:=Yf.mp m;have e1:ap (st.bG i) z=x:=congrArg (·.1) ez;rw[←e1];exact lH f1 l1 ((wf.dH hi).2.2 z mz)
 ·obtain⟨⟨z,mz,ez⟩,_⟩:=El e m;rw[←ez];exact lH f1 l1 ((wf.dH hi).2.2 z mz)
theorem NQ(wf:WF n st)(n8:n<=8)(hi:i<st.hd.length)(hj:j<st.hd.length):(st.bI i j).length<=64:=by
 have a:=yx (wf.dH hi).2.1 (wf.dH hi).2.2;have b:=yx (wf.dH hj).2.1 (wf.dH hj).2.2;unfold JS.bI iX;by_cases e:st.ae i=st.ae j;·grind
 ·rw[if_neg e,EH (λ(x z:Int)=>((x,(st.bG j).getD z.toNat 0):Int×Int)),Ya];exact Y0 (Nat.mul_le_mul (show _<=8 by omega) (show _<=8 by omega)) (by omega)
theorem Za_(wf:WF n st)(hi:i<st.hd.length)(hj:j<st.hd.length)(e:st.ae i=st.ae j)(ms:∀x,x∈ns↔(x,ap tn x)∈st.bI i j)(f:Nat->Int):c6 st f/\f i∈ns↔c6 st f/\f j=ap tn (f i):=by
 refine and_congr_right λd=>?_;constructor
 ·intro m;have m':=(ms _).mp m;obtain⟨s,h⟩:=d;unfold JS.bI iX at m';rw[if_pos e] at m';obtain⟨z,mz,ez⟩:=Yf.mp m';have e2:ap (st.bG j) z=ap tn (f i):=congrArg (·.2) ez;obtain⟨f1,l1⟩:=wf.j_ hi;have eX:=(wf.dH hi).2.2;rw[(h j hj).2,←e,←(zL f1 l1 (eX z mz) (eX _ (h i hi).1) ((congrArg (·.1) ez).trans (h i hi).2)),e2]
 ·intro m;have:=vX wf hi hj d
  grind
theorem Zcp(wf:WF n st)(hi:i<st.hd.length)(hj:j<st.hd.length)(ne:st.ae i≠st.ae j){ma mb:List Nat}(m5:ma.Nodup)(hJ:∀k,k∈ma↔k<st.hd.length/\st.ae k=st.ae i)(ft:full tn=true)(tl:tn.length=n)(ms:∀x,x∈ns↔(x,ap tn x)∈st.bI i j)(f:Nat->Int):
  c6 (st.mv (st.ae j) (st.ae i) mb ma (bw (inv (st.bG i)) (bw (inv tn) (st.bG j)))) f/\f i∈ns↔c6 st f/\f j=ap tn (f i):=by
 rw[NP wf hi hj ne m5 hJ (jH ft) (by rw[fq];exact tl)];obtain⟨f1,l1⟩:=wf.j_ hi;obtain⟨f2,l2⟩:=wf.j_ hj;constructor
 ·rintro⟨⟨s,h,ef⟩,m⟩;obtain⟨⟨z,mz,ez⟩,_⟩:=El ne ((ms _).mp m);have e1:=zL f1 l1 ((wf.dH hi).2.2 z mz) (h i hi).1 (ez.trans (h i hi).2.2);refine⟨⟨s,λk hk=>⟨?_,(h k hk).2.2⟩⟩,?_⟩;·grind
  ·have rj:0<=f j/\f j<(n:Int):=by rw[(h j hj).2.2];exact lH f2 l2 (h j hj).1
   rw[ef,NO ft tl rj]
 ·rintro⟨d,e⟩;have m:=vX wf hi hj d;rw[e] at m;obtain⟨s,h⟩:=d;refine⟨⟨s,λk hk=>⟨(wf.dH hk).2.2 _ (h k hk).1,λ_=>(h k hk).1,(h k hk).2⟩,?_⟩,(ms _).mpr m⟩;have ri:0<=f i/\f i<(n:Int):=by rw[(h i hi).2];exact lH f1 l1 ((wf.dH hi).2.2 _ (h i hi).1)
  rw[e,uc ft tl ri]
theorem Zcq(wf:WF n st)(hi:i<st.hd.length)(hj:j<st.hd.length)(ne:st.ae i≠st.ae j){ma mb:List Nat}(u3:mb.Nodup)(sC:∀k,k∈mb↔k<st.hd.length/\st.ae k=st.ae j)(ft:full tn=true)(tl:tn.length=n)(ms:∀x,x∈ns↔(x,ap tn x)∈st.bI i j)(f:Nat->Int):
  c6 (st.mv (st.ae i) (st.ae j) ma mb (bw (inv (st.bG j)) (bw tn (st.bG i)))) f/\f i∈ns↔c6 st f/\f j=ap tn (f i):=by
 rw[NP wf hj hi (λz=>ne z.symm) u3 sC ft tl];obtain⟨f2,l2⟩:=wf.j_ hj;constructor
 ·rintro⟨⟨s,h,ef⟩,m⟩;obtain⟨_,z,mz,ez⟩:=El ne ((ms _).mp m);have e1:=zL f2 l2 ((wf.dH hj).2.2 z mz) (h j hj).1 ((ez.trans ef.symm).trans (h j hj).2.2);refine⟨⟨s,λk hk=>⟨?_,(h k hk).2.2⟩⟩,ef⟩
  grind
 ·rintro⟨d,e⟩;have m:=vX wf hi hj d;rw[e] at m;obtain⟨s,h⟩:=d;exact⟨⟨s,λk hk=>⟨(wf.dH hk).2.2 _ (h k hk).1,λ_=>(h k hk).1,(h k hk).2⟩,e⟩,(ms _).mpr m⟩
end
def rp(st aK:JS)(i j:Nat):Prop:=∀a c,a<st.hd.length->c<st.hd.length->(aK.ae a=aK.ae c↔st.ae a=st.ae c\/(st.ae a=st.ae i/\st.ae c=st.ae j)\/(st.ae a=st.ae j/\st.ae c=st.ae i))
theorem Zba{st:JS}{i j:Nat}(e:st.ae i=st.ae j):rp st st i j:=λa c _ _=>⟨.inl,λh=>h.elim id λh=>h.elim (λh=>h.1.trans (e.trans h.2.symm)) λh=>h.1.trans (e.symm.trans h.2.symm)⟩
theorem Pr{n:Nat}{st:JS}(wf:WF n st){a b:Nat}{ma mb:List Nat}(im:∀k,k∈ma↔k<st.hd.length/\st.ae k=st.ae a)(aX:List Int)(ne:st.ae a≠st.ae b):rp st (st.mv (st.ae b) (st.ae a) mb ma aX) a b:=λx y hx hy=>by
 rw[pR wf im aX hx,pR wf im aX hy]
 grind
theorem rp.symm{st aK:JS}{i j:Nat}(h:rp st aK j i):rp st aK i j:=λa c ha hc=>(h a c ha hc).trans (or_congr Iff.rfl or_comm)
structure Pt(n:Nat)(st aK:JS)(b:Bool)(i j:Nat)(tn:List Int):Prop where
 wf:WF n aK
 len:aK.hd.length=st.hd.length
 yes:b=true->(∃f,c6 aK f)/\∀f,c6 aK f↔c6 st f/\f j=ap tn (f i)
 no:b=false->aK=st/\∀f,c6 st f->f j≠ap tn (f i)
 hds:b=true->rp st aK i j
inductive Pu(C:Addr)(vs:List V)(H:Hp)(Q:VK):Prop
 |mk (l:JL) (st:JS) (n i j:Nat) (tn:List Int) (tu:Addr) (aC:vs=[.ref l.J,.int (i:Int),.int (j:Int),.ref tu]) (aR:cI H C n l st) (a8:WF n st) (bC:(∃f,c6 st f)) (cD:n<=8) (dC:st.hd.length<=400) (fR:i<st.hd.length) (jd:j<st.hd.length) (qj:H tu=some (.tup (tn.map V.int))) (xB:full tn=true) (Gz:tn.length=n) (Rp:∀(b:Bool) (l':JL) (aK:JS) (H':Hp),l'.J=l.J->(∀c∈l'.fp,c∈l.fp)->Out l.fp H H'->cI H' C n l' aK->Pt n st aK b i j tn->Q (.bl b) H'):Pu C vs H Q
def QD(C:Addr):Sp:=λvs H Q _=>Pu C vs H Q
section
theorem JR:aP ["self","one","other","turn","sections"] ["self","one","other","turn"] (aG Dl):=.aV
theorem Zd9(F:aM K "tie" "Joins.tie" Dl f fd)(jc:mK K C)(tH:cz P w K mg base 4 "left" C ["self","one","other","turn"] (FA C))(sY:cz P w K mg base 1 "together" C ["self","one","other"] (DU C))(BB:cz P w K mg base 3 "bring_together" C ["self","one","other","turn"] (NL C))(sZ:cz P w K mg base 2 "narrow" C ["self","one","sections"] (EG K C))(bl:Bl mg):aE P w K mg base aL 5 f fd ["self","one","other","turn"] (QD C):=by
 refine F.o JR λaA A outer s H vs Q E hr h=>?_;obtain⟨l,st,n,i,j,tn,tu,rfl,ja,wf,live,n8,m4,hi,hj,hu,ft,tl,q⟩:=h;refine⟨_,(aj (bW 4 JR.nd (cP tH hr (by omega) (pv 0) (aa (pv 1) (aa (pv 2) (aa (pv 3) ag))))) (aj (aS (jk (Ed (K:=K) rfl (Ex (pv 4) (λ_=>rfl)))) (aq (aI iS)) aW) (aj (aS (jk (eO (cP sY hr (by omega) (pv 0) (aa (pv 1) (aa (pv 2) ag))))) (aq (bU (cP BB hr (by omega) (pv 0) (aa (pv 1) (aa (pv 2) (aa (pv 3) ag)))))) aW) (aj (bU (cP sZ hr (by omega) (pv 0) (aa (pv 1) (aa (pv 4) ag)))) (aq (aI iS)))))),?_⟩;obtain⟨dx,ho⟩:=ja.obj;have pf:=NQ wf n8 hi hj;refine cq ?_;refine⟨_,rfl,l.J,dx,_,rfl,ho,rfl,_,rfl,_,rfl,_,rfl,l,st,n,i,j,_,_,_,_,_,_,tn,tu,rfl,ja,wf.one n8 hi,wf.one n8 hj,hu,λp hp=>by rw[tl];exact Pq wf hi (x:=p.1) (y:=p.2) hp,Y0 pf (by omega),λp ns H1 np g1 hp pm _=>?_⟩;have ms:=Mu pm;refine pO (λσ H2=>σ=[some (.ref l.J),some (.int (i:Int)),some (.int (j:Int)),some (.ref tu),some (.ref p)]/\H2=H1/\ns≠[]) (λnx hn=>?_) ?_
 ·refine⟨_,rfl,_,.inl ⟨_,ak.of hp,rfl⟩,?_⟩;refine bB (λc=>?_) (λc=>aT (hn _ _ ⟨rfl,rfl,λz=>?_⟩))
  ·have e:ns=[]:=by
    cases ns with
    |nil=>rfl
    |cons a r=>cases c
   refine q false l st H1 rfl (λ_ h=>h) (Out.of g1) (ja.same g1) ⟨wf,rfl,(λz=>nomatch z),λ_=>⟨rfl,λf d z=>?_⟩,(λz=>nomatch z)⟩;have m:=vX wf hi hj d;rw[z] at m;have:=(ms _).mpr m;rw[e] at this;cases this
  ·rw[z] at c;exact c rfl
 rintro _ _ ⟨rfl,rfl,nne⟩;refine pO (λσ H2=>σ=[some (.ref l.J),some (.int (i:Int)),some (.int (j:Int)),some (.ref tu),some (.ref p)]/\∃(l1:JL) (m6:JS),l1.J=l.J/\(∀c∈l1.fp,c∈l.fp)/\Out l.fp H H2/\cI H2 C n l1 m6/\H2 p=some (.lst (ns.map V.int))/\WF n m6/\m6.hd.length=st.hd.length/\(∀f,c6 m6 f/\f i∈ns↔c6 st f/\f j=ap tn (f i))/\rp st m6 i j) (λnx hn=>?_) ?_
 ·refine⟨_,rfl,l.J,dx,_,rfl,g1 _ _ ho,rfl,_,rfl,_,rfl,l,st,n,i,j,_,_,rfl,ja.same g1,v_ hi,v_ hj,_,rfl,?_⟩;refine bB (λc=>?_) (λc=>aT (hn _ _ ⟨rfl,l,st,rfl,λ_ h=>h,Out.of g1,ja.same g1,hp,wf,rfl,?_,?_⟩))
  ·have ne:st.ae i≠st.ae j:=λz=>by
    rw[decide_eq_true z] at c;cases c
   obtain⟨ma,mb,two,⟨m5,hJ⟩,u3,sC⟩:=wf.two hi hj m4 ne;refine⟨_,rfl,l.J,dx,_,rfl,g1 _ _ ho,rfl,_,rfl,_,rfl,_,rfl,l,st,n,i,j,_,_,_,_,tn,_,_,tu,ma,mb,rfl,ja.same g1,g1 _ _ hu,n8,tl,ft,two,λl1 m6 H2 k1 k2 o2 j2 es=>hn _ _ ⟨rfl,l1,m6,k1,k2,(Out.of g1).trans o2,j2,o2 _ _ hp (λz=>ja.ne np z),?_⟩⟩;obtain⟨fi,li⟩:=wf.j_ hi;obtain⟨fj,lj⟩:=wf.j_ hj;rcases es with rfl|rfl;·exact⟨wf.mv hi hj ne m5 hJ u3 sC two.mB (pB (jH fi) (pB (jH ft) fj (by rw[fq];omega)) (by rw[fq,iR];omega)) (by rw[iR,iR];exact lj),wA _ _ _,λf=>Zcp wf hi hj ne m5 hJ ft tl ms f,Pr wf hJ _ ne⟩
   ·exact⟨wf.mv hj hi (λz=>ne z.symm) u3 sC m5 hJ two.mA (pB (jH fj) (pB ft fi (by omega)) (by rw[fq,iR];omega)) (by rw[iR,iR];exact li),wA _ _ _,λf=>Zcq wf hi hj ne u3 sC ft tl ms f,(Pr wf sC _ (λz=>ne z.symm)).symm⟩
  ·have e:st.ae i=st.ae j:=by
    by_cases z:st.ae i=st.ae j;·exact z
    ·rw[decide_eq_false z] at c;exact absurd rfl c
   exact λf=>Za_ wf hi hj e ms f
  ·have e:st.ae i=st.ae j:=by
    by_cases z:st.ae i=st.ae j;·exact z
    ·rw[decide_eq_false z] at c;exact absurd rfl c
   exact Zba e
 rintro _ H2 ⟨rfl,l1,m6,k1,k2,o2,j2,dD,xW,Rw,iff,hdj⟩;obtain⟨qp,su⟩:=j2.obj;have A6:i<m6.hd.length:=by rw[Rw];exact hi
 have fl:=xW.zX;refine⟨_,rfl,l1.J,qp,_,by rw[k1],su,rfl,_,rfl,_,rfl,l1,m6,n,i,_,_,_,ns,p,by rw[k1];rfl,j2,xW.one n8 A6,by omega,ak.of dD,λl2 H3 k3 k4 o3 j3=>?_⟩;refine q true l2 _ H3 (k3.trans k1) (λc hc=>k2 c (by rw[←k4];exact hc)) (λb o e nb=>o3 _ _ (o2 _ _ e nb) λz=>nb (k2 b z)) j3 ⟨xW.kJ A6,Rw,λ_=>⟨?_,λf=>?_⟩,(λz=>nomatch z),λ_=>hdj⟩
 ·obtain⟨x,mx⟩:∃x,x∈ns:=by
   cases ns with
   |nil=>exact absurd rfl nne
   |cons a r=>exact⟨a,Yl⟩
  obtain⟨f,d,e1,e2⟩:=Mt wf hi hj live ((ms x).mp mx);refine⟨f,(vK xW A6 ns f).mpr ((iff f).mpr ⟨d,?_⟩)⟩;rw[e2,e1]
 ·exact(vK xW A6 ns f).trans (iff f)
end
def oa(xs ys:List Int):Prop:=full xs=true/\full ys=true/\xs.length=ys.length/\2<=xs.length/\xs.length<=8
theorem YI(g:oa xs ys)(h:(z,ns)∈zK xs ys):full ns=true/\ns.length=xs.length:=by
 obtain⟨fx,fy,e,_,_⟩:=g;have fa:=EE fx fy e;simp only[Yo,Y3,or_false,Prod.mk.injEq] at h;rcases h with⟨rfl,rfl⟩|⟨rfl,rfl⟩|⟨rfl,rfl⟩|⟨rfl,rfl⟩|⟨rfl,rfl⟩|⟨rfl,rfl⟩|⟨rfl,rfl⟩;·exact⟨fx,rfl⟩
 ·exact⟨fa,by rw[qN];exact e.symm⟩
 ·exact⟨fy,e.symm⟩
 ·exact⟨jH fx,fq _⟩
 ·exact⟨jH fa,by rw[fq,qN];exact e.symm⟩
 ·exact⟨jH fy,by rw[fq];exact e.symm⟩
 ·exact⟨qV (List.Perm.refl _),eM _⟩
structure Fc where
 k:Str
 one:Nat
 aH:Int
 tn:List Int
abbrev bq:Str:="said"
def fE(F:List Fc)(x y:Nat)(t:List Int):Prop:=∃c∈F,c.k≠bq/\((c.one=x/\c.aH.toNat=y/\t=c.tn)\/(c.aH.toNat=x/\c.one=y/\t=inv c.tn))
def jn(n:Nat)(F:List Fc)(g:Nat->Option Int):Prop:=(∀x y t u,fE F x y t->g x=some u->g y=some (ap t u))/\(∀c∈F,c.k=bq->∀u,g c.one=some u->u=c.aH)/\∀k v,g k=some v->0<=v/\v<(n:Int)
structure dG(n m:Nat)(c:Fc):Prop where
 one:c.one<m
 gG:c.k≠bq->(0<=c.aH/\c.aH.toNat<m)/\full c.tn=true/\c.tn.length=n
def rT(L:Nat->List (Nat×List Int))(x:Nat)(p:Nat×List Int):Nat->List (Nat×List Int):=λz=>if z=x then L x++[p] else L z
theorem tT{kvs:List (Key×V)}{k k':Key}{v:V}(h:aQ kvs k=none):aQ (kvs++[(k,v)]) k'=if k'=k then some v else aQ kvs k':=by
 rw[←kB v h];exact ZaA _ _ _ _
theorem Mv:q∈rT L x p z↔q∈L z\/(z=x/\q=p):=by
 unfold rT;by_cases e:z=x
 ·rw[if_pos e,Yv,e];simp
 ·rw[if_neg e];simp[e]
theorem Zbb:¬fE [] x y t:=λ⟨_,m,_⟩=>nomatch m
theorem pC:fE (F++[c]) x y t↔fE F x y t\/(c.k≠bq/\((c.one=x/\c.aH.toNat=y/\t=c.tn)\/(c.aH.toNat=x/\c.one=y/\t=inv c.tn))):=by
 constructor
 ·rintro⟨c',m,h1,h2⟩;rcases Yv.mp m with m|m;·exact .inl ⟨c',m,h1,h2⟩
  ·rw[Ym] at m;subst m;exact .inr ⟨h1,h2⟩
 ·rintro(⟨c',m,h⟩|h);·exact⟨c',Yq _ m,h⟩
  ·exact⟨c,Yn _ Yl,h⟩
theorem lookup_mem:∀{ps:List (Nat×α)} {k:Nat} {v:α},ps.lookup k=some v->(k,v)∈ps
 |[],_,_,h=>by simp at h
 |p::ps,k,v,h=>by
  rw[Wz] at h;by_cases e:k=p.1;·grind
  ·rw[beq_eq_false_iff_ne.mpr e] at h;exact Yw _ (lookup_mem h)
theorem mem_lookup:∀{ps:List (Nat×α)} {k:Nat} {v:α},(ps.map (·.1)).Nodup->(k,v)∈ps->ps.lookup k=some v
 |p::ps,k,v,nd,h=>by
  obtain⟨n1,n2⟩:=Yz.mp (show(p.1::ps.map (·.1)).Nodup from nd);rw[Wz];rcases Yo.mp h with h|h;·grind
  ·have e:k≠p.1:=λz=>n1 (by rw[←z];exact Yf.mpr ⟨_,h,rfl⟩);rw[beq_eq_false_iff_ne.mpr e];exact mem_lookup n2 h
theorem yH{α:Type}{ps:List (Nat×α)}{q:Nat×α}{k:Nat}{v:α}(h:ps.lookup k=some v):(ps++[q]).lookup k=some v:=by
 grind
theorem KN{α:Type}{ps:List (Nat×α)}{k:Nat}{v:α}(h:ps.lookup k=none):(ps++[(k,v)]).lookup k=some v:=by
 grind
theorem wa(ok:∀c∈F,dG n m c)(e:fE F x y t):x<m/\y<m/\full t=true/\t.length=n:=by
 obtain⟨c,mc,ns,h⟩:=e;obtain⟨⟨o0,om⟩,ft,tl⟩:=(ok c mc).gG ns;have o1:=(ok c mc).one;rcases h with⟨rfl,rfl,rfl⟩|⟨rfl,rfl,rfl⟩;·grind
 ·exact⟨om,o1,jH ft,by rw[fq];exact tl⟩
inductive dA(F:List Fc)(x:Nat):Nat->Prop
 |refl:dA F x x
 |step {y z:Nat} {t:List Int}:dA F x y->fE F y z t->dA F x z
structure BF(F:List Fc)(n m x:Nat)(a:Int)(g:List (Nat×Int)):Prop where
 nd:(g.map (·.1)).Nodup
 lt:∀p∈g,p.1<m/\0<=p.2/\p.2<(n:Int)
 hd:g.lookup x=some a
 snd:∀g',jn n F g'->g' x=some a->∀p∈g,g' p.1=some p.2
 conn:∀p∈g,dA F x p.1
section
variable {F:List Fc}{n m x:Nat}{a:Int}{g:List (Nat×Int)}
theorem bf0(hx:x<m)(ha:0<=a/\a<(n:Int)):BF F n m x a [(x,a)]:=by
 refine⟨by simp,λp hp=>?_,by simp,λg' _ h p hp=>?_,λp hp=>?_⟩;·grind
 ·grind
 ·rw[Ym] at hp;rw[hp];exact .refl
theorem BF.len(b:BF F n m x a g):g.length<=m:=by
 have:=vH b.nd λk hk=>by
  obtain⟨p,hp,rfl⟩:=Yf.mp hk;exact(b.lt p hp).1
 grind
theorem BF.add(b:BF F n m x a g)(ok:∀c∈F,dG n m c){k y:Nat}{t:List Int}{v:Int}(e:fE F k y t)(hk:g.lookup k=some v)(hy:g.lookup y=none):BF F n m x a (g++[(y,ap t v)]):=by
 obtain⟨_,ym,ft,tl⟩:=wa ok e;have mk:=lookup_mem hk;refine⟨?_,λp hp=>?_,yH b.hd,λg' c h p hp=>?_,λp hp=>?_⟩
 ·rw[Ys];refine Wv.mpr ⟨b.nd,by simp,λu hu w hw z=>?_⟩
  grind
 ·rcases Yv.mp hp with hp|hp;·exact b.lt p hp
  ·rw[Ym] at hp;rw[hp];exact⟨ym,lH ft tl (b.lt _ mk).2⟩
 ·rcases Yv.mp hp with hp|hp;·exact b.snd g' c h p hp
  ·rw[Ym] at hp;rw[hp];exact c.1 k y t v e (b.snd g' c h _ mk)
 ·rcases Yv.mp hp with hp|hp;·exact b.conn p hp
  ·rw[Ym] at hp;rw[hp];exact .step (b.conn _ mk) e
theorem BF.Ze0(b:BF F n m x a g)(e:fE F k y t)(hk:g.lookup k=some v)(hy:g.lookup y=some v')(ne:v'≠ap t v):¬∃g',jn n F g'/\g' x=some a:=by
 rintro⟨g',c,h⟩;have h2:=b.snd g' c h _ (lookup_mem hy);have h3:=c.1 k y t v e (b.snd g' c h _ (lookup_mem hk))
 grind
theorem BF.Zd_(b:BF F n m x a g)(mc:c∈F)(sd:c.k=bq)(hk:g.lookup c.one=some v)(ne:v≠c.aH):¬∃g',jn n F g'/\g' x=some a:=by
 rintro⟨g',cl,h⟩;exact ne (cl.2.1 c mc sd v (b.snd g' cl h _ (lookup_mem hk)))
def Cl(L:Nat->List (Nat×List Int))(g:List (Nat×Int))(r:Nat):Prop:=∀p,g[r]?=some p->∀q∈L p.1,g.lookup q.1=some (ap q.2 p.2)
theorem BF.done(b:BF F n m x a g)(ed:∀x y t,(y,t)∈L x↔fE F x y t)(cl:∀r,r<g.length->Cl L g r)(sd:∀c∈F,c.k=bq->∀u,g.lookup c.one=some u->u=c.aH):jn n F (λk=>g.lookup k):=by
 refine⟨λk y t u e hk=>?_,sd,λk v h=>(b.lt _ (lookup_mem h)).2⟩;obtain⟨r,hr,er⟩:=Wr.mp (lookup_mem hk);have:=cl r hr (k,u) (by rw[Yc hr,er]) (y,t) ((ed _ _ _).mpr e);exact this
end
theorem yB{α:Type}{ps qs:List (Nat×α)}{k:Nat}{v:α}(h:ps.lookup k=some v):(ps++qs).lookup k=some v:=by
 grind
theorem Cl.app(hr:r<g.length)(c:Cl L g r):Cl L (g++tl) r:=λp hp q hq=>by
 rw[Wc hr] at hp;exact yB (c p hp q hq)
open Classical in
noncomputable def fN (F:List Fc) (n x:Nat):List Int:=(bc n).filter λa=>decide (∃g,jn n F g/\g x=some a)
def eQ(f:Nat->Int)(c:Fc):Prop:=(c.k=bq->f c.one=c.aH)/\(c.k≠bq->f c.aH.toNat=ap c.tn (f c.one))
def kW(n m:Nat)(f:Nat->Int):Prop:=∀i,i<m->0<=f i/\f i<(n:Int)
structure dB(n:Nat)(st:JS)(F:List Fc):Prop where
 wf:WF n st
 hU:∀c∈F,dG n st.hd.length c
 iff:∀f,c6 st f↔kW n st.hd.length f/\∀c∈F,eQ f c
 live:∃f,c6 st f
 conn:∀i j,i<st.hd.length->j<st.hd.length->(st.ae i=st.ae j↔dA F i j)
theorem VE{f:Nat->Int}(ok:∀c∈F,dG n m c)(inr:kW n m f)(sat:∀c∈F,eQ f c):∃g,jn n F g/\∀x,x<m->g x=some (f x):=by
 refine⟨λi=>if i<m then some (f i) else none,⟨λu v t a e hu=>?_,λc mc sd u hu=>?_,λk v hk=>?_⟩,λx hx=>if_pos hx⟩
 ·obtain⟨um,vm,_,_⟩:=wa ok e;obtain⟨c,mc,ns,h⟩:=e;have s:=(sat c mc).2 ns;obtain⟨_,ft,tl⟩:=(ok c mc).gG ns;have e1:f u=a:=by
   grind
  show(if v<m then some (f v) else none)=_;rw[if_pos vm];rcases h with⟨rfl,rfl,rfl⟩|⟨rfl,rfl,rfl⟩;·rw[s,e1]
  ·rw[←e1,s,uc ft tl (inr _ (ok c mc).one)]
 ·have xS:(if c.one<m then some (f c.one) else none)=some u:=hu;rw[if_pos (ok c mc).one] at xS;rw[←Yr xS];exact(sat c mc).1 sd
 ·have A7:(if k<m then some (f k) else none)=some v:=hk;by_cases z:k<m
  ·rw[if_pos z] at A7;rw[←Yr A7];exact inr k z
  ·grind
theorem JT{f:Nat->Int}(ok:∀c∈F,dG n m c)(hx:x<m)(inr:kW n m f)(sat:∀c∈F,eQ f c):∃g,jn n F g/\g x=some (f x):=by
 obtain⟨g,c,h⟩:=VE ok inr sat
 grind
theorem VF(ok:∀c∈F,dG n m c)(inr:kW n m f0)(sat:∀c∈F,c.one=x\/eQ f0 c)(cl:jn n F g)(hx:g x=some a):∃f,kW n m f/\(∀c∈F,eQ f c)/\f x=a/\∀i,f i=(g i).getD (f0 i):=by
 refine⟨λi=>(g i).getD (f0 i),λi hi=>?_,λc mc=>⟨λsd=>?_,λns=>?_⟩,by show(g x).getD _=a;rw[hx];rfl,λ_=>rfl⟩
 ·show 0<=(g i).getD (f0 i)/\(g i).getD (f0 i)<_;cases e:g i with
  |none=>exact inr i hi
  |some v=>exact cl.2.2 i v e
 ·show(g c.one).getD (f0 c.one)=_;cases e:g c.one with
  |none=>
   rcases sat c mc with h|h;·grind
   ·exact h.1 sd
  |some v=>exact cl.2.1 c mc sd v e
 ·show(g c.aH.toNat).getD (f0 c.aH.toNat)=ap c.tn ((g c.one).getD (f0 c.one));have ed1:fE F c.one c.aH.toNat c.tn:=⟨c,mc,ns,.inl ⟨rfl,rfl,rfl⟩⟩;have ed2:fE F c.aH.toNat c.one (inv c.tn):=⟨c,mc,ns,.inr ⟨rfl,rfl,rfl⟩⟩;cases e:g c.one with
  |some v=>
   rw[cl.1 _ _ _ v ed1 e];rfl
  |none=>
   have e2:g c.aH.toNat=none:=by
    cases z:g c.aH.toNat with
    |none=>rfl
    |some v=>rw[cl.1 _ _ _ v ed2 z] at e;cases e
   rw[e2];rcases sat c mc with h|h;·grind
   ·exact h.2 ns
theorem JU(ok:∀c∈F,dG n m c)(inr:kW n m f0)(sat:∀c∈F,c.one=x\/eQ f0 c)(cl:jn n F g)(hx:g x=some a):∃f,kW n m f/\(∀c∈F,eQ f c)/\f x=a:=by
 obtain⟨f,h1,h2,h3,_⟩:=VF ok inr sat cl hx
 grind
open Classical in
theorem yR:a∈fN F n x↔(0<=a/\a<(n:Int))/\∃g,jn n F g/\g x=some a:=by
 unfold fN;rw[Y4,decide_eq_true_iff];refine and_congr_left λ_=>?_;unfold bc;rw[Yf];constructor
 ·rintro⟨i,hi,rfl⟩;have:=Wi.mp hi;omega
 ·intro h;exact⟨a.toNat,Wi.mpr (by omega),Jt h.1⟩
section
variable {n x:Nat}{st:JS}{F:List Fc}
theorem dB.room(me:dB n st F)(hx:x<st.hd.length)(a:Int):a∈fN F n x↔∃f,c6 st f/\f x=a:=by
 rw[yR];constructor
 ·rintro⟨_,g,cl,h⟩;obtain⟨f0,d0⟩:=me.live;obtain⟨i0,s0⟩:=(me.iff f0).mp d0;obtain⟨f,i1,s1,e⟩:=JU me.hU i0 (λc mc=>.inr (s0 c mc)) cl h;exact⟨f,(me.iff f).mpr ⟨i1,s1⟩,e⟩
 ·rintro⟨f,d,rfl⟩;obtain⟨i1,s1⟩:=(me.iff f).mp d;exact⟨i1 x hx,JT me.hU hx i1 s1⟩
theorem dB.put(me:dB n st F)(ok:dG n st.hd.length c)(wf':WF n aK)(len:aK.hd.length=st.hd.length)(live:∃f,c6 aK f)(iff:∀f,c6 aK f↔c6 st f/\eQ f c)(cn:∀i j,i<st.hd.length->j<st.hd.length->(aK.ae i=aK.ae j↔dA (F++[c]) i j)):dB n aK (F++[c]):=by
 refine⟨wf',λc' m'=>?_,λf=>?_,live,by rw[len];exact cn⟩
 ·rw[len];rcases Yv.mp m' with m'|m';·exact me.hU c' m'
  ·grind
 ·rw[iff,me.iff,len,and_assoc]
  grind
theorem Mw(F:List Fc)(n x:Nat):(fN F n x).Pairwise (·<=·)/\(fN F n x).Nodup:=by
 have pw:(bc n).Pairwise (·<=·):=by
  unfold bc;rw[W1];exact List.pairwise_lt_range.imp λh=>by omega
 exact⟨pw.filter _,(AF.DE n).filter _⟩
theorem dB.opn(me:dB n st F)(hx:x<st.hd.length)(pm:ns.Perm ((st.cj (st.ae x)).map λz=>(st.bG x).getD z.toNat 0))(so:ns.Pairwise (·<=·)):ns=fN F n x:=by
 obtain⟨p1,p2⟩:=Mw F n x;refine List.Perm.eq_of_pairwise (le:=(·<=·)) (λa b _ _ h1 h2=>by omega) so p1 (pm.trans ((List.perm_ext_iff_of_nodup ((me.wf.dist hx)) p2).mpr λa=>?_));rw[me.room hx,Yf];constructor
 ·rintro⟨z,mz,rfl⟩;obtain⟨f0,d0⟩:=me.live;obtain⟨f,d,q⟩:=yQ me.wf d0 (st.ae x) (st.ae x) z z mz mz (λ_=>rfl);exact⟨f,d,(q x hx).1 rfl⟩
 ·rintro⟨f,⟨s,h⟩,rfl⟩;exact⟨s (st.ae x),(h x hx).1,(h x hx).2.symm⟩
theorem kC(hi:i<st.hd.length):(st.more n).ae i=st.ae i:=by
 show(st.hd++[_]).getD i 0=st.hd.getD i 0
 grind
theorem nH:(st.more n).ae st.hd.length=st.hd.length:=by
 show(st.hd++[_]).getD _ 0=_;simp
theorem Mx(wf:WF n st)(hi:i<st.hd.length):(st.more n).bG i=st.bG i:=by
 show(st.ld++[_]).getD i []=st.ld.getD i [];rw[Ye,Wc (by rw[wf.ll];exact hi),←Ye]
theorem Ly(wf:WF n st):(st.more n).bG st.hd.length=bc n:=by
 show(st.ld++[_]).getD _ []=_;rw[←wf.ll];simp
theorem Dq{α:Type}{ps:List (Nat×α)}{k:Nat}{v:α}(h:k∉ps.map (·.1)):(ps++[(k,v)]).lookup k=some v:=by
 refine KN ?_;cases e:ps.lookup k with
 |none=>rfl
 |some x=>exact absurd (DW e) h
theorem iO:(st.more n).hd.length=st.hd.length+1:=by
 show(st.hd++[_]).length=_;simp
theorem ZW(n:Nat):full (bc n)=true/\(bc n).length=n:=⟨qV (List.Perm.refl (bc n)),eM n⟩
theorem NR(h:0<=z/\z<(n:Int)):ap (bc n) z=z:=by
 show(bc n).getD z.toNat 0=z;rw[Ye,lu (by omega)]
 grind
theorem EI:z∈bc n↔0<=z/\z<(n:Int):=by
 unfold bc;rw[Yf];constructor;·grind
 ·intro h;exact⟨z.toNat,Wi.mpr (by omega),Jt h.1⟩
theorem WF.wZ(wf:WF n st)(hi:i<st.hd.length):st.ae i<st.hd.length:=wf.lf _ (DW (wf.dH hi).1)
theorem WF.more(wf:WF n st):WF n (st.more n):=by
 have nm:st.hd.length∉st.mem.map (·.1):=λz=>Wa _ (wf.lm _ z);have nf:st.hd.length∉st.fr.map (·.1):=λz=>Wa _ (wf.lf _ z);have km:(st.more n).mem.map (·.1)=st.mem.map (·.1)++[st.hd.length]:=by
  show(st.mem++[(st.hd.length,[st.hd.length])]).map (·.1)=_;rw[Ys];rfl
 have kf:(st.more n).fr.map (·.1)=st.fr.map (·.1)++[st.hd.length]:=by
  show(st.fr++[(st.hd.length,bc n)]).map (·.1)=_;rw[Ys];rfl
 have nd:∀{xs:List Nat},xs.Nodup->st.hd.length∉xs->(xs++[st.hd.length]).Nodup:=λ{xs} h h'=>Wv.mpr ⟨h,by simp,λu hu w hw z=>by
  have:w=st.hd.length:=by simpa using hw
  rw[z,this] at hu;exact h' hu⟩
 refine⟨?_,λt ht=>?_,λi hi=>?_,λi hi=>?_,?_,?_,?_,?_,?_⟩
 ·show(st.ld++[_]).length=(st.hd++[_]).length;rw[Yk,Yk,wf.ll];rfl
 ·rcases Yv.mp (show t∈st.ld++[_] from ht) with h|h;·exact wf.fl t h
  ·rw[Ym] at h;rw[h];exact ZW n
 ·rw[iO] at hi;by_cases z:i=st.hd.length
  ·rw[z,nH];exact⟨bc n,Dq nf,AF.DE n,λz hz=>EI.mp hz⟩
  ·rw[kC (by omega)];exact⟨_,yH (wf.dH (i:=i) (by omega)).1,(wf.dH (i:=i) (by omega)).2⟩
 ·rw[iO] at hi;by_cases z:i=st.hd.length
  ·rw[z,nH];refine⟨[st.hd.length],Dq nm,by simp,λk=>?_⟩;rw[Ym,iO];constructor
   ·rintro rfl;exact⟨by omega,nH⟩
   ·rintro⟨h1,h2⟩;by_cases w:k=st.hd.length;·exact w
    ·rw[kC (by omega)] at h2;have:=wf.wZ (i:=k) (by omega);omega
  ·obtain⟨ms,e,a,b⟩:=wf.mem i (by omega);rw[kC (by omega)];refine⟨ms,yH e,a,λk=>?_⟩;rw[b,iO];constructor
   ·rintro⟨h1,h2⟩;exact⟨by omega,by rw[kC h1];exact h2⟩
   ·rintro⟨h1,h2⟩;by_cases w:k=st.hd.length
    ·rw[w,nH] at h2;have:=wf.wZ (i:=i) (by omega);omega
    ·rw[kC (by omega)] at h2;exact⟨by omega,h2⟩
 ·rw[km];exact nd wf.nm nm
 ·rw[km,iO];intro k hk;rcases Yv.mp hk with h|h;·have:=wf.lm k h;omega
  ·rw[Ym] at h;omega
 ·rw[kf];exact nd wf.nf nf
 ·rw[kf,iO];intro k hk;rcases Yv.mp hk with h|h;·have:=wf.lf k h;omega
  ·rw[Ym] at h;omega
 ·rw[kf,iO];intro k hk;rcases Yv.mp hk with h|h
  ·obtain⟨i,hi,e⟩:=wf.hf k h;exact⟨i,by omega,by rw[kC hi];exact e⟩
  ·rw[Ym] at h;exact⟨st.hd.length,by omega,by rw[nH,h]⟩
theorem Lz(wf:WF n st)(f:Nat->Int):c6 (st.more n) f↔c6 st f/\(0<=f st.hd.length/\f st.hd.length<(n:Int)):=by
 have xX:(st.more n).cj st.hd.length=bc n:=by
  show((st.fr++[(st.hd.length,bc n)]).lookup st.hd.length).getD []=_;rw[Dq (λz=>Wa _ (wf.lf _ z))];rfl
 have Td:∀i,i<st.hd.length->(st.more n).cj (st.ae i)=st.cj (st.ae i):=λi hi=>by
  show((st.fr++[(st.hd.length,bc n)]).lookup _).getD []=_;rw[yH (wf.dH hi).1];rfl
 constructor
 ·rintro⟨s,h⟩;refine⟨⟨s,λi hi=>?_⟩,?_⟩
  ·have x:=h i (by rw[iO];omega);rw[kC hi,Mx wf hi,Td i hi] at x;exact x
  ·have x:=h st.hd.length (by rw[iO];omega);rw[nH,Ly wf,xX] at x;have b:=EI.mp x.1;rw[x.2,NR b];exact b
 ·rintro⟨⟨s,h⟩,b⟩;refine⟨λq=>if q=st.hd.length then f st.hd.length else s q,λi hi=>?_⟩;rw[iO] at hi;by_cases z:i=st.hd.length
  ·rw[z,nH,Ly wf,xX];show(if st.hd.length=st.hd.length then _ else _)∈_/\f st.hd.length=ap _ (if st.hd.length=st.hd.length then _ else _);rw[if_pos rfl,NR b];exact⟨EI.mpr b,rfl⟩
  ·have gF:i<st.hd.length:=by omega
   have:=wf.wZ gF;rw[kC gF,Mx wf gF,Td i gF]
   grind
theorem Zcr(ok:∀c∈F,dG n m c)(h:dA F x y)(hx:x<m):y<m:=by
 cases h with
 |refl=>exact hx
 |step _ e=>exact(wa ok e).2.1
theorem dB.more(me:dB n st F)(n0:0<n):dB n (st.more n) F:=by
 refine⟨me.wf.more,λc mc=>?_,λf=>?_,?_,λi j hi hj=>?_⟩
 ·have ok:=me.hU c mc;rw[iO];exact⟨Wt ok.one,λns=>⟨⟨(ok.gG ns).1.1,Wt (ok.gG ns).1.2⟩,(ok.gG ns).2⟩⟩
 ·rw[Lz me.wf,me.iff,iO];constructor
  ·rintro⟨⟨h1,h2⟩,h3⟩;refine⟨λi hi=>?_,h2⟩;by_cases z:i=st.hd.length;·rw[z];exact h3
   ·exact h1 i (by omega)
  ·rintro⟨h1,h2⟩;exact⟨⟨λi hi=>h1 i (by omega),h2⟩,h1 _ (by omega)⟩
 ·obtain⟨f0,s,h⟩:=me.live;refine⟨λi=>if i=st.hd.length then 0 else f0 i,(Lz me.wf _).mpr ⟨⟨s,λi hi=>?_⟩,?_⟩⟩;·grind
  ·grind
 ·rw[iO] at hi hj;by_cases zi:i=st.hd.length
  ·by_cases zj:j=st.hd.length;·rw[zi,zj];exact⟨λ_=>.refl,λ_=>rfl⟩
   ·rw[zi,nH,kC (by omega)];have:=me.wf.wZ (i:=j) (by omega);refine⟨λz=>by omega,λz=>?_⟩;have b:∀{k:Nat},dA F st.hd.length k->k=st.hd.length:=λ{k} h=>by
     induction h with
     |refl=>rfl
     |step _ e ih=>rw[ih] at e;exact absurd (wa me.hU e).1 (Wa _)
    exact absurd (b z) zj
  ·by_cases zj:j=st.hd.length
   ·rw[zj,nH,kC (by omega)];have:=me.wf.wZ (i:=i) (by omega);refine⟨λz=>by omega,λz=>?_⟩;have:=Zcr me.hU z (by omega);omega
   ·rw[kC (by omega),kC (by omega)];exact me.conn i j (by omega) (by omega)
theorem Ze1:dB n ⟨[],[],[],[]⟩ []:=⟨wf0,λ_ h=>(nomatch h),λf=>⟨λ_=>⟨λ_ h=>absurd h (Wk _),λ_ h=>(nomatch h)⟩,λ_=>⟨λ_=>0,λ_ h=>absurd h (Wk _)⟩⟩,⟨λ_=>0,λ_=>0,λ_ h=>absurd h (Wk _)⟩,λ_ _ h=>absurd h (Wk _)⟩
end
theorem dA.mono(h:∀x y t,fE F x y t->fE G x y t)(c:dA F x y):dA G x y:=by
 induction c with
 |refl=>exact .refl
 |step _ e ih=>exact .step ih (h _ _ _ e)
theorem dA.trans(c:dA F x y)(d:dA F y z):dA F x z:=by
 induction d with
 |refl=>exact c
 |step _ e ih=>exact .step ih e
theorem ZX(h:c.k=bq):dA (F++[c]) x y↔dA F x y:=
 ⟨dA.mono λ_ _ _ e=>(pC.mp e).elim id λz=>absurd h z.1,dA.mono λ_ _ _ e=>pC.mpr (.inl e)⟩
theorem Zbc(h:c.k≠bq):dA (F++[c]) x y↔dA F x y\/(dA F x c.one/\dA F c.aH.toNat y)\/(dA F x c.aH.toNat/\dA F c.one y):=by
 have up:∀{x y:Nat},dA F x y->dA (F++[c]) x y:=λd=>d.mono λ_ _ _ e=>pC.mpr (.inl e);have e1:fE (F++[c]) c.one c.aH.toNat c.tn:=pC.mpr (.inr ⟨h,.inl ⟨rfl,rfl,rfl⟩⟩);have e2:fE (F++[c]) c.aH.toNat c.one (inv c.tn):=pC.mpr (.inr ⟨h,.inr ⟨rfl,rfl,rfl⟩⟩);constructor
 ·intro d;induction d with
  |refl=>exact .inl .refl
  |step _ e ih=>
   rcases pC.mp e with e|⟨_,⟨rfl,rfl,_⟩|⟨rfl,rfl,_⟩⟩
   ·rcases ih with a|⟨a,b⟩|⟨a,b⟩;·exact .inl (.step a e)
    ·exact .inr (.inl ⟨a,.step b e⟩)
    ·exact .inr (.inr ⟨a,.step b e⟩)
   ·rcases ih with a|⟨a,b⟩|⟨a,b⟩;·exact .inr (.inl ⟨a,.refl⟩)
    ·exact .inr (.inl ⟨a,.refl⟩)
    ·exact .inl a
   ·rcases ih with a|⟨a,b⟩|⟨a,b⟩;·exact .inr (.inr ⟨a,.refl⟩)
    ·exact .inl a
    ·exact .inr (.inr ⟨a,.refl⟩)
 ·rintro(a|⟨a,b⟩|⟨a,b⟩);·exact up a
  ·exact((up a).step e1).trans (up b)
  ·exact((up a).step e2).trans (up b)
section
variable {n i j:Nat}{st c_:JS}{F:List Fc}{k:Str}{tn:List Int}{b:Bool}
theorem Zbd(me:dB n st F)(to:Pt n st c_ b i j tn)(hk:k≠bq)(ok:dG n st.hd.length ⟨k,i,(j:Int),tn⟩):(b=true->dB n c_ (F++[⟨k,i,(j:Int),tn⟩]))/\(b=false->dB n c_ F/\∀f,c6 c_ f->¬eQ f ⟨k,i,(j:Int),tn⟩):=by
 have sat:∀f,eQ f ⟨k,i,(j:Int),tn⟩↔f j=ap tn (f i):=λf=>⟨λh=>by have:=h.2 hk;rwa [show((⟨k,i,(j:Int),tn⟩:Fc).aH.toNat)=j from Y5 j] at this,λh=>⟨λz=>absurd z hk,λ_=>by rw[show((⟨k,i,(j:Int),tn⟩:Fc).aH.toNat)=j from Y5 j];exact h⟩⟩;refine⟨λe=>?_,λe=>?_⟩
 ·obtain⟨lv,iff⟩:=to.yes e;have hi:i<st.hd.length:=ok.one;have hj:j<st.hd.length:=by
   have:=(ok.gG hk).1.2
   rwa [show((⟨k,i,(j:Int),tn⟩:Fc).aH.toNat)=j from Y5 j] at this
  refine me.put ok to.wf to.len lv (λf=>by rw[iff,sat]) λx y hx hy=>?_;rw[to.hds e x y hx hy,Zbc (c:=⟨k,i,(j:Int),tn⟩) hk,show((⟨k,i,(j:Int),tn⟩:Fc).aH.toNat)=j from Y5 j,me.conn x y hx hy,me.conn x i hx hi,me.conn x j hx hj,←me.conn j y hj hy,←me.conn i y hi hy];exact or_congr_right (or_congr (and_congr_right λ_=>eq_comm) (and_congr_right λ_=>eq_comm))
 ·obtain⟨es,no⟩:=to.no e;rw[es];exact⟨me,λf d z=>no f d ((sat f).mp z)⟩
theorem NS(me:dB n st F)(hi:i<st.hd.length)(m:a∈(st.cj (st.ae i)).map λz=>(st.bG i).getD z.toNat 0):dB n (st.kJ (st.ae i) ((st.cj (st.ae i)).filter λz=>decide ((st.bG i).getD z.toNat 0∈[a]))) (F++[⟨bq,i,a,tn⟩]):=by
 refine me.put (c:=⟨bq,i,a,tn⟩) ⟨hi,λz=>absurd rfl z⟩ (me.wf.kJ hi) rfl ?_ (λf=>?_) λx y hx hy=>?_
 ·obtain⟨z,mz,rfl⟩:=Yf.mp m;obtain⟨f0,d0⟩:=me.live;obtain⟨f,d,q⟩:=yQ me.wf d0 (st.ae i) (st.ae i) z z mz mz (λ_=>rfl);exact⟨f,(vK me.wf hi _ f).mpr ⟨d,by rw[(q i hi).1 rfl];exact Yl⟩⟩
 ·rw[vK me.wf hi,Ym];refine and_congr_right λ_=>?_;exact⟨λh=>⟨λ_=>h,λz=>absurd rfl z⟩,λh=>h.1 rfl⟩
 ·rw[ZX rfl];exact me.conn x y hx hy
theorem Zea(me:dB n st F)(hi:i<st.hd.length)(m:a∉(st.cj (st.ae i)).map λz=>(st.bG i).getD z.toNat 0)(f:Nat->Int)(d:c6 st f):¬eQ f ⟨bq,i,a,tn⟩:=by
 obtain⟨s,h⟩:=d;intro z;have e:f i=a:=z.1 rfl;refine m (Yf.mpr ⟨s (st.ae i),(h i hi).1,?_⟩);rw[←e,(h i hi).2];rfl
end
abbrev bH:=List (Str×Str)
def au(ps:bH)(i:Nat):Str:=(ps.getD i ("","")).1
def a_(ps:bH)(c:Fc):Key:=if c.k=bq then .inl c.aH else .inr (au ps c.aH.toNat)
def dR(ps:bH)(z:Nat)(c:Fc):List Key:=[.inl (z:Int),.inr c.k,.inr (au ps c.one),a_ ps c]
def keyOf(k a:Str):Key->List Key
 |.inl b=>[.inr k,.inr a,.inl b]
 |.inr b=>if k="sibling" then[.inr k,.inr (L2.pX a b),.inr (L2.pY a b)] else[.inr k,.inr a,.inr b]
def eZ(ps:bH)(c:Fc):List Key:=keyOf c.k (au ps c.one) (a_ ps c)
def cJ(k:Str):Bool:=decide (k="mother")||decide (k="father")
def e_(ps:bH)(fs:List (Nat×Fc)):List (List Key×V):=fs.map λp=>(eZ ps p.2,.int (p.1:Int))
def bX(ps:bH)(fs:List (Nat×Fc)):List (List Key×V):=(fs.filter λp=>cJ p.2.k).map λp=>([.inr p.2.k,.inr (au ps p.2.one)],kV (a_ ps p.2))
def iI(ps:bH):List (Key×V):=ps.zipIdx.map λp=>(.inr p.1.1,.int (p.2:Int))
structure Ai where
 way:Int
 row:List Key
 c0:Nat
 c1:Nat
def mM(H:Hp)(a:Addr)(d:Ai):Prop:=∃r,H a=some (.tup [.int d.way,.ref r,.int (d.c0:Int),.int (d.c1:Int)])/\H r=some (.tup (d.row.map kV))
structure BS where
 ps:bH
 fs:List (Nat×Fc)
 co:Nat
 dn:List Ai
 un:List Ai
def BS.F(b:BS):List Fc:=b.fs.map (·.2)
structure BL where
 h:Addr
 L:Addr
 sd:Addr
 pl:Addr
 fc:Addr
 kn:Addr
 pr:Addr
 dn:Addr
 un:Addr
 rk:V
 bQ:List Addr
 hV:List Addr
 ka:List Addr
 d_:List Addr
def BL.own(l:BL):List Addr:=[l.h,l.sd,l.pl,l.fc,l.kn,l.pr,l.dn,l.un]
def BL.fp(l:BL):List Addr:=l.own++l.d_
structure fC(K:PySem.W.Frag)(C:Addr):Prop where
 cls:fF K C
 uj:cZ K C "land"
 qX:cZ K C "sides"
 pE:cZ K C "places"
 ud:cZ K C "facts"
 zu:cZ K C "known"
 tZ:cZ K C "parents"
 pG:cZ K C "coming"
 Px:cZ K C "done"
 My:cZ K C "undone"
 h_:cZ K C "reckoned"
abbrev HF(L sd pl fc kn pr:Addr)(co:Int)(dn un:Addr)(rk:V):List (Str×V):=[("land",.ref L),("sides",.ref sd),("places",.ref pl),("facts",.ref fc),("known",.ref kn),("parents",.ref pr),("coming",.int co),("done",.ref dn),("undone",.ref un),("reckoned",rk)]
theorem ZfT(a b c d e f g h i j:V):cH "reckoned" j (cH "undone" i (cH "done" h (cH "coming" g (cH "parents" f (cH "known" e (cH "facts" d (cH "places" c (cH "sides" b (cH "land" a [])))))))))=
  ([("land",a),("sides",b),("places",c),("facts",d),("known",e),("parents",f),("coming",g),("done",h),("undone",i),("reckoned",j)]:List (Str×V)):=rfl
abbrev fV(ps:bH):List (Key×V):=ps.map λp=>(.inr p.1,.str p.2)
inductive rU(H:Hp)(CJ:Addr)(n:Nat)(l:BL)(b:BS):Prop
 |no (e1:l.rk=.ay) (e2:l.d_=[])
 |at_ (jl:JL) (st:JS) (e1:l.rk=.ref jl.J) (e2:l.d_=jl.fp) (ja:cI H CJ n jl st) (me:dB n st b.F) (len:st.hd.length=b.ps.length) (fH:∀a∈l.own,a∉jl.fp)
structure bb(H:Hp)(C CL CJ:Addr)(l:BL)(xs ys:List Int)(b:BS):Prop where
 obj:∃dx,H l.h=some (.ins C dx (HF l.L l.sd l.pl l.fc l.kn l.pr (b.co:Int) l.dn l.un l.rk))
 land:∀H',Out l.fp H H'->ij H' CL l.L xs ys
 cW:H l.sd=some (.dK (fV b.ps))
 places:H l.pl=some (.dK (iI b.ps))
 facts:H l.fc=some (.dK (bh (b.fs.map (·.1)) l.bQ))
 fact:Paired (λa (p:Nat×Fc)=>H a=some (.tup ((dR b.ps p.1 p.2).map kV))) l.bQ b.fs
 known:H l.kn=some (.dT (e_ b.ps b.fs))
 parents:H l.pr=some (.dT (bX b.ps b.fs))
 done:H l.dn=some (.lst (l.hV.map V.ref))
 kL:Paired (mM H) l.hV b.dn
 ik:H l.un=some (.lst (l.ka.map V.ref))
 mN:Paired (mM H) l.ka b.un
 rG:rU H CJ xs.length l b
 nd:l.own.Nodup
theorem mM.out(o:Out fp H H')(t:∀a xs,H a=some (.tup xs)->a∉fp)(h:mM H a d):mM H' a d:=by
 obtain⟨r,h1,h2⟩:=h;exact⟨r,o _ _ h1 (t _ _ h1),o _ _ h2 (t _ _ h2)⟩
theorem cI.off(j:cI H C n l st)(h:H a=some (.tup xs)):a∉l.fp:=by
 intro z;unfold JL.fp at z;simp only[Yo] at z;rcases z with rfl|rfl|rfl|rfl|rfl|z
 ·obtain⟨dx,e⟩:=j.obj
  grind
 ·rw[j.heads] at h;cases h
 ·rw[j.iq] at h;cases h
 ·rw[j.jr] at h;cases h
 ·rw[j.frees] at h;cases h
 ·obtain⟨y,e⟩:=vQ j.mem z
  grind
theorem cI.gS(j:cI H C n l st)(o:Out fp H H')(d1:∀a∈fp,a∉l.fp)(d2:∀a∈fp,a∉l.bQ)(t:∀a xs,H a=some (.tup xs)->a∉fp):cI H' C n l st:=by
 have k:∀{a:Addr} {u:HO},H a=some u->a∈l.fp->H' a=some u:=λ{a u} e m=>o _ _ e λz=>d1 _ z m;obtain⟨dx,e⟩:=j.obj;refine⟨⟨dx,k e (by simp[JL.fp])⟩,k j.heads (by simp[JL.fp]),k j.iq (by simp[JL.fp]),L2.Paired.bA j.lead λa x h=>o _ _ h (t _ _ h),k j.jr (by simp[JL.fp]),?_,k j.frees (by simp[JL.fp]),?_,j.nd,j.out⟩
 ·have aux:∀{as:List Addr} {ps:List (Nat×List Nat)},Paired (λa p=>H a=some (.lst (dF p.2))) as ps->(∀a∈as,a∈l.fp)->Paired (λa p=>H' a=some (.lst (dF p.2))) as ps:=by
   intro as ps p;induction p with
   |nil=>intro _;exact .nil
   |cons f _ ih=>intro m;exact .cons (k f (m _ Yl)) (ih λa ha=>m a (Yw _ ha))
  exact aux j.mem λa ha=>by simp[JL.fp,ha]
 ·have aux:∀{as:List Addr} {ps:List (Nat×List Int)},Paired (λa p=>H a=some (.lst (p.2.map V.int))) as ps->(∀a∈as,a∈l.bQ)->Paired (λa p=>H' a=some (.lst (p.2.map V.int))) as ps:=by
   intro as ps p;induction p with
   |nil=>intro _;exact .nil
   |cons f _ ih=>intro m;exact .cons (o _ _ f λz=>d2 _ z (m _ Yl)) (ih λa ha=>m a (Yw _ ha))
  exact aux j.free λa ha=>ha
section
variable {H H':Hp}{l:BL}{xs ys:List Int}{b:BS}
theorem bb.landAt(h:bb H C CL CJ l xs ys b):ij H CL l.L xs ys:=h.land H (Out.of (ai.refl _))
theorem bb.tup(h:bb H C CL CJ l xs ys b)(e:H a=some (.tup us)):a∉l.fp:=by
 intro z;unfold BL.fp BL.own at z;rcases Yv.mp z with z|z
 ·simp only[Yo,Y3,or_false] at z;rcases z with rfl|rfl|rfl|rfl|rfl|rfl|rfl|rfl
  ·obtain⟨dx,q⟩:=h.obj
   grind
  ·rw[h.cW] at e;cases e
  ·rw[h.places] at e;cases e
  ·rw[h.facts] at e;cases e
  ·rw[h.known] at e;cases e
  ·rw[h.parents] at e;cases e
  ·rw[h.done] at e;cases e
  ·rw[h.ik] at e;cases e
 ·cases h.rG with
  |no _ e2=>grind
  |at_ jl st _ e2 ja=>rw[e2] at z;exact ja.off e z
theorem bb.there(h:bb H C CL CJ l xs ys b)(z:a∈l.fp):H a≠none:=by
 intro e;unfold BL.fp BL.own at z;rcases Yv.mp z with z|z
 ·simp only[Yo,Y3,or_false] at z;rcases z with rfl|rfl|rfl|rfl|rfl|rfl|rfl|rfl
  ·obtain⟨dx,q⟩:=h.obj
   grind
  ·rw[h.cW] at e;cases e
  ·rw[h.places] at e;cases e
  ·rw[h.facts] at e;cases e
  ·rw[h.known] at e;cases e
  ·rw[h.parents] at e;cases e
  ·rw[h.done] at e;cases e
  ·rw[h.ik] at e;cases e
 ·cases h.rG with
  |no _ e2=>grind
  |at_ jl st _ e2 ja=>rw[e2] at z;exact ja.ne e z
theorem rU.same(g:ai H H')(h:rU H CJ n l b):rU H' CJ n l b:=by
 cases h with
 |no e1 e2=>exact .no e1 e2
 |at_ jl st e1 e2 ja me len fH=>exact .at_ jl st e1 e2 (ja.same g) me len fH
theorem bb.same(g:ai H H')(h:bb H C CL CJ l xs ys b):bb H' C CL CJ l xs ys b:=
 ⟨let⟨dx,e⟩:=h.obj;⟨dx,g _ _ e⟩,λH2 o=>h.land H2 ((Out.of g).trans o),g _ _ h.cW,g _ _ h.places,g _ _ h.facts,L2.Paired.bA h.fact λ_ _ e=>g _ _ e,g _ _ h.known,g _ _ h.parents,g _ _ h.done,L2.Paired.bA h.kL λ_ _ ⟨r,e1,e2⟩=>⟨r,g _ _ e1,g _ _ e2⟩,g _ _ h.ik,L2.Paired.bA h.mN λ_ _ ⟨r,e1,e2⟩=>⟨r,g _ _ e1,g _ _ e2⟩,h.rG.same g,h.nd⟩
def d9(fp sD:List Addr)(H:Hp):Prop:=∀a∈sD,a∈fp\/H a=none
theorem d9.refl(fp:List Addr)(H:Hp):d9 fp fp H:=λ_ h=>.inl h
theorem EJ(o:Out fp H H1)(g:d9 fp sD H)(o2:Out sD H1 H2):Out fp H H2:=λa u e n=>o2 _ _ (o _ _ e n) λz=>(g a z).elim n λq=>by rw[e] at q;cases q
theorem d9.trans(g:d9 fp sD H)(o:Out fp H H1)(g2:d9 sD ZfU H1):d9 fp ZfU H:=λa z=>by
 rcases g2 a z with q|q;·exact g a q
 ·by_cases m:a∈fp;·exact .inl m
  ·right
   cases e:H a with
   |none=>rfl
   |some u=>rw[o _ _ e m] at q;cases q
theorem d9.same(s:ai H H1)(g2:d9 fp sD H1):d9 fp sD H:=λa z=>(g2 a z).imp id λq=>s.free q
theorem Zbe(me:dB n st F)(m:(k,secs)∈st.fr):secs≠[]:=by
 obtain⟨i,hi,e⟩:=me.wf.hf k (Yf.mpr ⟨_,m,rfl⟩);obtain⟨f,s,d⟩:=me.live;have q:=(d i hi).1;unfold JS.cj at q;rw[e,(mem_lookup me.wf.nf m)] at q
 grind
theorem Zcs(ja:cI H CJ n jl st)(me:dB n st b.F)(h:∃dx us,H l.h=some (.ins C dx us))(h2:∃k,H l.sd=some (.dK k))(h3:∃k,H l.pl=some (.dK k))(h4:∃k,H l.fc=some (.dK k))(h5:∃k,H l.kn=some (.dT k))(h6:∃k,H l.pr=some (.dT k))(h7:∃as:List Addr,H l.dn=some (.lst (as.map V.ref)))(h8:∃as:List Addr,H l.un=some (.lst (as.map V.ref))):∀a∈l.own,a∉jl.bQ:=by
 intro a ha hf;obtain⟨p,hp,e⟩:∃p∈st.fr,H a=some (.lst (p.2.map V.int)):=by
  have aux:∀{as:List Addr} {ps:List (Nat×List Int)},Paired (λa p=>H a=some (.lst (p.2.map V.int))) as ps->a∈as->∃p∈ps,H a=some (.lst (p.2.map V.int)):=by
   intro as ps pr;induction pr with
   |nil=>intro h;cases h
   |cons f _ ih=>
    intro h;rcases Yo.mp h with rfl|h;·exact⟨_,Yl,f⟩
    ·obtain⟨q,m,e⟩:=ih h;exact⟨q,Yw _ m,e⟩
  exact aux ja.free hf
 have ne:=Zbe me (k:=p.1) (secs:=p.2) hp;have lst:∀as:List Addr,H a=some (.lst (as.map V.ref))->False:=λas q=>by
  rw[q] at e;have e':as.map V.ref=p.2.map V.int:=by injection e with e;injection e
  cases dD:p.2 with
  |nil=>exact ne dD
  |cons x r=>
   rw[dD] at e';cases as with
   |nil=>cases e'
   |cons y s=>injection e' with e1 _;cases e1
 unfold BL.own at ha;simp only[Yo,Y3,or_false] at ha;rcases ha with rfl|rfl|rfl|rfl|rfl|rfl|rfl|rfl;·obtain⟨_,_,q⟩:=h;rw[q] at e;cases e
 ·obtain⟨_,q⟩:=h2;rw[q] at e;cases e
 ·obtain⟨_,q⟩:=h3;rw[q] at e;cases e
 ·obtain⟨_,q⟩:=h4;rw[q] at e;cases e
 ·obtain⟨_,q⟩:=h5;rw[q] at e;cases e
 ·obtain⟨_,q⟩:=h6;rw[q] at e;cases e
 ·obtain⟨_,q⟩:=h7;exact lst _ q
 ·obtain⟨_,q⟩:=h8;exact lst _ q
theorem bb.FE(h:bb H C CL CJ l xs ys b)(ja:cI H CJ xs.length jl st)(me:dB xs.length st b.F):∀a∈l.own,a∉jl.bQ:=
 Zcs ja me (let⟨dx,e⟩:=h.obj;⟨dx,_,e⟩) ⟨_,h.cW⟩ ⟨_,h.places⟩ ⟨_,h.facts⟩ ⟨_,h.known⟩ ⟨_,h.parents⟩ ⟨_,h.done⟩ ⟨_,h.ik⟩
theorem bb.build(h:bb H C CL CJ l xs ys b)(eh:l'.h=l.h)(eL:l'.L=l.L)(es:l'.sd=l.sd)(ep:l'.pl=l.pl)(ef:l'.fc=l.fc)(ek:l'.kn=l.kn)(er:l'.pr=l.pr)(ed:l'.dn=l.dn)(eu:l'.un=l.un)(o:Out l.fp H H')(g:d9 l.fp l'.fp H)
  (obj:∃dx,H' l.h=some (.ins C dx (HF l.L l.sd l.pl l.fc l.kn l.pr (b'.co:Int) l.dn l.un l'.rk)))(cW:H' l.sd=some (.dK (fV b'.ps)))(places:H' l.pl=some (.dK (iI b'.ps)))(facts:H' l.fc=some (.dK (bh (b'.fs.map (·.1)) l'.bQ)))
  (fact:Paired (λa (p:Nat×Fc)=>H' a=some (.tup ((dR b'.ps p.1 p.2).map kV))) l'.bQ b'.fs)(known:H' l.kn=some (.dT (e_ b'.ps b'.fs)))(parents:H' l.pr=some (.dT (bX b'.ps b'.fs)))
  (done:H' l.dn=some (.lst (l'.hV.map V.ref)))(kL:Paired (mM H') l'.hV b'.dn)(ik:H' l.un=some (.lst (l'.ka.map V.ref)))(mN:Paired (mM H') l'.ka b'.un)(rk:rU H' CJ xs.length l' b'):bb H' C CL CJ l' xs ys b':=by
 have oe:l'.own=l.own:=by unfold BL.own;rw[eh,es,ep,ef,ek,er,ed,eu]
 refine⟨?_,λH2 o2=>?_,by rw[es];exact cW,by rw[ep];exact places,by rw[ef];exact facts,fact,by rw[ek];exact known,by rw[er];exact parents,by rw[ed];exact done,kL,by rw[eu];exact ik,mN,rk,by rw[oe];exact h.nd⟩;·rw[eh,eL,es,ep,ef,ek,er,ed,eu];exact obj
 ·rw[eL];exact h.land H2 (EJ o g o2)
theorem bb.owned(h:bb H C CL CJ l xs ys b)(eh:l'.h=l.h)(eL:l'.L=l.L)(es:l'.sd=l.sd)(ep:l'.pl=l.pl)(ef:l'.fc=l.fc)(ek:l'.kn=l.kn)(er:l'.pr=l.pr)(ed:l'.dn=l.dn)(eu:l'.un=l.un)
  (rk:(l'.rk=l.rk/\l'.d_=l.d_/\b'.F=b.F/\b'.ps.length=b.ps.length)\/(l'.rk=.ay/\l'.d_=[]))(o:Out l.own H H')
  (obj:∃dx,H' l.h=some (.ins C dx (HF l.L l.sd l.pl l.fc l.kn l.pr (b'.co:Int) l.dn l.un l'.rk)))(cW:H' l.sd=some (.dK (fV b'.ps)))(places:H' l.pl=some (.dK (iI b'.ps)))(facts:H' l.fc=some (.dK (bh (b'.fs.map (·.1)) l'.bQ)))
  (fact:Paired (λa (p:Nat×Fc)=>H' a=some (.tup ((dR b'.ps p.1 p.2).map kV))) l'.bQ b'.fs)(known:H' l.kn=some (.dT (e_ b'.ps b'.fs)))(parents:H' l.pr=some (.dT (bX b'.ps b'.fs)))
  (done:H' l.dn=some (.lst (l'.hV.map V.ref)))(kL:Paired (mM H') l'.hV b'.dn)(ik:H' l.un=some (.lst (l'.ka.map V.ref)))(mN:Paired (mM H') l'.ka b'.un):bb H' C CL CJ l' xs ys b'/\d9 l.fp l'.fp H:=by
 have oe:l'.own=l.own:=by unfold BL.own;rw[eh,es,ep,ef,ek,er,ed,eu]
 have sub:∀a∈l'.fp,a∈l.fp:=λa z=>by
  unfold BL.fp at z⊢;rw[oe] at z;rcases rk with⟨_,e,_⟩|⟨_,e⟩;·rw[e] at z;exact z
  ·rw[e,Wb] at z;exact Yq _ z
 have of:Out l.fp H H':=λa u e n=>o _ _ e λz=>n (Yq _ z);refine⟨⟨?_,λH2 o2=>?_,by rw[es];exact cW,by rw[ep];exact places,by rw[ef];exact facts,fact,by rw[ek];exact known,by rw[er];exact parents,by rw[ed];exact done,kL,by rw[eu];exact ik,mN,?_,by rw[oe];exact h.nd⟩,λa z=>.inl (sub a z)⟩;·rw[eh,eL,es,ep,ef,ek,er,ed,eu];exact obj
 ·rw[eL];exact h.land H2 (EJ of (λa z=>.inl (sub a z)) o2)
 ·rcases rk with⟨r1,r2,r3,r4⟩|⟨r1,r2⟩
  ·cases h.rG with
   |no e1 e2=>exact .no (by rw[r1];exact e1) (by rw[r2];exact e2)
   |at_ jl st e1 e2 ja me len fH=>
    exact .at_ jl st (by rw[r1];exact e1) (by rw[r2];exact e2) (ja.gS o fH (h.FE ja me) λa us e=>λz=>h.tup e (Yq _ z)) (by rw[r3];exact me) (by rw[r4];exact len) (by rw[oe];exact fH)
  ·exact .no r1 r2
end
abbrev p_:List (Str×Str):=[("mother","m"),("father","f"),("wed","w"),("sibling","s")]
abbrev pU(xs ys:List Int):List (Str×List Int):=[("mother",inv xs),("father",inv (bw xs ys)),("wed",ys),("sibling",bc xs.length)]
structure eB(xs ys:List Int)(m:Nat)(c:Fc):Prop where
 ok:dG xs.length m c
 kind:c.k=bq\/(c.k,c.tn)∈pU xs ys
 GC:c.k=bq->0<=c.aH/\c.aH<(xs.length:Int)
theorem YJ:(bq,tn)∉pU xs ys:=by
 intro h;simp only[Yo,Y3,or_false] at h;rcases h with⟨h,_⟩|⟨h,_⟩|⟨h,_⟩|⟨h,_⟩<;>exact absurd h (by decide+kernel)
theorem C0(h:(k,tn)∈pU xs ys):∃r,PyProof.Rows.KTD.datumAt k p_=some r/\(r,tn)∈zK xs ys:=by
 simp only[Yo,Y3,or_false] at h;rcases h with⟨rfl,rfl⟩|⟨rfl,rfl⟩|⟨rfl,rfl⟩|⟨rfl,rfl⟩;·exact⟨"m",by decide+kernel,by simp⟩
 ·exact⟨"f",by decide+kernel,by simp⟩
 ·exact⟨"w",by decide+kernel,by simp⟩
 ·exact⟨"s",by decide+kernel,by simp⟩
theorem eB.uv(g:eB xs ys m c)(h:c.k≠bq):(c.k,c.tn)∈pU xs ys:=g.kind.resolve_left h
theorem Zbf(gd:oa xs ys)(h:(k,tn)∈pU xs ys):full tn=true/\tn.length=xs.length:=by
 obtain⟨r,_,h2⟩:=C0 h;exact YI gd h2
theorem qY(nd:(ps.map (·.1)).Nodup)(hi:i<ps.length):aQ (iI ps) (.inr (au ps i))=some (.int (i:Int)):=by
 have aux:∀(ps:bH) (k i:Nat),(ps.map (·.1)).Nodup->i<ps.length->aQ ((ps.zipIdx k).map λp=>((.inr p.1.1:Key),V.int (p.2:Int))) (.inr (au ps i))=some (.int ((k+i:Nat):Int)):=by
  intro ps;induction ps with
  |nil=>intro k i _ h;cases h
  |cons p ps ih=>
   intro k i nd hi;obtain⟨n1,n2⟩:=Yz.mp (show(p.1::ps.map (·.1)).Nodup from nd);rw[List.zipIdx_cons,Wo];cases i with
   |zero=>exact fw rfl
   |succ i=>
    have gF:i<ps.length:=by simpa using hi
    have e:au (p::ps) (i+1)=au ps i:=rfl;have m:au ps i∈ps.map (·.1):=by
     unfold au;rw[Ye,Yc gF];exact Yf.mpr ⟨_,Js gF,rfl⟩
    rw[e,eS (λz=>n1 (by rw[Wf z];exact m)),ih (k+1) i n2 gF]
    congr 2
    omega
 have:=aux ps 0 i nd hi
 rwa [Nat.zero_add] at this
theorem mj(h:c.k=bq):a_ ps c=.inl c.aH:=if_pos h
theorem iP(h:c.k≠bq):a_ ps c=.inr (au ps c.aH.toNat):=if_neg h
inductive Mz(vs:List V)(H:Hp)(Q:VK):Prop
 |mk (k:Str) (aC:vs=[.str k]) (aR:Q (.bl (mS p_ k)) H):Mz vs H Q
def E5:Sp:=λvs H Q _=>Mz vs H Q
inductive KO(CL:Addr)(vs:List V)(H:Hp)(Q:VK):Prop
 |mk (L:Addr) (k:Str) (xs ys tn:List Int) (aC:vs=[.ref L,.str k]) (aR:ij H CL L xs ys) (a8:(k,tn)∈pU xs ys) (bC:∀t:Addr,bJ H t tn->Q (.ref t) H):KO CL vs H Q
def Em(CL:Addr):Sp:=λvs H Q _=>KO CL vs H Q
inductive Py(vs:List V)(H:Hp)(Q:VK):Prop
 |mk (k a:Str) (o:Key) (aC:vs=[.str k,.str a,kV o]) (aR:k="sibling"->∃b,o=.inr b) (a8:Nw H (.tup ((keyOf k a o).map kV)) Q):Py vs H Q
def zY:Sp:=λvs H Q _=>Py vs H Q
inductive MA(CL CJ:Addr)(vs:List V)(H:Hp)(Q:VK):Prop
 |mk (jl:JL) (st:JS) (L pl fa:Addr) (xs ys:List Int) (ps:bH) (F:List Fc) (z:Nat) (c:Fc) (aC:vs=[.ref jl.J,.ref L,.ref pl,.ref fa]) (ja:cI H CJ xs.length jl st) (me:dB xs.length st F) (la:ij H CL L xs ys) (gd:oa xs ys) (hp:H pl=some (.dK (iI ps))) (nd:(ps.map (·.1)).Nodup) (len:st.hd.length=ps.length) (m4:ps.length<=100) (hf:H fa=some (.tup ((dR ps z c).map kV))) (fg:eB xs ys ps.length c) (lv:∃f,c6 st f/\eQ f c)
   (q:∀(v:V) (gH:JL) (aK:JS) (H':Hp),gH.J=jl.J->(∀a∈gH.fp,a∈jl.fp)->Out jl.fp H H'->cI H' CJ xs.length gH aK->dB xs.length aK (F++[c])->aK.hd.length=st.hd.length->Q v H'):MA CL CJ vs H Q
def E6(CL CJ:Addr):Sp:=λvs H Q _=>MA CL CJ vs H Q
inductive NT(CL CJ:Addr)(vs:List V)(H:Hp)(Q:VK):Prop
 |mk (jl:JL) (st:JS) (L pl fa:Addr) (xs ys:List Int) (ps:bH) (F:List Fc) (z:Nat) (c:Fc) (aC:vs=[.ref jl.J,.ref L,.ref pl,.ref fa]) (ja:cI H CJ xs.length jl st) (me:dB xs.length st F) (la:ij H CL L xs ys) (gd:oa xs ys) (hp:H pl=some (.dK (iI ps))) (nd:(ps.map (·.1)).Nodup) (len:st.hd.length=ps.length) (m4:ps.length<=100) (hf:H fa=some (.tup ((dR ps z c).map kV))) (fg:eB xs ys ps.length c)
   (q1:(∃f,c6 st f/\eQ f c)->∀H',ai H H'->Q (.bl true) H') (q2:(∀f,c6 st f->¬eQ f c)->∀H',ai H H'->Q (.bl false) H'):NT CL CJ vs H Q
def Pz(CL CJ:Addr):Sp:=λvs H Q _=>NT CL CJ vs H Q
theorem zw:∀b:Bool,decide (V.str k=V.str bq)=b->(b=true↔k=bq):=λb e=>by
 grind
section
variable {l_:Addr}
theorem ZY:aP ["kind"] ["kind"] (aG EC):=.aV
theorem ZZ(F:aM K "is_tie" "is_tie" EC f fd)(tE:mg "TIE_LETTERS"=some (.ref l_))(tb:uA K l_ p_):aE P w K mg base aL 1 f fd ["kind"] E5:=by
 refine F.o ZY λaA A outer s H vs Q E hr h=>?_;obtain⟨k,rfl,q⟩:=h;refine⟨_,(aq (aI (zd (ZdO (K:=K) rfl) (pv 0) (dk (v:=.ref l_) rfl tE rfl) (by with_unfolding_all rfl)))),?_⟩;exact⟨_,rfl,k,l_,p_,rfl,rfl,tb,q⟩
theorem Xi:aP ["land","kind"] ["land","kind"] (aG DJ):=.aV
theorem Xj(F:aM K "tie_turn" "tie_turn" DJ f fd)(tE:mg "TIE_LETTERS"=some (.ref l_))(tb:uA K l_ p_)(lc:uu K CL)(t_:HasFn P w K mg base 1 "is_tie" ["kind"] E5)(Dr:cz P w K mg base 1 "step" CL ["self","letter"] (Pk CL)):aE P w K mg base aL 2 f fd ["land","kind"] (Em CL):=by
 refine F.o Xi λaA A outer s H vs Q E hr h=>?_;obtain⟨L,k,xs,ys,tn,rfl,la,hk,q⟩:=h;refine⟨_,(aj (aS (jk (eO (aU t_ hr (aa (pv 1) ag)))) fM aW) (aq (aI (cP Dr hr (by omega) (pv 0) (aa (aY (Zb3 (K:=K) rfl) (dk (v:=.ref l_) rfl tE rfl) (pv 1)) ag))))),?_⟩;obtain⟨r,dr,hs⟩:=C0 hk;have ht:mS p_ k=true:=by unfold mS;rw[dr];rfl
 obtain⟨dx,d,mo,ke,wi,im,jf,iw,st,h1,_⟩:=id la;refine⟨_,rfl,k,rfl,_,rfl,?_⟩;rw[ht];refine bO (aT ?_);exact⟨_,rfl,L,dx,_,rfl,h1,rfl,_,rfl,l_,k,r,p_,rfl,rfl,tb,dr,L,r,xs,ys,tn,rfl,la,hs,q⟩
theorem Xk:aP ["kind","one","other"] ["kind","one","other"] (aG DK):=.aV
theorem Xl(F:aM K "fact_key" "fact_key" DK f fd)(nI:mg "SIBLING"=some (.str "sibling" t1))(bl:Bl mg):aE P w K mg base aL 1 f fd ["kind","one","other"] zY:=by
 refine F.o Xk λaA A outer s H vs Q E hr h=>?_;obtain⟨k,a,o,rfl,hs,q⟩:=h;refine⟨_,(aj (aS (bp bZ (pv 0) (dk (v:=.str "sibling") rfl nI ⟨_,rfl⟩)) (aq (aI (dm (aa (pv 0) (aa (ia (X7 rfl) rfl bl.ZeG Zdb (aa (pv 1) (aa (pv 2) ag))) (aa (ia (X8 rfl) rfl bl.ZeH ZdZ (aa (pv 1) (aa (pv 2) ag))) ag)))))) aW) (aq (aI (dm (aa (pv 0) (aa (pv 1) (aa (pv 2) ag))))))),?_⟩;refine⟨_,rfl,rfl,_,rfl,?_⟩;by_cases e:k="sibling"
 ·obtain⟨b,rfl⟩:=hs e;rw[decide_eq_true (by rw[e])];refine⟨_,rfl,_,rfl,_,rfl,_,_,rfl,_,rfl,_,rfl,_,_,rfl,by show 3<=sizeLine;decide,?_⟩;have ek:keyOf k a (.inr b)=[.inr k,.inr (L2.pX a b),.inr (L2.pY a b)]:=if_pos e;rw[ek] at q;exact q
 ·rw[decide_eq_false (λz=>e (V.str.inj z))];refine⟨_,rfl,_,rfl,_,rfl,by show 3<=sizeLine;decide,?_⟩;have ek:(keyOf k a o).map kV=[.str k,.str a,kV o]:=by
   cases o with
   |inl i=>rfl
   |inr b=>
    have:keyOf k a (.inr b)=[.inr k,.inr a,.inr b]:=if_neg e;rw[this];rfl
  rw[ek] at q;exact q
theorem vI:aP ["joins","land","places","fact","number","kind","one","other"] ["joins","land","places","fact"] (aG C9):=.aV
theorem V3(F:aM K "keep_fact" "keep_fact" C9 f fd)(kG:mg "SAID"=some (.str "said" t1))(tR:HasFn P w K mg base 2 "tie_turn" ["land","kind"] (Em CL))(Du:cz P w K mg base 3 "say" CJ ["self","one","section"] (QB CJ))(Dv:cz P w K mg base 5 "tie" CJ ["self","one","other","turn"] (QD CJ)):aE P w K mg base aL 6 f fd ["joins","land","places","fact"] (E6 CL CJ):=by
 refine F.o vI λaA A outer s H vs Q E hr h=>?_;obtain⟨jl,st,L,pl,fa,xs,ys,ps,FF,z,c,rfl,ja,me,la,gd,hp,nd,len,m4,hf,fg,lv,q⟩:=h;refine⟨_,(aj (nQ (pv 3) (jj (K:=K) (n:=4) rfl rfl (bR (bF 4 vI.nd) (bR (bF 5 vI.nd) (bR (bF 6 vI.nd) (bR (bF 7 vI.nd) jh)))))) (aj (aS (bp bZ (pv 5) (dk (v:=.str "said") rfl kG ⟨_,rfl⟩)) (aq (aI (cP Du hr (by omega) (pv 0) (aa (df (bj hr) (pv 2) (pv 6) (λ_ _=>rfl)) (aa (pv 7) ag))))) aW) (aq (aI (cP Dv hr (by omega) (pv 0) (aa (df (bj hr) (pv 2) (pv 6) (λ_ _=>rfl)) (aa (df (bj hr) (pv 2) (pv 7) (λ_ _=>rfl)) (aa (aU tR hr (aa (pv 1) (aa (pv 5) ag))) ag)))))))),?_⟩;obtain⟨dx,ho⟩:=ja.obj;have p1:=qY nd fg.ok.one;have n8:xs.length<=8:=gd.2.2.2.2;have hi:c.one<st.hd.length:=by rw[len];exact fg.ok.one
 refine⟨_,rfl,fa,_,rfl,aB.of hf,rfl,_,_,rfl,bo ⟨_,_,rfl,bo ⟨_,_,rfl,bo ⟨_,_,rfl,bo ⟨rfl,?_⟩⟩⟩⟩⟩;refine⟨_,rfl,rfl,_,rfl,bB (λcc=>?_) (λcc=>aT ?_)⟩
 ·have e:c.k=bq:=(zw _ rfl).mp cc;have eo:kV (a_ ps c)=.int c.aH:=by rw[mj e];rfl
  refine⟨_,rfl,jl.J,dx,_,rfl,ho,rfl,_,rfl,_,rfl,pl,_,rfl,cU hp p1,_,rfl,?_⟩;have one:=me.wf.one n8 hi;have xX:=me.wf.zX;obtain⟨f0,d0,s0⟩:=lv;obtain⟨s0',h0⟩:=id d0;have mm:c.aH∈(st.cj (st.ae c.one)).map (λz=>(st.bG c.one).getD z.toNat 0):=Yf.mpr ⟨s0' (st.ae c.one),(h0 c.one hi).1,by rw[←s0.1 e,(h0 c.one hi).2];rfl⟩;refine⟨jl,st,xs.length,c.one,_,_,_,c.aH,?_,ja,one,by omega,λ_ l' H' k1 k2 o3 j3=>?_,λno=>absurd mm no⟩
  ·show[V.ref jl.J,V.int (c.one:Int),kV (a_ ps c)]=_;rw[eo]
  ·have ec:c=⟨bq,c.one,c.aH,c.tn⟩:=by rw[←e]
   refine q _ l' _ H' k1 (λa ha=>by rw[k2] at ha;exact ha) o3 j3 ?_ rfl;rw[ec];exact NS me hi mm
 ·have e:c.k≠bq:=λz=>cc ((zw _ rfl).mpr z);obtain⟨⟨o0,om⟩,ft,tl⟩:=fg.ok.gG e;have eo:kV (a_ ps c)=.str (au ps c.aH.toNat):=by rw[iP e];rfl
  have p2:=qY nd om;have hj:c.aH.toNat<st.hd.length:=by rw[len];exact om
  refine⟨_,rfl,jl.J,dx,_,rfl,ho,rfl,_,rfl,_,rfl,pl,_,rfl,cU hp p1,_,rfl,_,rfl,pl,.int (c.aH.toNat:Int),rfl,?_,_,rfl,_,rfl,L,c.k,xs,ys,c.tn,rfl,la,fg.uv e,λt ht=>?_⟩
  ·show dZ H pl (kV (a_ ps c)) _;rw[eo];exact cU hp p2
  refine⟨jl,st,xs.length,c.one,c.aH.toNat,c.tn,t,rfl,ja,me.wf,me.live,n8,by omega,hi,hj,ht,ft,tl,λb l' aK H' k1 k2 o3 j3 to=>?_⟩;have ec:c=⟨c.k,c.one,(c.aH.toNat:Int),c.tn⟩:=by rw[Jt o0]
  have ZfV:dG xs.length st.hd.length ⟨c.k,c.one,(c.aH.toNat:Int),c.tn⟩:=by rw[←ec,len];exact fg.ok
  obtain⟨tm,tf⟩:=Zbd me to e ZfV;have eb:b=true:=by
   cases eb:b with
   |true=>rfl
   |false=>
    obtain⟨f0,d0,s0⟩:=lv;obtain⟨es,no⟩:=to.no eb;exact absurd (s0.2 e) (no f0 d0)
  refine q _ l' aK H' k1 k2 o3 j3 ?_ to.len;have:=tm eb;rw[←ec] at this;exact this
theorem vJ:aP ["joins","land","places","fact","number","kind","one","other"] ["joins","land","places","fact"] (aG C_):=.aV
theorem V4(F:aM K "fact_fits" "fact_fits" C_ f fd)(kG:mg "SAID"=some (.str "said" t1))(tR:HasFn P w K mg base 2 "tie_turn" ["land","kind"] (Em CL))(jD:cz P w K mg base 2 "open_at" CJ ["self","one"] (vW CJ))(tH:cz P w K mg base 4 "left" CJ ["self","one","other","turn"] (FA CJ)):aE P w K mg base aL 5 f fd ["joins","land","places","fact"] (Pz CL CJ):=by
 refine F.o vJ λaA A outer s H vs Q E hr h=>?_;obtain⟨jl,st,L,pl,fa,xs,ys,ps,FF,z,c,rfl,ja,me,la,gd,hp,nd,len,m4,hf,fg,q1,q2⟩:=h;have hu:=hr.uh;refine⟨_,(aj (nQ (pv 3) (jj (K:=K) (n:=4) rfl rfl (bR (bF 4 vJ.nd) (bR (bF 5 vJ.nd) (bR (bF 6 vJ.nd) (bR (bF 7 vJ.nd) jh)))))) (aj (aS (bp bZ (pv 5) (dk (v:=.str "said") rfl kG ⟨_,rfl⟩)) (aq (aI (zd (lV (K:=K) rfl) (pv 7) (cP jD hr (by omega) (pv 0) (aa (df (bj hr) (pv 2) (pv 6) (λ_ _=>rfl)) ag)) (by with_unfolding_all rfl)))) aW) (aq (aI (eG (E1 (K:=K) rfl (ZdQ hu)) (cP tH hr (by omega) (pv 0) (aa (df (bj hr) (pv 2) (pv 6) (λ_ _=>rfl)) (aa (df (bj hr) (pv 2) (pv 7) (λ_ _=>rfl)) (aa (aU tR hr (aa (pv 1) (aa (pv 5) ag))) ag)))) (dt ag)))))),?_⟩;obtain⟨dx,ho⟩:=ja.obj;have p1:=qY nd fg.ok.one;have n8:xs.length<=8:=gd.2.2.2.2;have hi:c.one<st.hd.length:=by rw[len];exact fg.ok.one
 refine⟨_,rfl,fa,_,rfl,aB.of hf,rfl,_,_,rfl,bo ⟨_,_,rfl,bo ⟨_,_,rfl,bo ⟨_,_,rfl,bo ⟨rfl,?_⟩⟩⟩⟩⟩;refine⟨_,rfl,rfl,_,rfl,bB (λcc=>?_) (λcc=>aT ?_)⟩
 ·have e:c.k=bq:=(zw _ rfl).mp cc;have eo:kV (a_ ps c)=.int c.aH:=by rw[mj e];rfl
  have one:=me.wf.one n8 hi;refine⟨_,rfl,_,rfl,jl.J,dx,_,rfl,ho,rfl,_,rfl,_,rfl,pl,_,rfl,cU hp p1,jl,st,xs.length,c.one,_,_,_,rfl,ja,one.hd,one.ld,one.fr,one.eX,one.iF,λp ns H1 np g1 pm so oK=>⟨p,_,rfl,.inl (ak.of oK),?_,EF ns,?_⟩⟩
  ·show iU (kV (a_ ps c))=true;rw[eo];rfl
  show Q (.bl (if(false:Bool)=true then !eW (kV (a_ ps c)) (ns.map V.int) else eW (kV (a_ ps c)) (ns.map V.int))) H1;rw[if_neg Yh,eo,zt];have ec:c=⟨bq,c.one,c.aH,c.tn⟩:=by rw[←e]
  by_cases m:c.aH∈ns
  ·rw[decide_eq_true m];refine q1 ?_ H1 g1;have Te:=NS (tn:=c.tn) me hi (pm.subset m);obtain⟨f,d⟩:=Te.live;obtain⟨_,s⟩:=(Te.iff f).mp d;refine⟨f,((vK me.wf hi _ f).mp d).1,?_⟩;rw[ec];exact s _ (Yn _ Yl)
  ·rw[decide_eq_false m];refine q2 (λf d=>?_) H1 g1;rw[ec];exact Zea me hi (λz=>m (pm.symm.subset z)) f d
 ·have e:c.k≠bq:=λz=>cc ((zw _ rfl).mpr z);obtain⟨⟨o0,om⟩,ft,tl⟩:=fg.ok.gG e;have eo:kV (a_ ps c)=.str (au ps c.aH.toNat):=by rw[iP e];rfl
  have p2:=qY nd om;have hj:c.aH.toNat<st.hd.length:=by rw[len];exact om
  have pf:=NQ me.wf n8 hi hj;refine⟨_,rfl,jl.J,dx,_,rfl,ho,rfl,_,rfl,_,rfl,pl,_,rfl,cU hp p1,_,rfl,_,rfl,pl,.int (c.aH.toNat:Int),rfl,?_,_,rfl,_,rfl,L,c.k,xs,ys,c.tn,rfl,la,fg.uv e,λt ht=>?_⟩
  ·show dZ H pl (kV (a_ ps c)) _;rw[eo];exact cU hp p2
  refine⟨jl,st,xs.length,c.one,c.aH.toNat,_,_,_,_,_,_,c.tn,t,rfl,ja,me.wf.one n8 hi,me.wf.one n8 hj,ht,λp hp=>by rw[tl];exact Pq me.wf hi (x:=p.1) (y:=p.2) hp,Y0 pf (by omega),λp ns H1 np g1 oK pm _=>?_⟩;have ms:=Mu pm;refine⟨by show 0<=sizeLine;exact Yx _,λe0 H2 n2 g2 xY=>?_⟩;refine⟨p,e0,ns.map V.int,rfl,rfl,ak.of (g2 _ _ oK),ak.of xY,?_⟩;rw[if_pos rfl];have sat:∀f,eQ f c↔f c.aH.toNat=ap c.tn (f c.one):=λf=>⟨λh=>h.2 e,λh=>⟨λz=>absurd z e,λ_=>h⟩⟩;cases ns with
  |nil=>
   refine q2 (λf d z=>?_) H2 (g1.trans g2);have m:=vX me.wf hi hj d;rw[(sat f).mp z] at m;exact absurd ((ms _).mpr m) (λz=>nomatch z)
  |cons a r=>
   refine q1 ?_ H2 (g1.trans g2);have m:=(ms a).mp Yl;obtain⟨f,d,e1,e2⟩:=Mt me.wf hi hj me.live m;exact⟨f,d,(sat f).mpr (by rw[e1,e2])⟩
end
def BS.keys(b:BS):List (List Key):=b.fs.map λp=>eZ b.ps p.2
def BS.told(b:BS)(k:List Key):Bool:=(aQ (e_ b.ps b.fs) k).isSome
structure cC(xs ys:List Int)(b:BS):Prop where
 gd:oa xs ys
 nm:(b.ps.map (·.1)).Nodup
 m:b.ps.length<=64
 fl:b.fs.length<=63
 fg:∀p∈b.fs,eB xs ys b.ps.length p.2
 zs:(b.fs.map (·.1)).Nodup
 lt:∀p∈b.fs,p.1<b.co
 ky:b.keys.Nodup
 pr:((bX b.ps b.fs).map (·.1)).Nodup
 lv:∃f,kW xs.length b.ps.length f/\∀c∈b.F,eQ f c
 dl:b.dn.length<=200
 ul:b.un.length<=200
structure bK(H H':Hp)(l l':BL):Prop where
 h:l'.h=l.h
 out:Out l.fp H H'
 grow:d9 l.fp l'.fp H
theorem bK.of(g:ai H H'):bK H H' l l:=⟨rfl,Out.of g,d9.refl _ _⟩
theorem bK.trans(a:bK H H1 l l1)(b:bK H1 H2 l1 l2):bK H H2 l l2:=⟨b.h.trans a.h,EJ a.out a.grow b.out,a.grow.trans a.out b.grow⟩
theorem bK.same(a:bK H H1 l l1)(g:ai H1 H2):bK H H2 l l1:=⟨a.h,a.out.trans (Out.of g),a.grow⟩
theorem bK.after(g:ai H H1)(a:bK H1 H2 l l1):bK H H2 l l1:=⟨a.h,(Out.of g).trans a.out,a.grow.same g⟩
theorem y8[DecidableEq κ](kvs:List (κ×V))(k:κ):(aQ kvs k).isSome=true↔k∈kvs.map (·.1):=by
 induction kvs with
 |nil=>exact⟨(λz=>nomatch z),(λz=>nomatch z)⟩
 |cons p r ih=>
  by_cases e:p.1=k
  ·rw[fw e]
   grind
  ·rw[eS e,ih]
   grind
theorem oX{κ:Type}[DecidableEq κ]{kvs:List (κ×V)}{k:κ}(h:k∉kvs.map (·.1)):aQ kvs k=none:=by
 cases e:aQ kvs k with
 |none=>rfl
 |some v=>exact absurd ((y8 kvs k).mp (by rw[e];rfl)) h
theorem NU{κ:Type}[DecidableEq κ]{kvs:List (κ×V)}{k:κ}{v:V}(nd:(kvs.map (·.1)).Nodup)(h:(k,v)∈kvs):aQ kvs k=some v:=by
 induction kvs with
 |nil=>cases h
 |cons p r ih=>
  obtain⟨n1,n2⟩:=Yz.mp (show(p.1::r.map (·.1)).Nodup from nd);rcases Yo.mp h with h|h;·rw[←h];exact fw rfl
  ·rw[eS (λz=>n1 (by rw[z];exact Yf.mpr ⟨_,h,rfl⟩))];exact ih n2 h
theorem ue(h:i<ps.length):au ps i∈ps.map (·.1):=by
 unfold au
 grind
inductive LA(C CL CJ:Addr)(vs:List V)(H:Hp)(Q:VK):Prop
 |mk (l:BL) (b:BS) (xs ys:List Int) (aC:vs=[.ref l.h]) (aR:bb H C CL CJ l xs ys b) (a8:Nw H (.lst (b.ps.map λp=>V.str p.1)) Q):LA C CL CJ vs H Q
def MB(C CL CJ:Addr):Sp:=λvs H Q _=>LA C CL CJ vs H Q
inductive LB(C CL CJ:Addr)(vs:List V)(H:Hp)(Q:VK):Prop
 |mk (l:BL) (b:BS) (xs ys:List Int) (z:Str) (v:V) (aC:vs=[.ref l.h,.str z]) (aR:bb H C CL CJ l xs ys b) (a8:aQ (fV b.ps) (.inr z)=some v) (bC:Q v H):LB C CL CJ vs H Q
def EK(C CL CJ:Addr):Sp:=λvs H Q _=>LB C CL CJ vs H Q
inductive PB(C CL CJ:Addr)(vs:List V)(H:Hp)(Q:VK):Prop
 |mk (l:BL) (b:BS) (xs ys:List Int) (k a:Str) (o:Key) (aC:vs=[.ref l.h,.str k,.str a,kV o]) (aR:bb H C CL CJ l xs ys b) (a8:k="sibling"->∃b,o=.inr b) (bC:∀H',ai H H'->Q (.bl (b.told (keyOf k a o))) H'):PB C CL CJ vs H Q
def F5(C CL CJ:Addr):Sp:=λvs H Q _=>PB C CL CJ vs H Q
inductive Kd(C CL CJ:Addr)(vs:List V)(H:Hp)(Q:VK):Prop
 |mk (l:BL) (b:BS) (xs ys:List Int) (k a:Str) (aC:vs=[.ref l.h,.str k,.str a]) (aR:bb H C CL CJ l xs ys b) (bC:∀H',ai H H'->Q ((aQ (bX b.ps b.fs) [.inr k,.inr a]).getD .ay) H'):Kd C CL CJ vs H Q
def KP(C CL CJ:Addr):Sp:=λvs H Q _=>Kd C CL CJ vs H Q
abbrev iC:List Str:=["mother","father"]
def nU(b:BS)(a:Str):List V:=iC.filterMap λk=>aQ (bX b.ps b.fs) [.inr k,.inr a]
theorem Zbg(g:Nat->Option V):((List.range 2).filter λi=>(g i).isSome).map (λi=>(g i).getD .ay)=[g 0,g 1].filterMap id:=by
 show(([0,1]:List Nat).filter _).map _=_
 grind
theorem MC(b:BS)(k:List Key):b.told k=true↔k∈b.keys:=by
 unfold BS.told;rw[y8];unfold e_ BS.keys
 grind
inductive JV(C CL CJ:Addr)(vs:List V)(H:Hp)(Q:VK):Prop
 |mk (l:BL) (b:BS) (xs ys:List Int) (a:Str) (aC:vs=[.ref l.h,.str a]) (aR:bb H C CL CJ l xs ys b) (bC:∀(p:Addr) (H':Hp),H p=none->ai H H'->H' p=some (.lst (nU b a))->Q (.ref p) H'):JV C CL CJ vs H Q
def Ke(C CL CJ:Addr):Sp:=λvs H Q _=>JV C CL CJ vs H Q
def eA(H:Hp)(ps:bH)(a:Addr)(p:Nat×Fc):Prop:=H a=some (.tup ((dR ps p.1 p.2).map kV))
def DX(K:PySem.W.Frag):Sp:=λvs H Q _=>∃(r:Addr) (xs:List V),vs=[.ref r]/\aB K H r xs/\Q (.bl (decide (xs.length=2))) H
theorem NV:∀{as:List Addr} {fs:List (Nat×Fc)} {p:Nat×Fc},Paired (eA H ps) as fs->(fs.map (·.1)).Nodup->p∈fs->∃a,aQ (bh (fs.map (·.1)) as) (.inl (p.1:Int))=some (.ref a)/\eA H ps a p:=by
 intro as fs p pr;induction pr with
 |nil=>grind
 |@cons a q as fs f t ih=>
  intro nd h;obtain⟨n1,n2⟩:=Yz.mp (show(q.1::fs.map (·.1)).Nodup from nd);have e0:bh ((q::fs).map (·.1)) (a::as)=(Sum.inl (q.1:Int),V.ref a)::bh (fs.map (·.1)) as:=rfl;rw[e0];rcases Yo.mp h with rfl|h;·exact⟨a,fw rfl,f⟩
  ·obtain⟨a',e1,e2⟩:=ih n2 h;refine⟨a',?_,e2⟩;rw[eS (p:=((Sum.inl (q.1:Int):Key),V.ref a)) (λz=>n1 (by
    have e:=AV z;have e':q.1=p.1:=by omega
    rw[e'];exact Yf.mpr ⟨_,h,rfl⟩))]
   exact e1
section
variable {dw:Addr}
theorem UW:aP ["self"] ["self"] (aG B4):=.aV
theorem Z0(F:aM K "people" "Hearth.people" B4 f fd)(hc:fC K C)(bl:Bl mg):aE P w K mg base aL 1 f fd ["self"] (MB C CL CJ):=by
 refine F.o UW λaA A outer s H vs Q E hr h=>?_;obtain⟨l,b,xs,ys,rfl,ba,q⟩:=h;refine⟨_,(aq (aI (eN (Xa rfl) rfl bl.ui ua (aa (pF K 0) ag)))),?_⟩;obtain⟨dx,h1⟩:=ba.obj;refine⟨_,rfl,l.h,C,dx,_,_,rfl,h1,hc.cls,hc.qX,rfl,l.sd,_,rfl,ba.cW,λp H' np g hp=>q p H' np g ?_⟩;rw[hp,Wg];rfl
theorem UM:aP ["self","name"] ["self","name"] (aG BR):=.aV
theorem YK(F:aM K "side_of" "Hearth.side_of" BR f fd)(hc:fC K C)(bl:Bl mg):aE P w K mg base aL 1 f fd ["self","name"] (EK C CL CJ):=by
 refine F.o UM λaA A outer s H vs Q E hr h=>?_;obtain⟨l,b,xs,ys,z,v,rfl,ba,ev,q⟩:=h;refine⟨_,(aj (aS (jK (mf (bj hr) (pv 1) (pF K 0)) (by with_unfolding_all rfl)) fM aW) (aq (aI (df (bj hr) (pF K 0) (pv 1) (λ_ _=>rfl))))),?_⟩;obtain⟨dx,h1⟩:=ba.obj;exact⟨_,rfl,_,rfl,l.h,C,dx,_,_,rfl,h1,hc.cls,hc.qX,rfl,l.sd,some v,rfl,cU ba.cW ev,_,rfl,bO (aT ⟨_,rfl,l.h,C,dx,_,_,rfl,h1,hc.cls,hc.qX,rfl,_,rfl,l.sd,v,rfl,cU ba.cW ev,q⟩)⟩
theorem V5:aP ["row"] ["row"] (aG De):=.aV
theorem V6(F:aM K "is_person" "is_person" De f fd)(bl:Bl mg):aE P w K mg base aL 1 f fd ["row"] (DX K):=by
 refine F.o V5 λaA A outer s H vs Q E hr h=>?_;obtain⟨r,xs,rfl,uU,q⟩:=h;refine⟨_,(aq (aI (eG bZ (dh K bl (pv 0)) aN))),?_⟩;refine⟨_,rfl,r,xs,rfl,.inr uU,rfl,?_⟩;have e:decide (V.int (xs.length:Int)=V.int 2)=decide (xs.length=2):=by
  rw[Wj,decide_eq_true_iff,decide_eq_true_iff];exact⟨λz=>by have:=V.int.inj z;omega,λz=>by rw[z];rfl⟩
 rw[←e] at q;exact q
theorem VG:aP ["self","kind","one","other"] ["self","kind","one","other"] (aG CY):=.aV
theorem Zeb(F:aM K "has" "Hearth.has" CY f fd)(hc:fC K C)(nF:HasFn P w K mg base 1 "fact_key" ["kind","one","other"] zY):aE P w K mg base aL 2 f fd ["self","kind","one","other"] (F5 C CL CJ):=by
 refine F.o VG λaA A outer s H vs Q E hr h=>?_;obtain⟨l,b,xs,ys,k,a,o,rfl,ba,hs,q⟩:=h;refine⟨_,(aq (aI (ZcU (zH (bj hr) (aU nF hr (aa (pv 1) (aa (pv 2) (aa (pv 3) ag)))) (pF K 0)) (by with_unfolding_all rfl)))),?_⟩;refine⟨_,rfl,_,rfl,_,rfl,k,a,o,rfl,hs,λp H1 np g1 hp=>?_⟩;obtain⟨dx,h1⟩:=ba.obj;refine⟨_,rfl,l.h,C,dx,_,_,rfl,g1 _ _ h1,hc.cls,hc.zu,rfl,l.kn,_,rfl,dZ.t (g1 _ _ ba.known) hp,?_⟩;exact q H1 g1
theorem UE:aP ["self","kind","name"] ["self","kind","name"] (aG BG):=.aV
theorem V7(F:aM K "parent_of" "Hearth.parent_of" BG f fd)(hc:fC K C):aE P w K mg base aL 1 f fd ["self","kind","name"] (KP C CL CJ):=by
 refine F.o UE λaA A outer s H vs Q E hr h=>?_;obtain⟨l,b,xs,ys,k,a,rfl,ba,q⟩:=h;refine⟨_,(aq (aI (ZaE (bj hr) (pF K 0) (dm (aa (pv 1) (aa (pv 2) ag))) ⟨rfl,rfl,rfl,rfl⟩))),?_⟩;obtain⟨dx,h1⟩:=ba.obj;refine⟨_,rfl,l.h,C,dx,_,_,rfl,h1,hc.cls,hc.tZ,rfl,l.pr,rfl,.inr ⟨_,.inl ba.parents⟩,_,rfl,_,rfl,by show 2<=sizeLine;decide,λp H1 np g1 hp=>?_⟩;exact⟨_,dZ.t (k:=[.inr k,.inr a]) (g1 _ _ ba.parents) hp,q H1 g1⟩
theorem UC:aP ["self","name"] ["self","name"] (aG BD):=.aV
theorem VH(F:aM K "parents_of" "Hearth.parents_of" BD f fd)(hc:fC K C)(iN:mg "PARENTS"=some (.ref dw))(qP:∀H,aB K H dw (iC.map V.str)):aE P w K mg base aL 1 f fd ["self","name"] (Ke C CL CJ):=by
 refine F.o UC λaA A outer s H vs Q E hr h=>?_;obtain⟨l,b,xs,ys,a,rfl,ba,q⟩:=h;refine⟨_,(aq (aI (ji (x:="kind") (fr:=[("self",0),("name",1)]) (cl:=[("self",s.heap.objs.size+1),("name",s.heap.objs.size+1+1)]) rfl (.g_ ⟨rfl,⟨rfl,trivial⟩⟩ ⟨⟨rfl,.inl rfl,.inl rfl,rfl⟩,⟨⟨rfl,.inl rfl,.inl rfl,rfl⟩,trivial⟩⟩) (Ff (dk (v:=.ref dw) rfl iN rfl)) (λ_ _ _ _=>vZ (jK (zH (bj hr) (dm (aa (pv 0) (aa (pv 2) ag))) (v9 (K:=K) rfl (pv 1) rfl)) (by with_unfolding_all rfl))) (λ_ _ _ _=>(df (bj hr) (v9 (K:=K) rfl (pv 1) rfl) (dm (aa (pv 0) (aa (pv 2) ag))) (λ_ _=>rfl)))))),?_⟩;obtain⟨dx,h1⟩:=ba.obj;let val:Nat->Option V:=λi=>aQ (bX b.ps b.fs) [.inr (iC.getD i ""),.inr a];refine⟨dw,rfl,⟨_,qP _⟩,λD hD=>ZH (K:=K) (a:=dw) (xs:=iC.map V.str) (qP _) (by show 2<=1000;decide) hD (λi=>(val i).isSome) (λi=>(val i).getD .ay) (λi v hi H1 g1 _ Kt Kf kt kf=>?_) λH1 g1 h2=>q D H1 hD g1 ?_⟩
 ·obtain⟨k,rfl,ek⟩:∃k:Str,v=.str k/\iC.getD i ""=k:=by
   match i,hi with
   |0,hi=>exact⟨"mother",(Yr hi).symm,rfl⟩
   |1,hi=>exact⟨"father",(Yr hi).symm,rfl⟩
   |i+2,hi=>simp at hi
  have ev:val i=aQ (bX b.ps b.fs) [.inr k,.inr a]:=by show aQ (bX b.ps b.fs) [.inr (iC.getD i ""),.inr a]=_;rw[ek]
  refine⟨_,rfl,_,rfl,by show 2<=sizeLine;decide,λp H2 np g2 hp=>?_⟩;refine⟨_,rfl,l.h,C,dx,_,_,rfl,g2 _ _ (g1 _ _ h1),hc.cls,hc.tZ,rfl,l.pr,_,rfl,dZ.t (k:=[.inr k,.inr a]) (g2 _ _ (g1 _ _ ba.parents)) hp,_,rfl,?_⟩;rw[ev] at kt kf;cases e:aQ (bX b.ps b.fs) [.inr k,.inr a] with
  |none=>
   rw[e] at kf;exact bO (kf H2 rfl g2)
  |some u=>
   rw[e] at kt;refine c5 ?_;refine⟨_,rfl,l.h,C,dx,_,_,rfl,g2 _ _ (g1 _ _ h1),hc.cls,hc.tZ,rfl,_,rfl,_,rfl,by show 2<=sizeLine;decide,λp3 H3 np3 g3 Tf=>?_⟩;refine⟨l.pr,u,rfl,?_,kt u H3 rfl (g2.trans g3) rfl⟩;have z:=dZ.t (k:=[.inr k,.inr a]) (g3 _ _ (g2 _ _ (g1 _ _ ba.parents))) Tf;rw[e] at z;exact z
 ·rw[h2];have e:((List.range (iC.map V.str).length).filter λi=>(val i).isSome).map (λi=>(val i).getD .ay)=nU b a:=by
   exact Zbg val
  rw[e]
end
theorem zx(h:i<ps.length):au (ps++[x]) i=au ps i:=by
 unfold au
 grind
theorem EL(ok:dG n ps.length c):a_ (ps++[x]) c=a_ ps c:=by
 unfold a_;by_cases e:c.k=bq;·grind
 ·rw[if_neg e,if_neg e,zx (ok.gG e).1.2]
theorem Zct(ok:dG n ps.length c):dR (ps++[x]) z c=dR ps z c:=by
 unfold dR;rw[EL ok,zx ok.one]
theorem NW(ok:dG n ps.length c):eZ (ps++[x]) c=eZ ps c:=by
 unfold eZ;rw[EL ok,zx ok.one]
theorem Zcu(ok:∀p∈fs,dG n ps.length p.2):e_ (ps++[x]) fs=e_ ps fs:=by
 exact W7 λp hp=>by rw[NW (ok p hp)]
theorem NX(ok:∀p∈fs,dG n ps.length p.2):bX (ps++[x]) fs=bX ps fs:=by
 exact W7 λp hp=>by
  have o:=ok p (Y4.mp hp).1;rw[EL o,zx o.one]
theorem Zcv(ps:bH)(n s:Str):fV (ps++[(n,s)])=fV ps++[(.inr n,.str s)]:=Ys
theorem Zcw(ps:bH)(x:Str×Str):iI (ps++[x])=iI ps++[(.inr x.1,.int (ps.length:Int))]:=by
 unfold iI
 grind
theorem Zbh(ps:bH)(fs:List (Nat×Fc))(z:Nat)(c:Fc):e_ ps (fs++[(z,c)])=e_ ps fs++[(eZ ps c,.int (z:Int))]:=Ys
theorem MD(h:cJ c.k=true):bX ps (fs++[(z,c)])=bX ps fs++[([.inr c.k,.inr (au ps c.one)],kV (a_ ps c))]:=by
 unfold bX
 grind
theorem ME(h:cJ c.k=false):bX ps (fs++[(z,c)])=bX ps fs:=by
 unfold bX
 grind
theorem zy(k:Str):eW (.str k) (iC.map V.str)=cJ k:=by
 show((("mother":Str)==k)||((("father":Str)==k)||false))=(decide (k="mother")||decide (k="father"))
 grind
theorem Kg{α β γ:Type}[DecidableEq β][DecidableEq γ]{f:α->β}{g:α->γ}:∀{xs:List α} {x:α},(xs.map f).Nodup->(xs.map g).Nodup->x∈xs->xs.filter (λy=>decide (f y≠f x))=xs.filter (λy=>decide (g y≠g x)):=by
 intro xs x n1 n2 hx;have inj:∀{δ:Type} {h:α->δ},(xs.map h).Nodup->∀y∈xs,h y=h x->y=x:=by
  induction xs with
  |nil=>cases hx
  |cons a r ih=>grind
 refine List.filter_congr λy hy=>?_
 grind
theorem Zbi{ps:bH}{fs:List (Nat×Fc)}{z:Nat}{c:Fc}(zs:(fs.map (·.1)).Nodup)(ky:(fs.map λp=>eZ ps p.2).Nodup)(m:(z,c)∈fs):gm (e_ ps fs) (eZ ps c)=e_ ps (cR z fs):=by
 unfold e_ gm cR;rw[Jw];exact congrArg _ (Kg (x:=(z,c)) ky zs m)
theorem Zbj{ps:bH}{fs:List (Nat×Fc)}{z:Nat}{c:Fc}(zs:(fs.map (·.1)).Nodup)(pr:((bX ps fs).map (·.1)).Nodup)(m:(z,c)∈fs)(h:cJ c.k=true):gm (bX ps fs) [.inr c.k,.inr (au ps c.one)]=bX ps (cR z fs):=by
 unfold bX at pr⊢;rw[Wg] at pr;unfold gm cR;rw[Jw,Ji];have e:=Kg (f:=λp:Nat×Fc=>([.inr p.2.k,.inr (au ps p.2.one)]:List Key)) (x:=(z,c)) pr (zs.sublist (List.filter_sublist.map _)) (Y4.mpr ⟨m,h⟩);rw[Ji,Ji] at e;rw[Ji]
 grind
theorem Z1(zs:(fs.map (·.1)).Nodup)(m:(z,c)∈fs)(h:cJ c.k=false):bX ps fs=bX ps (cR z fs):=by
 unfold bX cR;rw[Ji];refine congrArg _ (List.filter_congr λp hp=>?_);by_cases e:p.1=z
 ·have:p=(z,c):=by
   have aux:∀{fs:List (Nat×Fc)},(fs.map (·.1)).Nodup->p∈fs->(z,c)∈fs->p=(z,c):=by
    induction fs with
    |nil=>grind
    |cons a r ih=>grind
   exact aux zs hp m
  grind
 ·grind
inductive Move(xs ys:List Int)(H:Hp)(r:Addr)(b:BS):Int->BS->Prop
 |pin (n s:Str) (hr:H r=some (.tup [.str n,.str s])) (new:n∉b.ps.map (·.1)) (lim:b.ps.length<64):Move xs ys H r b 1 {b with ps:=b.ps++[(n,s)]}
 |fin (z:Nat) (c:Fc) (hr:eA H b.ps r (z,c)) (fg:eB xs ys b.ps.length c) (nz:z∉b.fs.map (·.1)) (nk:eZ b.ps c∉b.keys) (np:cJ c.k=true->[.inr c.k,.inr (au b.ps c.one)]∉(bX b.ps b.fs).map (·.1)) (lv:∃f,kW xs.length b.ps.length f/\∀c'∈b.F++[c],eQ f c') (lim:b.fs.length<63):Move xs ys H r b 1 {b with fs:=b.fs++[(z,c)]}
 |uD (z:Nat) (c:Fc) (hr:eA H b.ps r (z,c)) (m:(z,c)∈b.fs):Move xs ys H r b (-1) {b with fs:=cR z b.fs}
theorem Move.out{w:Int}(m:Move xs ys H r b w b')(k:∀us,H r=some (.tup us)->H' r=some (.tup us)):Move xs ys H' r b w b':=by
 cases m with
 |pin n s hr new lim=>exact .pin n s (k _ hr) new lim
 |fin z c hr fg nz nk np lv lim=>exact .fin z c (k _ hr) fg nz nk np lv lim
 |uD z c hr m=>exact .uD z c (k _ hr) m
theorem Move.Ze2{w:Int}(m:Move xs ys H r b w b')(dn un:List Ai):Move xs ys H r {b with dn:=dn,un:=un} w {b' with dn:=dn,un:=un}:=by
 cases m with
 |pin n s hr new lim=>exact .pin n s hr new lim
 |fin z c hr fg nz nk np lv lim=>exact .fin z c hr fg nz nk np lv lim
 |uD z c hr m=>exact .uD z c hr m
inductive NY(C CL CJ:Addr)(vs:List V)(H:Hp)(Q:VK):Prop
 |mk (l:BL) (b:BS) (xs ys:List Int) (fa:Addr) (z:Nat) (c:Fc) (aC:vs=[.ref l.h,.ref fa]) (ba:bb H C CL CJ l xs ys b) (hf:eA H b.ps fa (z,c)) (nz:z∉b.fs.map (·.1)) (nk:eZ b.ps c∉b.keys) (np:cJ c.k=true->[.inr c.k,.inr (au b.ps c.one)]∉(bX b.ps b.fs).map (·.1)) (fl:b.fs.length<=63)
   (q:∀H',Out [l.fc,l.kn,l.pr] H H'->H' l.fc=some (.dK (bh ((b.fs++[(z,c)]).map (·.1)) (l.bQ++[fa])))->H' l.kn=some (.dT (e_ b.ps (b.fs++[(z,c)])))->H' l.pr=some (.dT (bX b.ps (b.fs++[(z,c)])))->Q .ay H'):NY C CL CJ vs H Q
def PD(C CL CJ:Addr):Sp:=λvs H Q _=>NY C CL CJ vs H Q
inductive MF(C CL CJ:Addr)(vs:List V)(H:Hp)(Q:VK):Prop
 |mk (l:BL) (b b':BS) (xs ys:List Int) (r:Addr) (aC:vs=[.ref l.h,.ref r]) (ba:bb H C CL CJ l xs ys b) (ok:cC xs ys b) (mv:Move xs ys H r b 1 b') (q:∀(l':BL) (H':Hp),bK H H' l l'->bb H' C CL CJ l' xs ys b'->Q .ay H'):MF C CL CJ vs H Q
def NZ(C CL CJ:Addr):Sp:=λvs H Q _=>MF C CL CJ vs H Q
inductive KQ(C CL CJ:Addr)(vs:List V)(H:Hp)(Q:VK):Prop
 |mk (l:BL) (b b':BS) (xs ys:List Int) (r:Addr) (aC:vs=[.ref l.h,.ref r]) (ba:bb H C CL CJ l xs ys b) (ok:cC xs ys b) (mv:Move xs ys H r b (-1) b') (q:∀(l':BL) (H':Hp),bK H H' l l'->bb H' C CL CJ l' xs ys b'->Q .ay H'):KQ C CL CJ vs H Q
def LC(C CL CJ:Addr):Sp:=λvs H Q _=>KQ C CL CJ vs H Q
inductive MG(C CL CJ:Addr)(vs:List V)(H:Hp)(Q:VK):Prop
 |mk (l:BL) (b b':BS) (xs ys:List Int) (r:Addr) (w:Int) (c2:Nat) (aC:vs=[.ref l.h,.int w,.ref r,.int (c2:Int)]) (ba:bb H C CL CJ l xs ys b) (ok:cC xs ys b) (mv:Move xs ys H r b w b') (q:∀(l':BL) (H':Hp),bK H H' l l'->bb H' C CL CJ l' xs ys {b' with co:=c2}->Q .ay H'):MG C CL CJ vs H Q
def N0(C CL CJ:Addr):Sp:=λvs H Q _=>MG C CL CJ vs H Q
inductive LD(C CL CJ:Addr)(vs:List V)(H:Hp)(Q:VK):Prop
 |mk (l:BL) (b b':BS) (xs ys:List Int) (r:Addr) (w:Int) (c2:Nat) (row:List Key) (aC:vs=[.ref l.h,.int w,.ref r,.int (c2:Int)]) (ba:bb H C CL CJ l xs ys b) (ok:cC xs ys b) (dl:b.dn.length<200) (hr:H r=some (.tup (row.map kV))) (mv:Move xs ys H r b w b') (q:∀(l':BL) (H':Hp),bK H H' l l'->bb H' C CL CJ l' xs ys {b' with co:=c2,dn:=b.dn++[⟨w,row,b.co,c2⟩],un:=[]}->Q .ay H'):LD C CL CJ vs H Q
def y9(C CL CJ:Addr):Sp:=λvs H Q _=>LD C CL CJ vs H Q
section
variable {dw:Addr}
theorem N1{ps:bH}{c:Fc}(e:c.k="sibling"):∃b,a_ ps c=.inr b:=⟨_,iP (by rw[e];decide+kernel)⟩
theorem vD:aP ["self","fact","number","kind","one","other"] ["self","fact"] (aG BH):=.aV
theorem Zcx(F:aM K "note_fact" "Hearth.note_fact" BH f fd)(hc:fC K C)(iN:mg "PARENTS"=some (.ref dw))(qP:∀H,aB K H dw (iC.map V.str))(nF:HasFn P w K mg base 1 "fact_key" ["kind","one","other"] zY):aE P w K mg base aL 2 f fd ["self","fact"] (PD C CL CJ):=by
 refine F.o vD λaA A outer s H vs Q E hr h=>?_;obtain⟨l,b,xs,ys,fa,z,c,rfl,ba,hf,nz,nk,np,fl,q⟩:=h;refine⟨_,(aj (nQ (pv 1) (jj (K:=K) (n:=4) rfl rfl (bR (bF 2 vD.nd) (bR (bF 3 vD.nd) (bR (bF 4 vD.nd) (bR (bF 5 vD.nd) jh)))))) (aj (nJ (bj hr) (pF K 0) (pv 2) (pv 1)) (aj (Lh (bj hr) (pF K 0) (aU nF hr (aa (pv 3) (aa (pv 4) (aa (pv 5) ag)))) (pv 2)) (aq (aS (ib (lV (K:=K) rfl) (pv 3) (dk (v:=.ref dw) rfl iN rfl) (by with_unfolding_all rfl)) (aq (Lh (bj hr) (pF K 0) (dm (aa (pv 3) (aa (pv 4) ag))) (pv 5))) aW))))),?_⟩;obtain⟨dx,h1⟩:=ba.obj;have sz:(10000:Nat)<=sizeLine:=by rw[sizeLine_eq];omega
 have al:(b.fs.map (·.1)).length=l.bQ.length:=by rw[Ya];exact(c9 ba.fact).symm
 have A8:l.h≠l.fc:=dM h1 ba.facts (λz=>by cases z);have nh2:l.h≠l.kn:=dM h1 ba.known (λz=>by cases z);have Tg:l.kn≠l.fc:=dM ba.known ba.facts (λz=>by cases z);have jz:l.pr≠l.fc:=dM ba.parents ba.facts (λz=>by cases z);have Th:l.pr≠l.kn:=λe=>by
  have:=ba.nd;unfold BL.own at this;simp[e] at this
 refine⟨_,rfl,fa,_,rfl,aB.of hf,rfl,_,_,rfl,bo ⟨_,_,rfl,bo ⟨_,_,rfl,bo ⟨_,_,rfl,bo ⟨rfl,?_⟩⟩⟩⟩⟩;refine⟨_,rfl,_,rfl,l.h,C,dx,_,_,rfl,h1,hc.cls,hc.ud,rfl,_,rfl,l.fc,_,.inl (z:Int),rfl,ba.facts,rfl,by unfold bh;rw[Ya,Jc,Ya];omega,λH1 b1 e1=>?_⟩;have vz:aQ (bh (b.fs.map (·.1)) l.bQ) (.inl (z:Int))=none:=yP nz;rw[kB _ vz,yF z fa al] at e1;refine⟨_,rfl,_,rfl,l.h,C,dx,_,_,rfl,b1 _ _ h1 A8,hc.cls,hc.zu,rfl,_,rfl,_,rfl,_,rfl,c.k,au b.ps c.one,a_ b.ps c,rfl,λe=>N1 e,λp H2 xU g2 dD=>?_⟩;refine⟨l.kn,p,_,eZ b.ps c,rfl,g2 _ _ (b1 _ _ ba.known Tg),rfl,dD,by unfold e_;rw[Ya];omega,λH3 b3 e3=>?_⟩;have vk:aQ (e_ b.ps b.fs) (eZ b.ps c)=none:=oX (by
  have:(e_ b.ps b.fs).map (·.1)=b.keys:=by unfold e_ BS.keys;rw[Wg];rfl
  rw[this];exact nk)
 rw[kB _ vk] at e3
 replace e3:H3 l.kn=some (.dT (e_ b.ps (b.fs++[(z,c)]))):=by rw[Zbh];exact e3
 have k3:∀{a:Addr} {o:HO},H a=some o->a≠l.fc->a≠l.kn->H3 a=some o:=λ{a o} e n1 n2=>b3 _ _ (g2 _ _ (b1 _ _ e n1)) n2;have iJ:H3 l.fc=some (.dK (bh ((b.fs++[(z,c)]).map (·.1)) (l.bQ++[fa]))):=by
  have:=b3 _ _ (g2 _ _ e1) (λz=>Tg z.symm);rw[this,Ys];rfl
 have xZ:=k3 ba.parents jz Th;refine⟨_,rfl,dw,_,rfl,.inr (qP _),rfl,rfl,_,rfl,?_⟩;dsimp only;rw[if_neg Yh,show eW (kV (Sum.inr c.k)) (iC.map V.str)=cJ c.k from zy c.k];refine bB (λcc=>?_) (λcc=>aT ?_)
 ·refine⟨_,rfl,_,rfl,l.h,C,dx,_,_,rfl,k3 h1 A8 nh2,hc.cls,hc.tZ,rfl,_,rfl,_,rfl,by show 2<=sizeLine;decide,λp4 H4 np4 g4 Iu=>?_⟩;refine⟨l.pr,p4,_,[.inr c.k,.inr (au b.ps c.one)],rfl,g4 _ _ xZ,rfl,Iu,?_,λH5 b5 e5=>?_⟩
  ·unfold bX;rw[Ya];have:=Wh (λp:Nat×Fc=>cJ p.2.k) b.fs;omega
  have vp:aQ (bX b.ps b.fs) [.inr c.k,.inr (au b.ps c.one)]=none:=oX (np cc);rw[kB _ vp] at e5
  replace e5:H5 l.pr=some (.dT (bX b.ps (b.fs++[(z,c)]))):=by rw[MD cc];exact e5
  refine q H5 (λa o e n=>?_) (b5 _ _ (g4 _ _ iJ) (λz=>jz z.symm)) (b5 _ _ (g4 _ _ e3) (λz=>Th z.symm)) e5;simp only[Yo,Y3,or_false,not_or] at n;exact b5 _ _ (g4 _ _ (k3 e n.1 n.2.1)) n.2.2
 ·have ef:cJ c.k=false:=by
   cases e:cJ c.k with
   |true=>exact absurd e cc
   |false=>rfl
  refine q H3 (λa o e n=>?_) iJ e3 (by rw[ME ef];exact xZ)
  grind
theorem PF{l:BL}{H H1:Hp}{jl gH:JL}(e2:l.d_=jl.fp)(o:Out l.own H H1)(gr:d9 jl.fp gH.fp H1):d9 l.fp ({l with d_:=gH.fp}:BL).fp H:=λa z=>by
 rcases Yv.mp (show a∈l.own++gH.fp from z) with q|q;·exact .inl (Yq _ q)
 ·rcases gr a q with m|m;·exact .inl (Yn _ (by rw[e2];exact m))
  ·by_cases ma:a∈l.own;·exact .inl (Yq _ ma)
   ·right
    cases e:H a with
    |none=>rfl
    |some u=>rw[o _ _ e ma] at m;cases m
theorem QE{l:BL}{H H1 H2:Hp}{jl:JL}(e2:l.d_=jl.fp)(o:Out l.own H H1)(o2:Out jl.fp H1 H2):Out l.fp H H2:=λa u e n=>o2 _ _ (o _ _ e λz=>n (Yq _ z)) λz=>n (Yn _ (by rw[e2];exact z))
theorem qZ{l:BL}{H H1:Hp}(o:Out l.own H H1):Out l.fp H H1:=λa u e n=>o _ _ e λz=>n (Yq _ z)
theorem BW:aP ["self","row","name","side"] ["self","row"] (aG B5):=.aV
theorem Z2(F:aM K "put_in" "Hearth.put_in" B5 f fd)(hc:fC K C)(tK:HasFn P w K mg base 1 "is_person" ["row"] (DX K))(tL:cz P w K mg base 2 "add" CJ ["self"] (F3 CJ))(BI:cz P w K mg base 2 "note_fact" C ["self","fact"] (PD C CL CJ))(tM:HasFn P w K mg base 6 "keep_fact" ["joins","land","places","fact"] (E6 CL CJ))(bl:Bl mg):aE P w K mg base aL 8 f fd ["self","row"] (NZ C CL CJ):=by
 refine F.o BW λaA A outer s H vs Q E hr h=>?_;obtain⟨l,b,b',xs,ys,r,rfl,ba,ok,mv,q⟩:=h;refine⟨_,(aq (aS (eO (aU tK hr (aa (pv 1) ag))) (aj (nQ (pv 1) (jj (K:=K) (n:=2) rfl rfl (bR (bF 2 BW.nd) (bR (bF 3 BW.nd) jh)))) (aj (nJ (bj hr) (pF K 0) (pv 2) (ia (XZ) rfl bl.zU zE (aa (pF K 0) ag))) (aj (nJ (bj hr) (pF K 0) (pv 2) (pv 3)) (aq (aS (bp zc (pF K 0) lC) (aq (bU (wu tL hr (by omega) (pF K 0)))) aW))))) (aj (bU (cP BI hr (by omega) (pv 0) (aa (pv 1) ag))) (aq (aS (bp zc (pF K 0) lC) (aq (bU (aU tM hr (aa (pF K 0) (aa (pF K 0) (aa (pF K 0) (aa (pv 1) ag))))))) aW))))),?_⟩;obtain⟨dx,h1⟩:=ba.obj;have sz:(10000:Nat)<=sizeLine:=by rw[sizeLine_eq];omega
 have nd:=ba.nd;unfold BL.own at nd;have Ti:=nd;simp only[Yz,Yo,Y3,or_false,not_or] at Ti;obtain⟨⟨lY,bN,iK,lZ,oP,m7,oQ⟩,⟨x6,sH,sI,sN,u4,u5⟩,⟨qr,sO,sP,u6,u7⟩,_⟩:=Ti;have rV:∀p∈b.fs,dG xs.length b.ps.length p.2:=λp hp=>(ok.fg p hp).ok;cases mv with
 |pin n s hR new lim=>
  refine⟨_,rfl,r,_,rfl,aB.of hR,_,rfl,c5 ?_⟩;refine⟨_,rfl,r,_,rfl,aB.of hR,rfl,_,_,rfl,bo ⟨_,_,rfl,bo ⟨rfl,?_⟩⟩⟩;have kl:(fV b.ps).length=b.ps.length:=Ya _;have pl':(iI b.ps).length=b.ps.length:=by unfold iI;rw[Ya,List.length_zipIdx]
  refine⟨_,rfl,l.h,C,dx,_,_,rfl,h1,hc.cls,hc.qX,rfl,l.sd,_,rfl,ba.cW,_,rfl,l.h,C,dx,_,_,rfl,h1,hc.cls,hc.pE,rfl,_,rfl,l.pl,_,.inr n,rfl,ba.places,rfl,by omega,λH1 b1 e1=>?_⟩;have Ze3:(iI b.ps).map (·.1)=b.ps.map λp=>(.inr p.1:Key):=by
   unfold iI;rw[Wg];have:(λp:(Str×Str)×Nat=>((.inr p.1.1:Key),V.int (p.2:Int)).1)=(λp:Str×Str=>(.inr p.1:Key))∘Prod.fst:=rfl;show b.ps.zipIdx.map (λp:(Str×Str)×Nat=>((.inr p.1.1:Key),V.int (p.2:Int)).1)=_;rw[this,←Wg,List.zipIdx_map_fst]
  have Rx:∀{ks:List Key},ks=(b.ps.map λp=>(.inr p.1:Key))->(.inr n:Key)∉ks:=λ{ks} e z=>by
   rw[e] at z;obtain⟨p,hp,ep⟩:=Yf.mp z;exact new (Yf.mpr ⟨p,hp,Wf ep⟩)
  have vp:aQ (iI b.ps) (.inr n)=none:=oX (Rx Ze3);have vs':aQ (fV b.ps) (.inr n)=none:=oX (Rx (by show(b.ps.map _).map _=_;rw[Wg];rfl));rw[kB _ vp,kl] at e1;refine⟨_,rfl,_,rfl,l.h,C,dx,_,_,rfl,b1 _ _ h1 bN,hc.cls,hc.qX,rfl,_,rfl,l.sd,_,.inr n,rfl,b1 _ _ ba.cW x6,rfl,by omega,λH2 b2 e2=>?_⟩;rw[kB _ vs'] at e2;have k2:∀{a:Addr} {o:HO},H a=some o->a≠l.pl->a≠l.sd->H2 a=some o:=λ{a o} e n1 n2=>b2 _ _ (b1 _ _ e n1) n2;have o2:Out l.own H H2:=λa u e na=>k2 e (λz=>na (by rw[z];simp[BL.own])) (λz=>na (by rw[z];simp[BL.own]));have s2:H2 l.sd=some (.dK (fV (b.ps++[(n,s)]))):=by rw[Zcv];exact e2
  have p2:H2 l.pl=some (.dK (iI (b.ps++[(n,s)]))):=by rw[Zcw];exact b2 _ _ e1 (λz=>x6 z.symm)
  have h2:=k2 h1 bN lY;have tp:∀{a:Addr} {us:List V} {H3:Hp},Out l.fp H H3->H a=some (.tup us)->H3 a=some (.tup us):=λo e=>o _ _ e (ba.tup e);have mk:∀(l':BL) (H3:Hp),l'={l with d_:=l'.d_}->Out l.fp H H3->d9 l.fp l'.fp H->(∀a u,H2 a=some u->a∈l.own->H3 a=some u)->rU H3 CJ xs.length l' {b with ps:=b.ps++[(n,s)]}->Q .ay H3:=λl' H3 el o g k rk=>by
   refine q l' H3 ⟨by rw[el],o,g⟩ ?_;refine ba.build (l':=l') (b':={b with ps:=b.ps++[(n,s)]}) (by rw[el]) (by rw[el]) (by rw[el]) (by rw[el]) (by rw[el]) (by rw[el]) (by rw[el]) (by rw[el]) (by rw[el]) o g ⟨dx,?_⟩ (k _ _ s2 (by simp[BL.own])) (k _ _ p2 (by simp[BL.own])) ?_ ?_ ?_ ?_ ?_ ?_ ?_ ?_ rk
   ·have:l'.rk=l.rk:=by rw[el]
    rw[this];exact k _ _ h2 (by simp[BL.own])
   ·have:l'.bQ=l.bQ:=by rw[el]
    rw[this];exact k _ _ (k2 ba.facts (λz=>qr z.symm) (λz=>sH z.symm)) (by simp[BL.own])
   ·have:l'.bQ=l.bQ:=by rw[el]
    rw[this];have aux:∀{as:List Addr} {fs:List (Nat×Fc)},Paired (λa (p:Nat×Fc)=>H a=some (.tup ((dR b.ps p.1 p.2).map kV))) as fs->(∀p∈fs,dG xs.length b.ps.length p.2)->Paired (λa (p:Nat×Fc)=>H3 a=some (.tup ((dR (b.ps++[(n,s)]) p.1 p.2).map kV))) as fs:=by
     intro as fs pr;induction pr with
     |nil=>intro _;exact .nil
     |cons f _ ih=>intro m;exact .cons (by rw[Zct (m _ Yl)];exact tp o f) (ih λp hp=>m p (Yw _ hp))
    exact aux ba.fact rV
   ·show H3 l.kn=some (.dT (e_ (b.ps++[(n,s)]) b.fs));rw[Zcu rV];exact k _ _ (k2 ba.known (λz=>sO z.symm) (λz=>sI z.symm)) (by simp[BL.own])
   ·show H3 l.pr=some (.dT (bX (b.ps++[(n,s)]) b.fs));rw[NX rV];exact k _ _ (k2 ba.parents (λz=>sP z.symm) (λz=>sN z.symm)) (by simp[BL.own])
   ·have:l'.hV=l.hV:=by rw[el]
    rw[this];exact k _ _ (k2 ba.done (λz=>u6 z.symm) (λz=>u4 z.symm)) (by simp[BL.own])
   ·have:l'.hV=l.hV:=by rw[el]
    rw[this];exact L2.Paired.bA ba.kL λ_ _ e=>e.out o λa us e=>ba.tup e
   ·have:l'.ka=l.ka:=by rw[el]
    rw[this];exact k _ _ (k2 ba.ik (λz=>u7 z.symm) (λz=>u5 z.symm)) (by simp[BL.own])
   ·have:l'.ka=l.ka:=by rw[el]
    rw[this];exact L2.Paired.bA ba.mN λ_ _ e=>e.out o λa us e=>ba.tup e
  cases hj:ba.rG with
  |no j1 j2=>
   rw[j1] at h2;refine⟨_,rfl,l.h,C,dx,_,_,rfl,h2,hc.cls,hc.h_,rfl,rfl,_,rfl,bO (aT ?_)⟩;exact mk l H2 rfl (qZ o2) (d9.refl _ _) (λ_ _ e _=>e) (.no j1 j2)
  |at_ jl st j1 j2 ja me len fH=>
   have kR:=h2;rw[j1] at kR;have A9:=ja.gS o2 fH (ba.FE ja me) λa us e z=>ba.tup e (Yq _ z);obtain⟨dj,ej⟩:=A9.obj;have wf:=me.wf;have ml:=wf.Po;have xX:=wf.zX;have n8:xs.length<=8:=ok.gd.2.2.2.2;refine⟨_,rfl,l.h,C,dx,_,_,rfl,kR,hc.cls,hc.h_,rfl,rfl,_,rfl,c5 ?_⟩;refine⟨_,rfl,l.h,C,dx,_,_,rfl,kR,hc.cls,hc.h_,rfl,jl.J,dj,_,rfl,ej,rfl,jl,st,xs.length,rfl,A9,by omega,by omega,by omega,by omega,wf.ll,λz=>Wa _ (wf.lm _ z),λz=>Wa _ (wf.lf _ z),λgH H3 k1 o3 gr Iv=>?_⟩;refine mk {l with d_:=gH.fp} H3 rfl (QE j2 o2 o3) (PF j2 o2 gr) (λa u e m=>o3 _ _ e (fH a m)) ?_;refine .at_ gH _ (by rw[k1];exact j1) rfl Iv (me.more (by have:=ok.gd.2.2.2.1;omega)) ?_ λa m z=>?_;·rw[iO,len,Yk];rfl
   ·rcases gr a z with y|y;·exact fH a m y
    ·have:=ba.there (a:=a) (Yq _ m);have:H2 a≠none:=by
      have m':a∈l.own:=m;unfold BL.own at m';simp only[Yo,Y3,or_false] at m';rcases m' with rfl|rfl|rfl|rfl|rfl|rfl|rfl|rfl;·rw[h2];exact λz=>nomatch z
      ·rw[s2];exact λz=>nomatch z
      ·rw[p2];exact λz=>nomatch z
      ·rw[k2 ba.facts (λz=>qr z.symm) (λz=>sH z.symm)];exact λz=>nomatch z
      ·rw[k2 ba.known (λz=>sO z.symm) (λz=>sI z.symm)];exact λz=>nomatch z
      ·rw[k2 ba.parents (λz=>sP z.symm) (λz=>sN z.symm)];exact λz=>nomatch z
      ·rw[k2 ba.done (λz=>u6 z.symm) (λz=>u4 z.symm)];exact λz=>nomatch z
      ·rw[k2 ba.ik (λz=>u7 z.symm) (λz=>u5 z.symm)];exact λz=>nomatch z
     exact this y
 |fin z c hR fg nz nk np lv lim=>
  refine⟨_,rfl,r,_,rfl,aB.of hR,_,rfl,bO ?_⟩;refine⟨_,rfl,l.h,dx,_,rfl,h1,rfl,_,rfl,l,b,xs,ys,r,z,c,rfl,ba,hR,nz,nk,np,by omega,λH1 o1 f1 k1 p1=>?_⟩;have k2:∀{a:Addr} {o:HO},H a=some o->a≠l.fc->a≠l.kn->a≠l.pr->H1 a=some o:=λ{a o} e n1 n2 n3=>o1 _ _ e (by simp[n1,n2,n3]);have o2:Out l.own H H1:=λa u e na=>k2 e (λz=>na (by rw[z];simp[BL.own])) (λz=>na (by rw[z];simp[BL.own])) (λz=>na (by rw[z];simp[BL.own]));have h2:=k2 h1 iK lZ oP;have Tj:=nd;simp only[Yz,Yo,Y3,or_false,not_or] at Tj;obtain⟨_,_,_,⟨x8,x9,u9,jP⟩,⟨A_,x_,ya⟩,⟨yb,yc⟩,_⟩:=Tj;have s2:=k2 ba.cW sH sI sN;have p2:=k2 ba.places qr sO sP;have d2:=k2 ba.done (λz=>u9 z.symm) (λz=>x_ z.symm) (λz=>yb z.symm);have u2:=k2 ba.ik (λz=>jP z.symm) (λz=>ya z.symm) (λz=>yc z.symm);have tp:∀{a:Addr} {us:List V} {H3:Hp},Out l.fp H H3->H a=some (.tup us)->H3 a=some (.tup us):=λo e=>o _ _ e (ba.tup e);have mk:∀(jf:List Addr) (H3:Hp),Out l.fp H H3->d9 l.fp ({l with bQ:=l.bQ++[r],d_:=jf}:BL).fp H->(∀a u,H1 a=some u->a∈l.own->H3 a=some u)->rU H3 CJ xs.length {l with bQ:=l.bQ++[r],d_:=jf} {b with fs:=b.fs++[(z,c)]}->Q .ay H3:=λjf H3 o g k rk=>by
   refine q {l with bQ:=l.bQ++[r],d_:=jf} H3 ⟨rfl,o,g⟩ ?_;refine ba.build (l':={l with bQ:=l.bQ++[r],d_:=jf}) (b':={b with fs:=b.fs++[(z,c)]}) rfl rfl rfl rfl rfl rfl rfl rfl rfl o g ⟨dx,k _ _ h2 (by simp[BL.own])⟩ (k _ _ s2 (by simp[BL.own])) (k _ _ p2 (by simp[BL.own])) (k _ _ f1 (by simp[BL.own])) ?_ (k _ _ k1 (by simp[BL.own])) (k _ _ p1 (by simp[BL.own])) (k _ _ d2 (by simp[BL.own])) (L2.Paired.bA ba.kL λ_ _ e=>e.out o λa us e=>ba.tup e) (k _ _ u2 (by simp[BL.own])) (L2.Paired.bA ba.mN λ_ _ e=>e.out o λa us e=>ba.tup e) rk;exact jE (F:=λa (p:Nat×Fc)=>H3 a=some (.tup ((dR b.ps p.1 p.2).map kV))) (tp o hR) (L2.Paired.bA ba.fact λ_ _ e=>tp o e)
  cases hj:ba.rG with
  |no j1 j2=>
   rw[j1] at h2;refine⟨_,rfl,l.h,C,dx,_,_,rfl,h2,hc.cls,hc.h_,rfl,rfl,_,rfl,bO (aT ?_)⟩;exact mk l.d_ H1 (qZ o2) (d9.refl _ _) (λ_ _ e _=>e) (.no j1 j2)
  |at_ jl st j1 j2 ja me len fH=>
   have kR:=h2;rw[j1] at kR;have A9:=ja.gS o2 fH (ba.FE ja me) λa us e z=>ba.tup e (Yq _ z);have la2:ij H1 CL l.L xs ys:=ba.land H1 (qZ o2);refine⟨_,rfl,l.h,C,dx,_,_,rfl,kR,hc.cls,hc.h_,rfl,rfl,_,rfl,c5 ?_⟩;refine⟨_,rfl,l.h,C,dx,_,_,rfl,kR,hc.cls,hc.h_,rfl,_,rfl,l.h,C,dx,_,_,rfl,kR,hc.cls,hc.uj,rfl,_,rfl,l.h,C,dx,_,_,rfl,kR,hc.cls,hc.pE,rfl,_,rfl,jl,st,l.L,l.pl,r,xs,ys,b.ps,b.F,z,c,rfl,A9,me,la2,ok.gd,p2,ok.nm,len,by have:=ok.m;omega,tp (qZ o2) hR,fg,?_,λv gH aK H3 e1 sub o3 Iv me3 ZfW=>?_⟩
   ·obtain⟨f0,i0,s0⟩:=lv;exact⟨f0,(me.iff f0).mpr ⟨by rw[len];exact i0,λc' m'=>s0 c' (Yq _ m')⟩,s0 c (Yn _ Yl)⟩
   have gr:d9 jl.fp gH.fp H1:=λa z=>.inl (sub a z);refine mk gH.fp H3 (QE j2 o2 o3) (PF j2 o2 gr) (λa u e m=>o3 _ _ e (fH a m)) ?_;refine .at_ gH aK (by rw[e1];exact j1) rfl Iv ?_ (by rw[ZfW];exact len) λa m z=>fH a m (sub a z);show dB xs.length aK ((b.fs++[(z,c)]).map (·.2));rw[Ys];exact me3
end
section
variable {dw:Addr}
theorem MH{l l':BL}{H:Hp}(e1:l'.own=l.own)(e2:l'.d_=[]):d9 l.fp l'.fp H:=λa z=>.inl (by
 unfold BL.fp at z;rw[e1,e2,Wb] at z;exact Yq _ z)
theorem vE:aP ["self","row","number","kind","one","other"] ["self","row"] (aG BM):=.aV
theorem Xm(F:aM K "take_out" "Hearth.take_out" BM f fd)(hc:fC K C)(iN:mg "PARENTS"=some (.ref dw))(qP:∀H,aB K H dw (iC.map V.str))(tK:HasFn P w K mg base 1 "is_person" ["row"] (DX K))(nF:HasFn P w K mg base 1 "fact_key" ["kind","one","other"] zY):aE P w K mg base aL 2 f fd ["self","row"] (LC C CL CJ):=by
 refine F.o vE λaA A outer s H vs Q E hr h=>?_;obtain⟨l,b,b',xs,ys,r,rfl,ba,ok,mv,q⟩:=h;refine⟨_,(aj (aS (eO (aU tK hr (aa (pv 1) ag))) fM (aj (nQ (pv 1) (jj (K:=K) (n:=4) rfl rfl (bR (bF 2 vE.nd) (bR (bF 3 vE.nd) (bR (bF 4 vE.nd) (bR (bF 5 vE.nd) jh)))))) (aj (ZaW (pF K 0) (pv 2)) (aj (Me (bj hr) (pF K 0) (aU nF hr (aa (pv 3) (aa (pv 4) (aa (pv 5) ag))))) (aq (aS (ib (lV (K:=K) rfl) (pv 3) (dk (v:=.ref dw) rfl iN rfl) (by with_unfolding_all rfl)) (aq (Me (bj hr) (pF K 0) (dm (aa (pv 3) (aa (pv 4) ag))))) aW)))))) (aq (f_ (K:=K) rfl (pv 0) lC))),?_⟩;obtain⟨dx,h1⟩:=ba.obj;have sz:(10000:Nat)<=sizeLine:=by rw[sizeLine_eq];omega
 have nd:=ba.nd;unfold BL.own at nd;simp only[Yz,Yo,Y3,or_false,not_or] at nd;obtain⟨⟨lY,bN,iK,lZ,oP,m7,oQ⟩,⟨x6,sH,sI,sN,u4,u5⟩,⟨qr,sO,sP,u6,u7⟩,⟨x8,x9,u9,jP⟩,⟨A_,x_,ya⟩,⟨yb,yc⟩,_⟩:=nd;cases mv with
 |uD z c hR m=>
  have al:(b.fs.map (·.1)).length=l.bQ.length:=by rw[Ya];exact(c9 ba.fact).symm
  obtain⟨fa,Ba,_⟩:=NV (H:=H) (ps:=b.ps) ba.fact ok.zs m;have Ze4:(e_ b.ps b.fs).map (·.1)=b.keys:=by unfold e_ BS.keys;rw[Wg];rfl
  refine⟨_,rfl,r,_,rfl,aB.of hR,_,rfl,bO ?_⟩;refine⟨_,rfl,r,_,rfl,aB.of hR,rfl,_,_,rfl,bo ⟨_,_,rfl,bo ⟨_,_,rfl,bo ⟨_,_,rfl,bo ⟨rfl,?_⟩⟩⟩⟩⟩;refine⟨_,rfl,l.h,C,dx,_,_,rfl,h1,hc.cls,hc.ud,rfl,_,rfl,l.fc,_,.inl (z:Int),rfl,ba.facts,rfl,by rw[Ba];rfl,λH1 b1 e1=>?_⟩;rw[yG z al,←nK] at e1;refine⟨_,rfl,l.h,C,dx,_,_,rfl,b1 _ _ h1 iK,hc.cls,hc.zu,rfl,_,rfl,_,rfl,_,rfl,c.k,au b.ps c.one,a_ b.ps c,rfl,λe=>N1 e,λp H2 xU g2 dD=>?_⟩;refine⟨l.kn,p,_,eZ b.ps c,rfl,g2 _ _ (b1 _ _ ba.known (λz=>x8 z.symm)),rfl,dD,(y8 _ _).mpr (by rw[Ze4];exact Yf.mpr ⟨_,m,rfl⟩),λH3 b3 e3=>?_⟩;rw[Zbi ok.zs ok.ky m] at e3;have k3:∀{a:Addr} {o:HO},H a=some o->a≠l.fc->a≠l.kn->H3 a=some o:=λ{a o} e n1 n2=>b3 _ _ (g2 _ _ (b1 _ _ e n1)) n2;have ef3:=b3 _ _ (g2 _ _ e1) x8;have xZ:=k3 ba.parents (λz=>x9 z.symm) (λz=>A_ z.symm);have last:∀H5,(∀{a:Addr} {o:HO},H3 a=some o->a≠l.pr->H5 a=some o)->H5 l.pr=some (.dT (bX b.ps (cR z b.fs)))->∀H6,az l.h H5 H6->H6 l.h=some (.ins C dx (HF l.L l.sd l.pl l.fc l.kn l.pr (b.co:Int) l.dn l.un .ay))->Q .ay H6:=λH5 k5 e5 H6 b6 e6=>by
   have k6:∀{a:Addr} {o:HO},H a=some o->a≠l.fc->a≠l.kn->a≠l.pr->a≠l.h->H6 a=some o:=λ{a o} e n1 n2 n3 n4=>b6 _ _ (k5 (k3 e n1 n2) n3) n4;have o6:Out l.own H H6:=λa u e na=>k6 e (λz=>na (by rw[z];simp[BL.own])) (λz=>na (by rw[z];simp[BL.own])) (λz=>na (by rw[z];simp[BL.own])) (λz=>na (by rw[z];simp[BL.own]));have of:=qZ o6;have tp:∀{a:Addr} {us:List V},H a=some (.tup us)->H6 a=some (.tup us):=λe=>of _ _ e (ba.tup e);refine q {l with rk:=.ay,d_:=[],bQ:=dI (b.fs.map (·.1)) l.bQ z} H6 ⟨rfl,of,MH rfl rfl⟩ ?_;exact ba.build (l':={l with rk:=.ay,d_:=[],bQ:=dI (b.fs.map (·.1)) l.bQ z}) (b':={b with fs:=cR z b.fs}) rfl rfl rfl rfl rfl rfl rfl rfl rfl of (MH rfl rfl) ⟨dx,e6⟩ (k6 ba.cW sH sI sN (λz=>lY z.symm)) (k6 ba.places qr sO sP (λz=>bN z.symm)) (b6 _ _ (k5 ef3 x9) (λz=>iK z.symm)) (DV ba.fact λa p e _ _=>tp e) (b6 _ _ (k5 e3 A_) (λz=>lZ z.symm)) (b6 _ _ e5 (λz=>oP z.symm)) (k6 ba.done (λz=>u9 z.symm) (λz=>x_ z.symm) (λz=>yb z.symm) (λz=>m7 z.symm)) (L2.Paired.bA ba.kL λ_ _ e=>e.out of λa us e=>ba.tup e) (k6 ba.ik (λz=>jP z.symm) (λz=>ya z.symm) (λz=>yc z.symm) (λz=>oQ z.symm)) (L2.Paired.bA ba.mN λ_ _ e=>e.out of λa us e=>ba.tup e) (.no rfl rfl)
  refine⟨_,rfl,dw,_,rfl,.inr (qP _),rfl,rfl,_,rfl,?_⟩;dsimp only;rw[if_neg Yh,show eW (kV (Sum.inr c.k)) (iC.map V.str)=cJ c.k from zy c.k];refine bB (λcc=>?_) (λcc=>aT ?_)
  ·refine⟨_,rfl,l.h,C,dx,_,_,rfl,k3 h1 iK lZ,hc.cls,hc.tZ,rfl,_,rfl,_,rfl,by show 2<=sizeLine;decide,λp4 H4 np4 g4 Iu=>?_⟩;refine⟨l.pr,p4,_,[.inr c.k,.inr (au b.ps c.one)],rfl,g4 _ _ xZ,rfl,Iu,(y8 _ _).mpr ?_,λH5 b5 e5=>?_⟩
   ·unfold bX;rw[Wg];exact Yf.mpr ⟨(z,c),Y4.mpr ⟨m,cc⟩,rfl⟩
   rw[Zbj ok.zs ok.pr m cc] at e5;have k5:∀{a:Addr} {o:HO},H3 a=some o->a≠l.pr->H5 a=some o:=λ{a o} e n=>b5 _ _ (g4 _ _ e) n;refine⟨_,rfl,l.h,C,dx,_,rfl,k5 (k3 h1 iK lZ) oP,hc.cls,hc.h_,by show 10<1000;decide,λH6 b6 e6=>?_⟩;exact last H5 k5 e5 H6 b6 e6
  ·have ef:cJ c.k=false:=by
    cases e:cJ c.k with
    |true=>exact absurd e cc
    |false=>rfl
   refine⟨_,rfl,l.h,C,dx,_,rfl,k3 h1 iK lZ,hc.cls,hc.h_,by show 10<1000;decide,λH6 b6 e6=>?_⟩;exact last H3 (λe _=>e) (by rw[←Z1 ok.zs m ef];exact xZ) H6 b6 e6
theorem U5:aP ["self","way","row","coming"] ["self","way","row","coming"] (aG Cn):=.aV
theorem Zbk(F:aM K "shift" "Hearth.shift" Cn f fd)(hc:fC K C)(nL:mg "PUT_IN"=some (.int 1 t1))(B_:cz P w K mg base 8 "put_in" C ["self","row"] (NZ C CL CJ))(BO:cz P w K mg base 2 "take_out" C ["self","row"] (LC C CL CJ)):aE P w K mg base aL 9 f fd ["self","way","row","coming"] (N0 C CL CJ):=by
 refine F.o U5 λaA A outer s H vs Q E hr h=>?_;obtain⟨l,b,b',xs,ys,r,w',c2,rfl,ba,ok,mv,q⟩:=h;refine⟨_,(aj (aS (bp bZ (pv 1) (dk (v:=.int (1)) rfl nL ⟨_,rfl⟩)) (aq (bU (cP B_ hr (by omega) (pv 0) (aa (pv 2) ag)))) (aq (bU (cP BO hr (by omega) (pv 0) (aa (pv 2) ag))))) (aq (f_ (K:=K) rfl (pv 0) (pv 3)))),?_⟩;obtain⟨dx,h1⟩:=ba.obj;have last:∀(l':BL) (H1:Hp),bK H H1 l l'->bb H1 C CL CJ l' xs ys b'->∀(je:Addr) (H2:Hp),H1 l'.h=some (.ins C je (HF l'.L l'.sd l'.pl l'.fc l'.kn l'.pr (b'.co:Int) l'.dn l'.un l'.rk))->az l'.h H1 H2->H2 l'.h=some (.ins C je (HF l'.L l'.sd l'.pl l'.fc l'.kn l'.pr (c2:Int) l'.dn l'.un l'.rk))->Q .ay H2:=λl' H1 wt cE je H2 e1 b2 e2=>by
  have nd:=cE.nd;unfold BL.own at nd;simp only[Yz,Yo,Y3,or_false,not_or] at nd;obtain⟨⟨lY,bN,iK,lZ,oP,m7,oQ⟩,_⟩:=nd;have o2:Out l'.own H1 H2:=λa u e na=>b2 _ _ e (λz=>na (by rw[z];simp[BL.own]));have of:=qZ o2;have u_:=(cE.owned (l':=l') (b':={b' with co:=c2}) rfl rfl rfl rfl rfl rfl rfl rfl rfl (.inl ⟨rfl,rfl,rfl,rfl⟩) o2 ⟨je,e2⟩ (b2 _ _ cE.cW (λz=>lY z.symm)) (b2 _ _ cE.places (λz=>bN z.symm)) (b2 _ _ cE.facts (λz=>iK z.symm)) (L2.Paired.bA cE.fact λ_ _ e=>(λe=>of _ _ e (cE.tup e)) e) (b2 _ _ cE.known (λz=>lZ z.symm)) (b2 _ _ cE.parents (λz=>oP z.symm)) (b2 _ _ cE.done (λz=>m7 z.symm)) (L2.Paired.bA cE.kL λ_ _ e=>e.out of λa us e=>cE.tup e) (b2 _ _ cE.ik (λz=>oQ z.symm)) (L2.Paired.bA cE.mN λ_ _ e=>e.out of λa us e=>cE.tup e)).1;exact q l' H2 (wt.trans ⟨rfl,of,d9.refl _ _⟩) u_
 have go:∀(l':BL) (H1:Hp),bK H H1 l l'->bb H1 C CL CJ l' xs ys b'->∃je,H1 l.h=some (.ins C je (HF l'.L l'.sd l'.pl l'.fc l'.kn l'.pr (b'.co:Int) l'.dn l'.un l'.rk))/\∀H2,az l.h H1 H2->H2 l.h=some (.ins C je (HF l'.L l'.sd l'.pl l'.fc l'.kn l'.pr (c2:Int) l'.dn l'.un l'.rk))->Q .ay H2:=λl' H1 wt cE=>by
  obtain⟨je,e1⟩:=cE.obj;have eh:=wt.h
  grind
 have w12:w'=1\/w'=-1:=by cases mv<;>first|exact .inl rfl|exact .inr rfl
 rcases w12 with rfl|rfl
 ·refine⟨_,rfl,rfl,_,rfl,c5 ?_⟩;refine⟨_,rfl,l.h,dx,_,rfl,h1,rfl,_,rfl,l,b,b',xs,ys,r,rfl,ba,ok,mv,λl' H1 wt cE=>?_⟩;obtain⟨je,e1,k⟩:=go l' H1 wt cE;exact⟨_,rfl,_,rfl,l.h,C,je,_,rfl,e1,hc.cls,hc.pG,by show 10<1000;decide,λH2 b2 e2=>k H2 b2 e2⟩
 ·refine⟨_,rfl,rfl,_,rfl,bO ?_⟩;refine⟨_,rfl,l.h,dx,_,rfl,h1,rfl,_,rfl,l,b,b',xs,ys,r,rfl,ba,ok,mv,λl' H1 wt cE=>?_⟩;obtain⟨je,e1,k⟩:=go l' H1 wt cE;exact⟨_,rfl,_,rfl,l.h,C,je,_,rfl,e1,hc.cls,hc.pG,by show 10<1000;decide,λH2 b2 e2=>k H2 b2 e2⟩
theorem UN:aP ["self","way","row","coming"] ["self","way","row","coming"] (aG BU):=.aV
theorem YL(F:aM K "do_deed" "Hearth.do_deed" BU f fd)(hc:fC K C)(Cp:cz P w K mg base 9 "shift" C ["self","way","row","coming"] (N0 C CL CJ)):aE P w K mg base aL 10 f fd ["self","way","row","coming"] (y9 C CL CJ):=by
 refine F.o UN λaA A outer s H vs Q E hr h=>?_;obtain⟨l,b,b',xs,ys,r,w',c2,row,rfl,ba,ok,dl,hR,mv,q⟩:=h;refine⟨_,(aj (bU (mJ (K:=K) rfl (jL plainAttrs_list PySem.F.slot_list_append PySem.F.type_list_append nE (pF K 0) (aa (dm (aa (pv 1) (aa (pv 2) (aa (pF K 0) (aa (pv 3) ag))))) ag)))) (aj (bU (Zb7 (K:=K) rfl (Zc4 plainAttrs_list PySem.F.slot_list_clear PySem.F.type_list_clear ZJ (pF K 0)))) (aq (bU (cP Cp hr (by omega) (pv 0) (aa (pv 1) (aa (pv 2) (aa (pv 3) ag)))))))),?_⟩;obtain⟨dx,h1⟩:=ba.obj;have sz:(10000:Nat)<=sizeLine:=by rw[sizeLine_eq];omega
 have nd:=ba.nd;unfold BL.own at nd;simp only[Yz,Yo,Y3,or_false,not_or] at nd;obtain⟨⟨lY,bN,iK,lZ,oP,m7,oQ⟩,⟨x6,sH,sI,sN,u4,u5⟩,⟨qr,sO,sP,u6,u7⟩,⟨x8,x9,u9,jP⟩,⟨A_,x_,ya⟩,⟨yb,yc⟩,Tn,_⟩:=nd;have dal:=c9 ba.kL;refine⟨_,rfl,l.h,C,dx,_,_,rfl,h1,hc.cls,hc.Px,rfl,.inl ⟨rfl,_,ak.of ba.done⟩,?_⟩;refine⟨_,rfl,_,rfl,_,rfl,l.h,C,dx,_,_,rfl,h1,hc.cls,hc.pG,rfl,_,rfl,by show 4<=sizeLine;omega,λp H1 np g1 e1=>?_⟩;refine⟨l.dn,_,_,rfl,rfl,g1 _ _ ba.done,by rw[Ya];omega,λH2 b2 e2=>?_⟩;have a1:=b2 _ _ (g1 _ _ h1) m7;have a7:=b2 _ _ (g1 _ _ ba.ik) (λz=>Tn z.symm);refine⟨_,rfl,l.h,C,dx,_,_,rfl,a1,hc.cls,hc.My,rfl,.inl ⟨rfl,_,ak.of a7⟩,l.un,_,rfl,rfl,a7,λH3 b3 e3=>?_⟩;have k3:∀{a:Addr} {o:HO},H a=some o->a≠l.dn->a≠l.un->H3 a=some o:=λ{a o} e n1 n2=>b3 _ _ (b2 _ _ (g1 _ _ e) n1) n2;have o3:Out l.own H H3:=λa u e na=>k3 e (λz=>na (by rw[z];simp[BL.own])) (λz=>na (by rw[z];simp[BL.own]));have of:=qZ o3;have tp:∀{a:Addr} {us:List V},H a=some (.tup us)->H3 a=some (.tup us):=λe=>of _ _ e (ba.tup e);have pu:p≠l.un:=λz=>by rw[z,ba.ik] at np;cases np
 have ed:H3 l.dn=some (.lst ((l.hV++[p]).map V.ref)):=by rw[Ys];exact b3 _ _ e2 Tn
 have kX:=(ba.owned (l':={l with hV:=l.hV++[p],ka:=[]}) (b':={b with dn:=b.dn++[⟨w',row,b.co,c2⟩],un:=[]}) rfl rfl rfl rfl rfl rfl rfl rfl rfl (.inl ⟨rfl,rfl,rfl,rfl⟩) o3 ⟨dx,k3 h1 m7 oQ⟩ (k3 ba.cW u4 u5) (k3 ba.places u6 u7) (k3 ba.facts u9 jP) (L2.Paired.bA ba.fact λ_ _ e=>tp e) (k3 ba.known x_ ya) (k3 ba.parents yb yc) ed (jE (F:=mM H3) ⟨r,b3 _ _ (b2 _ _ e1 (λz=>by rw[z,ba.done] at np;cases np)) pu,tp hR⟩ (L2.Paired.bA ba.kL λ_ _ e=>e.out of λa us e=>ba.tup e)) e3 .nil);have h3:=k3 h1 m7 oQ;refine⟨_,rfl,l.h,dx,_,rfl,h3,rfl,_,rfl,_,rfl,_,rfl,{l with hV:=l.hV++[p],ka:=[]},_,_,xs,ys,r,w',c2,rfl,kX.1,⟨ok.gd,ok.nm,ok.m,ok.fl,ok.fg,ok.zs,ok.lt,ok.ky,ok.pr,ok.lv,by show(b.dn++[_]).length<=200;rw[Yk];show b.dn.length+1<=200;omega,Yx _⟩,((mv.Ze2 _ _).out λus e=>tp e),λl' H4 wt ba4=>?_⟩;exact q l' H4 (bK.trans (l1:={l with hV:=l.hV++[p],ka:=[]}) ⟨rfl,of,kX.2⟩ wt) ba4
end
theorem cI.ZfX(j:cI H C n l st)(h:a∈l.bQ):∃us,H a=some (.lst us):=by
 obtain⟨p,e⟩:=vQ j.free h
 grind
theorem cI.sQ(j:cI H C n l st)(e:H a=some o)(nl:∀us,o≠.lst us)(nt:∀us,o≠.tup us)(na:a∉l.fp)(br:az a H H'):cI H' C n l st:=by
 refine j.gS (fp:=[a]) (λb u eb nb=>br _ _ eb λz=>nb (by rw[z];exact Yl)) (λb hb=>?_) (λb hb z=>?_) λb us eb z=>?_;·grind
 ·rw[Ym.mp hb] at z;obtain⟨us,q⟩:=j.ZfX z
  grind
 ·grind
inductive og(H:Hp)(C CJ dx d:Addr)(l:BL)(b:BS)(n:Nat)(J:Addr)(F:List Fc)(m:Nat)(H6:Hp):Prop
 |mk (jl:JL) (st:JS) (eJ:jl.J=J) (keep:∀a u,H a=some u->a≠l.h->a≠d->H6 a=some u) (obj:H6 l.h=some (.ins C dx (HF l.L l.sd l.pl l.fc l.kn l.pr (b.co:Int) l.dn l.un (.ref J)))) (ja:cI H6 CJ n jl st) (me:dB n st F) (len:st.hd.length=m) (new:∀a∈jl.fp,H a=none):og H C CJ dx d l b n J F m H6
theorem og.sQ(j:og H C CJ dx d l b n J F m H6)(hd:H d'≠none)(e:H6 d'=some o)(nl:∀us,o≠.lst us)(nt:∀us,o≠.tup us)(nh:d'≠l.h)(br:az d' H6 H7)(kd:∀u,H d=some u->d≠d'->d≠l.h->H7 d=some u):og H C CJ dx d' l b n J F m H7:=by
 obtain⟨jl,st,eJ,keep,obj,ja,me,len,new⟩:=j;refine⟨jl,st,eJ,λa u ea n1 n2=>?_,br _ _ obj (λz=>nh z.symm),ja.sQ e nl nt (λz=>hd (new _ z)) br,me,len,new⟩;by_cases z:a=d;·grind
 ·exact br _ _ (keep a u ea n1 z) n2
theorem LF:∀{ks:List Nat} {as:List Addr} {i:Nat} {k:Key} {y:V},(bh ks as)[i]?=some (k,y)->∃a,as[i]?=some a/\y=.ref a
 |[],as,i,k,y,h=>by
  unfold bh at h;simp at h
 |_::_,[],i,k,y,h=>by
  unfold bh at h;simp at h
 |q::ks,a::as,0,k,y,h=>by
  injection(Yr h) with _ e2
  grind
 |q::ks,a::as,i+1,k,y,h=>by
  have e0:bh (q::ks) (a::as)=(Sum.inl (q:Int),V.ref a)::bh ks as:=rfl;rw[e0] at h;have h':(bh ks as)[i]?=some (k,y):=by simpa using h
  obtain⟨b,e1,e2⟩:=LF h'
  grind
inductive MI(C CL CJ:Addr)(vs:List V)(H:Hp)(Q:VK):Prop
 |mk (l:BL) (b:BS) (xs ys:List Int) (aC:vs=[.ref l.h]) (ba:bb H C CL CJ l xs ys b) (ok:cC xs ys b) (q:∀(l':BL) (jl:JL) (st:JS) (H':Hp),bK H H' l l'->bb H' C CL CJ l' xs ys b->l'.rk=.ref jl.J->l'.d_=jl.fp->cI H' CJ xs.length jl st->dB xs.length st b.F->st.hd.length=b.ps.length->(∀a∈l'.own,a∉jl.fp)->(l.rk≠.ay->H'=H/\l'=l)->Q (.ref jl.J) H'):MI C CL CJ vs H Q
def E7(C CL CJ:Addr):Sp:=λvs H Q _=>MI C CL CJ vs H Q
section
theorem Ca:aP ["self","name","fact"] ["self"] (aG Cm):=.aV
theorem Zbl(F:aM K "joins" "Hearth.joins" Cm f fd)(hc:fC K C)(lc:uu K CL)(E8:uq P w K mg base 1 "Joins" CJ ["self","size"] (NJ CJ))(tL:cz P w K mg base 2 "add" CJ ["self"] (F3 CJ))(tM:HasFn P w K mg base 6 "keep_fact" ["joins","land","places","fact"] (E6 CL CJ)):aE P w K mg base aL 8 f fd ["self"] (E7 C CL CJ):=by
 refine F.o Ca λaA A outer s H vs Q E hr h=>?_;obtain⟨l,b,xs,ys,rfl,ba,ok,q⟩:=h;refine⟨_,(aj (aS (bp Fg (pF K 0) lC) (aj (f_ (K:=K) rfl (pv 0) (FX E8 hr (by omega) rfl (aa (v9 (K:=K) rfl (pF K 0) rfl) ag))) (aj (X2 (H0:=H) rfl PassesOwn.never rfl (Zb8 (H0:=H) rfl (pF K 0)) (bF 1 Ca.nd) (aq (bU (wu tL hr (by omega) (pF K 0))))) (aq (X3 (H0:=H) rfl PassesOwn.never rfl (Zca (H0:=H) rfl (pF K 0)) (bF 2 Ca.nd) (aq (bU (aU tM hr (aa (pF K 0) (aa (pF K 0) (aa (pF K 0) (aa (pv 2) ag))))))))))) aW) (aq (aI (pF K 0)))),?_⟩;obtain⟨dx,h1⟩:=ba.obj;have n8:xs.length<=8:=ok.gd.2.2.2.2;have n0:0<xs.length:=by have:=ok.gd.2.2.2.1;omega
 have nd:=ba.nd;unfold BL.own at nd;simp only[Yz,Yo,Y3,or_false,not_or] at nd;obtain⟨⟨lY,bN,iK,lZ,oP,m7,oQ⟩,⟨x6,sH,sI,sN,u4,u5⟩,⟨qr,sO,sP,u6,u7⟩,⟨x8,x9,u9,jP⟩,_⟩:=nd;cases hj:ba.rG with
 |at_ jl st j1 j2 ja me len fH=>
  have kQ:=h1;rw[j1] at kQ;refine⟨_,rfl,l.h,C,dx,_,_,rfl,kQ,hc.cls,hc.h_,rfl,rfl,_,rfl,bO (aT ?_)⟩;exact⟨_,rfl,l.h,C,dx,_,_,rfl,kQ,hc.cls,hc.h_,rfl,q l jl st H (bK.of (ai.refl _)) ba j1 j2 ja me len fH λ_=>⟨rfl,rfl⟩⟩
 |no j1 j2=>
  have kQ:=h1;rw[j1] at kQ;refine pO (λσ H6=>∃(J:Addr) (o1 o2:Option V),σ=[some (.ref l.h),o1,o2]/\og H C CJ dx l.h l b xs.length J b.F b.ps.length H6) (λnx hn=>?_) ?_
  ·refine⟨_,rfl,l.h,C,dx,_,_,rfl,kQ,hc.cls,hc.h_,rfl,rfl,_,rfl,c5 ?_⟩;obtain⟨dL,dS,mo,ke,wi,im,jf,iw,Hk,hL,_⟩:=ba.landAt;refine⟨_,rfl,l.h,C,dx,_,_,rfl,kQ,hc.cls,hc.uj,rfl,l.L,CL,dL,_,_,rfl,hL,lc.cls,lc.rf,rfl,λx Bb qt xO nd2=>?_⟩;have xP:upd H Bb (.own x) x=none:=by rw[aJ (λz=>nd2 z.symm)];exact qt
   have To:ai H (upd (upd H Bb (.own x)) x (.ins CJ Bb [])):=(bY xO _).trans (bY xP _);refine⟨x,Bb,xs.length,rfl,aO,λIw H2 eJ1 em1 fr1 b2 ja1=>⟨rfl,?_⟩⟩;have f1:∀a∈Iw.fp,H a=none:=λa ha=>by
    by_cases z:a=x;·rw[z];exact qt
    ·exact To.free (fr1 a ha z)
   have g2:ai H H2:=λa o e=>b2 _ _ (To _ _ e) (bT e qt);refine⟨_,rfl,l.h,C,dx,_,rfl,g2 _ _ kQ,hc.cls,hc.h_,by show 10<1000;decide,λH3 b3 e3=>?_⟩;have Tp:H3 l.h=some (.ins C dx (HF l.L l.sd l.pl l.fc l.kn l.pr (b.co:Int) l.dn l.un (.ref x))):=e3;have A8:l.h∉Iw.fp:=λz=>by have:=f1 _ z;rw[h1] at this;cases this
   have jm3:og H C CJ dx l.h l b xs.length x [] 0 H3:=⟨Iw,_,eJ1,λa u e n1 _=>b3 _ _ (g2 _ _ e) n1,Tp,ja1.sQ (g2 _ _ kQ) (λus z=>nomatch z) (λus z=>nomatch z) A8 b3,Ze1,rfl,f1⟩;have s3:H3 l.sd=some (.dK (fV b.ps)):=b3 _ _ (g2 _ _ ba.cW) (λz=>lY z.symm);dsimp only;refine iQ (λσ H6=>∃o1 o2:Option V,σ=[some (.ref l.h),o1,o2]/\og H C CJ dx l.h l b xs.length x [] b.ps.length H6) (λIy qu=>?_) ?_
   ·refine ZaU (d:=l.sd) (kvs:=fV b.ps) (H1:=H3) (λR r=>⟨_,rfl,l.h,C,dx,_,_,rfl,Tp,hc.cls,hc.qX,rfl,r⟩) s3 (λi σ H6=>∃o1 o2:Option V,σ=[some (.ref l.h),o1,o2]/\og H C CJ dx l.sd l b xs.length x [] i H6) (λod=>⟨none,none,rfl,jm3.sQ (by rw[ba.cW];exact λz=>nomatch z) s3 (λus z=>nomatch z) (λus z=>nomatch z) (λz=>lY z.symm) (az.put (az.of (ai.refl _))) (λu _ _ z=>absurd rfl z)⟩) ?_ ?_
    ·rintro od i k y aF H6 N rt bk hk ⟨o1,o2,rfl,jm⟩ fz hN;obtain⟨jl,st,eJ,keep,obj,ja,me,len,new⟩:=jm;have il:i<b.ps.length:=by
      have:=(Yj.mp hk).1
      rwa [Ya] at this
     have im:=ok.m;obtain⟨dj,ej⟩:=ja.obj;have wf:=me.wf;have ml:=wf.Po;have xX:=wf.zX;refine bo ?_;refine⟨_,rfl,l.h,C,dx,_,_,rfl,obj,hc.cls,hc.h_,rfl,jl.J,dj,_,by rw[eJ],ej,rfl,jl,st,xs.length,by rw[eJ];rfl,ja,by omega,by omega,by omega,by omega,wf.ll,λz=>Wa _ (wf.lm _ z),λz=>Wa _ (wf.lf _ z),λgH H7 k1 o7 gr ja7=>?_⟩;have jz:∀{a:Addr} {u:HO},H a=some u->a∉jl.fp:=λ{a u} e z=>by rw[new _ z] at e;cases e
     refine hN _ _ ⟨_,_,rfl,gH,_,k1.trans eJ,λa u e n1 n2=>o7 _ _ (keep a u e n1 n2) (jz e),o7 _ _ obj (jz h1),ja7,me.more n0,by rw[iO,len],λa z=>?_⟩ (o7 _ _ fz (jz ba.cW));rcases gr a z with y|y;·exact new a y
     ·cases e:H a with
      |none=>rfl
      |some u=>
       by_cases z1:a=l.h;·rw[z1,obj] at y;cases y
       ·by_cases z2:a=l.sd;·rw[z2,fz] at y;cases y
        ·rw[keep a u e z1 z2] at y;cases y
    ·rintro od aF H6 ⟨o1,o2,rfl,jm⟩ fz;rw[Ya] at jm;refine qu _ _ ⟨o1,o2,rfl,?_⟩;obtain⟨jl,st,eJ,keep,obj,ja,me,len,new⟩:=jm;have jz:l.sd∉jl.fp:=λz=>by have:=new _ z;rw[ba.cW] at this;cases this
     refine⟨jl,st,eJ,λa u e n1 _=>?_,by rw[aJ lY];exact obj,ja.sQ fz (λus z=>nomatch z) (λus z=>nomatch z) jz (az.put (az.of (ai.refl _))),me,len,new⟩;by_cases z:a=l.sd
     ·subst z;rw[aO];rw[ba.cW] at e;exact e
     ·rw[aJ z];exact keep a u e n1 z
   ·rintro σ H6 ⟨o1,o2,rfl,jm⟩;obtain⟨jl0,ZhG,eJ0,Ze5,ZfY,ja0,me0,len0,ZhH⟩:=id jm;have f6:H6 l.fc=some (.dK (bh (b.fs.map (·.1)) l.bQ)):=Ze5 _ _ ba.facts (λz=>iK z.symm) (λz=>iK z.symm);have al:=c9 ba.fact;refine ZaV (d:=l.fc) (kvs:=bh (b.fs.map (·.1)) l.bQ) (H1:=H6) (λR r=>⟨_,rfl,l.h,C,dx,_,_,rfl,ZfY,hc.cls,hc.ud,rfl,r⟩) f6 (λi σ H6=>∃o1 o2:Option V,σ=[some (.ref l.h),o1,o2]/\og H C CJ dx l.fc l b xs.length x (b.F.take i) b.ps.length H6) (λod=>⟨o1,o2,rfl,jm.sQ (by rw[ba.facts];exact λz=>nomatch z) f6 (λus z=>nomatch z) (λus z=>nomatch z) (λz=>iK z.symm) (az.put (az.of (ai.refl _))) (λu _ _ z=>absurd rfl z)⟩) ?_ ?_
    ·rintro od i k y aF H7 N rt bk hk ⟨o1,o2,rfl,jm⟩ fz hN;obtain⟨fa,efa,rfl⟩:=LF hk;obtain⟨⟨z,c⟩,Tq,c8⟩:=fY ba.fact efa;have mzc:=Yi Tq;obtain⟨jl,st,eJ,keep,obj,ja,me,len,new⟩:=jm;have jz:∀{a:Addr} {u:HO},H a=some u->a∉jl.fp:=λ{a u} e z=>by rw[new _ z] at e;cases e
     have of:Out l.fp H H7:=λa u e n=>keep a u e (λz=>n (by rw[z];simp[BL.fp,BL.own])) (λz=>n (by rw[z];simp[BL.fp,BL.own]));have fg:=ok.fg _ mzc;have im:=ok.m;have ec:b.F[i]?=some c:=by unfold BS.F;rw[Yg,Tq];rfl
     have tk:b.F.take (i+1)=b.F.take i++[c]:=by rw[Y2,ec];rfl
     refine bo ?_;refine⟨_,rfl,l.h,C,dx,_,_,rfl,obj,hc.cls,hc.h_,rfl,_,rfl,l.h,C,dx,_,_,rfl,obj,hc.cls,hc.uj,rfl,_,rfl,l.h,C,dx,_,_,rfl,obj,hc.cls,hc.pE,rfl,_,rfl,jl,st,l.L,l.pl,fa,xs,ys,b.ps,b.F.take i,z,c,by rw[eJ];rfl,ja,me,ba.land H7 of,ok.gd,keep _ _ ba.places (λz=>bN z.symm) qr,ok.nm,len,by omega,of _ _ c8 (ba.tup c8),fg,?_,λv gH aK H8 e1 sub o8 ja8 me8 ZfZ=>?_⟩
     ·obtain⟨f0,i0,s0⟩:=ok.lv;exact⟨f0,(me.iff f0).mpr ⟨by rw[len];exact i0,λc' m'=>s0 c' (List.mem_of_mem_take m')⟩,s0 c (Yi ec)⟩
     ·refine hN _ _ ⟨_,_,rfl,gH,aK,e1.trans eJ,λa u e n1 n2=>o8 _ _ (keep a u e n1 n2) (jz e),o8 _ _ obj (jz h1),ja8,by rw[tk];exact me8,ZfZ.trans len,λa z=>new a (sub a z)⟩ (o8 _ _ fz (jz ba.facts))
    ·rintro od aF H7 ⟨o1,o2,rfl,jm⟩ fz;have dl:(bh (b.fs.map (·.1)) l.bQ).length=b.F.length:=by
      unfold bh BS.F;rw[Ya,Jc,Ya,Ya];omega
     rw[dl,We] at jm;refine hn _ _ ⟨x,o1,o2,rfl,?_⟩;obtain⟨jl,st,eJ,keep,obj,ja,me,len,new⟩:=jm;have jz:l.fc∉jl.fp:=λz=>by have:=new _ z;rw[ba.facts] at this;cases this
     refine⟨jl,st,eJ,λa u e n1 _=>?_,by rw[aJ iK];exact obj,ja.sQ fz (λus z=>nomatch z) (λus z=>nomatch z) jz (az.put (az.of (ai.refl _))),me,len,new⟩;by_cases z:a=l.fc
     ·subst z;rw[aO];rw[ba.facts] at e;exact e
     ·rw[aJ z];exact keep a u e n1 z
  ·rintro σ H6 ⟨J,o1,o2,rfl,jm⟩;obtain⟨jl,st,eJ,keep,obj,ja,me,len,new⟩:=jm;refine⟨_,rfl,l.h,C,dx,_,_,rfl,obj,hc.cls,hc.h_,rfl,?_⟩;have k6:∀{a:Addr} {u:HO},H a=some u->a≠l.h->H6 a=some u:=λ{a u} e n=>keep a u e n n;have of:Out l.fp H H6:=λa u e n=>k6 e (λz=>n (by rw[z];simp[BL.fp,BL.own]));have tp:∀{a:Addr} {us:List V},H a=some (.tup us)->H6 a=some (.tup us):=λe=>of _ _ e (ba.tup e);have gr:d9 l.fp ({l with rk:=.ref jl.J,d_:=jl.fp}:BL).fp H:=λa z=>by
    rcases Yv.mp (show a∈l.own++jl.fp from z) with y|y;·exact .inl (Yq _ y)
    ·exact .inr (new a y)
   have fH:∀a∈l.own,a∉jl.fp:=λa m z=>ba.there (Yq _ m) (new a z);subst eJ;refine q {l with rk:=.ref jl.J,d_:=jl.fp} jl st H6 ⟨rfl,of,gr⟩ ?_ rfl rfl ja me len fH λz=>absurd j1 z;exact ba.build (l':={l with rk:=.ref jl.J,d_:=jl.fp}) (b':=b) rfl rfl rfl rfl rfl rfl rfl rfl rfl of gr ⟨dx,obj⟩ (k6 ba.cW (λz=>lY z.symm)) (k6 ba.places (λz=>bN z.symm)) (k6 ba.facts (λz=>iK z.symm)) (L2.Paired.bA ba.fact λ_ _ e=>tp e) (k6 ba.known (λz=>lZ z.symm)) (k6 ba.parents (λz=>oP z.symm)) (k6 ba.done (λz=>m7 z.symm)) (L2.Paired.bA ba.kL λ_ _ e=>e.out of λa us e=>ba.tup e) (k6 ba.ik (λz=>oQ z.symm)) (L2.Paired.bA ba.mN λ_ _ e=>e.out of λa us e=>ba.tup e) (.at_ jl st rfl rfl ja me len fH)
end
def fJ(z:Str)(c:Nat):Bool:=!(Builtin.Str.occurrences z ⟨#[c]⟩ 0 z.length 1).isEmpty
abbrev nM:Str:="abcdefghijklmnopqrstuvwxyz"
abbrev lD:Str:="abcdefghijklmnopqrstuvwxyz0123456789"
def rH(z:Str):Bool:=match z.cps.toList with
 |[]=>false
 |c::r=>decide (z.length<=12)&&(fJ nM c&&(c::r).all (fJ lD))
theorem Zf0(v:Str):v.cps.toList.length=v.length:=by simp[Str.length]
theorem Zcy{z:Str}(h:z.cps.toList=[]):z="":=by
 cases z with|mk a=>cases a with|mk l=>cases h;rfl
theorem Zbm(h:z.cps.toList=[]):rH z=false:=by unfold rH;rw[h]
theorem LG(h:z.cps.toList=c::r):rH z=(decide (z.length<=12)&&(fJ nM c&&(c::r).all (fJ lD))):=by unfold rH;rw[h]
def MJ:Sp:=λvs H Q _=>∃z:Str,vs=[.str z]/\z.length<=1000/\∀H',ai H H'->Q (.bl (rH z)) H'
section
theorem YM:aP ["text"] ["text"] (aG Eg):=.aV
theorem YN(F:aM K "is_name" "is_name" Eg f fd){t1 t2 t3:Tok}(Cq:mg "LONGEST_NAME"=some (.int 12 t1))(BJ:mg "LETTERS_OF_NAMES"=some (.str "abcdefghijklmnopqrstuvwxyz" t2))(BX:mg "SIGNS_OF_NAMES"=some (.str "abcdefghijklmnopqrstuvwxyz0123456789" t3))(bl:Bl mg):
  aE P w K mg base aL 1 f fd ["text"] MJ:=by
 refine F.o YM λaA A outer s H vs Q E hr h=>?_;obtain⟨z,rfl,lz,q⟩:=h;refine⟨_,(aj (aS (PW.pt (pw_or (bp bZ (pv 0) a9) (pw_or (bp FQ (ia (VT) rfl bl.zU zE (aa (pv 0) ag)) (dk (v:=.int (12)) rfl Cq ⟨_,rfl⟩)) (pw_or1 (ib VQ (aY wg (pv 0) aN) (dk (v:=.str "abcdefghijklmnopqrstuvwxyz") rfl BJ ⟨_,rfl⟩) (by with_unfolding_all rfl)))))) (aq (aI iS)) aW) (aq (aI (ia (Rg (K:=K) rfl rfl) rfl bl.Qn OU (aa (ji (x:="sign") (fr:=[]) (cl:=[]) rfl (.g_ trivial trivial) (ZdL (pv 0)) (λ_ _ _ _=>mw) (λ_ _ _ _=>(zd Zl (pv 0) (dk (v:=.str "abcdefghijklmnopqrstuvwxyz0123456789") rfl BX ⟨_,rfl⟩) (by with_unfolding_all rfl)))) ag))))),?_⟩;have sz:(10000:Nat)<=sizeLine:=by rw[sizeLine_eq];omega
 cases ez:z.cps.toList with
 |nil=>
  have e:=Zcy ez;rw[Zbm ez] at q;refine⟨_,rfl,rfl,_,rfl,bB (λ_=>?_) (λc=>absurd (decide_eq_true (by rw[e])) c)⟩;exact q H (ai.refl H)
 |cons c r=>
  have zl:=Zf0 z;rw[ez,Wd] at zl;rw[LG ez] at q;refine⟨_,rfl,rfl,_,rfl,bB (λcc=>?_) (λ_=>?_)⟩
  ·have e:z="":=V.str.inj (of_decide_eq_true cc);have e0:(Str.ofString "").cps.toList=[]:=by decide+kernel
   rw[e,e0] at ez;cases ez
  refine⟨_,rfl,z,rfl,by omega,_,_,rfl,rfl,_,rfl,bB (λcc=>?_) (λcc=>?_)⟩
  ·have Tr:(12:Int)<(z.length:Int):=of_decide_eq_true cc;rw[decide_eq_false (by omega:¬z.length<=12)] at q;exact q H (ai.refl H)
  have Bc:z.length<=12:=by
   grind
  rw[decide_eq_true Bc,Jx] at q;refine⟨_,rfl,_,_,_,rfl,rfl,by omega,ic (j:=0) (by rw[ez];rfl),_,_,rfl,rfl,_,rfl,bB (λcc=>?_) (λcc=>aT ?_)⟩
  ·have Tr:fJ nM c=false:=by
    have z:(!fJ nM c)=true:=cc;cases e:fJ nM c;·rfl
    ·rw[e] at z;cases z
   rw[Tr,Bool.false_and] at q;exact q H (ai.refl H)
  have cl:fJ nM c=true:=by
   cases e:fJ nM c;·exact absurd (show(!fJ nM c)=true by rw[e];rfl) cc
   ·rfl
  rw[cl,Jx,←ez] at q;refine⟨_,rfl,z,rfl,λD hD=>ZK (by omega) hD (λc=>V.bl (fJ lD c)) (λi c hi H1 g1 Kt k=>?_) λH1 g1 h1=>?_⟩;·exact⟨_,rfl,_,_,rfl,rfl,k H1 (ai.refl _)⟩
  ·refine⟨D,z.cps.toList.map (fJ lD),rfl,ak.of (by rw[h1,Wg];rfl),?_⟩;rw[Hu];exact q H1 g1
end
theorem dG.more(h:dG n m c)(l:m<=m'):dG n m' c:=⟨by have:=h.one;omega,λns=>by obtain⟨⟨a,b⟩,d⟩:=h.gG ns;exact⟨⟨a,by omega⟩,d⟩⟩
theorem eB.more(h:eB xs ys m c)(l:m<=m'):eB xs ys m' c:=⟨h.ok.more l,h.kind,h.GC⟩
theorem Zec{f g:Nat->Int}(ok:dG n m c)(e:∀i,i<m->g i=f i)(s:eQ f c):eQ g c:=⟨λh=>by rw[e _ ok.one];exact s.1 h,λh=>by rw[e _ ok.one,e _ (ok.gG h).1.2];exact s.2 h⟩
section
variable {xs ys:List Int}{b:BS}
theorem cC.Zf1(ok:cC xs ys b)(new:n∉b.ps.map (·.1))(lim:b.ps.length<64)(hc:b.co<=co)(dl:dn.length<=200)(ul:un.length<=200):cC xs ys {b with ps:=b.ps++[(n,s)],co:=co,dn:=dn,un:=un}:=by
 have rV:=λp hp=>(ok.fg p hp).ok;have len:(b.ps++[(n,s)]).length=b.ps.length+1:=by rw[Yk];rfl
 refine⟨ok.gd,?_,by show(b.ps++[(n,s)]).length<=64;omega,ok.fl,λp hp=>?_,ok.zs,λp hp=>Y1 (ok.lt p hp) hc,?_,?_,?_,dl,ul⟩
 ·show((b.ps++[(n,s)]).map (·.1)).Nodup;rw[Ys];refine Wv.mpr ⟨ok.nm,by simp,λu hu v hv z=>?_⟩
  grind
 ·show eB xs ys (b.ps++[(n,s)]).length p.2;rw[len];exact(ok.fg p hp).more (Jz _)
 ·show(b.fs.map λp=>eZ (b.ps++[(n,s)]) p.2).Nodup;rw[(W7 λp hp=>by rw[NW (rV p hp)])];exact ok.ky
 ·show((bX (b.ps++[(n,s)]) b.fs).map (·.1)).Nodup;rw[NX rV];exact ok.pr
 ·obtain⟨f,i0,s0⟩:=ok.lv;refine⟨λi=>if i<b.ps.length then f i else 0,λi hi=>?_,λc m=>?_⟩
  ·show 0<=(if i<b.ps.length then f i else 0)/\(if i<b.ps.length then f i else 0)<(xs.length:Int);by_cases h:i<b.ps.length;·rw[if_pos h];exact i0 i h
   ·rw[if_neg h];have:=ok.gd.2.2.2.1
    grind
  ·obtain⟨p,hp,rfl⟩:=Yf.mp m;exact Zec (rV p hp) (λi hi=>if_pos hi) (s0 _ m)
theorem cC.Zf2(ok:cC xs ys b)(fg:eB xs ys b.ps.length c)(nz:z∉b.fs.map (·.1))(nk:eZ b.ps c∉b.keys)(np:cJ c.k=true->[.inr c.k,.inr (au b.ps c.one)]∉(bX b.ps b.fs).map (·.1))(lv:∃f,kW xs.length b.ps.length f/\∀c'∈b.F++[c],eQ f c')(lim:b.fs.length<63)(hc:b.co<=co)(hz:z<co)(dl:dn.length<=200)(ul:un.length<=200):cC xs ys {b with fs:=b.fs++[(z,c)],co:=co,dn:=dn,un:=un}:=by
 have snoc:∀{α:Type} {l:List α} {x:α},l.Nodup->x∉l->(l++[x]).Nodup:=λ{α l x} h1 h2=>Wv.mpr ⟨h1,by simp,λu hu v hv e=>by
  have:v=x:=by simpa using hv
  exact h2 (by rw[←this,←e];exact hu)⟩
 refine⟨ok.gd,ok.nm,ok.m,by show(b.fs++[(z,c)]).length<=63;rw[Yk];exact lim,λp hp=>?_,?_,λp hp=>?_,?_,?_,?_,dl,ul⟩
 ·rcases Yv.mp hp with hp|hp;·exact ok.fg p hp
  ·rw[Ym.mp hp];exact fg
 ·show((b.fs++[(z,c)]).map (·.1)).Nodup;rw[Ys];exact snoc ok.zs nz
 ·rcases Yv.mp hp with hp|hp;·exact Y1 (ok.lt p hp) hc
  ·rw[Ym.mp hp];exact hz
 ·show((b.fs++[(z,c)]).map λp=>eZ b.ps p.2).Nodup;rw[Ys];exact snoc ok.ky nk
 ·show((bX b.ps (b.fs++[(z,c)])).map (·.1)).Nodup;cases e:cJ c.k with
  |true=>rw[MD e,Ys];exact snoc ok.pr (np e)
  |false=>rw[ME e];exact ok.pr
 ·obtain⟨f,i0,s0⟩:=lv;refine⟨f,i0,λc' m=>s0 c' ?_⟩;have m':c'∈(b.fs++[(z,c)]).map (·.2):=m;rw[Ys] at m';exact m'
theorem cC.drop(ok:cC xs ys b)(z:Nat)(hc:b.co<=co)(dl:dn.length<=200)(ul:un.length<=200):cC xs ys {b with fs:=cR z b.fs,co:=co,dn:=dn,un:=un}:=by
 have sub:(cR z b.fs).Sublist b.fs:=List.filter_sublist;refine⟨ok.gd,ok.nm,ok.m,Y0 sub.length_le ok.fl,λp hp=>ok.fg p (sub.subset hp),ok.zs.sublist (sub.map _),λp hp=>Y1 (ok.lt p (sub.subset hp)) hc,ok.ky.sublist (sub.map _),?_,?_,dl,ul⟩
 ·show((bX b.ps (cR z b.fs)).map (·.1)).Nodup;refine ok.pr.sublist ?_;unfold bX
  grind
 ·obtain⟨f,i0,s0⟩:=ok.lv;exact⟨f,i0,λc m=>s0 c ((sub.map _).subset m)⟩
end
def BS.F6(b:BS)(n s:Str):BS:={b with ps:=b.ps++[(n,s)],co:=b.co,dn:=b.dn++[⟨1,[.inr n,.inr s],b.co,b.co⟩],un:=[]}
def BS.wM(b:BS)(c:Fc):BS:={b with fs:=b.fs++[(b.co,c)],co:=b.co+1,dn:=b.dn++[⟨1,dR b.ps b.co c,b.co,b.co+1⟩],un:=[]}
def BS.without(b:BS)(z:Nat)(c:Fc):BS:={b with fs:=cR z b.fs,co:=b.co,dn:=b.dn++[⟨-1,dR b.ps z c,b.co,b.co⟩],un:=[]}
def FG(s:Str):Bool:=eW (.str s) [.str "man",.str "woman"]
structure GD(b:BS)(n s:Str):Prop where
 Zf3:rH n=true
 side:FG s=true
 new:n∉b.ps.map (·.1)
 lim:b.ps.length<64
 nl:n.length<=1000
structure Aj(xs ys:List Int)(b:BS)(c:Fc):Prop where
 fg:eB xs ys b.ps.length c
 nk:eZ b.ps c∉b.keys
 np:cJ c.k=true->[.inr c.k,.inr (au b.ps c.one)]∉(bX b.ps b.fs).map (·.1)
 lv:∃f,kW xs.length b.ps.length f/\∀c'∈b.F++[c],eQ f c'
 lim:b.fs.length<63
inductive LH(C CL CJ:Addr)(vs:List V)(H:Hp)(Q:VK):Prop
 |mk (l:BL) (b:BS) (xs ys:List Int) (n s:Str) (aC:vs=[.ref l.h,.str n,.str s]) (ba:bb H C CL CJ l xs ys b) (np:GD b n s) (q:∀H',ai H H'->Q .ay H'):LH C CL CJ vs H Q
def MK(C CL CJ:Addr):Sp:=λvs H Q _=>LH C CL CJ vs H Q
inductive LI(C CL CJ:Addr)(vs:List V)(H:Hp)(Q:VK):Prop
 |mk (l:BL) (b:BS) (xs ys:List Int) (n s:Str) (aC:vs=[.ref l.h,.str n,.str s]) (ba:bb H C CL CJ l xs ys b) (ok:cC xs ys b) (np:GD b n s) (dl:b.dn.length<200) (q:∀(l':BL) (H':Hp),bK H H' l l'->bb H' C CL CJ l' xs ys (b.F6 n s)->Q .ay H'):LI C CL CJ vs H Q
def ML(C CL CJ:Addr):Sp:=λvs H Q _=>LI C CL CJ vs H Q
inductive N3(C CL CJ:Addr)(vs:List V)(H:Hp)(Q:VK):Prop
 |mk (l:BL) (b:BS) (xs ys:List Int) (fa:Addr) (c:Fc) (aC:vs=[.ref l.h,.ref fa]) (ba:bb H C CL CJ l xs ys b) (ok:cC xs ys b) (hf:eA H b.ps fa (b.co,c)) (nf:Aj xs ys b c) (dl:b.dn.length<200) (q:∀(l':BL) (H':Hp),bK H H' l l'->bb H' C CL CJ l' xs ys (b.wM c)->Q (.int (b.co:Int)) H'):N3 C CL CJ vs H Q
def FH(C CL CJ:Addr):Sp:=λvs H Q _=>N3 C CL CJ vs H Q
inductive N4(C CL CJ:Addr)(vs:List V)(H:Hp)(Q:VK):Prop
 |mk (l:BL) (b:BS) (xs ys:List Int) (z:Nat) (c:Fc) (aC:vs=[.ref l.h,.int (z:Int)]) (ba:bb H C CL CJ l xs ys b) (ok:cC xs ys b) (m:(z,c)∈b.fs) (dl:b.dn.length<200) (q:∀(l':BL) (H':Hp),bK H H' l l'->bb H' C CL CJ l' xs ys (b.without z c)->Q .ay H'):N4 C CL CJ vs H Q
def PH(C CL CJ:Addr):Sp:=λvs H Q _=>N4 C CL CJ vs H Q
inductive MM(C CL CJ:Addr)(vs:List V)(H:Hp)(Q:VK):Prop
 |mk (x dx L:Addr) (xs ys:List Int) (aC:vs=[.ref x,.ref L]) (hx:H x=some (.ins C dx [])) (la:ij H CL L xs ys) (q:∀(l:BL) (H':Hp),l.h=x->(∀a∈l.fp,a≠x->H a=none)->az x H H'->bb H' C CL CJ l xs ys ⟨[],[],0,[],[]⟩->Q .ay H'):MM C CL CJ vs H Q
def N5(C CL CJ:Addr):Sp:=λvs H Q _=>MM C CL CJ vs H Q
theorem ij.free(la:ij H CL L xs ys)(hf:∀a∈fp,H a=none\/∃C dx,H a=some (.ins C dx []))(o:Out fp H H'):ij H' CL L xs ys:=by
 obtain⟨dx,d,m,f,w,im,jf,iw,st,h1,h2,h3,h4,h5,h6,h7,h8,h9⟩:=la;have k:∀{a:Addr} {u:HO},H a=some u->(∀C dx,u≠.ins C dx [])->H' a=some u:=λ{a u} e n=>o _ _ e λz=>by
  grind
 exact⟨dx,d,m,f,w,im,jf,iw,st,k h1 (λ_ _ z=>by cases z),k h2 (λ_ _ z=>by cases z),k h3 (λ_ _ z=>by cases z),k h4 (λ_ _ z=>by cases z),k h5 (λ_ _ z=>by cases z),k h6 (λ_ _ z=>by cases z),k h7 (λ_ _ z=>by cases z),k h8 (λ_ _ z=>by cases z),k h9 (λ_ _ z=>by cases z)⟩
section
theorem U6:aP ["hearth","name","side"] ["hearth","name","side"] (aG Ce):=.aV
theorem U7(F:aM K "check_person" "check_person" Ce f fd)(En:HasFn P w K mg base 1 "is_name" ["text"] MJ)(rJ:mg "MAN"=some (.str "man" t1))(q0:mg "WOMAN"=some (.str "woman" t2))(Cb:cz P w K mg base 1 "people" C ["self"] (MB C CL CJ)):aE P w K mg base aL 2 f fd ["hearth","name","side"] (MK C CL CJ):=by
 refine F.o U6 λaA A outer s H vs Q E hr h=>?_;obtain⟨l,b,xs,ys,n,s,rfl,ba,np,q⟩:=h;refine⟨_,(aj (aS (PW.pt (pw_or (jk (eO (aU En hr (aa (pv 1) ag)))) (pw_or1 (ib (Fq (K:=K) rfl) (pv 2) (dm (aa (dk (v:=.str "man") rfl rJ ⟨_,rfl⟩) (aa (dk (v:=.str "woman") rfl q0 ⟨_,rfl⟩) ag))) (by with_unfolding_all rfl))))) fM aW) (aq (aS (ib (lV (K:=K) rfl) (pv 1) (wu Cb hr (by omega) (pv 0)) (by with_unfolding_all rfl)) fM aW))),?_⟩;have sz:(10000:Nat)<=sizeLine:=by rw[sizeLine_eq];omega
 refine⟨_,rfl,n,rfl,np.nl,λH1 g1=>⟨_,rfl,?_⟩⟩;rw[np.Zf3];refine bO ?_;refine⟨_,rfl,by show 2<=sizeLine;omega,λp H2 xU g2 hp=>⟨p,_,rfl,.inr (aB.of hp),rfl,rfl,_,rfl,?_⟩⟩;have so:eW (.str s) [.str "man",.str "woman"]=true:=np.side;dsimp only;rw[if_pos rfl,so];refine bO (aT ?_);have g:=g1.trans g2;have u_:=ba.same g;obtain⟨dx,h1⟩:=u_.obj;refine⟨_,rfl,_,rfl,l.h,dx,_,rfl,h1,rfl,l,b,xs,ys,rfl,u_,λp2 H3 np3 g3 dD=>?_⟩;have fl:(b.ps.map λp=>V.str p.1).all iU=true:=by
  rw[Hu,Wm];intro p _;rfl
 refine⟨p2,_,rfl,.inl (ak.of dD),rfl,fl,_,rfl,?_⟩;try dsimp only
 have no:eW (.str n) (b.ps.map λp=>V.str p.1)=false:=by
  unfold eW;rw[List.any_map,R3];intro p hp z;have z':(p.1==n)=true:=z;exact np.new (by rw[←eq_of_beq z'];exact Yf.mpr ⟨p,hp,rfl⟩)
 rw[if_neg Yh,no];exact bO (aT (q H3 (g.trans g3)))
theorem UX:aP ["self","name","side"] ["self","name","side"] (aG B3):=.aV
theorem Z3(F:aM K "person" "Hearth.person" B3 f fd)(hc:fC K C)(nL:mg "PUT_IN"=some (.int 1 t1))(Cr:HasFn P w K mg base 2 "check_person" ["hearth","name","side"] (MK C CL CJ))(nj:cz P w K mg base 10 "do_deed" C ["self","way","row","coming"] (y9 C CL CJ)):aE P w K mg base aL 11 f fd ["self","name","side"] (ML C CL CJ):=by
 refine F.o UX λaA A outer s H vs Q E hr h=>?_;obtain⟨l,b,xs,ys,n,s,rfl,ba,ok,np,dl,q⟩:=h;refine⟨_,(aj (bU (aU Cr hr (aa (pv 0) (aa (pv 1) (aa (pv 2) ag))))) (aq (bU (cP nj hr (by omega) (pv 0) (aa (dk (v:=.int (1)) rfl nL ⟨_,rfl⟩) (aa (dm (aa (pv 1) (aa (pv 2) ag))) (aa (pF K 0) ag))))))),?_⟩;refine⟨_,rfl,_,rfl,_,rfl,l,b,xs,ys,n,s,rfl,ba,np,λH1 g1=>?_⟩;have cE:=ba.same g1;obtain⟨dx,h1⟩:=cE.obj;refine⟨_,rfl,l.h,dx,_,rfl,h1,rfl,_,rfl,_,rfl,by show 2<=sizeLine;decide,λr H2 nr g2 hR=>?_⟩;refine⟨_,rfl,l.h,C,dx,_,_,rfl,g2 _ _ h1,hc.cls,hc.pG,rfl,l,b,_,xs,ys,r,1,b.co,[.inr n,.inr s],rfl,cE.same g2,ok,dl,hR,.pin n s hR np.new np.lim,λl' H3 wt kX=>?_⟩;exact q l' H3 (bK.after (g1.trans g2) wt) kX
theorem vF:aP ["self","fact","number","kind","one","other"] ["self","fact"] (aG CD):=.aV
theorem Zcz(F:aM K "keep" "Hearth.keep" CD f fd)(hc:fC K C)(nL:mg "PUT_IN"=some (.int 1 t1))(Dw:HasFn P w K mg base 5 "fact_fits" ["joins","land","places","fact"] (Pz CL CJ))(s_:cz P w K mg base 8 "joins" C ["self"] (E7 C CL CJ))(nj:cz P w K mg base 10 "do_deed" C ["self","way","row","coming"] (y9 C CL CJ)):aE P w K mg base aL 11 f fd ["self","fact"] (FH C CL CJ):=by
 refine F.o vF λaA A outer s H vs Q E hr h=>?_;obtain⟨l,b,xs,ys,fa,c,rfl,ba,ok,hf,nf,dl,q⟩:=h;refine⟨_,(aj (nQ (pv 1) (jj (K:=K) (n:=4) rfl rfl (bR (bF 2 vF.nd) (bR (bF 3 vF.nd) (bR (bF 4 vF.nd) (bR (bF 5 vF.nd) jh)))))) (aj (aS (jk (eO (aU Dw hr (aa (wu s_ hr (by omega) (pv 0)) (aa (pF K 0) (aa (pF K 0) (aa (pv 1) ag))))))) fM aW) (aj (bU (cP nj hr (by omega) (pv 0) (aa (dk (v:=.int (1)) rfl nL ⟨_,rfl⟩) (aa (pv 1) (aa (aZ ig (pv 2) aN) ag))))) (aq (aI (pv 2)))))),?_⟩;obtain⟨dx,h1⟩:=ba.obj;refine⟨_,rfl,fa,_,rfl,aB.of hf,rfl,_,_,rfl,bo ⟨_,_,rfl,bo ⟨_,_,rfl,bo ⟨_,_,rfl,bo ⟨rfl,?_⟩⟩⟩⟩⟩;refine⟨_,rfl,l.h,dx,_,rfl,h1,rfl,l,b,xs,ys,rfl,ba,ok,λl1 jl st H1 wt cE r1 r2 ja me len fH _=>?_⟩;obtain⟨qp,e1⟩:=cE.obj;have r_:H1 l.h=some (.ins C qp (HF l1.L l1.sd l1.pl l1.fc l1.kn l1.pr (b.co:Int) l1.dn l1.un l1.rk)):=by rw[←wt.h];exact e1
 have Ts:eA H1 b.ps fa (b.co,c):=wt.out _ _ hf (ba.tup hf);have im:=ok.m;refine⟨_,rfl,l.h,C,qp,_,_,rfl,r_,hc.cls,hc.uj,rfl,_,rfl,l.h,C,qp,_,_,rfl,r_,hc.cls,hc.pE,rfl,_,rfl,jl,st,l1.L,l1.pl,fa,xs,ys,b.ps,b.F,b.co,c,rfl,ja,me,cE.landAt,ok.gd,cE.places,ok.nm,len,by omega,Ts,nf.fg,λ_ H2 g2=>?_,λno=>?_⟩
 ·refine⟨_,rfl,bO (aT ?_)⟩;have u_:=cE.same g2;have Tt:=g2 _ _ Ts;have nz:b.co∉b.fs.map (·.1):=λz=>by
   obtain⟨p,hp,e⟩:=Yf.mp z;have:=ok.lt p hp;omega
  refine⟨_,rfl,l.h,qp,_,rfl,g2 _ _ r_,rfl,_,rfl,_,rfl,_,_,rfl,rfl,l1,b,_,xs,ys,fa,1,b.co+1,dR b.ps b.co c,?_,u_,ok,dl,Tt,.fin b.co c Tt nf.fg nz nf.nk nf.np nf.lv nf.lim,λl' H3 wt3 kX=>?_⟩;·rw[wt.h];rfl
  ·exact⟨_,rfl,q l' H3 ((wt.same g2).trans wt3) kX⟩
 ·obtain⟨f0,i0,s0⟩:=nf.lv;exact absurd (s0 c (Yn _ Yl)) (no f0 ((me.iff f0).mpr ⟨by rw[len];exact i0,λc' m'=>s0 c' (Yq _ m')⟩))
theorem Vm:aP ["self","number"] ["self","number"] (aG CF):=.aV
theorem ZcA(F:aM K "take" "Hearth.take" CF f fd)(hc:fC K C)(Dx:mg "TAKEN_OUT"=some (.int (-1) t1))(nj:cz P w K mg base 10 "do_deed" C ["self","way","row","coming"] (y9 C CL CJ)):aE P w K mg base aL 11 f fd ["self","number"] (PH C CL CJ):=by
 refine F.o Vm λaA A outer s H vs Q E hr h=>?_;obtain⟨l,b,xs,ys,z,c,rfl,ba,ok,m,dl,q⟩:=h;refine⟨_,(aj (aS (jK (mf (bj hr) (pv 1) (pF K 0)) (by with_unfolding_all rfl)) fM aW) (aq (bU (cP nj hr (by omega) (pv 0) (aa (dk (v:=.int (-1)) rfl Dx ⟨_,rfl⟩) (aa (df (bj hr) (pF K 0) (pv 1) (λ_ _=>rfl)) (aa (pF K 0) ag))))))),?_⟩;obtain⟨dx,h1⟩:=ba.obj;obtain⟨fa,Ba,c8⟩:=NV (H:=H) (ps:=b.ps) ba.fact ok.zs m;refine⟨_,rfl,_,rfl,l.h,C,dx,_,_,rfl,h1,hc.cls,hc.ud,rfl,l.fc,some (.ref fa),rfl,pQ ba.facts Ba,_,rfl,bO (aT ?_)⟩;refine⟨_,rfl,l.h,dx,_,rfl,h1,rfl,_,rfl,l.h,C,dx,_,_,rfl,h1,hc.cls,hc.ud,rfl,_,rfl,l.fc,.ref fa,rfl,pQ ba.facts Ba,_,rfl,l.h,C,dx,_,_,rfl,h1,hc.cls,hc.pG,rfl,l,b,_,xs,ys,fa,-1,b.co,dR b.ps z c,rfl,ba,ok,dl,c8,.uD z c c8 m,λl' H3 wt kX=>?_⟩;exact q l' H3 wt kX
theorem Vn:aP ["self","land"] ["self","land"] (aG CC):=.aV
theorem Zbn(F:aM K "__init__" "Hearth.__init__" CC f fd)(hc:fC K C):aE P w K mg base aL 1 f fd ["self","land"] (N5 C CL CJ):=by
 refine F.o Vn λaA A outer s H vs Q E hr h=>?_;obtain⟨x,dx,L,xs,ys,rfl,hx,la,q⟩:=h;refine⟨_,(aj (f_ (K:=K) rfl (pv 0) (pv 1)) (aj (f_ (K:=K) rfl (pv 0) qR) (aj (f_ (K:=K) rfl (pv 0) qR) (aj (f_ (K:=K) rfl (pv 0) qR) (aj (f_ (K:=K) rfl (pv 0) Le) (aj (f_ (K:=K) rfl (pv 0) Le) (aj (f_ (K:=K) rfl (pv 0) aN) (aj (f_ (K:=K) rfl (pv 0) (dt ag)) (aj (f_ (K:=K) rfl (pv 0) (dt ag)) (aq (f_ (K:=K) rfl (pv 0) lC))))))))))),?_⟩;refine⟨_,rfl,_,rfl,x,C,dx,[],rfl,hx,hc.cls,hc.uj,by show 0<1000;omega,λH1 b1 h1=>?_⟩;refine λsd H2 n2 g2 e2=>⟨_,rfl,x,C,dx,_,rfl,g2 _ _ h1,hc.cls,hc.qX,by show 1<1000;omega,λH3 b3 h3=>?_⟩;refine λpl H4 n4 g4 e4=>⟨_,rfl,x,C,dx,_,rfl,g4 _ _ h3,hc.cls,hc.pE,by show 2<1000;omega,λH5 b5 h5=>?_⟩;refine λfc H6 n6 g6 e6=>⟨_,rfl,x,C,dx,_,rfl,g6 _ _ h5,hc.cls,hc.ud,by show 3<1000;omega,λH7 b7 h7=>?_⟩;refine λkn H8 n8 g8 e8=>⟨_,rfl,x,C,dx,_,rfl,g8 _ _ h7,hc.cls,hc.zu,by show 4<1000;omega,λH9 b9 h9=>?_⟩;refine λpr oG oH sR oM=>⟨_,rfl,x,C,dx,_,rfl,sR _ _ h9,hc.cls,hc.tZ,by show 5<1000;omega,λxA sS h11=>?_⟩;refine⟨_,rfl,x,C,dx,_,rfl,h11,hc.cls,hc.pG,by show 6<1000;omega,λva sT AI=>?_⟩;refine⟨by show 0<=sizeLine;exact Yx _,λdn AJ qv eY Tu=>⟨_,rfl,x,C,dx,_,rfl,eY _ _ AI,hc.cls,hc.Px,by show 7<1000;omega,λql qw Tv=>?_⟩⟩;refine⟨by show 0<=sizeLine;exact Yx _,λun Hg lX Tw e15=>⟨_,rfl,x,C,dx,_,rfl,Tw _ _ Tv,hc.cls,hc.My,by show 8<1000;omega,λSy b16 h16=>?_⟩⟩;refine⟨_,rfl,x,C,dx,_,rfl,h16,hc.cls,hc.h_,by show 9<1000;omega,λoR b17 Tx=>?_⟩;rw[ZfT] at Tx;have Tz:az x Hg oR:=b16.trans b17;have TB:az x AJ oR:=qw.trans ((az.of Tw).trans Tz);have TC:az x oG oR:=sS.trans (sT.trans ((az.of eY).trans TB));have j8:az x H8 oR:=b9.trans ((az.of sR).trans TC);have j6:az x H6 oR:=b7.trans ((az.of g8).trans j8);have j4:az x H4 oR:=b5.trans ((az.of g6).trans j6);have j2:az x H2 oR:=b3.trans ((az.of g4).trans j4);have j0:az x H oR:=b1.trans ((az.of g2).trans j2);have i3:az x H H3:=b1.trans ((az.of g2).trans b3);have i5:az x H H5:=i3.trans ((az.of g4).trans b5);have i7:az x H H7:=i5.trans ((az.of g6).trans b7);have i9:az x H H9:=i7.trans ((az.of g8).trans b9);have i12:az x H va:=i9.trans ((az.of sR).trans (sS.trans sT));have i14:az x H ql:=i12.trans ((az.of eY).trans qw);have fr:∀{a:Addr} {H':Hp},az x H H'->a≠x->H' a=none->H a=none:=λ{a H'} k d n=>by
  cases e:H a with
  |none=>rfl
  |some o=>rw[k a o e d] at n;cases n
 have d2:sd≠x:=λz=>by rw[z,h1] at n2;cases n2
 have d4:pl≠x:=λz=>by rw[z,h3] at n4;cases n4
 have d6:fc≠x:=λz=>by rw[z,h5] at n6;cases n6
 have d8:kn≠x:=λz=>by rw[z,h7] at n8;cases n8
 have Be:pr≠x:=λz=>by rw[z,h9] at oH;cases oH
 have Iz:dn≠x:=λz=>by rw[z,AI] at qv;cases qv
 have TH:un≠x:=λz=>by rw[z,Tv] at lX;cases lX
 have ne:∀{a c:Addr} {Ha Hc:Hp} {o:HO},Ha a=some o->az x Ha Hc->a≠x->Hc c=none->a≠c:=λ{a c Ha Hc o} e k d n z=>by rw[←z,k a o e d] at n;cases n
 have k24:az x H2 H3:=b3;have TK:az x H2 H5:=b3.trans ((az.of g4).trans b5);have TL:az x H2 H7:=TK.trans ((az.of g6).trans b7);have Ry:az x H2 H9:=TL.trans ((az.of g8).trans b9);have Rz:az x H2 va:=Ry.trans ((az.of sR).trans (sS.trans sT));have Zf4:az x H2 ql:=Rz.trans ((az.of eY).trans qw);have TM:az x H4 H7:=b5.trans ((az.of g6).trans b7);have RA:az x H4 H9:=TM.trans ((az.of g8).trans b9);have RB:az x H4 va:=RA.trans ((az.of sR).trans (sS.trans sT));have Zf5:az x H4 ql:=RB.trans ((az.of eY).trans qw);have RC:az x H6 H9:=b7.trans ((az.of g8).trans b9);have RD:az x H6 va:=RC.trans ((az.of sR).trans (sS.trans sT));have Zf6:az x H6 ql:=RD.trans ((az.of eY).trans qw);have RE:az x H8 va:=b9.trans ((az.of sR).trans (sS.trans sT));have Zf7:az x H8 ql:=RE.trans ((az.of eY).trans qw);have QF:az x oG va:=sS.trans sT;have Ze6:az x oG ql:=QF.trans ((az.of eY).trans qw);let l:BL:=⟨x,L,sd,pl,fc,kn,pr,dn,un,.ay,[],[],[],[]⟩;have Bf:∀a∈l.fp,a≠x->H a=none:=λa ha na=>by
  have qo:a∈[x,sd,pl,fc,kn,pr,dn,un]:=by
   have:l.fp=[x,sd,pl,fc,kn,pr,dn,un]:=rfl;rw[this] at ha;exact ha
  simp only[Yo,Y3,or_false] at qo;rcases qo with rfl|rfl|rfl|rfl|rfl|rfl|rfl|rfl;·exact absurd rfl na
  ·exact fr b1 na n2
  ·exact fr i3 na n4
  ·exact fr i5 na n6
  ·exact fr i7 na n8
  ·exact fr i9 na oH
  ·exact fr i12 na qv
  ·exact fr i14 na lX
 refine q l oR rfl Bf j0 ⟨⟨dx,Tx⟩,λH' o=>?_,j2 _ _ e2 d2,j4 _ _ e4 d4,j6 _ _ e6 d6,.nil,j8 _ _ e8 d8,TC _ _ oM Be,TB _ _ Tu Iz,.nil,Tz _ _ e15 TH,.nil,.no rfl rfl,?_⟩
 ·refine la.free (fp:=l.fp) (λa ha=>?_) λa u e na=>o _ _ (j0 _ _ e λz=>na (by rw[z];exact Yl)) na;by_cases z:a=x;·rw[z];exact .inr ⟨C,dx,hx⟩
  ·exact .inl (Bf a ha z)
 ·show[x,sd,pl,fc,kn,pr,dn,un].Nodup;simp only[Yz,Yo,Y3,or_false,not_or,not_false_eq_true,Ja,and_true];exact⟨⟨d2.symm,d4.symm,d6.symm,d8.symm,Be.symm,Iz.symm,TH.symm⟩,⟨ne e2 k24 d2 n4,ne e2 TK d2 n6,ne e2 TL d2 n8,ne e2 Ry d2 oH,ne e2 Rz d2 qv,ne e2 Zf4 d2 lX⟩,⟨ne e4 b5 d4 n6,ne e4 TM d4 n8,ne e4 RA d4 oH,ne e4 RB d4 qv,ne e4 Zf5 d4 lX⟩,⟨ne e6 b7 d6 n8,ne e6 RC d6 oH,ne e6 RD d6 qv,ne e6 Zf6 d6 lX⟩,⟨ne e8 b9 d8 oH,ne e8 RE d8 qv,ne e8 Zf7 d8 lX⟩,⟨ne oM QF Be qv,ne oM Ze6 Be lX⟩,ne Tu qw Iz lX⟩
end
def strOf:V->Str
 |.str s=>s
 |_=>""
def fP(b:BS)(a:Str):List Str:=(nU b a).map strOf
inductive fK(b:BS)(a:Str):Str->Prop
 |refl:fK b a a
 |step {x y:Str}:fK b a x->y∈fP b x->fK b a y
theorem N6(ok:cC xs ys b)(h:aQ (bX b.ps b.fs) [.inr k,.inr a]=some v):∃p∈b.fs,cJ p.2.k=true/\p.2.k=k/\au b.ps p.2.one=a/\v=.str (au b.ps p.2.aH.toNat)/\p.2.aH.toNat<b.ps.length:=by
 have m:([.inr k,.inr a],v)∈bX b.ps b.fs:=by
  unfold aQ at h;cases ef:(bX b.ps b.fs).find? λkv=>decide (kv.1=[.inr k,.inr a]) with
  |none=>grind
  |some q=>grind
 obtain⟨p,hp,e⟩:=Yf.mp m;obtain⟨oK,dD⟩:=Y4.mp hp;injection e with e1 e2;injection e1 with e3 e4;injection e4 with e5 _;have ns:p.2.k≠bq:=λz=>by
  rw[z] at dD;exact absurd dD (by decide+kernel)
 refine⟨p,oK,dD,Wf e3,Wf e5,?_,((ok.fg p oK).ok.gG ns).1.2⟩;rw[←e2,iP ns];rfl
theorem KR(ok:cC xs ys b)(a:Str):nU b a=(fP b a).map V.str/\(∀s∈fP b a,s∈b.ps.map (·.1))/\(fP b a).length<=2:=by
 have all:∀v∈nU b a,∃s,v=.str s/\s∈b.ps.map (·.1):=λv hv=>by
  obtain⟨k,_,e⟩:=Jh.mp hv;obtain⟨p,_,_,_,_,e2,l⟩:=N6 ok e;exact⟨_,e2,ue l⟩
 refine⟨?_,λs hs=>?_,?_⟩
 ·unfold fP;rw[Wg];refine(List.map_id _).symm.trans (W7 λv hv=>?_);obtain⟨s,rfl,_⟩:=all v hv;rfl
 ·obtain⟨v,hv,rfl⟩:=Yf.mp hs;obtain⟨s,rfl,m⟩:=all v hv;exact m
 ·unfold fP nU
  grind
def hZ(ks:List Str)(as:List Addr):List (Key×V):=(ks.zip as).map λp=>(.inr p.1,.ref p.2)
theorem MN:∀{ks:List Str} {as:List Addr},ks.length=as.length->(hZ ks as).map (·.1)=ks.map Sum.inr
 |[],[],_=>rfl
 |k::ks,a::as,h=>by
  have e0:hZ (k::ks) (a::as)=(Sum.inr k,V.ref a)::hZ ks as:=rfl;rw[e0,Wo,MN (by simpa using h)];rfl
 |[],_::_,h=>rfl
 |_::_,[],h=>by simp at h
theorem MO:∀{ks:List Str} {as:List Addr} (k:Str) (a:Addr),ks.length=as.length->hZ ks as++[(.inr k,.ref a)]=hZ (ks++[k]) (as++[a])
 |[],[],_,_,_=>rfl
 |q::ks,c::as,k,a,h=>by
  have e0:hZ (q::ks) (c::as)=(Sum.inr q,V.ref c)::hZ ks as:=rfl;rw[e0,Sv,MO k a (by simpa using h)];rfl
 |[],_::_,_,_,h=>by simp at h
 |_::_,[],_,_,h=>by simp at h
theorem E9:∀{ks:List Str} {as:List Addr} {k:Str},ks.length=as.length->k∈ks->∃a∈as,aQ (hZ ks as) (.inr k)=some (.ref a)
 |[],_,_,_,h=>by cases h
 |q::ks,c::as,k,hl,h=>by
  have e0:hZ (q::ks) (c::as)=(Sum.inr q,V.ref c)::hZ ks as:=rfl;rw[e0];by_cases e:q=k;·exact⟨c,Yl,fw (by rw[e])⟩
  ·rcases Yo.mp h with h|h;·grind
   ·obtain⟨a,m,v⟩:=E9 (by simpa using hl) h;exact⟨a,Yw _ m,by rw[eS (λz=>e (Wf z))];exact v⟩
 |_::_,[],_,h,_=>by simp at h
theorem EM(hl:ks.length=as.length)(h:k∉ks):aQ (hZ ks as) (.inr k)=none:=oX (by
 rw[MN hl];intro z;obtain⟨q,hq,e⟩:=Yf.mp z;exact h (by rw[←Wf e];exact hq))
structure qa(H H6:Hp)(ln:Addr)(ks:List Str)(as:List Addr):Prop where
 same:ai H H6
 at_:H6 ln=some (.dK (hZ ks as))
 len:ks.length=as.length
 lst:∀a∈as,∃us:List V,H6 a=some (.lst us)/\us.length<=ks.length/\a≠ln
 nd:ks.Nodup
theorem Eo{xs ys:List Int}{b:BS}(ok:cC xs ys b){ks:List Str}(nd:ks.Nodup)(sub:∀k∈ks,k∈b.ps.map (·.1)):ks.length<=b.ps.length:=by
 have:=nd.length_le_of_subset sub
 grind
theorem y_(ok:cC xs ys b)(ma:a∈b.ps.map (·.1))(h:fK b a z):z∈b.ps.map (·.1):=by
 cases h with
 |refl=>exact ma
 |step _ m=>exact(KR ok _).2.1 _ m
inductive MP(C CL CJ:Addr)(vs:List V)(H:Hp)(Q:VK):Prop
 |mk (l:BL) (b:BS) (xs ys:List Int) (a:Str) (aC:vs=[.ref l.h,.str a]) (ba:bb H C CL CJ l xs ys b) (ok:cC xs ys b) (ma:a∈b.ps.map (·.1)) (q:∀(p:Addr) (ks:List Str) (as:List Addr) (H':Hp),qa H H' p ks as->(∀z,z∈ks↔fK b a z)->Q (.ref p) H'):MP C CL CJ vs H Q
def N7(C CL CJ:Addr):Sp:=λvs H Q _=>MP C CL CJ vs H Q
def w_(ln:Addr)(N:Nat):St->Hp->Nat:=λσ H=>(match H ln with|some (.dK kvs)=>2*(N-kvs.length)|_=>0)+(match List.getD (α:=Option V) σ 3 none with|some (V.ref nw)=>(match H nw with|some (.lst (_::_))=>1|_=>0)|_=>0)
inductive TN(H:Hp)(b:BS)(a:Str)(h ln:Addr)(σ:St)(H6:Hp):Prop
 |mk (ks ns:List Str) (as:List Addr) (nw:Addr) (o4 o5 o6:Option V) (la:qa H H6 ln ks as) (hn:H6 nw=some (.lst (ns.map V.str))) (nn:nw≠ln) (sub:∀k∈ns,k∈ks) (cl:∀k∈ks,k∉ns->∀p∈fP b k,p∈ks) (sd:∀k∈ks,fK b a k) (ma:a∈ks) (sy:ns.length<=64) (e:σ=[some (.ref h),some (.str a),some (.ref ln),some (.ref nw),o4,o5,o6]):TN H b a h ln σ H6
inductive IA(H:Hp)(b:BS)(a:Str)(h ln nw fu:Addr)(qx ns:List Str)(j:Nat)(σ:St)(H6:Hp):Prop
 |mk (ks fs:List Str) (as:List Addr) (o5 o6:Option V) (la:qa H H6 ln ks as) (hn:H6 nw=some (.lst (ns.map V.str))) (hf:H6 fu=some (.lst (fs.map V.str))) (nn:nw≠ln/\fu≠ln/\fu≠nw) (af:fu∉as) (ek:ks=qx++fs) (cl:∀k∈ns.take j,∀p∈fP b k,p∈ks) (sd:∀k∈ks,fK b a k) (e:σ=[some (.ref h),some (.str a),some (.ref ln),some (.ref nw),some (.ref fu),o5,o6]):IA H b a h ln nw fu qx ns j σ H6
inductive TQ(H:Hp)(b:BS)(a:Str)(h ln nw fu:Addr)(qx ns:List Str)(j:Nat)(one:Str)(pl:Addr)(i:Nat)(σ:St)(H6:Hp):Prop
 |mk (ks fs:List Str) (as:List Addr) (o6:Option V) (la:qa H H6 ln ks as) (hn:H6 nw=some (.lst (ns.map V.str))) (hf:H6 fu=some (.lst (fs.map V.str))) (hp:H6 pl=some (.lst ((fP b one).map V.str))) (nn:nw≠ln/\fu≠ln/\fu≠nw/\pl≠ln/\pl≠fu) (af:fu∉as) (ek:ks=qx++fs) (cl:∀k∈ns.take j,∀p∈fP b k,p∈ks) (cp:∀p∈(fP b one).take i,p∈ks) (sd:∀k∈ks,fK b a k) (e:σ=[some (.ref h),some (.str a),some (.ref ln),some (.ref nw),some (.ref fu),some (.str one),o6]):TQ H b a h ln nw fu qx ns j one pl i σ H6
section
theorem qM:aP ["hearth","name","lines","newest","further","one","parent"] ["hearth","name"] (aG DI):=.aV
theorem Xn(F:aM K "lines_up" "lines_up" DI f fd)(BE:cz P w K mg base 1 "parents_of" C ["self","name"] (Ke C CL CJ)):aE P w K mg base aL 2 f fd ["hearth","name"] (N7 C CL CJ):=by
 refine F.o qM λaA A outer s H vs Q E hr h=>?_;obtain⟨l,b,xs,ys,a,rfl,ba,ok,ma,q⟩:=h;refine⟨_,(aj (bW 2 qM.nd (zm (jG (pv 1) (dt (aa (pv 1) ag)) zk) rfl rfl (λz=>nomatch z) (Jk rfl))) (aj (bW 3 qM.nd (dt (aa (pv 1) ag))) (aj (Eu PassesOwn.never (Ed (K:=K) rfl (Ex (pv 3) (λ_=>rfl))) (aj (bW 4 qM.nd (dt ag)) (aj (gP PassesOwn.never rfl (fZ (K:=K) rfl (pv 3)) (bF 5 qM.nd) (aq (gP PassesOwn.never rfl (fZ (K:=K) rfl (cP BE hr (by omega) (pv 0) (aa (pv 5) ag))) (bF 6 qM.nd) (aq (aS (jK (mf (bj hr) (pv 6) (pv 2)) (by with_unfolding_all rfl)) (aj (nJ (bj hr) (pv 2) (pv 6) (aZ zo (df (bj hr) (pv 2) (pv 5) (λ_ _=>rfl)) (dt (aa (pv 6) ag)))) (aq (bU (mJ (K:=K) rfl (jL plainAttrs_list PySem.F.slot_list_append PySem.F.type_list_append nE (pv 4) (aa (pv 6) ag)))))) aW))))) (aq (bW 3 qM.nd (pv 4)))))) (aq (aI (pv 2)))))),?_⟩;have sz:(10000:Nat)<=sizeLine:=by rw[sizeLine_eq];omega
 have im:=ok.m;refine cq ?_;refine λln TR=>⟨_,rfl,_,rfl,by show 1<=sizeLine;omega,λll H0 TU g0 hll=>?_⟩;refine⟨g0 _ _ aO,[(.inr a,.ref ll)],rfl,(by show 1<=15;omega),?_⟩;obtain⟨H1,qy⟩:∃H1,H1=upd H0 ln (.dK (nS [] [(.inr a,.ref ll)])):=⟨_,rfl⟩;rw[←qy];have TV:ll≠ln:=λz=>by rw[z,aO] at TU;cases TU
 have g1:ai H H1:=λc o e=>by
  have nc:=bT e TR;rw[qy,aJ nc];exact g0 _ _ (by rw[aJ nc];exact e)
 have TX:qa H H1 ln [a] [ll]:=⟨g1,by rw[qy,aO];rfl,rfl,λc hc=>by
  rw[Ym.mp hc];exact⟨[.str a],by rw[qy,aJ TV];exact hll,Yd _,TV⟩,by simp⟩
 refine cq ?_;refine⟨_,rfl,by show 1<=sizeLine;omega,λnw H2 TY g2 hnw=>?_⟩;have TZ:nw≠ln:=λz=>by rw[z,TX.at_] at TY;cases TY
 have F7:∀{Ha Hb:Hp} {ks:List Str} {as:List Addr},qa H Ha ln ks as->ai Ha Hb->qa H Hb ln ks as:=λla g=>⟨la.same.trans g,g _ _ la.at_,la.len,λc hc=>by obtain⟨us,e,z,n⟩:=la.lst c hc;exact⟨us,g _ _ e,z,n⟩,la.nd⟩;refine iQ (λσ H6=>∃ks as,qa H H6 ln ks as/\(∀z,z∈ks↔fK b a z)/\∃o3 o4 o5 o6:Option V,σ=[some (.ref l.h),some (.str a),some (.ref ln),o3,o4,o5,o6]) (λoO fU=>?_) ?_
 ·refine Ew (TN H b a l.h ln) (w_ ln 100) ⟨[a],[a],[ll],nw,none,none,none,F7 TX g2,hnw,TZ,λ_ h=>h,λk hk no=>absurd hk no,λk hk=>by rw[Ym.mp hk];exact .refl,Yl,by show 1<=64;omega,rfl⟩ ?_ ?_
  ·rintro σ H6 ⟨ks,ns,as,nw,o4,o5,o6,la,hn,nn,sub,cl,sd,T3,sy,rfl⟩;have kf:ks.length<=64:=Y0 (Eo ok la.nd λk hk=>y_ ok ma (sd k hk)) im;refine⟨_,rfl,_,.inl ⟨_,ak.of hn,rfl⟩,?_⟩;refine bB (λc=>?_) (λc=>?_)
   ·have Zf8:ns≠[]:=λz=>by rw[z] at c;cases c
    have mu0:w_ ln 100 [some (.ref l.h),some (.str a),some (.ref ln),some (.ref nw),o4,o5,o6] H6=2*(100-ks.length)+1:=by
     unfold w_;have kl:(hZ ks as).length=ks.length:=by unfold hZ;rw[Ya,Jc];have:=la.len;omega
     have g3:List.getD (α:=Option V) [some (.ref l.h),some (.str a),some (.ref ln),some (.ref nw),o4,o5,o6] 3 none=some (.ref nw):=rfl;rw[la.at_,g3];dsimp only;rw[hn,kl];cases ns with
     |nil=>exact absurd rfl Zf8
     |cons x r=>rfl
    refine cq ?_;refine⟨by show 0<=sizeLine;exact Yx _,λfu H7 vc g7 hfu=>?_⟩;have xR:=F7 la g7;have fln:fu≠ln:=λz=>by rw[z,la.at_] at vc;cases vc
    have fnw:fu≠nw:=λz=>by rw[z,hn] at vc;cases vc
    refine iQ (IA H b a l.h ln nw fu ks ns ns.length) (λIy qu=>?_) ?_
    ·refine⟨_,rfl,nw,rfl,⟨_,ak.of (g7 _ _ hn)⟩,kA (K:=K) (a:=nw) (xs:=ns.map V.str) (IA H b a l.h ln nw fu ks ns) ⟨ks,[],as,o5,o6,xR,g7 _ _ hn,hfu,⟨nn,fln,fnw⟩,(λz=>by obtain⟨us,e,_⟩:=la.lst _ z;rw[vc] at e;cases e),by rw[Wb],λk hk=>(by rw[List.take_zero] at hk;cases hk),sd,rfl⟩ (λj σ H8 _ ⟨_,_,_,_,_,_,h,_,_,_,_,_,_,_⟩=>ak.of h) ?_ ?_⟩
     ·rintro j v σ H8 hj ⟨eK,fs,Bg,p5,p6,qz,T4,jA,yd,T5,ek,iM,Bh,rfl⟩;rw[Yg] at hj;obtain⟨one,e1,rfl⟩:∃one,ns[j]?=some one/\V.str one=v:=by
       cases z:ns[j]? with
       |none=>rw[z] at hj;cases hj
       |some o=>rw[z] at hj;exact⟨o,rfl,Yr hj⟩
      have IB:ns.take (j+1)=ns.take j++[one]:=by rw[Y2,e1];rfl
      have Zhi:one∈eK:=by rw[ek];exact Yq _ (sub _ (Yi e1))
      have vd:=ba.same qz.same;obtain⟨dx8,h8⟩:=vd.obj;obtain⟨pe,pin,H_⟩:=KR ok one;refine bo ?_;refine⟨_,rfl,l.h,dx8,_,rfl,h8,rfl,_,rfl,l,b,xs,ys,one,rfl,vd,λpl H9 ye g9 bN=>?_⟩;rw[pe] at bN;have pln:pl≠ln:=λz=>by rw[z,qz.at_] at ye;cases ye
      have plf:pl≠fu:=λz=>by rw[z,jA] at ye;cases ye
      refine⟨pl,rfl,⟨_,ak.of bN⟩,kA (K:=K) (a:=pl) (xs:=(fP b one).map V.str) (TQ H b a l.h ln nw fu ks ns j one pl) ⟨eK,fs,Bg,p6,F7 qz g9,g9 _ _ T4,g9 _ _ jA,bN,⟨yd.1,yd.2.1,yd.2.2,pln,plf⟩,T5,ek,iM,λp hp=>(by rw[List.take_zero] at hp;cases hp),Bh,rfl⟩ (λi σ HA _ ⟨_,_,_,_,_,_,_,h,_,_,_,_,_,_,_⟩=>ak.of h) ?_ ?_⟩
      ·rintro i v σ HA hi ⟨jB,yf,Bi,q6,fW,Bj,m8,IC,kg,yg,ve,Bk,yh,vg,rfl⟩;rw[Yg] at hi;obtain⟨par,e2,rfl⟩:∃par,(fP b one)[i]?=some par/\V.str par=v:=by
        cases z:(fP b one)[i]? with
        |none=>rw[z] at hi;cases hi
        |some o=>rw[z] at hi;exact⟨o,rfl,Yr hi⟩
       have mp:=Yi e2;have T6:(fP b one).take (i+1)=(fP b one).take i++[par]:=by rw[Y2,e2];rfl
       have RF:one∈jB:=by rw[ve];exact Yq _ (sub _ (Yi e1))
       have kf9:jB.length<=64:=Y0 (Eo ok fW.nd λk hk=>y_ ok ma (vg k hk)) im;refine bo ?_;by_cases r8:par∈jB
       ·obtain⟨ap,_,vp⟩:=E9 fW.len r8;refine⟨_,rfl,_,rfl,ln,some (.ref ap),rfl,cU fW.at_ vp,_,rfl,bO (aT ?_)⟩;refine⟨jB,yf,Bi,_,fW,Bj,m8,IC,kg,yg,ve,Bk,λp hp=>?_,vg,rfl⟩;rw[T6] at hp;rcases Yv.mp hp with hp|hp;·exact yh p hp
        ·rw[Ym.mp hp];exact r8
       ·obtain⟨ao,mao,vo⟩:=E9 fW.len RF;obtain⟨us,ID,ul,aon⟩:=fW.lst ao mao;refine⟨_,rfl,_,rfl,ln,none,rfl,cU fW.at_ (EM fW.len r8),_,rfl,c5 ?_⟩;refine⟨_,rfl,_,rfl,ln,.ref ao,rfl,cU fW.at_ vo,_,rfl,by show 1<=sizeLine;omega,λe1l HB neb gB heB=>?_⟩;refine⟨ao,e1l,us,_,rfl,rfl,gB _ _ ID,heB,by show us.length+1<=sizeLine;omega,λnl HC IE gC hnl=>?_⟩;have T7:=gB.trans gC;refine⟨_,rfl,_,rfl,ln,_,.inr par,rfl,T7 _ _ fW.at_,rfl,?_,λHD bD eD=>?_⟩;·unfold hZ;rw[Ya,Jc];omega
        rw[kB _ (EM fW.len r8),MO par nl fW.len] at eD;have RG:nl≠ln:=λz=>by rw[z,gB _ _ fW.at_] at IE;cases IE
        have kD:∀{c:Addr} {o:HO},HA c=some o->c≠ln->HD c=some o:=λ{c o} e n=>bD _ _ (T7 _ _ e) n;have T8:HA nl=none:=gB.free IE;refine⟨_,rfl,.inl ⟨rfl,_,ak.of (kD m8 kg.2.1)⟩,_,rfl,fu,_,_,rfl,rfl,kD m8 kg.2.1,?_,λHE bE eE=>?_⟩
        ·rw[Ya];have:yf.length<=jB.length:=by rw[ve,Yk];omega
         omega
        have kE:∀{c:Addr} {o:HO},HA c=some o->c≠ln->c≠fu->HE c=some o:=λ{c o} e n1 n2=>bE _ _ (kD e n1) n2;have RH:nl≠fu:=λz=>by rw[z,m8] at T8;cases T8
        refine⟨jB++[par],yf++[par],Bi++[nl],_,⟨λc o e=>?_,bE _ _ eD (λz=>kg.2.1 z.symm),by rw[Yk,Yk,fW.len];rfl,λc hc=>?_,?_⟩,kE Bj kg.1 (λz=>kg.2.2.1 z.symm),?_,kE IC kg.2.2.2.1 kg.2.2.2.2,kg,(λz=>by rcases Yv.mp z with z|z;exact yg z;exact RH (Ym.mp z).symm),by rw[ve,Jn],λk hk p hp=>Yq _ (Bk k hk p hp),λp hp=>?_,λk hk=>?_,rfl⟩
        ·have nc:=bT e TR;have ncf:c≠fu:=bT e ((la.same.free vc));exact kE (fW.same _ _ e) nc ncf
        ·rcases Yv.mp hc with hc|hc
         ·obtain⟨us',e',z',n'⟩:=fW.lst c hc;have cf:c≠fu:=λz=>yg (by rw[←z];exact hc);exact⟨us',kE e' n' cf,by rw[Yk];omega,n'⟩
         ·rw[Ym.mp hc];exact⟨us++[.str par],bE _ _ (bD _ _ hnl RG) RH,by rw[Yk,Yk];show us.length+1<=jB.length+1;omega,RG⟩
        ·refine Wv.mpr ⟨fW.nd,by simp,λu hu v hv z=>?_⟩;have:v=par:=by simpa using hv
         exact r8 (by rw[←this,←z];exact hu)
        ·rw[eE,Ys];rfl
        ·rw[T6] at hp;rcases Yv.mp hp with hp|hp;·exact Yq _ (yh p hp)
         ·rw[Ym.mp hp];exact Yn _ Yl
        ·rcases Yv.mp hk with hk|hk;·exact vg k hk
         ·rw[Ym.mp hk];exact .step (vg one RF) mp
      ·rintro σ HA ⟨jB,yf,Bi,q6,fW,Bj,m8,IC,kg,yg,ve,Bk,yh,vg,rfl⟩;rw[Ya,We] at yh;refine⟨jB,yf,Bi,_,_,fW,Bj,m8,⟨kg.1,kg.2.1,kg.2.2.1⟩,yg,ve,λk hk=>?_,vg,rfl⟩;rw[IB] at hk;rcases Yv.mp hk with hk|hk;·exact Bk k hk
       ·rw[Ym.mp hk];exact yh
     ·rintro σ H8 h8;rw[Ya] at h8;exact qu _ _ h8
    ·rintro σ H8 ⟨eK,fs,Bg,p5,p6,qz,T4,jA,yd,T5,ek,iM,Bh,rfl⟩;rw[We] at iM;refine⟨_,rfl,?_⟩;have kf8:eK.length<=64:=Y0 (Eo ok qz.nd λk hk=>y_ ok ma (Bh k hk)) im;have T9:eK.length=ks.length+fs.length:=by rw[ek,Yk]
     refine⟨⟨eK,fs,Bg,fu,_,_,_,qz,jA,yd.2.1,λk hk=>by rw[ek];exact Yn _ hk,λk hk no p hp=>?_,Bh,by rw[ek];exact Yq _ T3,by omega,rfl⟩,?_⟩
     ·rw[ek] at hk;rcases Yv.mp hk with hk|hk
      ·by_cases z:k∈ns;·exact iM k z p hp
       ·rw[ek];exact Yq _ (cl k hk z p hp)
      ·exact absurd hk no
     ·rw[mu0];show w_ ln 100 [some (.ref l.h),some (.str a),some (.ref ln),some (.ref fu),some (.ref fu),p5,p6] H8<_;unfold w_;have kl:(hZ eK Bg).length=eK.length:=by unfold hZ;rw[Ya,Jc];have:=qz.len;omega
      have g3:List.getD (α:=Option V) [some (.ref l.h),some (.str a),some (.ref ln),some (.ref fu),some (.ref fu),p5,p6] 3 none=some (.ref fu):=rfl;rw[qz.at_,g3];dsimp only;rw[jA,kl];cases fs with
      |nil=>
       show 2*(100-eK.length)+0<_;have:eK.length=ks.length+0:=T9;omega
      |cons x r=>
       show 2*(100-eK.length)+1<_;have:eK.length=ks.length+(r.length+1):=T9;omega
   ·have nse:ns=[]:=by
     cases ns with
     |nil=>rfl
     |cons x r=>exact absurd rfl c
    subst nse;refine fU _ _ ⟨ks,as,la,λz=>⟨λh=>sd z h,λh=>?_⟩,_,_,_,_,rfl⟩;induction h with
    |refl=>exact T3
    |step _ m ih=>exact cl _ ih (λz=>nomatch z) _ m
  ·rintro σ H6 Q1 Q2 mo ⟨v1,w1,v2,w2,h⟩;exact⟨v1,w1,v2,w2,mo _ _ h⟩
 ·rintro σ H6 ⟨ks,as,la,iff,o3,o4,o5,o6,rfl⟩;exact⟨_,rfl,q ln ks as H6 la iff⟩
end
def fh(ps:bH)(i:Nat):Str:=(ps.getD i ("","")).2
theorem nN(nd:(ps.map (·.1)).Nodup)(hi:i<ps.length):aQ (fV ps) (.inr (au ps i))=some (.str (fh ps i)):=by
 have kn:((fV ps).map (·.1)).Nodup:=by
  grind
 refine NU kn (Yf.mpr ⟨ps[i],Js hi,?_⟩);unfold au fh
 grind
def kH(k h t:Str):Bool:=if k="mother" then decide (t="woman") else if k="father" then decide (t="man") else decide (k="sibling")||(decide (h="man")&&decide (t="woman"))
inductive MQ(vs:List V)(H:Hp)(Q:VK):Prop
 |mk (k h t:Str) (aC:vs=[.str k,.str h,.str t]) (q:Q (.bl (kH k h t)) H):MQ vs H Q
def N8:Sp:=λvs H Q _=>MQ vs H Q
structure PK(b:BS)(k a:Str)(o:Str):Prop where
 par:cJ k=true->[.inr k,.inr a]∉(bX b.ps b.fs).map (·.1)
 aH:cJ k=false->keyOf k a (.inr o)∉b.keys/\¬(k="sibling"/\a=o)
inductive N9(C CL CJ:Addr)(vs:List V)(H:Hp)(Q:VK):Prop
 |mk (l:BL) (b:BS) (xs ys:List Int) (k a o:Str) (aC:vs=[.ref l.h,.str k,.str a,.str o]) (ba:bb H C CL CJ l xs ys b) (un:PK b k a o) (q:∀H',ai H H'->Q (.bl false) H'):N9 C CL CJ vs H Q
def PL(C CL CJ:Addr):Sp:=λvs H Q _=>N9 C CL CJ vs H Q
inductive LJ(C CL CJ:Addr)(vs:List V)(H:Hp)(Q:VK):Prop
 |mk (l:BL) (b:BS) (xs ys:List Int) (ch pa:Str) (aC:vs=[.ref l.h,.str ch,.str pa]) (ba:bb H C CL CJ l xs ys b) (ok:cC xs ys b) (mp:pa∈b.ps.map (·.1)) (no:¬fK b pa ch) (q:∀H',ai H H'->Q .ay H'):LJ C CL CJ vs H Q
def MR(C CL CJ:Addr):Sp:=λvs H Q _=>LJ C CL CJ vs H Q
structure F8(xs ys:List Int)(b:BS)(c:Fc):Prop where
 nf:Aj xs ys b c
 ns:c.k≠bq
 cW:kH c.k (fh b.ps c.one) (fh b.ps c.aH.toNat)=true
 un:PK b c.k (au b.ps c.one) (au b.ps c.aH.toNat)
 el:cJ c.k=true->¬fK b (au b.ps c.aH.toNat) (au b.ps c.one)
inductive LK(C CL CJ:Addr)(vs:List V)(H:Hp)(Q:VK):Prop
 |mk (l:BL) (b:BS) (xs ys:List Int) (c:Fc) (aC:vs=[.ref l.h,.str c.k,.str (au b.ps c.one),.str (au b.ps c.aH.toNat)]) (ba:bb H C CL CJ l xs ys b) (ok:cC xs ys b) (to:F8 xs ys b c) (q:∀H',ai H H'->Q .ay H'):LK C CL CJ vs H Q
def MS(C CL CJ:Addr):Sp:=λvs H Q _=>LK C CL CJ vs H Q
inductive N_(C CL CJ:Addr)(vs:List V)(H:Hp)(Q:VK):Prop
 |mk (l:BL) (b:BS) (xs ys:List Int) (c:Fc) (aC:vs=[.ref l.h,.str c.k,.str (au b.ps c.one),.str (au b.ps c.aH.toNat)]) (ba:bb H C CL CJ l xs ys b) (ok:cC xs ys b) (to:F8 xs ys b c) (dl:b.dn.length<200) (q:∀(l':BL) (H':Hp),bK H H' l l'->bb H' C CL CJ l' xs ys (b.wM c)->Q (.int (b.co:Int)) H'):N_ C CL CJ vs H Q
def PM(C CL CJ:Addr):Sp:=λvs H Q _=>N_ C CL CJ vs H Q
structure QG(xs ys:List Int)(b:BS)(c:Fc):Prop where
 nf:Aj xs ys b c
 sk:c.k=bq
inductive LL(C CL CJ:Addr)(vs:List V)(H:Hp)(Q:VK):Prop
 |mk (l:BL) (b:BS) (xs ys:List Int) (c:Fc) (aC:vs=[.ref l.h,.str (au b.ps c.one),.int c.aH]) (ba:bb H C CL CJ l xs ys b) (ok:cC xs ys b) (so:QG xs ys b c) (q:∀H',ai H H'->Q .ay H'):LL C CL CJ vs H Q
def MT(C CL CJ:Addr):Sp:=λvs H Q _=>LL C CL CJ vs H Q
inductive KS(C CL CJ:Addr)(vs:List V)(H:Hp)(Q:VK):Prop
 |mk (l:BL) (b:BS) (xs ys:List Int) (i:Int) (aC:vs=[.ref l.h,.int i]) (ba:bb H C CL CJ l xs ys b) (hi:0<=i/\i<(xs.length:Int)) (q:∀H',ai H H'->Q .ay H'):KS C CL CJ vs H Q
def LM(C CL CJ:Addr):Sp:=λvs H Q _=>KS C CL CJ vs H Q
inductive Oa(C CL CJ:Addr)(vs:List V)(H:Hp)(Q:VK):Prop
 |mk (l:BL) (b:BS) (xs ys:List Int) (c:Fc) (aC:vs=[.ref l.h,.str (au b.ps c.one),.int c.aH]) (ba:bb H C CL CJ l xs ys b) (ok:cC xs ys b) (so:QG xs ys b c) (dl:b.dn.length<200) (q:∀(l':BL) (H':Hp),bK H H' l l'->bb H' C CL CJ l' xs ys (b.wM c)->Q (.int (b.co:Int)) H'):Oa C CL CJ vs H Q
def PN(C CL CJ:Addr):Sp:=λvs H Q _=>Oa C CL CJ vs H Q
theorem dO(x y:Str):decide (V.str x=V.str y)=decide (x=y):=by
 grind
section
variable {dw:Addr}
theorem V8:aP ["kind","here","there"] ["kind","here","there"] (aG Dd):=.aV
theorem V9(F:aM K "sides_fit" "sides_fit" Dd f fd)(rJ:mg "MAN"=some (.str "man" t1))(q0:mg "WOMAN"=some (.str "woman" t2))(nI:mg "SIBLING"=some (.str "sibling" t3)):aE P w K mg base aL 1 f fd ["kind","here","there"] N8:=by
 refine F.o V8 λaA A outer s H vs Q E hr h=>?_;obtain⟨k,h,t,rfl,q⟩:=h;refine⟨_,(aj (aS (bp bZ (pv 0) a9) (aq (aI (eG bZ (pv 2) (dk (v:=.str "woman") rfl q0 ⟨_,rfl⟩)))) aW) (aj (aS (bp bZ (pv 0) a9) (aq (aI (eG bZ (pv 2) (dk (v:=.str "man") rfl rJ ⟨_,rfl⟩)))) aW) (aq (aI (FP (eG bZ (pv 0) (dk (v:=.str "sibling") rfl nI ⟨_,rfl⟩)) (mH (pL (eG bZ (pv 1) (dk (v:=.str "man") rfl rJ ⟨_,rfl⟩)) (mH (eG bZ (pv 2) (dk (v:=.str "woman") rfl q0 ⟨_,rfl⟩)))))))))),?_⟩;unfold kH at q;refine⟨_,rfl,rfl,_,rfl,?_⟩;rw[dO];refine bB (λcc=>?_) (λcc=>aT ?_)
 ·rw[if_pos (of_decide_eq_true cc)] at q;refine⟨_,rfl,rfl,?_⟩;rw[dO];exact q
 ·rw[if_neg (λz=>cc (decide_eq_true z))] at q;refine⟨_,rfl,rfl,_,rfl,?_⟩;rw[dO];refine bB (λc2=>?_) (λc2=>aT ?_)
  ·rw[if_pos (of_decide_eq_true c2)] at q;refine⟨_,rfl,rfl,?_⟩;rw[dO];exact q
  ·rw[if_neg (λz=>c2 (decide_eq_true z))] at q;refine⟨_,rfl,rfl,_,rfl,?_⟩;rw[dO];refine bB (λc3=>?_) (λc3=>?_);·grind
   ·have e3:decide (k="sibling")=false:=by
     cases e:decide (k="sibling") with
     |true=>grind
     |false=>rfl
    rw[e3,J9] at q;refine⟨_,rfl,rfl,_,rfl,?_⟩;rw[dO];refine bB (λc4=>?_) (λc4=>?_)
    ·rw[c4,Jx] at q;refine⟨_,rfl,rfl,?_⟩;rw[dO];exact q
    ·grind
theorem U8:aP ["hearth","kind","one","other"] ["hearth","kind","one","other"] (aG Cf):=.aV
theorem ZcB(F:aM K "told_already" "told_already" Cf f fd)(nI:mg "SIBLING"=some (.str "sibling" t1))(iN:mg "PARENTS"=some (.ref dw))(qP:∀H,aB K H dw (iC.map V.str))(BK:cz P w K mg base 1 "parent_of" C ["self","kind","name"] (KP C CL CJ))(tI:cz P w K mg base 2 "has" C ["self","kind","one","other"] (F5 C CL CJ)):aE P w K mg base aL 3 f fd ["hearth","kind","one","other"] (PL C CL CJ):=by
 refine F.o U8 λaA A outer s H vs Q E hr h=>?_;obtain⟨l,b,xs,ys,k,a,o,rfl,ba,un,q⟩:=h;refine⟨_,(aj (aS (ib (lV (K:=K) rfl) (pv 1) (dk (v:=.ref dw) rfl iN rfl) (by with_unfolding_all rfl)) (aq (aI (eG zc (cP BK hr (by omega) (pv 0) (aa (pv 1) (aa (pv 2) ag))) lC))) aW) (aq (aI (FP (cP tI hr (by omega) (pv 0) (aa (pv 1) (aa (pv 2) (aa (pv 3) ag)))) (mH (pL (eG bZ (pv 1) (dk (v:=.str "sibling") rfl nI ⟨_,rfl⟩)) (mH (eG bZ (pv 2) (pv 3))))))))),?_⟩;obtain⟨dx,h1⟩:=ba.obj;refine⟨_,rfl,dw,_,rfl,.inr (qP _),rfl,rfl,_,rfl,?_⟩;try dsimp only
 rw[if_neg Yh,show eW (.str k) (iC.map V.str)=cJ k from zy k];refine bB (λcc=>?_) (λcc=>aT ?_)
 ·refine⟨_,rfl,l.h,dx,_,rfl,h1,rfl,_,rfl,_,rfl,l,b,xs,ys,k,a,rfl,ba,λH1 g1=>?_⟩;rw[oX (un.par cc)];exact⟨rfl,q H1 g1⟩
 ·have np:cJ k=false:=by
   cases e:cJ k with
   |true=>exact absurd e cc
   |false=>rfl
  obtain⟨u1,u2⟩:=un.aH np;refine⟨_,rfl,l.h,dx,_,rfl,h1,rfl,_,rfl,_,rfl,_,rfl,l,b,xs,ys,k,a,.inr o,rfl,ba,λ_=>⟨o,rfl⟩,λH1 g1=>⟨_,rfl,?_⟩⟩;have e:b.told (keyOf k a (.inr o))=false:=by
   cases e:b.told (keyOf k a (.inr o)) with
   |true=>exact absurd ((MC _ _).mp e) u1
   |false=>rfl
  rw[e];refine bO ?_;refine⟨_,rfl,rfl,_,rfl,?_⟩;rw[dO];refine bB (λc3=>?_) (λc3=>?_)
  ·refine⟨_,rfl,_,rfl,rfl,?_⟩;rw[dO,decide_eq_false (λz=>u2 ⟨of_decide_eq_true c3,z⟩)];exact q H1 g1
  ·exact q H1 g1
theorem JG:aP ["hearth","child","parent","lines"] ["hearth","child","parent"] (aG Cg):=.aV
theorem U9(F:aM K "check_elders" "check_elders" Cg f fd)(DY:HasFn P w K mg base 2 "lines_up" ["hearth","name"] (N7 C CL CJ)):aE P w K mg base aL 4 f fd ["hearth","child","parent"] (MR C CL CJ):=by
 refine F.o JG λaA A outer s H vs Q E hr h=>?_;obtain⟨l,b,xs,ys,ch,pa,rfl,ba,ok,mp,no,q⟩:=h;refine⟨_,(aj (bW 3 JG.nd (aU DY hr (aa (pv 0) (aa (pv 2) ag)))) (aq (aS (jK (zH (bj hr) (pv 1) (pv 3)) (by with_unfolding_all rfl)) fM aW))),?_⟩;refine⟨_,rfl,_,rfl,l,b,xs,ys,pa,rfl,ba,ok,mp,λp ks as H1 la iff=>bo ?_⟩;have nk:ch∉ks:=λz=>no ((iff ch).mp z);exact⟨_,rfl,_,rfl,p,none,rfl,cU la.at_ (EM la.len nk),_,rfl,bO (aT (q H1 la.same))⟩
theorem V_:aP ["hearth","kind","one","other"] ["hearth","kind","one","other"] (aG Dc):=.aV
theorem WA(F:aM K "check_tie" "check_tie" Dc f fd)(iN:mg "PARENTS"=some (.ref dw))(qP:∀H,aB K H dw (iC.map V.str))(t_:HasFn P w K mg base 1 "is_tie" ["kind"] E5)(Dy:HasFn P w K mg base 1 "sides_fit" ["kind","here","there"] N8)(qH:cz P w K mg base 1 "side_of" C ["self","name"] (EK C CL CJ))(Cs:HasFn P w K mg base 3 "told_already" ["hearth","kind","one","other"] (PL C CL CJ))(Ct:HasFn P w K mg base 4 "check_elders" ["hearth","child","parent"] (MR C CL CJ)):aE P w K mg base aL 6 f fd ["hearth","kind","one","other"] (MS C CL CJ):=by
 refine F.o V_ λaA A outer s H vs Q E hr h=>?_;obtain⟨l,b,xs,ys,c,rfl,ba,ok,to,q⟩:=h;refine⟨_,(aj (aS (jk (eO (aU t_ hr (aa (pv 1) ag)))) fM aW) (aj (aS (jk (eO (aU Dy hr (aa (pv 1) (aa (cP qH hr (by omega) (pv 0) (aa (pv 2) ag)) (aa (cP qH hr (by omega) (pv 0) (aa (pv 3) ag)) ag)))))) fM aW) (aj (aS (eO (aU Cs hr (aa (pv 0) (aa (pv 1) (aa (pv 2) (aa (pv 3) ag)))))) fM aW) (aq (aS (ib (lV (K:=K) rfl) (pv 1) (dk (v:=.ref dw) rfl iN rfl) (by with_unfolding_all rfl)) (aq (bU (aU Ct hr (aa (pv 0) (aa (pv 2) (aa (pv 3) ag)))))) aW))))),?_⟩;obtain⟨dx,h1⟩:=ba.obj;obtain⟨r,dr,hs⟩:=C0 (to.nf.fg.uv to.ns);have ht:mS p_ c.k=true:=by unfold mS;rw[dr];rfl
 have om:=(to.nf.fg.ok.gG to.ns).1.2;refine⟨_,rfl,c.k,rfl,_,rfl,?_⟩;rw[ht];refine⟨_,rfl,_,rfl,l.h,dx,_,rfl,h1,rfl,_,rfl,l,b,xs,ys,_,_,rfl,ba,nN ok.nm to.nf.fg.ok.one,⟨_,rfl,l.h,dx,_,rfl,h1,rfl,_,rfl,l,b,xs,ys,_,_,rfl,ba,nN ok.nm om,⟨c.k,_,_,rfl,_,rfl,?_⟩⟩⟩;rw[to.cW];refine⟨_,rfl,_,rfl,_,rfl,_,rfl,l,b,xs,ys,c.k,_,_,rfl,ba,to.un,λH1 g1=>⟨_,rfl,bO (aT ⟨_,rfl,dw,_,rfl,.inr (qP _),rfl,rfl,_,rfl,?_⟩)⟩⟩;rw[if_neg Yh,show eW (.str c.k) (iC.map V.str)=cJ c.k from zy c.k];refine bB (λcc=>⟨_,rfl,_,rfl,_,rfl,l,b,xs,ys,_,_,rfl,ba.same g1,ok,ue om,to.el cc,λH2 g2=>q H2 (g1.trans g2)⟩) (λcc=>aT (q H1 g1))
theorem UY:aP ["hearth","section"] ["hearth","section"] (aG BZ):=.aV
theorem UZ(F:aM K "check_section" "check_section" BZ f fd)(hc:fC K C)(lc:uu K CL)(bl:Bl mg):aE P w K mg base aL 1 f fd ["hearth","section"] (LM C CL CJ):=by
 refine F.o UY λaA A outer s H vs Q E hr h=>?_;obtain⟨l,b,xs,ys,i,rfl,ba,hi,q⟩:=h;refine⟨_,(aq (aS (ib VX (pv 1) (eN CO rfl bl.jI t6 (aa (v9 (K:=K) rfl (pF K 0) rfl) ag)) (by with_unfolding_all rfl)) fM aW)),?_⟩;obtain⟨dx,h1⟩:=ba.obj;obtain⟨dL,dS,mo,ke,wi,im,jf,iw,Hk,hL,_⟩:=ba.landAt;refine⟨_,rfl,_,rfl,l.h,C,dx,_,_,rfl,h1,hc.cls,hc.uj,rfl,l.L,CL,dL,_,_,rfl,hL,lc.cls,lc.rf,rfl,_,rfl,λp H1 np g1 hp=>?_⟩;refine⟨_,_,_,p,rfl,rfl,hp,_,rfl,?_⟩;rw[if_pos rfl,decide_eq_true hi];exact bO (aT (q H1 g1))
theorem U_:aP ["hearth","name","section"] ["hearth","name","section"] (aG Ci):=.aV
theorem Va(F:aM K "check_saying" "check_saying" Ci f fd)(kG:mg "SAID"=some (.str "said" t1))(qH:cz P w K mg base 1 "side_of" C ["self","name"] (EK C CL CJ))(Cc:HasFn P w K mg base 1 "check_section" ["hearth","section"] (LM C CL CJ))(tI:cz P w K mg base 2 "has" C ["self","kind","one","other"] (F5 C CL CJ)):aE P w K mg base aL 3 f fd ["hearth","name","section"] (MT C CL CJ):=by
 refine F.o U_ λaA A outer s H vs Q E hr h=>?_;obtain⟨l,b,xs,ys,c,rfl,ba,ok,so,q⟩:=h;refine⟨_,(aj (bU (cP qH hr (by omega) (pv 0) (aa (pv 1) ag))) (aj (bU (aU Cc hr (aa (pv 0) (aa (pv 2) ag)))) (aq (aS (eO (cP tI hr (by omega) (pv 0) (aa (dk (v:=.str "said") rfl kG ⟨_,rfl⟩) (aa (pv 1) (aa (pv 2) ag))))) fM aW)))),?_⟩;obtain⟨dx,h1⟩:=ba.obj;refine⟨_,rfl,l.h,dx,_,rfl,h1,rfl,_,rfl,l,b,xs,ys,_,_,rfl,ba,nN ok.nm so.nf.fg.ok.one,⟨_,rfl,_,rfl,l,b,xs,ys,c.aH,rfl,ba,so.nf.fg.GC so.sk,λH1 g1=>⟨_,rfl,l.h,dx,_,rfl,g1 _ _ h1,rfl,_,rfl,_,rfl,l,b,xs,ys,"said",au b.ps c.one,.inl c.aH,rfl,ba.same g1,(λz=>absurd z (by decide+kernel)),λH2 g2=>⟨_,rfl,?_⟩⟩⟩⟩;have ek:keyOf "said" (au b.ps c.one) (.inl c.aH)=eZ b.ps c:=by
  unfold eZ;rw[mj so.sk,so.sk]
 have e:b.told (keyOf "said" (au b.ps c.one) (.inl c.aH))=false:=by
  cases e:b.told (keyOf "said" (au b.ps c.one) (.inl c.aH)) with
  |true=>exact absurd ((MC _ _).mp e) (by rw[ek];exact so.nf.nk)
  |false=>rfl
 rw[e];exact bO (aT (q H2 (g1.trans g2)))
theorem VI:aP ["self","kind","one","other"] ["self","kind","one","other"] (aG CV):=.aV
theorem ZcC(F:aM K "tie" "Hearth.tie" CV f fd)(hc:fC K C)(Dz:HasFn P w K mg base 6 "check_tie" ["hearth","kind","one","other"] (MS C CL CJ))(tF:cz P w K mg base 11 "keep" C ["self","fact"] (FH C CL CJ)):aE P w K mg base aL 12 f fd ["self","kind","one","other"] (PM C CL CJ):=by
 refine F.o VI λaA A outer s H vs Q E hr h=>?_;obtain⟨l,b,xs,ys,c,rfl,ba,ok,to,dl,q⟩:=h;refine⟨_,(aj (bU (aU Dz hr (aa (pv 0) (aa (pv 1) (aa (pv 2) (aa (pv 3) ag)))))) (aq (aI (cP tF hr (by omega) (pv 0) (aa (dm (aa (pF K 0) (aa (pv 1) (aa (pv 2) (aa (pv 3) ag))))) ag))))),?_⟩;refine⟨_,rfl,_,rfl,_,rfl,_,rfl,l,b,xs,ys,c,rfl,ba,ok,to,λH1 g1=>?_⟩;have cE:=ba.same g1;obtain⟨dx,h1⟩:=cE.obj;refine⟨_,rfl,l.h,dx,_,rfl,h1,rfl,_,rfl,l.h,C,dx,_,_,rfl,h1,hc.cls,hc.pG,rfl,_,rfl,_,rfl,_,rfl,by show 4<=sizeLine;decide,λr H2 nr g2 hR=>?_⟩;have hf:eA H2 b.ps r (b.co,c):=by
  show H2 r=some (.tup ((dR b.ps b.co c).map kV));unfold dR;rw[iP to.ns];exact hR
 refine⟨l,b,xs,ys,r,c,rfl,cE.same g2,ok,hf,to.nf,dl,λl' H3 wt kX=>q l' H3 (bK.after (g1.trans g2) wt) kX⟩
theorem VJ:aP ["self","name","section"] ["self","name","section"] (aG CW):=.aV
theorem ZcD(F:aM K "say" "Hearth.say" CW f fd)(hc:fC K C)(kG:mg "SAID"=some (.str "said" t1))(Cu:HasFn P w K mg base 3 "check_saying" ["hearth","name","section"] (MT C CL CJ))(tF:cz P w K mg base 11 "keep" C ["self","fact"] (FH C CL CJ)):aE P w K mg base aL 12 f fd ["self","name","section"] (PN C CL CJ):=by
 refine F.o VJ λaA A outer s H vs Q E hr h=>?_;obtain⟨l,b,xs,ys,c,rfl,ba,ok,so,dl,q⟩:=h;refine⟨_,(aj (bU (aU Cu hr (aa (pv 0) (aa (pv 1) (aa (pv 2) ag))))) (aq (aI (cP tF hr (by omega) (pv 0) (aa (dm (aa (pF K 0) (aa (dk (v:=.str "said") rfl kG ⟨_,rfl⟩) (aa (pv 1) (aa (pv 2) ag))))) ag))))),?_⟩;refine⟨_,rfl,_,rfl,_,rfl,l,b,xs,ys,c,rfl,ba,ok,so,λH1 g1=>?_⟩;have cE:=ba.same g1;obtain⟨dx,h1⟩:=cE.obj;refine⟨_,rfl,l.h,dx,_,rfl,h1,rfl,_,rfl,l.h,C,dx,_,_,rfl,h1,hc.cls,hc.pG,rfl,_,rfl,_,rfl,by show 4<=sizeLine;decide,λr H2 nr g2 hR=>?_⟩;have hf:eA H2 b.ps r (b.co,c):=by
  show H2 r=some (.tup ((dR b.ps b.co c).map kV));unfold dR;rw[mj so.sk,so.sk];exact hR
 refine⟨l,b,xs,ys,r,c,rfl,cE.same g2,ok,hf,so.nf,dl,λl' H3 wt kX=>q l' H3 (bK.after (g1.trans g2) wt) kX⟩
end
def m9(n:Nat)(d:Int):List Int:=(List.range n).map λi:Nat=>((i:Int)+d) % (n:Int)
theorem rot_length(n:Nat)(d:Int):(m9 n d).length=n:=by simp[m9]
theorem Zbo(hn:0<n)(d:Int):(m9 n d).Perm (bc n):=by
 have uH:(0:Int)<(n:Int):=by omega
 have r0:=W5 d (G1 uH);have r1:=Wp d uH;obtain⟨r,er⟩:∃r:Nat,d % (n:Int)=(r:Int):=⟨(d % (n:Int)).toNat,by omega⟩;have rn:r<n:=by omega
 have e:m9 n d=(bc n).drop r++(bc n).take r:=by
  refine Wu λi=>?_;have ul:=eM n;by_cases hi:i<n
  ·have lhs:(m9 n d)[i]?=some (((i:Int)+d) % (n:Int)):=by
    unfold m9;rw[Yg,T_ hi];rfl
   have em:((i:Int)+d) % (n:Int)=((r:Int)+(i:Int)) % (n:Int):=by
    rw[Int.add_comm,←Int.emod_add_emod,er]
   rw[lhs,em];by_cases h:r+i<n;·rw[Wc (by rw[J7,ul];omega),List.getElem?_drop,lu (by omega),Int.emod_eq_of_lt (by omega) (by omega),Int.natCast_add]
   ·rw[Jo (by rw[J7,ul];omega),J7,ul,List.getElem?_take_of_lt (by omega),lu (by omega)];have e3:(r:Int)+(i:Int)=((i-(n-r):Nat):Int)+(n:Int)*1:=by omega
    rw[e3,Int.add_mul_emod_self_left,Int.emod_eq_of_lt (by omega) (by omega)]
  ·rw[Y6 (by rw[rot_length];omega),Y6 (by rw[Yk,J7,Y9,ul];omega)]
 rw[e];exact List.perm_append_comm.trans (by rw[List.take_append_drop])
inductive Ob(vs:List V)(H:Hp)(Q:VK):Prop
 |mk (c:Int) (n:Nat) (aC:vs=[.int c,.int (n:Int)]) (aR:0<n) (a8:n<=60) (bC:∀(t:Addr) (ts:List Int) (H':Hp),H t=none->ai H H'->bJ H' t ts->ts.Perm (bc n)->Q (.ref t) H'):Ob vs H Q
def QH:Sp:=λvs H Q _=>Ob vs H Q
inductive Oc(K:PySem.W.Frag)(vs:List V)(H:Hp)(Q:VK):Prop
 |mk (a b:Addr) (xs ys:List Int) (aC:vs=[.ref a,.ref b]) (aR:aB K H a (xs.map V.int)) (a8:aB K H b (ys.map V.int)) (bC:(∀x∈xs,0<=x/\x<ys.length)) (cD:xs.length<=60) (dC:∀(l:Addr) (H':Hp),H l=none->ai H H'->bJ H' l (bw ys xs)->Q (.ref l) H'):Oc K vs H Q
def QI(K:PySem.W.Frag):Sp:=λvs H Q _=>Oc K vs H Q
theorem ZcE(h:Paired Bd ds [a,b]):∃v w,ds=[v,w]/\Bd v a/\Bd w b:=by
 cases h with|cons h1 h=>cases h with|cons h2 h=>
  cases h;exact⟨_,_,rfl,h1,h2⟩
section
theorem KU:aP ["_law_cell_here","_law_size","_law_drawn"] ["_law_cell_here","_law_size"] (aG Ei):=.aV
theorem YO(F:aM K "_law_row" "_law_row" Ei f fd)(ny:HasFn P w K mg base 1 "_law_draws" ["_law_cell_here","_law_parts"] (zg K))(DZ:HasFn P w K mg base 1 "_law_turn" ["_law_code","_law_size"] OX)(bl:Bl mg):
  aE P w K mg base aL 2 f fd ["_law_cell_here","_law_size"] QH:=by
 refine F.o KU λaA A outer s H vs Q E hr h=>?_;obtain⟨c,n,rfl,n0,n60,q⟩:=h;refine⟨_,(aj (gc (i:=2) KU.nd rfl (Or.inr rfl) (aU ny hr (aa (pv 0) (aa (we (aa aN (aa aN ag))) ag)))) (aj (aS (bp bZ (aY (iL K) (pv 2) aN) aN) (aq (aI (eN (tD) rfl bl.mD mn (aa (ji (x:="_law_at") (fr:=[("_law_size",1),("_law_drawn",2)]) (cl:=[("_law_size",s.heap.objs.size+1),("_law_drawn",s.heap.objs.size+1+1)]) rfl (.g_ ⟨rfl,⟨rfl,trivial⟩⟩ ⟨⟨rfl,.inl rfl,.inl rfl,rfl⟩,⟨⟨rfl,.inl rfl,.inl rfl,rfl⟩,trivial⟩⟩) (pj rfl bl.jI (aa (pv 1) ag)) (λ_ _ _ _=>mw) (λ_ _ _ _=>(aZ dU (aZ ig (pv 0) (aY (iL K) (pv 2) aN)) (pv 1)))) ag)))) aW) (aq (aI (aU DZ hr (aa (aY (iL K) (pv 2) aN) (aa (pv 1) ag))))))),?_⟩;refine⟨_,rfl,by show 2<=sizeLine;decide,λp np=>?_⟩;refine⟨c,p,[3,40320],rfl,ak.of aO,by decide,by decide,λdl ds H1 nd g1 h1 bd=>?_⟩;obtain⟨d0,d1,rfl,⟨a0,a0'⟩,⟨a1,a1'⟩⟩:=ZcE bd;have g:=(bY np _).trans g1;have pos:(0:Int)<(n:Int):=by omega
 refine⟨_,rfl,dl,_,0,.int d0,rfl,rfl,ak.of h1,rfl,rfl,_,rfl,bB (λ_=>?_) (λ_=>aT ?_)⟩
 ·refine⟨_,rfl,(n:Int),rfl,by omega,by omega,λD hD=>vP (lo:=0) (n:=(n:Int).toNat) (λi zs H2=>ai H1 H2/\H2 D=some (.lst zs)/\zs=((m9 n d1).take i).map V.int) ⟨bY hD _,aO,rfl⟩ ?_ ?_⟩
  ·rintro i zs H2 hi ⟨g2,h2,e2⟩;rw[Y5] at hi;rw[AO];refine lL (c5 ⟨_,rfl,_,rfl,dl,_,1,.int d1,rfl,rfl,ak.of (g2 _ _ h1),rfl,_,_,rfl,rfl,_,rfl,_,_,rfl,rfl,pos,h2,?_,λd o qd=>?_,aO,?_⟩)
   ·rw[e2,Ya,Y9,rot_length];exact jF (by omega)
   ·rw[aJ (bT qd hD)];exact g2 d o qd
   ·have ge:(m9 n d1)[i]?=some (((i:Int)+d1) % (n:Int)):=by
     unfold m9;rw[Yg,T_ hi];rfl
    rw[e2,Y2,Eb,ge];rfl
  ·rintro zs H2 ⟨g2,h2,e2⟩;rw[Y5,Ws (by rw[rot_length];omega)] at e2;refine⟨D,_,rfl,.inl ⟨ak.of h2,λt ht=>q t (m9 n d1) _ (g.free (g2.free ht)) ((g.trans g2).trans (bY ht _)) ?_ (Zbo n0 d1)⟩⟩;show upd H2 t (.tup zs) t=_;rw[aO,e2]
 ·exact⟨_,rfl,dl,_,1,.int d1,rfl,rfl,ak.of h1,rfl,_,rfl,d1,n,rfl,n60,λt ts H2 nt g2 ht pm=>q t ts H2 (g.free nt) (g.trans g2) ht pm⟩
theorem WB:aP ["_law_first","_law_then"] ["_law_first","_law_then"] (aG Df):=.aV
theorem WC(F:aM K "_law_after" "_law_after" Df f fd)(bl:Bl mg):aE P w K mg base aL 1 f fd ["_law_first","_law_then"] (QI K):=by
 refine F.o WB λaA A outer s H vs Q E hr h=>?_;obtain⟨a,b,xs,ys,rfl,hA,hB,jx,hl,q⟩:=h;refine⟨_,(aq (aI (eN (tD) rfl bl.mD mn (aa (ji (x:="_law_one") (fr:=[("_law_then",1)]) (cl:=[("_law_then",s.heap.objs.size+1)]) rfl (.g_ ⟨rfl,trivial⟩ ⟨⟨rfl,.inl rfl,.inl rfl,rfl⟩,trivial⟩) (Ff (pv 0)) (λ_ _ _ _=>mw) (λ_ _ _ _=>(aY (iT K) (pv 1) (pv 0)))) ag)))),?_⟩;refine⟨_,rfl,a,rfl,⟨_,hA⟩,λD hD=>yX (xs:=xs.map V.int) (λi zs H3=>ai H H3/\H3 D=some (.lst zs)/\zs=((bw ys xs).take i).map V.int) ⟨bY hD _,aO,rfl⟩ (λi zs H3 _ ⟨g3,_,_⟩=>g3.jb hA) ?_ ?_⟩
 ·rintro i v zs H3 hi ⟨g3,h3,e3⟩;obtain⟨z,rfl,hz⟩:=mC hi;have dE:i<xs.length:=(Yj.mp hz).1;have bz:=jx z (Yi hz);refine lL (c5 ⟨_,rfl,_,rfl,b,_,_,_,rfl,rfl,g3.jb hB,mI bz.1 bz.2,h3,?_,λd o qd=>?_,aO,?_⟩)
  ·rw[e3,Ya,Y9,qN];exact jF (by omega)
  ·rw[aJ (bT qd hD)];exact g3 d o qd
  ·rw[e3,Y2,Eb];unfold bw;rw[Yg,hz];rfl
 ·rintro zs H3 ⟨g3,h3,e3⟩;refine⟨D,_,rfl,.inl ⟨ak.of h3,λt ht=>q t _ (g3.free ht) (g3.trans (bY ht _)) ?_⟩⟩;show upd H3 t (.tup zs) t=_;rw[aO,e3,Ya,Ws (by rw[qN];omega)]
end
inductive Od(vs:List V)(H:Hp)(Q:VK):Prop
 |mk (a:Addr) (xs:List Int) (aC:vs=[.ref a]) (aR:bJ H a xs) (a8:xs.length<64) (bC:full xs=true) (cD:∀(t:Addr) (H':Hp),H t=none->ai H H'->bJ H' t (inv xs)->Q (.ref t) H'):Od vs H Q
def F9:Sp:=λvs H Q _=>Od vs H Q
section
theorem Vo:aP ["_law_turn_here"] ["_law_turn_here"] (aG Cz):=.aV
theorem YQ(F:aM K "_law_inverse" "_law_inverse" Cz f fd)(bl:Bl mg):aE P w K mg base aL 1 f fd ["_law_turn_here"] F9:=by
 refine F.o Vo λaA A outer s H vs Q E hr h=>?_;obtain⟨a,xs,rfl,hA,lx,fx,q⟩:=h;refine⟨_,(aq (aI (eN (tD) rfl bl.mD mn (aa (ji (x:="_law_at") (fr:=[("_law_turn_here",0)]) (cl:=[("_law_turn_here",s.heap.objs.size+1)]) rfl (.g_ ⟨rfl,trivial⟩ ⟨⟨rfl,.inl rfl,.inl rfl,rfl⟩,trivial⟩) (pj rfl bl.jI (aa (dh K bl (pv 0)) ag)) (λ_ _ _ _=>mw) (λ_ _ _ _=>(JY (pv 1) (aa (pv 0) ag)))) ag)))),?_⟩;have el:(xs.map V.int).length=xs.length:=Ya _;refine⟨_,rfl,a,_,rfl,.inr (aB.of hA),_,rfl,by rw[el];omega,by rw[el];omega,λD hD=>vP (lo:=0) (n:=(((xs.map V.int).length:Nat):Int).toNat)
   (λi zs H2=>ai H H2/\H2 D=some (.lst zs)/\zs=((inv xs).take i).map V.int) ⟨bY hD _,aO,rfl⟩ ?_ ?_⟩
 ·rintro i zs H2 hi ⟨g2,h2,e2⟩;rw[Y5,el] at hi;rw[AO];have hx:=yZ (Mh fx hi);have xN:=g2 _ _ hA;refine lL (c5 ⟨_,rfl,a,xs,rfl,xN,_,rfl,(i:Int),jQ (i:Int) xs,rfl,xN,hx.1,hx.2,h2,?_,λd o qd=>?_,aO,?_⟩)
  ·rw[e2,Ya,Y9,fq];exact jF (by omega)
  ·rw[aJ (bT qd hD)];exact g2 d o qd
  ·rw[e2,Mi hi,Ys];rfl
 ·rintro zs H2 ⟨g2,h2,e2⟩;refine⟨D,_,rfl,.inl ⟨ak.of h2,λt ht=>q t _ (g2.free ht) (g2.trans (bY ht _)) ?_⟩⟩;show upd H2 t (.tup zs) t=_;rw[aO,e2,Y5,el,Ws (by rw[fq];omega)]
end
structure i6(H0 H:Hp)(ps:bH)(d:Addr)(b:Nat)(kvs:List (Key×V))(L:Nat->List (Nat×List Int)):Prop where
 dict:H d=some (.dK kvs)
 len:kvs.length<=b
 new:H0 d=none
 at_:∀x:Nat,x<ps.length->(aQ kvs (.inr (au ps x))=none/\L x=[])\/∃(a:Addr) (es:List Addr),aQ kvs (.inr (au ps x))=some (.ref a)/\H0 a=none/\H a=some (.lst (es.map V.ref))/\(L x).length<=b/\Paired (λe (p:Nat×List Int)=>∃u,H e=some (.tup [.str (au ps p.1),.ref u])/\bJ H u p.2) es (L x)
 inj:∀(x y:Nat) (a:Addr),x<ps.length->y<ps.length->aQ kvs (.inr (au ps x))=some (.ref a)->aQ kvs (.inr (au ps y))=some (.ref a)->x=y
theorem q5(nd:(ps.map (·.1)).Nodup)(hi:i<ps.length)(hj:j<ps.length)(e:au ps i=au ps j):i=j:=by
 have h1:=qY nd hi;rw[e,qY nd hj] at h1
 grind
theorem i6.same(g:ai H H')(h:i6 H0 H ps d b kvs L):i6 H0 H' ps d b kvs L:=by
 refine⟨g _ _ h.dict,h.len,h.new,λx hx=>?_,h.inj⟩;rcases h.at_ x hx with z|⟨a,es,h1,h2,h3,h4,h5⟩;·exact .inl z
 ·exact .inr ⟨a,es,h1,h2,g _ _ h3,h4,L2.Paired.bA h5 λ_ _ ⟨u,e1,e2⟩=>⟨u,g _ _ e1,g _ _ e2⟩⟩
theorem i6.app(h:i6 H0 H ps d b kvs L)(hx:x<ps.length)(hv:aQ kvs (.inr (au ps x))=some (.ref a))(ha:H a=some (.lst ys))(he:H e=some (.tup [.str (au ps y),.ref u]))(hu:bJ H u t)(br:az a H H')(qo:H' a=some (.lst (ys++[.ref e]))):i6 H0 H' ps d (b+1) kvs (rT L x (y,t)):=by
 have nt:∀{c:Addr} {xs:List V},H c=some (.tup xs)->c≠a:=λ{c xs} hc=>dM hc ha (λz=>by cases z);refine⟨br _ _ h.dict (dM h.dict ha (λz=>by cases z)),by have:=h.len;omega,h.new,λz hz=>?_,h.inj⟩;have en:∀{es:List Addr} {qs:List (Nat×List Int)},Paired (λe (p:Nat×List Int)=>∃u,H e=some (.tup [.str (au ps p.1),.ref u])/\bJ H u p.2) es qs->Paired (λe (p:Nat×List Int)=>∃u,H' e=some (.tup [.str (au ps p.1),.ref u])/\bJ H' u p.2) es qs:=λ{es qs} hp=>L2.Paired.bA hp λ_ _ ⟨u,e1,e2⟩=>⟨u,br _ _ e1 (nt e1),br _ _ e2 (nt e2)⟩;by_cases ez:z=x
 ·subst ez;rcases h.at_ z hz with⟨z1,_⟩|⟨a1,es,h1,h2,h3,h4,h5⟩;·grind
  ·obtain rfl:a1=a:=V.ref.inj (Yr (h1.symm.trans hv));rw[h3] at ha;obtain rfl:es.map V.ref=ys:=by injection ha with ha;injection ha
   refine .inr ⟨a1,es++[e],h1,h2,by rw[qo,Ys];rfl,?_,?_⟩;·unfold rT;rw[if_pos rfl,Yk];show(L z).length+1<=b+1;omega
   ·unfold rT;rw[if_pos rfl];exact jE (F:=λe (p:Nat×List Int)=>∃u,H' e=some (.tup [.str (au ps p.1),.ref u])/\bJ H' u p.2) ⟨u,br _ _ he (nt he),br _ _ (show H u=some (.tup (t.map V.int)) from hu) (nt (show H u=some (.tup (t.map V.int)) from hu))⟩ (en h5)
 ·unfold rT;rw[if_neg ez];rcases h.at_ z hz with z1|⟨a1,es,h1,h2,h3,h4,h5⟩;·exact .inl z1
  ·refine .inr ⟨a1,es,h1,h2,br _ _ h3 (λq=>ez (h.inj z x a hz hx (by rw[←q];exact h1) hv)),by omega,en h5⟩
theorem i6.neu(hb:i6 H0 Hb ps d b kvs L)(nd:(ps.map (·.1)).Nodup)(hx:x<ps.length)(g:ai Hb H)(np:Hb p=none)(Bm:H0 p=none)(hv:aQ kvs (.inr (au ps x))=none)(hp:H p=some (.lst []))(br:az d H H')(Ao:H' d=some (.dK (kvs++[(.inr (au ps x),.ref p)]))):i6 H0 H' ps d (b+1) (kvs++[(.inr (au ps x),.ref p)]) L:=by
 have h:=hb.same g;have nt:∀{c:Addr} {xs:List V},H c=some (.tup xs)->c≠d:=λ{c xs} hc=>dM hc h.dict (λz=>by cases z);have nl:∀{c:Addr} {xs:List V},H c=some (.lst xs)->c≠d:=λ{c xs} hc=>dM hc h.dict (λz=>by cases z);refine⟨Ao,by rw[Yk];have:=h.len;show kvs.length+1<=b+1;omega,h.new,λz hz=>?_,λz1 z2 a l1 l2 e1 e2=>?_⟩
 ·rw[tT hv];by_cases ez:z=x
  ·rw[if_pos (by rw[ez])];rcases h.at_ z hz with⟨_,z2⟩|⟨a1,es,h1,_⟩;·exact .inr ⟨p,[],rfl,Bm,br _ _ hp (nl hp),by rw[z2];exact Yx _,by rw[z2];exact .nil⟩
   ·rw[ez,hv] at h1;cases h1
  ·rw[if_neg (λq=>ez (q5 nd hz hx (Wf q)))];rcases h.at_ z hz with z1|⟨a1,es,h1,h2,h3,h4,h5⟩;·exact .inl z1
   ·exact .inr ⟨a1,es,h1,h2,br _ _ h3 (nl h3),by omega,L2.Paired.bA h5 λ_ _ ⟨u,e1,e2⟩=>⟨u,br _ _ e1 (nt e1),br _ _ e2 (nt e2)⟩⟩
 ·have old:∀{z:Nat},z<ps.length->aQ kvs (.inr (au ps z))=some (.ref p)->False:=λ{z} hz e=>by
   rcases hb.at_ z hz with⟨z1,_⟩|⟨a1,es,h1,h2,h3,_⟩;·rw[z1] at e;cases e
   ·rw[e] at h1;obtain rfl:p=a1:=V.ref.inj (Yr h1);rw[np] at h3;cases h3
  rw[tT hv] at e1 e2;by_cases q1:z1=x
  ·by_cases q2:z2=x;·rw[q1,q2]
   ·rw[if_pos (by rw[q1])] at e1;rw[if_neg (λq=>q2 (q5 nd l2 hx (Wf q))),←e1] at e2;exact absurd e2 (old l2)
  ·rw[if_neg (λq=>q1 (q5 nd l1 hx (Wf q)))] at e1;by_cases q2:z2=x
   ·rw[if_pos (by rw[q2])] at e2;rw[←e2] at e1;exact absurd e1 (old l1)
   ·rw[if_neg (λq=>q2 (q5 nd l2 hx (Wf q)))] at e2;exact h.inj _ _ a l1 l2 e1 e2
theorem LN(h2:∀H Q,Q (.ref d) H->fD 2 σ H Q)(nd:(ps.map (·.1)).Nodup)(Bn:x<ps.length)(hi:∀H Q,Q (.str (au ps x)) H->fD i σ H Q)(hk:∀H Q,Q (.str (au ps y)) H->fD k σ H Q)(h:i6 H0 H ps d b kvs L)(g:ai H0 H)(lb:b<1000)
  (hx:∀(H1:Hp) (Q1:VK),ai H0 H1->(∀(u:Addr) (H2:Hp),ai H1 H2->bJ H2 u t->Q1 (.ref u) H2)->tx σ H1 Q1)(q:∀(v:V) (Zf9:List (Key×V)) (H':Hp),ai H0 H'->i6 H0 H' ps d (b+2) Zf9 (rT L x (y,t))->Q v H'):xv K "list" L9 (Ez (fD 2) (fD i) (Qu iZ)) (gf (wI (gf (fD k) (gf tx iZ))) iZ) σ H Q:=by
 have sz:(10000:Nat)<=sizeLine:=by rw[sizeLine_eq];omega
 have ln:=h.len;unfold xv Ez;refine h2 _ _ ⟨d,rfl,.inl ⟨_,.inl h.dict⟩,hi _ _ ⟨by show 0<=sizeLine;exact Yx _,λp H1 np g1 hp=>⟨kvs,.inr (au ps x),g1 _ _ h.dict,rfl,by omega,λv hv=>?_,λhv H2 b2 e2=>?_⟩⟩⟩
 ·rcases h.at_ x Bn with⟨z1,_⟩|⟨a,es,h3,h4,h5,h6,h7⟩;·grind
  obtain rfl:v=.ref a:=Yr (hv.symm.trans h3);have pl:=c9 h7;refine⟨.inl ⟨rfl,_,ak.of (g1 _ _ h5)⟩,?_⟩;unfold gf wI;refine hk _ _ (hx _ _ (g.trans g1) λu H2 g2 hu=>⟨by show 2<=sizeLine;omega,λe H3 ne g3 he=>?_⟩);have eY:=(g1.trans g2).trans g3;refine⟨a,_,_,rfl,rfl,eY _ _ h5,by rw[Ya];omega,λH4 b4 e4=>?_⟩;have nn:=(h.same eY).app Bn h3 (eY _ _ h5) he (g3 _ _ hu) b4 e4;exact q _ _ H4 (λc o e=>b4 _ _ (eY _ _ (g _ _ e)) (bT e h4)) ⟨nn.dict,by have:=nn.len;omega,nn.new,λz hz=>by
   rcases nn.at_ z hz with w|⟨a,es,w1,w2,w3,w4,w5⟩;·exact .inl w
   ·exact .inr ⟨a,es,w1,w2,w3,by omega,w5⟩,nn.inj⟩
 ·have Bm:=g.free np;have dD:=b2 _ _ hp (dM hp (g1 _ _ h.dict) (λz=>by cases z));have gg:ai H0 H2:=λc o e=>b2 _ _ (g1 _ _ (g _ _ e)) (bT e h.new);refine⟨.inl ⟨rfl,_,ak.of dD⟩,?_⟩;unfold gf wI;refine hk _ _ (hx _ _ gg λu H3 g3 hu=>⟨by show 2<=sizeLine;omega,λe H4 ne g4 he=>?_⟩);have Bo:=g3.trans g4;refine⟨p,_,_,rfl,rfl,Bo _ _ dD,by show 0<sizeLine;omega,λH5 b5 e5=>?_⟩;have vx:aQ (kvs++[(Sum.inr (au ps x),V.ref p)]) (.inr (au ps x))=some (.ref p):=by rw[tT hv,if_pos rfl]
  exact q _ _ H5 (λc o e=>b5 _ _ (Bo _ _ (gg _ _ e)) (bT e Bm)) (((h.neu nd Bn g1 np Bm hv hp b2 e2).same Bo).app Bn vx (Bo _ _ dD) he (g4 _ _ hu) b5 e5)
def IF(H:Hp)(ps:bH)(a:Addr)(c:Fc):Prop:=∃z:Int,H a=some (.tup [.int z,.str c.k,.str (au ps c.one),kV (a_ ps c)])
def FL(H:Hp)(ps:bH)(fa:Addr)(F:List Fc):Prop:=∃as:List Addr,H fa=some (.lst (as.map V.ref))/\Paired (IF H ps) as F
abbrev uk(m f w s:Addr):List (Key×V):=[(.inr "mother",.ref m),(.inr "father",.ref f),(.inr "wed",.ref w),(.inr "sibling",.ref s)]
def fX(H:Hp)(td:Addr)(xs ys:List Int):Prop:=∃m f w s:Addr,H td=some (.dK (uk m f w s))/\bJ H m (inv xs)/\bJ H f (inv (bw xs ys))/\bJ H w ys/\bJ H s (bc xs.length)
theorem FL.same(g:ai H H')(h:FL H ps fa F):FL H' ps fa F:=by
 obtain⟨as,h1,h2⟩:=h;exact⟨as,g _ _ h1,L2.Paired.bA h2 λ_ _ ⟨z,e⟩=>⟨z,g _ _ e⟩⟩
theorem fX.same(g:ai H H')(h:fX H td xs ys):fX H' td xs ys:=by
 obtain⟨m,f,w,s,h1,h2,h3,h4,h5⟩:=h;exact⟨m,f,w,s,g _ _ h1,g _ _ h2,g _ _ h3,g _ _ h4,g _ _ h5⟩
theorem fX.get(h:fX H td xs ys)(m:(k,tn)∈pU xs ys):∃kvs u,H td=some (.dK kvs)/\aQ kvs (.inr k)=some (.ref u)/\bJ H u tn:=by
 obtain⟨a,b,c,d,h1,h2,h3,h4,h5⟩:=h;simp only[Yo,Y3,or_false] at m;rcases m with⟨rfl,rfl⟩|⟨rfl,rfl⟩|⟨rfl,rfl⟩|⟨rfl,rfl⟩;·exact⟨_,a,h1,rfl,h2⟩
 ·exact⟨_,b,h1,rfl,h3⟩
 ·exact⟨_,c,h1,rfl,h4⟩
 ·exact⟨_,d,h1,rfl,h5⟩
inductive Oe(vs:List V)(H:Hp)(Q:VK):Prop
 |mk (fa td:Addr) (ps:bH) (xs ys:List Int) (F:List Fc) (aC:vs=[.ref fa,.ref td]) (aR:FL H ps fa F) (ht:fX H td xs ys) (nd:(ps.map (·.1)).Nodup) (a8:∀c∈F,eB xs ys ps.length c) (bC:xs.length<=8) (cD:F.length<=64) (dC:∀(d:Addr) (kvs:List (Key×V)) (L:Nat->List (Nat×List Int)) (H':Hp),ai H H'->i6 H H' ps d 300 kvs L->(∀x y t,(y,t)∈L x↔fE F x y t)->Q (.ref d) H'):Oe vs H Q
def PQ:Sp:=λvs H Q _=>Oe vs H Q
section
theorem tN:aP ["_law_facts","_law_turns_here","_law_found","_law_number","_law_kind","_law_one","_law_other"] ["_law_facts","_law_turns_here"] (aG DL):=.aV
theorem ZcF(F:aM K "_law_nets" "_law_nets" DL f fd)(qJ:HasFn P w K mg base 1 "_law_inverse" ["_law_turn_here"] F9)(bl:Bl mg):aE P w K mg base aL 2 f fd ["_law_facts","_law_turns_here"] PQ:=by
 refine F.o tN λaA A outer s H vs Q E hr h=>?_;obtain⟨fa,td,ps,xs,ys,F,rfl,ke,ht,kh,fgA,n8,Bp,q⟩:=h;refine⟨_,(aj (bW 2 tN.nd qR) (aj (gP PassesOwn.never rfl (fZ (K:=K) rfl (pv 0)) (jj (K:=K) (n:=4) rfl rfl (bR (bF 3 tN.nd) (bR (bF 4 tN.nd) (bR (bF 5 tN.nd) (bR (bF 6 tN.nd) jh))))) (aq (aS (bp lE (pv 4) a9) (aj (bU (mJ (K:=K) rfl (jL plainAttrs_list PySem.F.slot_list_append PySem.F.type_list_append nE (KA (pv 2) (pv 5) (dt ag) ⟨rfl,rfl,rfl,rfl⟩) (aa (dm (aa (pv 6) (aa (df (bj hr) (pv 1) (pv 4) (λ_ _=>rfl)) ag))) ag)))) (aq (bU (mJ (K:=K) rfl (jL plainAttrs_list PySem.F.slot_list_append PySem.F.type_list_append nE (KA (pv 2) (pv 6) (dt ag) ⟨rfl,rfl,rfl,rfl⟩) (aa (dm (aa (pv 5) (aa (aU qJ hr (aa (df (bj hr) (pv 1) (pv 4) (λ_ _=>rfl)) ag)) ag))) ag)))))) aW))) (aq (aI (pv 2))))),?_⟩;refine cq ?_;refine λd H1 nd g1 hd=>?_;obtain⟨as,c8,dQ⟩:=id ke;have al:=c9 dQ;have sz:(10000:Nat)<=sizeLine:=by rw[sizeLine_eq];omega
 refine iQ (λσ H6=>∃(kvs:List (Key×V)) (L:Nat->List (Nat×List Int)) (o1 o2 o3 o4:Option V),ai H H6/\i6 H H6 ps d 300 kvs L/\(∀x y t,(y,t)∈L x↔fE F x y t)/\σ=[some (.ref fa),some (.ref td),some (.ref d),o1,o2,o3,o4]) (λoO fU=>?_) ?_
 ·refine⟨_,rfl,fa,rfl,⟨_,ak.of (g1 _ _ c8)⟩,kA (K:=K) (a:=fa) (xs:=as.map V.ref) (λj σ H6=>∃(kvs:List (Key×V)) (L:Nat->List (Nat×List Int)) (o1 o2 o3 o4:Option V),ai H H6/\i6 H H6 ps d (4*j) kvs L/\(∀x y t,(y,t)∈L x↔fE (F.take j) x y t)/\σ=[some (.ref fa),some (.ref td),some (.ref d),o1,o2,o3,o4])
   ⟨[],λ_=>[],none,none,none,none,g1,⟨hd,Yd _,nd,λx _=>.inl ⟨rfl,rfl⟩,λ_ _ _ _ _ e=>(nomatch e)⟩,λx y t=>⟨λz=>(nomatch z),λz=>absurd z Zbb⟩,rfl⟩
   (λj σ H6 _ ⟨_,_,_,_,_,_,g,_⟩=>ak.of (g _ _ c8)) ?_ ?_⟩
  ·rintro j v σ H6 hj ⟨kvs,L,o1,o2,o3,o4,g,ne,ed,rfl⟩;rw[Yg] at hj;obtain⟨c0,ec,rfl⟩:∃c0,as[j]?=some c0/\V.ref c0=v:=by
    cases e:as[j]? with
    |none=>rw[e] at hj;cases hj
    |some c=>rw[e] at hj;exact⟨c,rfl,Yr hj⟩
   obtain⟨c,iJ,z,hc⟩:=fY dQ ec;have mc:=Yi iJ;have fg:=fgA c mc;have ok:=fg.ok;have jl:j<F.length:=(Yj.mp iJ).1;have qA:F.take (j+1)=F.take j++[c]:=by rw[Y2,iJ];rfl
   refine⟨c0,_,rfl,aB.of (g _ _ hc),rfl,_,_,rfl,bo ⟨_,_,rfl,bo ⟨_,_,rfl,bo ⟨_,_,rfl,bo ⟨rfl,?_⟩⟩⟩⟩⟩;have ev:∀b:Bool,decide (V.str c.k=V.str bq)=b->(b=true↔c.k=bq):=λb e=>by
    rw[←e,decide_eq_true_iff];exact⟨V.str.inj,λz=>by rw[z]⟩
   refine⟨_,rfl,rfl,_,rfl,?_⟩;refine bB (λcc=>?_) (λcc=>aT ?_)
   ·have ns:c.k≠bq:=λz=>by
     rw[(ev _ rfl).mpr z] at cc;cases cc
    obtain⟨tk,u,eF,vu,hu⟩:=ht.get (fg.uv ns);obtain⟨⟨o0,om⟩,ft,tl⟩:=ok.gG ns;have eo:kV (a_ ps c)=.str (au ps c.aH.toNat):=by rw[iP ns];rfl
    refine LN (ps:=ps) (x:=c.one) (y:=c.aH.toNat) (t:=c.tn) (λ_ _ h=>⟨_,rfl,h⟩) kh ok.one (λ_ _ h=>⟨_,rfl,h⟩) (λ_ _ h=>⟨_,rfl,by rw[eo];exact h⟩) ne g (by omega) (λH2 Q2 g2 k2=>⟨_,rfl,_,rfl,td,.ref u,rfl,cU (g2 _ _ eF) vu,k2 u H2 (ai.refl _) (g2 _ _ hu)⟩) λv2 ZhI H2 g2 n2=>?_;refine LN (ps:=ps) (x:=c.aH.toNat) (y:=c.one) (t:=inv c.tn) (λ_ _ h=>⟨_,rfl,h⟩) kh om (λ_ _ h=>⟨_,rfl,by rw[eo];exact h⟩) (λ_ _ h=>⟨_,rfl,h⟩) n2 g2 (by omega) (λH3 Q3 g3 k3=>⟨_,rfl,_,rfl,td,.ref u,rfl,cU (g3 _ _ eF) vu,u,c.tn,rfl,g3 _ _ hu,by omega,ft,λw H4 _ g4 hw=>k3 w H4 g4 hw⟩) λv3 Zf_ H3 g3 n3=>?_;refine⟨Zf_,_,_,_,_,_,g3,n3,λx y t=>?_,rfl⟩;rw[qA,pC,Mv,Mv,ed]
    grind
   ·have sd:c.k=bq:=by
     by_cases z:c.k=bq;·exact z
     ·cases e:decide (V.str c.k=V.str bq) with
      |true=>exact absurd ((ev _ e).mp rfl) z
      |false=>rw[e] at cc;exact absurd rfl cc
    refine⟨kvs,L,_,_,_,_,g,⟨ne.dict,by have:=ne.len;omega,ne.new,λz hz=>?_,ne.inj⟩,λx y t=>?_,rfl⟩
    ·rcases ne.at_ z hz with w|⟨a,es,w1,w2,w3,w4,w5⟩;·exact .inl w
     ·exact .inr ⟨a,es,w1,w2,w3,by omega,w5⟩
    ·rw[qA,pC,ed];exact⟨.inl,λh=>h.elim id λz=>absurd sd z.1⟩
  ·rintro σ H6 ⟨kvs,L,o1,o2,o3,o4,g,ne,ed,rfl⟩;rw[Ya,al] at ne;rw[Ya,al,We] at ed;refine fU _ _ ⟨kvs,L,o1,o2,o3,o4,g,⟨ne.dict,by have:=ne.len;omega,ne.new,λz hz=>?_,ne.inj⟩,ed,rfl⟩;rcases ne.at_ z hz with w|⟨a,es,w1,w2,w3,w4,w5⟩;·exact .inl w
   ·exact .inr ⟨a,es,w1,w2,w3,by omega,w5⟩
 rintro σ H6 ⟨kvs,L,o1,o2,o3,o4,g,ne,ed,rfl⟩;exact⟨_,rfl,q d kvs L H6 g ne ed⟩
end
theorem PR{t:List Int}{z:Int}(h0:0<=z)(h:z<t.length):dJ (t.map V.int) z=some (.int (ap t z)):=mI h0 h
def gN(ps:bH)(g:List (Nat×Int)):List (Key×V):=g.map λp=>(.inr (au ps p.1),.int p.2)
def oS(ps:bH)(g:List (Nat×Int)):List V:=g.map λp=>.str (au ps p.1)
theorem Zed(ps:bH)(g:List (Nat×Int)):(gN ps g).length=g.length:=Ya _
theorem Of(ps:bH)(g:List (Nat×Int)):(oS ps g).length=g.length:=Ya _
theorem pS(nd:(ps.map (·.1)).Nodup)(hk:k<ps.length):∀{g:List (Nat×Int)},(∀p∈g,p.1<ps.length)->aQ (gN ps g) (.inr (au ps k))=(g.lookup k).map V.int
 |[],_=>rfl
 |p::g,lt=>by
  have e0:gN ps (p::g)=(Sum.inr (au ps p.1),V.int p.2)::gN ps g:=rfl;rw[e0,Wz];by_cases e:k=p.1
  ·rw[beq_iff_eq.mpr e,fw (p:=((Sum.inr (au ps p.1):Key),V.int p.2)) (by rw[e])];rfl
  ·rw[beq_eq_false_iff_ne.mpr e,eS (p:=((Sum.inr (au ps p.1):Key),V.int p.2)) (λz=>e (q5 nd hk (lt p Yl) (Wf (show(Sum.inr (au ps p.1):Key)=Sum.inr (au ps k) from z)).symm))];exact pS nd hk λq hq=>lt q (Yw _ hq)
theorem ZcG{ps:bH}{g:List (Nat×Int)}{r k:Nat}{v:Int}(h:g[r]?=some (k,v)):dJ (oS ps g) (r:Int)=some (.str (au ps k)):=ic (by unfold oS;rw[Yg,h];rfl)
def vh(ps:bH)(d fa fn bg:Addr)(x:Nat)(a:Int)(r:Nat)(o7 o8 o9 fL qB qC qD:Option V):St:=[some (.ref d),some (.ref fa),some (.str (au ps x)),some (.int a),some (.ref fn),some (.ref bg),some (.int (r:Int)),o7,o8,o9,fL,qB,qC,qD]
def muC(m:Nat):St->Hp->Nat:=λσ _=>match List.getD (α:=Option V) σ 6 none with|some (V.int z)=>m+1-z.toNat|_=>0
inductive QJ(H:Hp)(F:List Fc)(L:Nat->List (Nat×List Int))(n:Nat)(ps:bH)(d fa fn bg:Addr)(x:Nat)(a:Int)(σ:St)(H6:Hp):Prop
 |mk (g:List (Nat×Int)) (r:Nat) (o7 o8 o9:Option V) (aC:ai H H6) (aR:H6 fn=some (.dK (gN ps g))) (a8:H6 bg=some (.lst (oS ps g))) (bC:BF F n ps.length x a g) (cD:r<=g.length) (dC:(∀r',r'<r->Cl L g r')) (fR:σ=vh ps d fa fn bg x a r o7 o8 o9 none none none none):QJ H F L n ps d fa fn bg x a σ H6
def Zga(H:Hp)(F:List Fc)(L:Nat->List (Nat×List Int))(n:Nat)(ps:bH)(d fa fn bg:Addr)(x:Nat)(a:Int)(σ:St)(H6:Hp):Prop:=QJ H F L n ps d fa fn bg x a σ H6
inductive QK(H:Hp)(F:List Fc)(L:Nat->List (Nat×List Int))(n:Nat)(ps:bH)(d fa fn bg:Addr)(x:Nat)(a:Int)(σ:St)(H6:Hp):Prop
 |mk (g:List (Nat×Int)) (r:Nat) (o7 o8 o9:Option V) (aC:ai H H6) (aR:H6 fn=some (.dK (gN ps g))) (a8:BF F n ps.length x a g) (bC:(∀r',r'<g.length->Cl L g r')) (cD:σ=vh ps d fa fn bg x a r o7 o8 o9 none none none none):QK H F L n ps d fa fn bg x a σ H6
def Zgb(H:Hp)(F:List Fc)(L:Nat->List (Nat×List Int))(n:Nat)(ps:bH)(d fa fn bg:Addr)(x:Nat)(a:Int)(σ:St)(H6:Hp):Prop:=QK H F L n ps d fa fn bg x a σ H6
inductive RI(H:Hp)(F:List Fc)(L:Nat->List (Nat×List Int))(n:Nat)(ps:bH)(d fa fn bg:Addr)(x:Nat)(a:Int)(r k:Nat)(v:Int)(g:List (Nat×Int))(al:Addr)(es:List Addr)(j:Nat)(σ:St)(H8:Hp):Prop
 |mk (g' tl:List (Nat×Int)) (o8 o9:Option V) (aC:ai H H8) (aR:H8 al=some (.lst (es.map V.ref))) (a8:H8 fn=some (.dK (gN ps g'))) (bC:H8 bg=some (.lst (oS ps g'))) (cD:BF F n ps.length x a g') (dC:g'=g++tl) (fR:(∀q∈(L k).take j,g'.lookup q.1=some (ap q.2 v))) (jd:σ=vh ps d fa fn bg x a r (some (.str (au ps k))) o8 o9 none none none none):RI H F L n ps d fa fn bg x a r k v g al es j σ H8
def CIn(H:Hp)(F:List Fc)(L:Nat->List (Nat×List Int))(n:Nat)(ps:bH)(d fa fn bg:Addr)(x:Nat)(a:Int)(r k:Nat)(v:Int)(g:List (Nat×Int))(al:Addr)(es:List Addr)(j:Nat)(σ:St)(H8:Hp):Prop:=RI H F L n ps d fa fn bg x a r k v g al es j σ H8
inductive QL(H:Hp)(F:List Fc)(L:Nat->List (Nat×List Int))(n:Nat)(ps:bH)(d fa fn bg:Addr)(x:Nat)(a:Int)(r k:Nat)(v:Int)(g:List (Nat×Int))(σ:St)(H8:Hp):Prop
 |mk (g' tl:List (Nat×Int)) (o8 o9:Option V) (aC:ai H H8) (aR:H8 fn=some (.dK (gN ps g'))) (a8:H8 bg=some (.lst (oS ps g'))) (bC:BF F n ps.length x a g') (cD:g'=g++tl) (dC:(∀q∈L k,g'.lookup q.1=some (ap q.2 v))) (fR:σ=vh ps d fa fn bg x a r (some (.str (au ps k))) o8 o9 none none none none):QL H F L n ps d fa fn bg x a r k v g σ H8
def Zgc(H:Hp)(F:List Fc)(L:Nat->List (Nat×List Int))(n:Nat)(ps:bH)(d fa fn bg:Addr)(x:Nat)(a:Int)(r k:Nat)(v:Int)(g:List (Nat×Int))(σ:St)(H8:Hp):Prop:=QL H F L n ps d fa fn bg x a r k v g σ H8
inductive QM(H:Hp)(F:List Fc)(n:Nat)(ps:bH)(d fa fn bg:Addr)(x:Nat)(a:Int)(r k y:Nat)(u:Addr)(g':List (Nat×Int))(al:Addr)(es:List Addr)(σ:St)(H9:Hp):Prop
 |mk (qE IG:List (Nat×Int)) (v':Int) (aC:ai H H9) (aR:H9 al=some (.lst (es.map V.ref))) (a8:H9 fn=some (.dK (gN ps qE))) (bC:H9 bg=some (.lst (oS ps qE))) (cD:BF F n ps.length x a qE) (dC:qE=g'++IG) (fR:qE.lookup y=some v') (jd:σ=vh ps d fa fn bg x a r (some (.str (au ps k))) (some (.str (au ps y))) (some (.ref u)) none none none none):QM H F n ps d fa fn bg x a r k y u g' al es σ H9
def Zgd(H:Hp)(F:List Fc)(n:Nat)(ps:bH)(d fa fn bg:Addr)(x:Nat)(a:Int)(r k y:Nat)(u:Addr)(g':List (Nat×Int))(al:Addr)(es:List Addr)(σ:St)(H9:Hp):Prop:=QM H F n ps d fa fn bg x a r k y u g' al es σ H9
def QN(ps:bH)(F:List Fc)(H6:Hp)(d fa fn bg:Addr)(x:Nat)(a:Int)(r:Nat)(g:List (Nat×Int))(o7 o8 o9:Option V)(σ:St)(H8:Hp):Prop:=H8=H6/\(∀c∈F,c.k=bq->∀u,g.lookup c.one=some u->u=c.aH)/\∃fL qB qC qD:Option V,σ=vh ps d fa fn bg x a r o7 o8 o9 fL qB qC qD
inductive KW(vs:List V)(H:Hp)(Q:VK):Prop
 |mk (H0:Hp) (d fa:Addr) (kvs:List (Key×V)) (L:Nat->List (Nat×List Int)) (n:Nat) (ps:bH) (F:List Fc) (x:Nat) (a:Int) (aC:vs=[.ref d,.ref fa,.str (au ps x),.int a]) (nd:(ps.map (·.1)).Nodup) (aR:i6 H0 H ps d 300 kvs L) (a8:(∀x y t,(y,t)∈L x↔fE F x y t)) (bC:FL H ps fa F) (cD:(∀c∈F,dG n ps.length c)) (dC:n<=8) (fR:ps.length<=100) (jd:F.length<=64) (qj:x<ps.length) (xB:(0<=a/\a<(n:Int))) (Gz:((¬∃g,jn n F g/\g x=some a)->∀H',ai H H'->Q .ay H')) (Rp:∀(p:Addr) (g:List (Nat×Int)) (H':Hp),ai H H'->H' p=some (.dK (gN ps g))->BF F n ps.length x a g->jn n F (λk=>g.lookup k)->Q (.ref p) H'):KW vs H Q
def LO:Sp:=λvs H Q _=>KW vs H Q
section
theorem ku:aP ["_law_nets_here","_law_facts","_law_name_here","_law_section","_law_found","_law_row_here","_law_at","_law_here","_law_that","_law_turn_here","_law_number","_law_kind","_law_one","_law_said"] ["_law_nets_here","_law_facts","_law_name_here","_law_section"] (aG CA):=.aV
theorem YR(F:aM K "_law_carried" "_law_carried" CA f fd)(bl:Bl mg):aE P w K mg base aL 1 f fd ["_law_nets_here","_law_facts","_law_name_here","_law_section"] LO:=by
 refine F.o ku λaA A outer s H vs Q E hr h=>?_;obtain⟨H0,d,fa,kvs,L,n,ps,F,x,a,rfl,kh,Ak,ed,ke,hU,n8,RJ,Bp,hx,Zge,q1,q2⟩:=h;refine⟨_,(aj (bW 4 ku.nd (zm (jG (pv 2) (pv 3) zk) rfl rfl (λz=>nomatch z) (Jk rfl))) (aj (bW 5 ku.nd (dt (aa (pv 2) ag))) (aj (bW 6 ku.nd aN) (aj (Eu PassesOwn.never (bp mO (pv 6) (dh K bl (pv 5))) (aj (bW 7 ku.nd (aY (iL K) (pv 5) (pv 6))) (aj (gP PassesOwn.never rfl (fZ (K:=K) rfl (ZaF (bj hr) (pv 0) (pv 7) (dt ag) ⟨rfl,rfl,rfl,rfl⟩)) (jj (K:=K) (n:=2) rfl rfl (bR (bF 8 ku.nd) (bR (bF 9 ku.nd) jh))) (aj (aS (jK (mf (bj hr) (pv 8) (pv 4)) (by with_unfolding_all rfl)) (aj (nJ (bj hr) (pv 4) (pv 8) (aY (iT K) (pv 9) (df (bj hr) (pv 4) (pv 7) (λ_ _=>rfl)))) (aq (bU (mJ (K:=K) rfl (jL plainAttrs_list PySem.F.slot_list_append PySem.F.type_list_append nE (pv 5) (aa (pv 8) ag)))))) aW) (aq (aS (bp lE (df (bj hr) (pv 4) (pv 8) (λ_ _=>rfl)) (aY (iT K) (pv 9) (df (bj hr) (pv 4) (pv 7) (λ_ _=>rfl)))) (aq (aI lC)) aW)))) (aq (OB (i:=6) ku.nd rfl (Or.inl rfl) aN OC))))) (aj (gP PassesOwn.never rfl (fZ (K:=K) rfl (pv 1)) (jj (K:=K) (n:=4) rfl rfl (bR (bF 10 ku.nd) (bR (bF 11 ku.nd) (bR (bF 12 ku.nd) (bR (bF 13 ku.nd) jh))))) (aq (aS (PW.pt (pw_and (bp bZ (pv 11) a9) (pw_and (jK (zH (bj hr) (pv 12) (pv 4)) (by with_unfolding_all rfl)) (pw_and1 (bp lE (df (bj hr) (pv 4) (pv 12) (λ_ _=>rfl)) (pv 13)))))) (aq (aI lC)) aW))) (aq (aI (pv 4)))))))),?_⟩;refine cq ?_;refine λfn Bq=>⟨_,rfl,_,rfl,aO,[(.inr (au ps x),.int a)],rfl,(by show 1<=15;omega),?_⟩;obtain⟨H1,qy⟩:∃H1,H1=upd (upd H fn (.dK [])) fn (.dK (nS [] [(.inr (au ps x),.int a)])):=⟨_,rfl⟩;have g1:ai H H1:=λb o e=>by rw[qy,aJ (bT e Bq),aJ (bT e Bq)];exact e
 have h1:H1 fn=some (.dK (gN ps [(x,a)])):=by rw[qy,aO];rfl
 rw[←qy];refine cq ?_;refine⟨_,rfl,by show 1<=sizeLine;rw[sizeLine_eq];omega,λbg H2 yi g2 IH=>?_⟩;refine setC ?_;have RK:=g1.free yi;have fr_ne:fn≠bg:=λz=>by rw[←z,h1] at yi;cases yi
 have sz:(10000:Nat)<=sizeLine:=by rw[sizeLine_eq];omega
 have hdH:=Ak.dict;obtain⟨as,c8,dQ⟩:=id ke;have al:=c9 dQ;refine iQ (Zgb H F L n ps d fa fn bg x a) (λoO fU=>?_) ?_
 ·refine Ew (Zga H F L n ps d fa fn bg x a) (muC ps.length)
   ⟨[(x,a)],0,none,none,none,g1.trans g2,g2 _ _ h1,IH,bf0 hx Zge,Yx _,λ_ z=>absurd z (Wk _),rfl⟩ ?_ ?_
  ·rintro σ H6 ⟨g,r,o7,o8,o9,g6,sU,m_,bf,rl,cl,rfl⟩;have kl:=Of ps g;have gl:=bf.len;refine⟨_,rfl,_,rfl,bg,_,rfl,.inl (ak.of m_),_,_,rfl,rfl,_,rfl,?_⟩;rw[kl];refine bB (λc=>?_) (λc=>?_)
   ·have vq:r<g.length:=by have:=of_decide_eq_true c;omega
    obtain⟨k,v,II⟩:∃(k:Nat) (v:Int),g[r]?=some (k,v):=⟨g[r].1,g[r].2,Yc vq⟩;have Ua:(k,v)∈g:=Yi II;have lkv:g.lookup k=some v:=mem_lookup bf.nd Ua;obtain⟨km,v0,vn⟩:=bf.lt _ Ua;have Ub:=g6 _ _ hdH;refine cq ?_;refine⟨_,rfl,_,rfl,bg,_,_,_,rfl,rfl,ak.of m_,ZcG II,?_⟩;refine iQ (Zgc H F L n ps d fa fn bg x a r k v g) (λIy qu=>?_) ?_
    ·refine⟨_,rfl,d,rfl,.inl ⟨_,.inl Ub⟩,_,rfl,by show 0<=sizeLine;exact Yx _,λe0 H7 yj g7 xY=>?_⟩;have fn7:=g7 _ _ sU;have rw7:=g7 _ _ m_;have nf0:e0≠fn:=λz=>by rw[z,sU] at yj;cases yj
     have nr0:e0≠bg:=λz=>by rw[z,m_] at yj;cases yj
     obtain⟨al,es,eal,Uc,Zgf,Zgg,Ud⟩:∃(al:Addr) (es:List Addr),(aQ kvs (.inr (au ps k))).getD (.ref e0)=.ref al/\H7 al=some (.lst (es.map V.ref))/\al≠fn/\al≠bg/\Paired (λe (p:Nat×List Int)=>∃u,H e=some (.tup [.str (au ps p.1),.ref u])/\bJ H u p.2) es (L k):=by
      rcases Ak.at_ k km with⟨z1,z2⟩|⟨a1,es,w1,w2,w3,w4,w5⟩;·exact⟨e0,[],by rw[z1];rfl,xY,nf0,nr0,by rw[z2];exact .nil⟩
      ·exact⟨a1,es,by rw[w1];rfl,g7 _ _ (g6 _ _ w3),bT w3 Bq,bT w3 RK,w5⟩
     have esl:=c9 Ud;refine⟨_,cU (g7 _ _ Ub) rfl,al,eal,⟨_,ak.of Uc⟩,kA (K:=K) (a:=al) (xs:=es.map V.ref) (CIn H F L n ps d fa fn bg x a r k v g al es)
      ⟨g,[],o8,o9,g6.trans g7,Uc,fn7,rw7,bf,by rw[Wb],λq hq=>(nomatch hq),rfl⟩ (λj σ H8 _ ⟨_,_,_,_,_,h,_,_,_,_,_,_⟩=>ak.of h) ?_ ?_⟩
     ·rintro j w σ H8 hj ⟨g',tl,p8,p9,g8,GF,jA,kj,ng,eg,iM,rfl⟩;rw[Yg] at hj;obtain⟨e,ee,rfl⟩:∃e,es[j]?=some e/\V.ref e=w:=by
       cases z:es[j]? with
       |none=>rw[z] at hj;cases hj
       |some c=>rw[z] at hj;exact⟨c,rfl,Yr hj⟩
      obtain⟨⟨y,t⟩,Ue,u,he,hu⟩:=fY Ud ee;have GG:fE F k y t:=(ed _ _ _).mp (Yi Ue);obtain⟨_,ym,ft,tl8⟩:=wa hU GG;have IJ:g'.lookup k=some v:=by rw[eg];exact yB lkv
      have vb:v<(t.length:Int):=by rw[tl8];exact vn
      have gl8:=ng.len;have he8:H8 e=some (.tup [.str (au ps y),.ref u]):=g8 _ _ he;have IB:(L k).take (j+1)=(L k).take j++[(y,t)]:=by rw[Y2,Ue];rfl
      refine⟨e,_,rfl,aB.of he8,rfl,_,_,rfl,bo ⟨_,_,rfl,bo ⟨rfl,?_⟩⟩⟩;refine pO (Zgd H F n ps d fa fn bg x a r k y u g' al es) (λqt gv=>?_) ?_
      ·refine⟨_,rfl,_,rfl,fn,_,rfl,cU jA (pS kh ym λp hp=>(ng.lt p hp).1),_,rfl,?_⟩;cases ly:g'.lookup y with
       |none=>
        refine c5 ?_;refine⟨_,rfl,_,rfl,_,rfl,fn,.int v,rfl,cU jA (by rw[pS kh km λp hp=>(ng.lt p hp).1,IJ];rfl),u,_,_,_,rfl,rfl,aB.of (g8 _ _ hu),PR v0 vb,_,rfl,_,rfl,fn,_,.inr (au ps y),rfl,jA,rfl,by rw[Zed];omega,λH9 b9 e9=>?_⟩;have vn0:aQ (gN ps g') (.inr (au ps y))=none:=by rw[pS kh ym λp hp=>(ng.lt p hp).1,ly];rfl
        rw[kB _ vn0] at e9;have sV:=b9 _ _ kj (λz=>fr_ne z.symm);refine⟨_,rfl,.inl ⟨rfl,_,ak.of sV⟩,_,rfl,bg,_,_,rfl,rfl,sV,by rw[Of];omega,λoG yk oM=>?_⟩;refine gv _ _ ⟨g'++[(y,ap t v)],[(y,ap t v)],ap t v,λc o z=>yk _ _ (b9 _ _ (g8 _ _ z) (bT z Bq)) (bT z RK),yk _ _ (b9 _ _ GF Zgf) Zgg,?_,?_,ng.add hU GG IJ ly,rfl,KN ly,rfl⟩;·rw[yk _ _ e9 fr_ne,gN,gN,Ys];rfl
        ·rw[oM,oS,oS,Ys];rfl
       |some v'=>
        refine bO (aT ?_);exact gv _ _ ⟨g',[],v',g8,GF,jA,kj,ng,by rw[Wb],ly,rfl⟩
      ·rintro σ H9 ⟨qE,IG,v',g9,Zgh,m8,sV,Br,IK,lv,rfl⟩;have Ug:qE.lookup k=some v:=by rw[IK];exact yB IJ
       refine⟨_,rfl,_,rfl,fn,.int v',rfl,cU m8 (by rw[pS kh ym λp hp=>(Br.lt p hp).1,lv];rfl),_,rfl,_,rfl,_,rfl,fn,.int v,rfl,cU m8 (by rw[pS kh km λp hp=>(Br.lt p hp).1,Ug];rfl),u,_,_,_,rfl,rfl,aB.of (g9 _ _ hu),PR v0 vb,rfl,_,rfl,?_⟩;refine bB (λc=>?_) (λc=>aT ?_)
       ·refine q1 (Br.Ze0 GG Ug lv λz=>?_) H9 g9;rw[z] at c;simp at c
       ·have ev:v'=ap t v:=by
         by_cases z:v'=ap t v;·exact z
         ·exact absurd (by simp[z]) c
        refine⟨qE,tl++IG,_,_,g9,Zgh,m8,sV,Br,by rw[IK,eg,Jn],λq hq=>?_,rfl⟩;rw[IB] at hq;rcases Yv.mp hq with hq|hq;·rw[IK];exact yB (iM q hq)
        ·rw[Ym] at hq;rw[hq,lv,ev]
     ·rintro σ H8 ⟨g',tl,p8,p9,g8,GF,jA,kj,ng,eg,iM,rfl⟩;rw[Ya,esl,We] at iM;exact qu _ _ ⟨g',tl,p8,p9,g8,jA,kj,ng,eg,iM,rfl⟩
    ·rintro σ H8 ⟨g',tl,p8,p9,g8,jA,kj,ng,eg,iM,rfl⟩;have rr:r<(g++tl).length:=by rw[Yk];omega
     have ge:(g++tl)[r]?=some (k,v):=by rw[Wc vq];exact II
     have kQ:((r:Int)+1)=((r+1:Nat):Int):=by omega
     refine⟨_,rfl,_,_,rfl,rfl,?_⟩;refine⟨⟨g',r+1,some (.str (au ps k)),p8,p9,g8,jA,kj,ng,by rw[eg];exact rr,λr' h'=>?_,rfl⟩,?_⟩
     ·rw[eg];by_cases z:r'=r
      ·subst z;intro p hp qq hq;rw[ge] at hp;cases hp;rw[←eg];exact iM qq hq
      ·exact(cl r' (by omega)).app (by omega)
     ·show ps.length+1-((r:Int)+1).toNat<ps.length+1-((r:Int)).toNat;omega
   ·have re:¬((r:Int)<(g.length:Int)):=λz=>c (decide_eq_true z);exact fU _ _ ⟨g,r,o7,o8,o9,g6,sU,bf,λr' h'=>cl r' (by omega),rfl⟩
  ·rintro σ H6 Q1 Q2 mo ⟨v1,w1,v2,w2,v3,v4,w3,w4,v5,v6,w5,w6,v7,w7,h⟩;exact⟨v1,w1,v2,w2,v3,v4,w3,w4,v5,v6,w5,w6,v7,w7,mo _ _ h⟩
 rintro σ H6 ⟨g,r,o7,o8,o9,g6,sU,bf,cl,rfl⟩;refine iQ (QN ps F H6 d fa fn bg x a r g o7 o8 o9) (λoO fU=>?_) ?_
 ·refine⟨_,rfl,fa,rfl,⟨_,ak.of (g6 _ _ c8)⟩,kA (K:=K) (a:=fa) (xs:=as.map V.ref) (λj=>QN ps (F.take j) H6 d fa fn bg x a r g o7 o8 o9)
   ⟨rfl,λc hc=>(nomatch hc),none,none,none,none,rfl⟩ (λj σ H8 _ ⟨e,_⟩=>by rw[e];exact ak.of (g6 _ _ c8)) ?_ ?_⟩
  ·rintro j v σ H8 hj ⟨rfl,sd,fL,qB,qC,qD,rfl⟩;rw[Yg] at hj;obtain⟨c0,ec,rfl⟩:∃c0,as[j]?=some c0/\V.ref c0=v:=by
    cases e:as[j]? with
    |none=>rw[e] at hj;cases hj
    |some c=>rw[e] at hj;exact⟨c,rfl,Yr hj⟩
   obtain⟨c,iJ,z,hc⟩:=fY dQ ec;have mc:=Yi iJ;have qA:F.take (j+1)=F.take j++[c]:=by rw[Y2,iJ];rfl
   refine⟨c0,_,rfl,aB.of (g6 _ _ hc),rfl,_,_,rfl,bo ⟨_,_,rfl,bo ⟨_,_,rfl,bo ⟨_,_,rfl,bo ⟨rfl,?_⟩⟩⟩⟩⟩;have ev:∀b:Bool,decide (V.str c.k=V.str bq)=b->(b=true↔c.k=bq):=λb e=>by
    rw[←e,decide_eq_true_iff];exact⟨V.str.inj,λz=>by rw[z]⟩
   have vv:(c.k=bq->∀u,g.lookup c.one=some u->u=c.aH)->∃fL qB qC qD:Option V,(H8=H8/\∀c∈F.take (j+1),c.k=bq->∀u,g.lookup c.one=some u->u=c.aH)/\True:=λh=>⟨none,none,none,none,⟨rfl,λc' m'=>by
    rw[qA] at m';rcases Yv.mp m' with m'|m';·exact sd c' m'
    ·rw[Ym] at m';rw[m'];exact h⟩,trivial⟩
   refine⟨_,rfl,rfl,_,rfl,bB (λcc=>?_) (λcc=>?_)⟩
   ·have sk:=(ev _ rfl).mp cc;have eo:kV (a_ ps c)=.int c.aH:=by rw[mj sk];rfl
    refine⟨_,rfl,_,rfl,fn,_,rfl,cU sU (pS kh (hU c mc).one λp hp=>(bf.lt p hp).1),_,rfl,?_⟩;cases lk:g.lookup c.one with
    |none=>
     refine bO (bO (aT ?_));obtain⟨_,_,_,_,⟨_,h⟩,_⟩:=vv λ_ u e=>by rw[lk] at e;cases e
     exact⟨rfl,h,_,_,_,_,rfl⟩
    |some u=>
     refine c5 ?_;refine⟨_,rfl,_,rfl,fn,.int u,rfl,cU sU (by rw[pS kh (hU c mc).one λp hp=>(bf.lt p hp).1,lk];rfl),_,rfl,by rw[eo];rfl,_,rfl,bB (λc2=>?_) (λc2=>aT ?_)⟩
     ·refine q1 (bf.Zd_ mc sk lk λz=>?_) H8 g6;rw[z,eo] at c2;simp at c2
     ·have eu:u=c.aH:=by
       by_cases z:u=c.aH;·exact z
       ·exact absurd (by rw[eo];simp[z]) c2
      obtain⟨_,_,_,_,⟨_,h⟩,_⟩:=vv λ_ u' e=>by rw[lk] at e;rw[←Yr e];exact eu
      exact⟨rfl,h,_,_,_,_,rfl⟩
   ·refine bO (aT ?_);obtain⟨_,_,_,_,⟨_,h⟩,_⟩:=vv λz=>absurd ((ev _ rfl).mpr z) cc;exact⟨rfl,h,_,_,_,_,rfl⟩
  ·rintro σ H8 ⟨rfl,sd,fL,qB,qC,qD,rfl⟩;rw[Ya,al,We] at sd;exact fU _ _ ⟨rfl,sd,fL,qB,qC,qD,rfl⟩
 rintro σ H8 ⟨rfl,sd,fL,qB,qC,qD,rfl⟩;exact⟨_,rfl,q2 fn g H8 g6 sU bf (bf.done ed cl sd)⟩
end
inductive Og(vs:List V)(H:Hp)(Q:VK):Prop
 |mk (fa td:Addr) (ps:bH) (xs ys:List Int) (F:List Fc) (x:Nat) (aC:vs=[.ref fa,.ref td,.str (au ps x)]) (aR:FL H ps fa F) (ht:fX H td xs ys) (nd:(ps.map (·.1)).Nodup) (a8:∀c∈F,eB xs ys ps.length c) (bC:xs.length<=8) (cD:ps.length<=100) (dC:F.length<=64) (fR:x<ps.length) (jd:∀(p:Addr) (H':Hp),H p=none->ai H H'->H' p=some (.lst ((fN F xs.length x).map V.int))->Q (.ref p) H'):Og vs H Q
def FI:Sp:=λvs H Q _=>Og vs H Q
inductive MU(vs:List V)(H:Hp)(Q:VK):Prop
 |mk (a b:Addr) (xs ys:List Int) (aC:vs=[.ref a,.ref b]) (aR:bJ H a xs) (a8:bJ H b ys) (bC:oa xs ys) (cD:∀(p:Addr) (H':Hp),H p=none->ai H H'->fX H' p xs ys->Q (.ref p) H'):MU vs H Q
def Oh:Sp:=λvs H Q _=>MU vs H Q
section
theorem Kh:aP ["_law_facts","_law_turns_here","_law_name_here","_law_nets_here"] ["_law_facts","_law_turns_here","_law_name_here"] (aG DM):=.aV
open Classical in
theorem ZcH(F:aM K "_law_room" "_law_room" DM f fd)(D0:HasFn P w K mg base 2 "_law_nets" ["_law_facts","_law_turns_here"] PQ)(CI:HasFn P w K mg base 1 "_law_carried" ["_law_nets_here","_law_facts","_law_name_here","_law_section"] LO)(bl:Bl mg):aE P w K mg base aL 3 f fd ["_law_facts","_law_turns_here","_law_name_here"] FI:=by
 refine F.o Kh λaA A outer s H vs Q E hr h=>?_;obtain⟨fa,td,ps,xs,ys,F,x,rfl,ke,ht,kh,fg,n8,RJ,Bp,hx,q⟩:=h;refine⟨_,(aj (gc (i:=3) Kh.nd rfl (Or.inr rfl) (aU D0 hr (aa (pv 0) (aa (pv 1) ag)))) (aq (aI (ji (x:="_law_at") (fr:=[("_law_nets_here",3),("_law_name_here",2),("_law_facts",0)]) (cl:=[("_law_nets_here",s.heap.objs.size+1+1+1),("_law_name_here",s.heap.objs.size+1+1),("_law_facts",s.heap.objs.size+1)]) rfl (.g_ ⟨rfl,⟨rfl,⟨rfl,trivial⟩⟩⟩ ⟨⟨rfl,.inl rfl,.inl rfl,rfl⟩,⟨⟨rfl,.inl rfl,.inl rfl,rfl⟩,⟨⟨rfl,.inl rfl,.inl rfl,rfl⟩,trivial⟩⟩⟩) (pj rfl bl.jI (aa (dh K bl (df (bj hr) (pv 1) a9 (λ_ _=>rfl))) ag)) (λ_ _ _ _=>vZ (bp zc (FU CI hr (by omega) rfl (aa (pv 1) (aa (pv 3) (aa (pv 2) (aa (pv 0) ag))))) lC)) (λ_ _ _ _=>(pv 0)))))),?_⟩;refine cq ?_;refine⟨_,rfl,_,rfl,fa,td,ps,xs,ys,F,rfl,ke,ht,kh,fg,n8,Bp,λd kvs L H1 g1 Ak ed=>?_⟩;obtain⟨_,_,_,u0,eF,_,_,_,vw⟩:=id ht;obtain⟨n,en⟩:∃n,n=xs.length:=⟨_,rfl⟩;have hU:∀c∈F,dG n ps.length c:=λc hc=>by rw[en];exact(fg c hc).ok
 rw[←en] at vw n8 q;have ul:((bc n).map V.int).length=n:=by rw[Ya,eM]
 refine⟨_,rfl,td,.ref u0,rfl,cU (g1 _ _ eF) rfl,u0,_,rfl,.inr (aB.of (g1 _ _ vw)),?_⟩;rw[ul];refine⟨(n:Int),rfl,by omega,by omega,λD hD=>?_⟩;refine W_ (lo:=0) (by omega) hD (λi=>decide (∃g,jn n F g/\g x=some (i:Int))) (λi=>V.int (i:Int)) (λi hi H2 g2 _ Kt Kf kt kf=>?_) λH2 g2 h2=>?_
 ·rw[AO];have jx:(i:Nat)<n:=by omega
  refine⟨_,rfl,_,rfl,_,rfl,_,rfl,H,d,fa,kvs,L,n,ps,F,x,(i:Int),rfl,kh,Ak.same g2,ed,(ke.same g1).same g2,hU,n8,RJ,Bp,hx,⟨by omega,by omega⟩,λno H3 g3=>?_,λp gg H3 g3 Tf bf cl=>?_⟩
  ·refine⟨rfl,_,rfl,?_⟩;rw[decide_eq_true (show V.ay=V.ay from rfl)];exact bO (kf H3 (decide_eq_false no) g3)
  ·refine⟨rfl,_,rfl,?_⟩;rw[decide_eq_false (show ¬V.ref p=V.ay from λz=>nomatch z)];exact c5 ⟨_,rfl,kt _ H3 (decide_eq_true ⟨_,cl,bf.hd⟩) g3 rfl⟩
 ·refine q D H2 (g1.free hD) (g1.trans g2) ?_;rw[h2,Y5];have e:fN F n x=((List.range n).filter λi:Nat=>decide (∃g,jn n F g/\g x=some (i:Int))).map λi:Nat=>(i:Int):=by
   unfold fN bc;rw[Jw];rfl
  rw[e,Wg];rfl
theorem C1:aP ["_law_mother","_law_wife","_law_father","_law_alone"] ["_law_mother","_law_wife"] (aG Dg):=.aV
theorem Zbp(F:aM K "_law_turns" "_law_turns" Dg f fd)(qJ:HasFn P w K mg base 1 "_law_inverse" ["_law_turn_here"] F9)(DA:HasFn P w K mg base 1 "_law_after" ["_law_first","_law_then"] (QI K))(bl:Bl mg):aE P w K mg base aL 2 f fd ["_law_mother","_law_wife"] Oh:=by
 refine F.o C1 λaA A outer s H vs Q E hr h=>?_;obtain⟨a,b,xs,ys,rfl,ha,hb,gl,q⟩:=h;obtain⟨fx,fy,le,l2,l8⟩:=id gl;refine⟨_,(aj (bW 2 C1.nd (aU DA hr (aa (pv 1) (aa (pv 0) ag)))) (aj (bW 3 C1.nd (eN (U4 rfl) rfl bl.mD mn (aa (eN CO rfl bl.jI t6 (aa (dh K bl (pv 0)) ag)) ag))) (aq (aI (zm (jG a9 (aU qJ hr (aa (pv 0) ag)) (jG a9 (aU qJ hr (aa (pv 2) ag)) (jG a9 (pv 1) (jG a9 (pv 3) zk)))) rfl rfl (λz=>nomatch z) (Jk rfl)))))),?_⟩;refine cq ?_;have lv:∀x∈ys,0<=x/\x<(xs.length:Int):=λx hx=>by rw[le];exact pK fy hx
 refine⟨_,rfl,_,rfl,b,a,ys,xs,rfl,aB.of hb,aB.of ha,lv,by omega,λl H1 nl g1 hl=>?_⟩;refine cq ?_;have el:(xs.map V.int).length=xs.length:=Ya _;refine⟨_,rfl,a,_,rfl,.inr (aB.of (g1 _ _ ha)),_,rfl,λrg H2 nrg g2 hrg=>⟨rg,xs.length,rfl,by rw[hrg,el],by omega,λst H3 AU g3 c7=>?_⟩⟩;have eY:=g2.trans g3;intro d nd;have g4:=bY nd (.dK []);have IL:upd H3 d (.dK []) d=some (.dK []):=aO;generalize upd H3 d (.dK [])=H4 at g4 IL⊢;have Uh:=eY.trans g4;have IM:=g1.trans Uh;refine⟨_,rfl,a,xs,rfl,IM _ _ ha,by omega,fx,λim H5 nim g5 HU=>?_⟩;refine⟨_,rfl,l,bw xs ys,rfl,g5 _ _ (Uh _ _ hl),by rw[qN];omega,EE fx fy (by omega),λjf H6 njf g6 HV=>?_⟩;have yn:=g5.trans g6;refine⟨_,rfl,_,rfl,yn _ _ IL,[(.inr "mother",.ref im),(.inr "father",.ref jf),(.inr "wed",.ref b),(.inr "sibling",.ref st)],rfl,by show 4<=15;decide,?_⟩;have b7:az d H6 (upd H6 d (.dK (uk im jf b st))):=az.put (az.of (ai.refl _));have Ui:upd H6 d (.dK (uk im jf b st)) d=some (.dK (uk im jf b st)):=aO;have em:nS [] [((.inr "mother":Key),V.ref im),(.inr "father",.ref jf),(.inr "wed",.ref b),(.inr "sibling",.ref st)]=uk im jf b st:=rfl;rw[em];generalize upd H6 d (.dK (uk im jf b st))=H7 at b7 Ui⊢;have tne:∀{c:Addr} {zs:List Int},bJ H6 c zs->c≠d:=λh1 z=>by rw[bJ,z,yn _ _ IL] at h1;cases h1
 have k7:∀{c:Addr} {zs:List Int},bJ H6 c zs->bJ H7 c zs:=λh=>b7 _ _ h (tne h);refine q d H7 (g1.free (eY.free nd)) (λc o e=>b7 _ _ (yn _ _ (IM _ _ e)) (bT e (g1.free (eY.free nd)))) ⟨im,jf,b,st,Ui,k7 (g6 _ _ HU),k7 HV,k7 (yn _ _ (IM _ _ hb)),k7 (yn _ _ (g4 _ _ c7))⟩
end
theorem FL.get(h:FL H ps fa F):∃as:List Addr,H fa=some (.lst (as.map V.ref))/\as.length=F.length/\∀(H':Hp) (j:Nat) (v:V),ai H H'->(as.map V.ref)[j]?=some v->∃(c0:Addr) (c:Fc) (z:Int),v=.ref c0/\F[j]?=some c/\F.take (j+1)=F.take j++[c]/\H' c0=some (.tup [.int z,.str c.k,.str (au ps c.one),kV (a_ ps c)]):=by
 obtain⟨as,c8,dQ⟩:=h;refine⟨as,c8,c9 dQ,λH' j v g hj=>?_⟩;rw[Yg] at hj;obtain⟨c0,ec,rfl⟩:∃c0,as[j]?=some c0/\V.ref c0=v:=by
  cases e:as[j]? with
  |none=>grind
  |some c=>grind
 obtain⟨c,iJ,z,hc⟩:=fY dQ ec;exact⟨c0,c,z,rfl,iJ,by rw[Y2,iJ];rfl,g _ _ hc⟩
def lO(ps:bH)(k a:Str)(o:V)(c:Fc):Bool:=decide (c.k=k)&&((decide (au ps c.one=a)&&(decide (kV (a_ ps c)=o)||cJ k))||(decide (k="sibling")&&(decide (kV (a_ ps c)=.str a)&&decide (V.str (au ps c.one)=o))))
def oh(ps:bH)(F:List Fc)(k a:Str)(o:V):Bool:=F.any (lO ps k a o)||(decide (k="sibling")&&decide (V.str a=o))
def Bt(t:TT)(σ:St)(H:Hp)(b:Bool):Prop:=∀k:Bool->Hp->Prop,(∀H',ai H H'->k b H')->t σ H k
def Vt(t:TE)(σ:St)(H:Hp)(v:V):Prop:=∀k:VK,(∀H',ai H H'->k v H')->t σ H k
section
variable {t u:TT}{e1 e2:TE}{σ:St}{H:Hp}{a b:Bool}{x y:V}
theorem Bt.and(h1:Bt t σ H a)(h2:∀H',a=true->ai H H'->Bt u σ H' b):Bt (QX t u) σ H (a&&b):=λk hk=>h1 _ λH1 g1=>by
 cases a with
 |true=>exact c5 (h2 H1 rfl g1 _ λH2 g2=>hk H2 (g1.trans g2))
 |false=>grind
theorem Bt.or(h1:Bt t σ H a)(h2:∀H',a=false->ai H H'->Bt u σ H' b):Bt (RW t u) σ H (a||b):=λk hk=>h1 _ λH1 g1=>by
 cases a with
 |true=>grind
 |false=>exact bO (h2 H1 rfl g1 _ λH2 g2=>hk H2 (g1.trans g2))
theorem Vt.var(h:σ[i]?=some (some x)):Vt (fD i) σ H x:=λ_ hk=>⟨x,h,hk H (ai.refl _)⟩
theorem Vt.c:Vt (tC x) σ H x:=λ_ hk=>hk H (ai.refl _)
theorem Vt.test(h:Vt e1 σ H (.bl b)):Bt (FR e1) σ H b:=λk hk=>h _ λH1 g1=>⟨b,rfl,hk H1 g1⟩
theorem Vt.eq(h1:Vt e1 σ H x)(h2:∀H',ai H H'->Vt e2 σ H' y)(sc:wQ x y=true):Vt (i8 R0 e1 e2) σ H (.bl (decide (x=y))):=λk hk=>h1 _ λH1 g1=>h2 H1 g1 _ λH2 g2=>⟨sc,hk H2 (g1.trans g2)⟩
theorem Vt.ne(h1:Vt e1 σ H x)(h2:∀H',ai H H'->Vt e2 σ H' y)(sc:wQ x y=true):Vt (i8 R1 e1 e2) σ H (.bl (!decide (x=y))):=λk hk=>h1 _ λH1 g1=>h2 H1 g1 _ λH2 g2=>⟨sc,hk H2 (g1.trans g2)⟩
theorem Vt.RL(h1:Vt e1 σ H (.bl a))(h2:∀H',a=true->ai H H'->Vt e2 σ H' (.bl b)):Vt (P8 e1 e2) σ H (.bl (a&&b)):=λk hk=>h1 _ λH1 g1=>⟨a,rfl,by
 cases a with
 |true=>exact c5 (h2 H1 rfl g1 _ λH2 g2=>hk H2 (g1.trans g2))
 |false=>exact bO (hk H1 g1)⟩
theorem Vt.orV(h1:Vt e1 σ H (.bl a))(h2:∀H',a=false->ai H H'->Vt e2 σ H' (.bl b)):Vt (QY e1 e2) σ H (.bl (a||b)):=λk hk=>h1 _ λH1 g1=>⟨a,rfl,by
 cases a with
 |true=>grind
 |false=>exact bO (h2 H1 rfl g1 _ λH2 g2=>hk H2 (g1.trans g2))⟩
theorem Vt.F_(h1:Vt e1 σ H (.str k)):Vt (i8 (xu K false) e1 (wI (gf (tC (V.str "mother")) (gf (tC (V.str "father")) iZ)))) σ H (.bl (cJ k)):=λq hk=>h1 _ λH1 g1=>by
 refine⟨by show 2<=sizeLine;rw[sizeLine_eq];omega,λp H2 np g2 hp=>⟨p,_,rfl,.inr (aB.of hp),rfl,rfl,?_⟩⟩;have e:eW (V.str k) [V.str "mother",V.str "father"]=cJ k:=by
  rw[Wj];unfold eW cJ;rw[Jl,Jl,List.any_nil,Bool.or_false,IP,IP,decide_eq_true_iff,decide_eq_true_iff];show((("mother":Str)==k)=true\/(("father":Str)==k)=true)↔_
  grind
 rw[e];exact hk H2 (g1.trans g2)
end
def Flat(o:V):Prop:=(∃z,o=.int z)\/∃z,o=.str z
theorem zA(k:Key):Flat (kV k):=by
 cases k with
 |inl z=>exact .inl ⟨z,rfl⟩
 |inr z=>exact .inr ⟨z,rfl⟩
theorem yS(h1:Flat u)(h2:Flat v):wQ u v=true:=by
 rcases h1 with⟨_,rfl⟩|⟨_,rfl⟩<;>rcases h2 with⟨_,rfl⟩|⟨_,rfl⟩<;>rfl
inductive MV(vs:List V)(H:Hp)(Q:VK):Prop
 |mk (fa:Addr) (ps:bH) (F:List Fc) (k a:Str) (o:V) (aC:vs=[.ref fa,.str k,.str a,o]) (aR:FL H ps fa F) (fo:Flat o) (q:∀H',ai H H'->Q (.bl (oh ps F k a o)) H'):MV vs H Q
def Oi:Sp:=λvs H Q _=>MV vs H Q
inductive MW(vs:List V)(H:Hp)(Q:VK):Prop
 |mk (sd:Addr) (ps:bH) (k:Str) (i j:Nat) (aC:vs=[.ref sd,.str k,.str (au ps i),.str (au ps j)]) (hs:H sd=some (.dK (fV ps))) (nd:(ps.map (·.1)).Nodup) (hi:i<ps.length) (hj:j<ps.length) (hk:k="mother"\/k="father"\/k="wed"\/k="sibling") (q:∀H',ai H H'->Q (.bl (kH k (fh ps i) (fh ps j))) H'):MW vs H Q
def Oj:Sp:=λvs H Q _=>MW vs H Q
theorem MX(ok:cC xs ys b):y∈fP b a↔∃c∈b.F,cJ c.k=true/\au b.ps c.one=a/\kV (a_ b.ps c)=.str y:=by
 constructor
 ·intro h;obtain⟨v,hv,rfl⟩:=Yf.mp (show y∈(nU b a).map strOf from h);unfold nU at hv;obtain⟨k,_,e⟩:=Jh.mp hv;obtain⟨p,hp,h1,h2,h3,rfl,h5⟩:=N6 ok e;have ns:p.2.k≠bq:=λz=>by
   rw[z] at h1;exact absurd h1 (by decide+kernel)
  exact⟨p.2,Yf.mpr ⟨p,hp,rfl⟩,h1,h3,by rw[iP ns];rfl⟩
 ·rintro⟨c,hc,h1,rfl,h3⟩;obtain⟨p,hp,rfl⟩:=Yf.mp (show c∈b.fs.map (·.2) from hc);have mm:(([.inr p.2.k,.inr (au b.ps p.2.one)]:List Key),kV (a_ b.ps p.2))∈bX b.ps b.fs:=Yf.mpr ⟨p,Y4.mpr ⟨hp,h1⟩,rfl⟩;have e:=NU ok.pr mm;refine Yf.mpr ⟨.str y,?_,rfl⟩;unfold nU;refine Jh.mpr ⟨p.2.k,?_,by rw[e,h3]⟩;unfold cJ at h1;rw[IP,decide_eq_true_iff,decide_eq_true_iff] at h1;rcases h1 with z|z<;>rw[z];·exact Yl
  ·exact Yw _ Yl
structure vy(b:BS)(a:Str)(ks:List Str):Prop where
 nd:ks.Nodup
 sd:∀k∈ks,fK b a k
 ma:a∈ks
theorem vy.len(u:vy b a ks)(ok:cC xs ys b)(ma:a∈b.ps.map (·.1)):ks.length<=b.ps.length:=by
 have:=u.nd.length_le_of_subset (l₂:=b.ps.map (·.1)) λk hk=>y_ ok ma (u.sd k hk)
 grind
theorem vy.all(u:vy b a ks)(cl:∀r,r<ks.length->∀k,ks[r]?=some k->∀p∈fP b k,p∈ks)(z:Str):z∈ks↔fK b a z:=by
 refine⟨u.sd z,λh=>?_⟩;induction h with
 |refl=>exact u.ma
 |step _ hy ih=>
  obtain⟨r,hr,er⟩:=Wr.mp ih;exact cl r hr _ (by rw[Yc hr,er]) _ hy
inductive QO(vs:List V)(H:Hp)(Q:VK):Prop
 |mk (fa:Addr) (xs ys:List Int) (b:BS) (a:Str) (aC:vs=[.ref fa,.str a]) (aR:FL H b.ps fa b.F) (ok:cC xs ys b) (ma:a∈b.ps.map (·.1)) (q:∀(p:Addr) (ks:List Str) (H':Hp),ai H H'->H' p=some (.lst (ks.map V.str))->(∀z,z∈ks↔fK b a z)->Q (.ref p) H'):QO vs H Q
def RM:Sp:=λvs H Q _=>QO vs H Q
def muU(m:Nat):St->Hp->Nat:=λσ _=>match List.getD (α:=Option V) σ 3 none with|some (V.int z)=>m+1-z.toNat|_=>0
inductive Uj(H:Hp)(b:BS)(a:Str)(fa bg:Addr)(σ:St)(H6:Hp):Prop
 |mk (ks:List Str) (r:Nat) (o4 o5 o6 o7:Option V) (g:ai H H6) (hr:H6 bg=some (.lst (ks.map V.str))) (up:vy b a ks) (rl:r<=ks.length) (cl:∀r',r'<r->∀k,ks[r']?=some k->∀p∈fP b k,p∈ks) (e:σ=[some (.ref fa),some (.str a),some (.ref bg),some (.int (r:Int)),o4,o5,o6,o7]):Uj H b a fa bg σ H6
inductive IQ(H:Hp)(b:BS)(a:Str)(fa bg:Addr)(r:Nat)(qx:List Str)(k:Str)(j:Nat)(σ:St)(H6:Hp):Prop
 |mk (ks tl:List Str) (o4 o5 o6 o7:Option V) (g:ai H H6) (hr:H6 bg=some (.lst (ks.map V.str))) (up:vy b a ks) (ek:ks=qx++tl) (cl:∀c∈b.F.take j,cJ c.k=true->au b.ps c.one=k->∀y,kV (a_ b.ps c)=.str y->y∈ks) (e:σ=[some (.ref fa),some (.str a),some (.ref bg),some (.int (r:Int)),o4,o5,o6,o7]):IQ H b a fa bg r qx k j σ H6
theorem YS(h:Flat o):iU o=true:=by
 rcases h with⟨_,rfl⟩|⟨_,rfl⟩<;>rfl
theorem LP(ks:List Str):(ks.map V.str).all iU=true:=by
 rw[Wm];intro v hv;obtain⟨k,_,rfl⟩:=Yf.mp hv;rfl
theorem GH(y:Str)(ks:List Str):eW (.str y) (ks.map V.str)=true↔y∈ks:=by
 unfold eW;rw[J3];constructor
 ·rintro⟨v,hv,e⟩;obtain⟨k,hk,rfl⟩:=Yf.mp hv;have:(k==y)=true:=e
  grind
 ·intro h;exact⟨.str y,Yf.mpr ⟨y,h,rfl⟩,by show(y==y)=true;rw[beq_iff_eq]⟩
section
theorem vL:aP ["_law_facts","_law_kind","_law_one","_law_other","_law_number","_law_had","_law_here","_law_there"] ["_law_facts","_law_kind","_law_one","_law_other"] (aG DO):=.aV
theorem Xo(F:aM K "_law_told" "_law_told" DO f fd):aE P w K mg base aL 1 f fd ["_law_facts","_law_kind","_law_one","_law_other"] Oi:=by
 refine F.o vL λaA A outer s H vs Q E hr h=>?_;obtain⟨fa,ps,F,k,a,o,rfl,ke,fo,q⟩:=h;refine⟨_,(aj (gP PassesOwn.never rfl (fZ (K:=K) rfl (pv 0)) (jj (K:=K) (n:=4) rfl rfl (bR (bF 4 vL.nd) (bR (bF 5 vL.nd) (bR (bF 6 vL.nd) (bR (bF 7 vL.nd) jh))))) (aj (aS (PW.pt (pw_and (bp bZ (pv 5) (pv 1)) (pw_and (bp bZ (pv 6) (pv 2)) (pw_and1 (PW.pt (pw_or (bp bZ (pv 7) (pv 3)) (pw_or1 (ib (lV (K:=K) rfl) (pv 1) (dm (aa a9 (aa a9 ag))) (by with_unfolding_all rfl))))))))) (aq (aI iS)) aW) (aq (aS (PW.pt (pw_and (bp bZ (pv 5) (pv 1)) (pw_and (bp bZ (pv 1) a9) (pw_and (bp bZ (pv 7) (pv 2)) (pw_and1 (bp bZ (pv 6) (pv 3))))))) (aq (aI iS)) aW)))) (aq (aI (pL (eG bZ (pv 1) a9) (mH (eG bZ (pv 2) (pv 3))))))),?_⟩;obtain⟨as,c8,al,gt⟩:=ke.get;refine iQ (λσ H6=>ai H H6/\F.any (lO ps k a o)=false/\∃o4 o5 o6 o7:Option V,σ=[some (.ref fa),some (.str k),some (.str a),some o,o4,o5,o6,o7]) (λoO fU=>?_) ?_
 ·refine⟨_,rfl,fa,rfl,⟨_,ak.of c8⟩,kA (K:=K) (a:=fa) (xs:=as.map V.ref) (λj σ H6=>ai H H6/\(F.take j).any (lO ps k a o)=false/\∃o4 o5 o6 o7:Option V,σ=[some (.ref fa),some (.str k),some (.str a),some o,o4,o5,o6,o7])
   ⟨ai.refl _,rfl,none,none,none,none,rfl⟩ (λj σ H6 _ ⟨g,_⟩=>ak.of (g _ _ c8)) ?_ ?_⟩
  ·rintro j v σ H6 hj ⟨g,no,o4,o5,o6,o7,rfl⟩;obtain⟨c0,c,z,rfl,iJ,qA,hc⟩:=gt H6 j v g hj;have hit:lO ps k a o c=true->oh ps F k a o=true:=λh=>by
    unfold oh;rw[J3.mpr ⟨c,Yi iJ,h⟩];rfl
   refine⟨c0,_,rfl,aB.of hc,rfl,_,_,rfl,bo ⟨_,_,rfl,bo ⟨_,_,rfl,bo ⟨_,_,rfl,bo ⟨rfl,?_⟩⟩⟩⟩⟩;refine pO (λσ H7=>ai H H7/\(decide (c.k=k)&&(decide (au ps c.one=a)&&(decide (kV (a_ ps c)=o)||cJ k)))=false/\σ=[some (.ref fa),some (.str k),some (.str a),some o,some (.int z),some (.str c.k),some (.str (au ps c.one)),some (kV (a_ ps c))]) (λqt gv=>?_) ?_
   ·refine(Bt.and (Vt.test (Vt.eq (x:=.str c.k) (y:=.str k) (Vt.var rfl) (λ_ _=>Vt.var rfl) rfl)) λ_ _ _=>Bt.and (Vt.test (Vt.eq (x:=.str (au ps c.one)) (y:=.str a) (Vt.var rfl) (λ_ _=>Vt.var rfl) rfl)) λ_ _ _=>Bt.or (Vt.test (Vt.eq (x:=kV (a_ ps c)) (y:=o) (Vt.var rfl) (λ_ _=>Vt.var rfl) (yS (zA _) fo))) λ_ _ _=>Vt.test (Vt.F_ (k:=k) (Vt.var rfl))) _ λH7 g7=>?_;rw[dO,dO];refine bB (λcc=>?_) (λcc=>?_)
    ·have:=hit (by unfold lO;rw[Wl] at cc⊢;exact⟨cc.1,by rw[cc.2];rfl⟩);rw[this] at q;exact q H7 (g.trans g7)
    ·exact aT (gv _ _ ⟨g.trans g7,Jm.mpr cc,rfl⟩)
   ·rintro σ H7 ⟨g7,no1,rfl⟩;refine(Bt.and (Vt.test (Vt.eq (x:=.str c.k) (y:=.str k) (Vt.var rfl) (λ_ _=>Vt.var rfl) rfl)) λ_ _ _=>Bt.and (Vt.test (Vt.eq (x:=.str k) (y:=.str "sibling") (Vt.var rfl) (λ_ _=>Vt.c) rfl)) λ_ _ _=>Bt.and (Vt.test (Vt.eq (x:=kV (a_ ps c)) (y:=.str a) (Vt.var rfl) (λ_ _=>Vt.var rfl) (yS (zA _) (.inr ⟨_,rfl⟩)))) λ_ _ _=>Vt.test (Vt.eq (x:=.str (au ps c.one)) (y:=o) (Vt.var rfl) (λ_ _=>Vt.var rfl) (yS (.inr ⟨_,rfl⟩) fo))) _ λH8 g8=>?_;rw[dO,dO];refine bB (λcc=>?_) (λcc=>aT ?_)
    ·have:=hit (by unfold lO;rw[Wl] at cc⊢;exact⟨cc.1,by rw[cc.2,Bool.or_true]⟩);rw[this] at q;exact q H8 (g7.trans g8)
    ·refine⟨g7.trans g8,?_,_,_,_,_,rfl⟩;rw[qA,List.any_append,no,J9,Jl,List.any_nil,Bool.or_false];unfold lO;rw[Bool.and_or_distrib_left,no1,J9];exact Jm.mpr cc
  ·rintro σ H6 ⟨g,no,o4,o5,o6,o7,rfl⟩;rw[Ya,al,We] at no;exact fU _ _ ⟨g,no,o4,o5,o6,o7,rfl⟩
 rintro σ H6 ⟨g,no,o4,o5,o6,o7,rfl⟩;refine(Vt.RL (Vt.eq (x:=.str k) (y:=.str "sibling") (Vt.var rfl) (λ_ _=>Vt.c) rfl) λ_ _ _=>Vt.eq (x:=.str a) (y:=o) (Vt.var rfl) (λ_ _=>Vt.var rfl) (yS (.inr ⟨_,rfl⟩) fo)) _ λH7 g7=>?_;have e:=q H7 (g.trans g7);unfold oh at e;rw[no,J9] at e;rw[dO];exact e
theorem WD:aP ["_law_sides","_law_kind","_law_one","_law_other"] ["_law_sides","_law_kind","_law_one","_law_other"] (aG Dh):=.aV
theorem WE(F:aM K "_law_sided" "_law_sided" Dh f fd):aE P w K mg base aL 1 f fd ["_law_sides","_law_kind","_law_one","_law_other"] Oj:=by
 refine F.o WD λaA A outer s H vs Q E hr h=>?_;obtain⟨sd,ps,k,i,j,rfl,hs,nd,hi,hj,hk,q⟩:=h;refine⟨_,(aj (aS (bp bZ (pv 1) a9) (aq (aI (eG bZ (df (bj hr) (pv 0) (pv 3) (λ_ _=>rfl)) a9))) aW) (aj (aS (bp bZ (pv 1) a9) (aq (aI (eG bZ (df (bj hr) (pv 0) (pv 3) (λ_ _=>rfl)) a9))) aW) (aq (aI (FP (eG lE (pv 1) a9) (mH (pL (eG bZ (df (bj hr) (pv 0) (pv 2) (λ_ _=>rfl)) a9) (mH (eG bZ (df (bj hr) (pv 0) (pv 3) (λ_ _=>rfl)) a9))))))))),?_⟩;have gj:=cU hs (nN nd hj);refine⟨_,rfl,rfl,_,rfl,?_⟩;rw[dO];refine bB (λcc=>?_) (λcc=>aT ?_)
 ·have e:k="mother":=of_decide_eq_true cc;refine⟨_,rfl,_,rfl,sd,_,rfl,gj,rfl,?_⟩;rw[dO];unfold kH at q;rw[if_pos e] at q;exact q H (ai.refl _)
 have n1:k≠"mother":=λz=>cc (decide_eq_true z);refine⟨_,rfl,rfl,_,rfl,?_⟩;rw[dO];refine bB (λcc=>?_) (λcc=>aT ?_)
 ·have e:k="father":=of_decide_eq_true cc;refine⟨_,rfl,_,rfl,sd,_,rfl,gj,rfl,?_⟩;rw[dO];unfold kH at q;rw[if_neg n1,if_pos e] at q;exact q H (ai.refl _)
 have n2:k≠"father":=λz=>cc (decide_eq_true z);have e3:(!decide (k="wed"))=decide (k="sibling"):=by
  rcases hk with z|z|z|z;·exact absurd z n1
  ·exact absurd z n2
  ·rw[z];decide+kernel
  ·rw[z];decide+kernel
 refine(Vt.orV (a:=decide (k="sibling")) (b:=decide (fh ps i="man")&&decide (fh ps j="woman")) ?_ λH1 _ g1=>Vt.RL (a:=decide (fh ps i="man")) ?_ λH2 _ g2=>?_) _ λH' g'=>?_
 ·rw[←e3,←dO];exact Vt.ne (Vt.var rfl) (λ_ _=>Vt.c) rfl
 ·rw[←dO];exact Vt.eq (λk hk=>⟨_,rfl,_,rfl,sd,_,rfl,cU (g1 _ _ hs) (nN nd hi),hk _ (ai.refl _)⟩) (λ_ _=>Vt.c) rfl
 ·rw[←dO];exact Vt.eq (λk hk=>⟨_,rfl,_,rfl,sd,_,rfl,cU (g2 _ _ (g1 _ _ hs)) (nN nd hj),hk _ (ai.refl _)⟩) (λ_ _=>Vt.c) rfl
 ·unfold kH at q;rw[if_neg n1,if_neg n2] at q;exact q H' g'
theorem pA:aP ["_law_facts","_law_name_here","_law_row_here","_law_at","_law_number","_law_kind","_law_one","_law_other"] ["_law_facts","_law_name_here"] (aG ED):=.aV
theorem Z4(F:aM K "_law_up" "_law_up" ED f fd)(bl:Bl mg):aE P w K mg base aL 1 f fd ["_law_facts","_law_name_here"] RM:=by
 refine F.o pA λaA A outer s H vs Q E hr h=>?_;obtain⟨fa,xs,ys,b,a,rfl,ke,ok,ma,q⟩:=h;refine⟨_,(aj (bW 2 pA.nd (dt (aa (pv 1) ag))) (aj (bW 3 pA.nd aN) (aj (Eu PassesOwn.never (bp mO (pv 3) (dh K bl (pv 2))) (aj (gP PassesOwn.never rfl (fZ (K:=K) rfl (pv 0)) (jj (K:=K) (n:=4) rfl rfl (bR (bF 4 pA.nd) (bR (bF 5 pA.nd) (bR (bF 6 pA.nd) (bR (bF 7 pA.nd) jh))))) (aq (aS (PW.pt (pw_and (ib (lV (K:=K) rfl) (pv 5) (dm (aa a9 (aa a9 ag))) (by with_unfolding_all rfl)) (pw_and (bp bZ (pv 6) (aY (iL K) (pv 2) (pv 3))) (pw_and1 (ib (Fq (K:=K) rfl) (pv 7) (pv 2) (by with_unfolding_all rfl)))))) (aq (bU (mJ (K:=K) rfl (jL plainAttrs_list PySem.F.slot_list_append PySem.F.type_list_append nE (pv 2) (aa (pv 7) ag))))) aW))) (aq (OB (i:=3) pA.nd rfl (Or.inl rfl) aN OC)))) (aq (aI (pv 2)))))),?_⟩;have sz:(10000:Nat)<=sizeLine:=by rw[sizeLine_eq];omega
 obtain⟨as,c8,al,gt⟩:=ke.get;have m64:=ok.m;refine cq ?_;refine⟨_,rfl,by show 1<=sizeLine;omega,λbg H1 yi g1 IH=>?_⟩;refine setC ?_;refine iQ (λσ H6=>∃ks:List Str,ai H H6/\H6 bg=some (.lst (ks.map V.str))/\(∀z,z∈ks↔fK b a z)/\∃o3 o4 o5 o6 o7:Option V,σ=[some (.ref fa),some (.str a),some (.ref bg),o3,o4,o5,o6,o7]) (λoO fU=>?_) ?_
 ·refine Ew (Uj H b a fa bg) (muU b.ps.length) ⟨[a],0,none,none,none,none,g1,IH,⟨Yz.mpr ⟨(λz=>nomatch z),Ja⟩,λk hk=>by rw[Ym.mp hk];exact .refl,Yl⟩,Yx _,λr hr=>absurd hr (Wk _),rfl⟩ ?_ ?_
  ·rintro σ H6 ⟨ks,r,o4,o5,o6,o7,g6,m_,up,rl,cl,rfl⟩;have kl:(ks.map V.str).length=ks.length:=Ya _;have gl:=up.len ok ma;refine⟨_,rfl,_,rfl,bg,_,rfl,.inl (ak.of m_),_,_,rfl,rfl,_,rfl,?_⟩;rw[kl];refine bB (λc=>?_) (λc=>?_)
   ·have vq:r<ks.length:=by have:=of_decide_eq_true c;omega
    obtain⟨k,ek⟩:∃k,ks[r]?=some k:=⟨_,Yc vq⟩;have mk:k∈ks:=Yi ek;refine iQ (IQ H b a fa bg r ks k b.F.length) (λIy qu=>?_) ?_
    ·refine⟨_,rfl,fa,rfl,⟨_,ak.of (g6 _ _ c8)⟩,kA (K:=K) (a:=fa) (xs:=as.map V.ref) (IQ H b a fa bg r ks k) ⟨ks,[],o4,o5,o6,o7,g6,m_,up,by rw[Wb],λc hc=>(nomatch hc),rfl⟩ (λj σ H8 _ ⟨_,_,_,_,_,_,g,_,_,_,_,_⟩=>ak.of (g _ _ c8)) ?_ ?_⟩
     ·rintro j v σ H8 hj ⟨eK,tl,p4,p5,p6,p7,g8,kj,qF,e8,iM,rfl⟩;obtain⟨c0,c,z,rfl,iJ,qA,hc⟩:=gt H8 j v g8 hj;have mc:c∈b.F:=Yi iJ;have Bs:eK[r]?=some k:=by rw[e8,Wc vq];exact ek
      have gl8:=qF.len ok ma;refine⟨c0,_,rfl,aB.of hc,rfl,_,_,rfl,bo ⟨_,_,rfl,bo ⟨_,_,rfl,bo ⟨_,_,rfl,bo ⟨rfl,?_⟩⟩⟩⟩⟩;refine(Bt.and (Vt.test (Vt.F_ (k:=c.k) (Vt.var rfl))) λHA _ gA=>Bt.and (Vt.test (Vt.eq (x:=.str (au b.ps c.one)) (y:=.str k) (Vt.var rfl) (λHB gB kk hk=>⟨_,rfl,_,rfl,bg,_,_,_,rfl,rfl,ak.of (gB _ _ (gA _ _ kj)),ic (by rw[Yg,Bs];rfl),hk _ (ai.refl _)⟩) rfl)) λHB _ gB=>Vt.test (b:=!eW (kV (a_ b.ps c)) (eK.map V.str)) λkk hk=>⟨_,rfl,_,rfl,bg,_,rfl,.inl (ak.of (gB _ _ (gA _ _ kj))),YS (zA _),LP _,hk _ (ai.refl _)⟩) _ λH9 g9=>?_;rw[dO];have vv:∀jB:List Str,(∀x∈eK,x∈jB)->(cJ c.k=true->au b.ps c.one=k->∀y,kV (a_ b.ps c)=.str y->y∈jB)->∀c'∈b.F.take (j+1),cJ c'.k=true->au b.ps c'.one=k->∀y,kV (a_ b.ps c')=.str y->y∈jB:=λjB sub hh c' m' h1 h2 y h3=>by
       rw[qA] at m';rcases Yv.mp m' with m'|m';·exact sub _ (iM c' m' h1 h2 y h3)
       ·rw[Ym.mp m'] at h1 h2 h3;exact hh h1 h2 y h3
      refine bB (λcc=>?_) (λcc=>aT ?_)
      ·rw[Wl,Wl,decide_eq_true_iff] at cc;obtain⟨c1,c2,c3⟩:=cc;have ns:c.k≠bq:=λz=>by rw[z] at c1;exact absurd c1 (by decide+kernel)
       have eo:kV (a_ b.ps c)=.str (au b.ps c.aH.toNat):=by rw[iP ns];rfl
       have sV:=g9 _ _ kj;refine⟨_,rfl,.inl ⟨rfl,_,ak.of sV⟩,_,rfl,bg,_,_,rfl,rfl,sV,by rw[Ya];omega,λoG yk oM=>?_⟩;have no:au b.ps c.aH.toNat∉eK:=λz=>by
        rw[eo,(GH _ _).mpr z] at c3;cases c3
       refine⟨eK++[au b.ps c.aH.toNat],tl++[au b.ps c.aH.toNat],_,_,_,_,λd o e=>yk _ _ (g9 _ _ (g8 _ _ e)) (bT e yi),by rw[oM,Ys,eo];rfl,⟨?_,λx hx=>?_,Yq _ qF.ma⟩,by rw[e8,Jn],vv _ (λx hx=>Yq _ hx) λ_ _ y hy=>?_,rfl⟩
       ·refine Wv.mpr ⟨qF.nd,by simp,λu hu w hw z=>?_⟩;rw[Ym] at hw;rw[z,hw] at hu;exact no hu
       ·rcases Yv.mp hx with hx|hx;·exact qF.sd x hx
        ·rw[Ym.mp hx];exact .step (qF.sd k (Yi Bs)) ((MX ok).mpr ⟨c,mc,c1,c2,eo⟩)
       ·rw[eo] at hy;rw[←V.str.inj hy];exact Yn _ Yl
      ·refine⟨eK,tl,_,_,_,_,g8.trans g9,g9 _ _ kj,qF,e8,vv _ (λ_ h=>h) λh1 h2 y h3=>?_,rfl⟩;rw[h1,Jx,decide_eq_true h2,Jx,h3] at cc;by_cases z:y∈eK;·exact z
       ·exact absurd (by rw[Jm.mpr (λw=>z ((GH _ _).mp w))];rfl) cc
     ·grind
    ·rintro σ H8 ⟨eK,tl,p4,p5,p6,p7,g8,kj,qF,e8,iM,rfl⟩;rw[We] at iM;have Bs:eK[r]?=some k:=by rw[e8,Wc vq];exact ek
     refine⟨_,rfl,_,_,rfl,rfl,?_⟩;refine⟨⟨eK,r+1,p4,p5,p6,p7,g8,kj,qF,by rw[e8,Yk];omega,λr' h' x hx p hp=>?_,rfl⟩,?_⟩
     ·by_cases z:r'=r
      ·rw[z,Bs] at hx;cases hx;obtain⟨c,mc,h1,h2,h3⟩:=(MX ok).mp hp;exact iM c mc h1 h2 p h3
      ·rw[e8,Wc (by omega)] at hx;rw[e8];exact Yq _ (cl r' (by omega) x hx p hp)
     ·show b.ps.length+1-((r:Int)+1).toNat<b.ps.length+1-((r:Int)).toNat;omega
   ·have re:¬((r:Int)<(ks.length:Int)):=λz=>c (decide_eq_true z);exact fU _ _ ⟨ks,g6,m_,up.all (λr' h'=>cl r' (by omega)),_,_,_,_,_,rfl⟩
  ·rintro σ H6 Q1 Q2 mo ⟨v1,w1,v2,w2,v3,v4,w3,w4,v5,v6,w5,w6,v7,w7,h⟩;exact⟨v1,w1,v2,w2,v3,v4,w3,w4,v5,v6,w5,w6,v7,w7,mo _ _ h⟩
 rintro σ H6 ⟨ks,g6,m_,al,o3,o4,o5,o6,o7,rfl⟩;exact⟨_,rfl,q bg ks H6 g6 m_ al⟩
end
open Classical in
noncomputable def mP (n:Nat) (b:BS) (c:Fc):Str:=if c.k≠bq/\kH c.k (fh b.ps c.one) (fh b.ps c.aH.toNat)=false then"wrong side" else if oh b.ps b.F c.k (au b.ps c.one) (kV (a_ b.ps c))=true then"told twice" else if cJ c.k=true/\fK b (au b.ps c.aH.toNat) (au b.ps c.one) then"own elder" else if fN (b.F++[c]) n c.one=[] then"barred" else""
inductive Ol(vs:List V)(H:Hp)(Q:VK):Prop
 |mk (sd fa td ff:Addr) (xs ys:List Int) (b:BS) (c:Fc) (aC:vs=[.ref sd,.ref fa,.ref td,.ref ff]) (hs:H sd=some (.dK (fV b.ps))) (hf:FL H b.ps fa b.F) (ht:fX H td xs ys) (hc:H ff=some (.tup [.str c.k,.str (au b.ps c.one),kV (a_ b.ps c)])) (ok:cC xs ys b) (fg:eB xs ys b.ps.length c) (q:∀H',ai H H'->Q (.str (mP xs.length b c)) H'):Ol vs H Q
def PU:Sp:=λvs H Q _=>Ol vs H Q
theorem Zee(fg:eB xs ys m c)(ns:c.k≠bq):c.k="mother"\/c.k="father"\/c.k="wed"\/c.k="sibling":=by
 have h:=fg.uv ns
 grind
section
theorem yC:aP ["_law_sides","_law_facts","_law_turns_here","_law_fact_here","_law_kind","_law_one","_law_other"] ["_law_sides","_law_facts","_law_turns_here","_law_fact_here"] (aG DP):=.aV
open Classical in
theorem Xp(F:aM K "_law_word" "_law_word" DP f fd)(DB:HasFn P w K mg base 1 "_law_sided" ["_law_sides","_law_kind","_law_one","_law_other"] Oj)(D1:HasFn P w K mg base 1 "_law_told" ["_law_facts","_law_kind","_law_one","_law_other"] Oi)(EN:HasFn P w K mg base 1 "_law_up" ["_law_facts","_law_name_here"] RM)(qO:HasFn P w K mg base 3 "_law_room" ["_law_facts","_law_turns_here","_law_name_here"] FI)(bl:Bl mg):aE P w K mg base aL 4 f fd ["_law_sides","_law_facts","_law_turns_here","_law_fact_here"] PU:=by
 refine F.o yC λaA A outer s H vs Q E hr h=>?_;obtain⟨sd,fa,td,ff,xs,ys,b,c,rfl,hs,hf,ht,hc,ok,fg,q⟩:=h;have hu:=hr.uh;refine⟨_,(aj (nQ (pv 3) (jj (K:=K) (n:=3) rfl rfl (bR (bF 4 yC.nd) (bR (bF 5 yC.nd) (bR (bF 6 yC.nd) jh))))) (aj (aS (bp bZ (pv 4) a9) (aj (aS (jK (mf (bj hr) (pv 5) (pv 0)) (by with_unfolding_all rfl)) (aq (aI a9)) aW) (aq (aS (PW.pt (pw_or (bp mO (pv 6) aN) (pw_or1 (bp Zeq (pv 6) (dh K bl (df (bj hr) (pv 2) a9 (λ_ _=>rfl))))))) (aq (aI a9)) aW))) (aj (aS (jK (mf (bj hr) (pv 4) (pv 2)) (by with_unfolding_all rfl)) (aq (aI a9)) aW) (aj (aS (PW.pt (pw_or (jK (mf (bj hr) (pv 5) (pv 0)) (by with_unfolding_all rfl)) (pw_or1 (jK (mf (bj hr) (pv 6) (pv 0)) (by with_unfolding_all rfl))))) (aq (aI a9)) aW) (aq (aS (jk (eO (aU DB hr (aa (pv 0) (aa (pv 4) (aa (pv 5) (aa (pv 6) ag))))))) (aq (aI a9)) aW))))) (aj (aS (eO (aU D1 hr (aa (pv 1) (aa (pv 4) (aa (pv 5) (aa (pv 6) ag)))))) (aq (aI a9)) aW) (aj (aS (PW.pt (pw_and (ib (lV (K:=K) rfl) (pv 4) (dm (aa a9 (aa a9 ag))) (by with_unfolding_all rfl)) (pw_and1 (ib (lV (K:=K) rfl) (pv 5) (aU EN hr (aa (pv 1) (aa (pv 6) ag))) (by with_unfolding_all rfl))))) (aq (aI a9)) aW) (aj (aS (bp (OS hu) (aU qO hr (aa (aZ zo (pv 1) (dt (aa (dm (aa (aZ zB aN aN) (aa (pv 4) (aa (pv 5) (aa (pv 6) ag))))) ag))) (aa (pv 2) (aa (pv 5) ag)))) (dt ag)) (aq (aI a9)) aW) (aq (aI a9))))))),?_⟩;have sz:(10000:Nat)<=sizeLine:=by rw[sizeLine_eq];omega
 have one:=fg.ok.one;have g1:=nN ok.nm one;refine⟨_,rfl,ff,_,rfl,aB.of hc,rfl,_,_,rfl,bo ⟨_,_,rfl,bo ⟨_,_,rfl,bo ⟨rfl,?_⟩⟩⟩⟩;dsimp only;refine pO (λσ H7=>ai H H7/\¬(c.k≠bq/\kH c.k (fh b.ps c.one) (fh b.ps c.aH.toNat)=false)/\σ=[some (.ref sd),some (.ref fa),some (.ref td),some (.ref ff),some (.str c.k),some (.str (au b.ps c.one)),some (kV (a_ b.ps c))]) (λqt gv=>?_) ?_
 ·refine⟨_,rfl,rfl,_,rfl,?_⟩;rw[dO];refine bB (λcc=>?_) (λcc=>?_)
  ·have sk:c.k=bq:=of_decide_eq_true cc;have eo:kV (a_ b.ps c)=.int c.aH:=by rw[mj sk];rfl
   refine⟨_,rfl,_,rfl,sd,_,rfl,cU hs g1,_,rfl,bO (aT ?_)⟩;obtain⟨s0,s1⟩:=fg.GC sk;obtain⟨_,_,_,u0,eF,_,_,_,vw⟩:=id ht;refine(Bt.or (a:=decide (c.aH<0)) (b:=decide ((((bc xs.length).map V.int).length:Int)<=c.aH)) (λk hk=>⟨_,rfl,c.aH,0,eo,rfl,_,rfl,hk _ (ai.refl _)⟩) λH1 _ g1 k hk=>⟨_,rfl,_,rfl,td,.ref u0,rfl,cU (g1 _ _ eF) rfl,u0,_,rfl,.inr (aB.of (g1 _ _ vw)),c.aH,_,eo,rfl,_,rfl,hk _ (ai.refl _)⟩) _ λH2 g2=>?_;rw[decide_eq_false (by omega),decide_eq_false (by rw[Ya,eM];omega)];exact bO (aT (gv _ _ ⟨g2,λz=>z.1 sk,rfl⟩))
  ·have ns:c.k≠bq:=λz=>cc (decide_eq_true z);have eo:kV (a_ b.ps c)=.str (au b.ps c.aH.toNat):=by rw[iP ns];rfl
   obtain⟨tk,u,eF,vu,_⟩:=ht.get (fg.uv ns);have g2:=nN ok.nm (fg.ok.gG ns).1.2;refine⟨_,rfl,_,rfl,td,_,rfl,cU eF vu,_,rfl,bO (aT ?_)⟩;refine(Bt.or (a:=false) (b:=false) (λk hk=>⟨_,rfl,_,rfl,sd,_,rfl,cU hs g1,_,rfl,hk _ (ai.refl _)⟩) λH1 _ g1 k hk=>⟨_,rfl,_,rfl,sd,some (.str (fh b.ps c.aH.toNat)),rfl,(by rw[eo];exact cU (g1 _ _ hs) g2),_,rfl,hk _ (ai.refl _)⟩) _ λH2 g2=>bO (aT ?_);refine⟨_,rfl,_,rfl,_,rfl,_,rfl,sd,b.ps,c.k,c.one,c.aH.toNat,by rw[eo];rfl,g2 _ _ hs,ok.nm,one,(fg.ok.gG ns).1.2,Zee fg ns,λH3 g3=>⟨_,rfl,?_⟩⟩;cases es:kH c.k (fh b.ps c.one) (fh b.ps c.aH.toNat) with
   |true=>exact bO (aT (gv _ _ ⟨g2.trans g3,λz=>by rw[es] at z;exact absurd z.2 (by decide),rfl⟩))
   |false=>
    refine c5 ?_;have e:mP xs.length b c="wrong side":=if_pos ⟨ns,es⟩;rw[e] at q;exact q _ (g2.trans g3)
 rintro σ H7 ⟨g7,nw,rfl⟩;refine⟨_,rfl,_,rfl,_,rfl,_,rfl,fa,b.ps,b.F,c.k,au b.ps c.one,kV (a_ b.ps c),rfl,hf.same g7,zA _,λH8 g8=>⟨_,rfl,?_⟩⟩;have IS:=g7.trans g8;unfold mP at q;rw[if_neg nw] at q;refine bB (λct=>?_) (λct=>aT ?_)
 ·rw[if_pos ct] at q;exact q _ IS
 rw[if_neg ct] at q;refine(Bt.and (b:=decide (fK b (au b.ps c.aH.toNat) (au b.ps c.one))) (Vt.test (Vt.F_ (k:=c.k) (Vt.var rfl))) λH9 ip g9 k hk=>?_) _ λH9 g9=>?_
 ·have ns:c.k≠bq:=λz=>by rw[z] at ip;exact absurd ip (by decide+kernel)
  have eo:kV (a_ b.ps c)=.str (au b.ps c.aH.toNat):=by rw[iP ns];rfl
  refine⟨_,rfl,_,rfl,_,rfl,fa,xs,ys,b,au b.ps c.aH.toNat,by rw[eo];rfl,hf.same (IS.trans g9),ok,ue (fg.ok.gG ns).1.2,λp ks H' g' hp al=>⟨p,_,rfl,.inl (ak.of hp),rfl,LP _,_,rfl,?_⟩⟩;have e:eW (V.str (au b.ps c.one)) (ks.map V.str)=decide (fK b (au b.ps c.aH.toNat) (au b.ps c.one)):=by
   rw[Wj,decide_eq_true_iff,GH,al]
  rw[e];exact hk _ g'
 have Bu:=IS.trans g9;refine bB (λcu=>?_) (λcu=>aT ?_)
 ·rw[Wl,decide_eq_true_iff] at cu;rw[if_pos cu] at q;exact q _ Bu
 rw[Wl,decide_eq_true_iff] at cu;rw[if_neg cu] at q;obtain⟨as,c8,dQ⟩:=hf.same Bu;have al:=c9 dQ;have fl:=ok.fl;have Fl:b.F.length=b.fs.length:=Ya _;refine⟨_,rfl,_,_,rfl,rfl,_,rfl,_,rfl,_,rfl,by show 4<=sizeLine;omega,λt Ht nt gt IT=>⟨by show 1<=sizeLine;omega,λl Hl nl gl hl=>⟨fa,l,_,_,rfl,rfl,gl _ _ (gt _ _ c8),hl,by rw[Ya];show _+1<=_;omega,λp Hp np gp hp=>⟨_,rfl,_,rfl,?_⟩⟩⟩⟩;have IU:=(gt.trans gl).trans gp;refine⟨p,td,b.ps,xs,ys,b.F++[c],c.one,rfl,⟨as++[t],by rw[hp,Ys];rfl,jE (F:=IF Hp b.ps) ⟨-1,gp _ _ (gl _ _ IT)⟩ (L2.Paired.bA dQ λ_ _ ⟨z,e⟩=>⟨z,IU _ _ e⟩)⟩,ht.same (Bu.trans IU),ok.nm,λc' qf=>?_,ok.gd.2.2.2.2,by have:=ok.m;omega,by rw[Yk];show _+1<=64;omega,one,λpr Hr npr gr hr2=>⟨by show 0<=sizeLine;omega,λe He ne ge he=>⟨pr,e,_,[],rfl,rfl,ak.of (ge _ _ hr2),ak.of he,_,rfl,?_⟩⟩⟩
 ·rcases Yv.mp qf with h|h
  ·obtain⟨pp,IV,rfl⟩:=Yf.mp (show c'∈b.fs.map (·.2) from h);exact ok.fg pp IV
  ·rw[Ym.mp h];exact fg
 have gE:=(Bu.trans IU).trans (gr.trans ge);refine bB (λcr=>?_) (λcr=>aT ?_)
 ·rw[if_pos (of_decide_eq_true cr)] at q;exact q _ gE
 ·rw[if_neg (λz=>cr (decide_eq_true z))] at q;exact q _ gE
end
theorem Om(a b:Str):(L2.pX a b=a/\L2.pY a b=b)\/(L2.pX a b=b/\L2.pY a b=a):=by
 unfold L2.pX L2.pY;by_cases h1:b.cps.toList<a.cps.toList;·grind
 ·rw[if_neg h1];by_cases h2:a.cps.toList<b.cps.toList;·grind
  ·rw[if_neg h2];have e2:a=b:=by
    cases a with|mk ca=>cases b with|mk cb=>
     grind
   grind
theorem MY{b:BS}{c:Fc}(h:oh b.ps b.F c.k (au b.ps c.one) (kV (a_ b.ps c))=false):eZ b.ps c∉b.keys/\(cJ c.k=true->[.inr c.k,.inr (au b.ps c.one)]∉(bX b.ps b.fs).map (·.1))/\¬(c.k="sibling"/\V.str (au b.ps c.one)=kV (a_ b.ps c)):=by
 unfold oh at h;rw[Bool.or_eq_false_iff] at h;obtain⟨h1,h2⟩:=h;have no:∀p∈b.fs,lO b.ps c.k (au b.ps c.one) (kV (a_ b.ps c)) p.2=false:=λp hp=>by
  have:=R3.mp h1 p.2 (Yf.mpr ⟨p,hp,rfl⟩);exact Jm.mpr this
 have Zgi:∀{u v:Key},u=v->kV u=kV v:=λe=>by rw[e]
 refine⟨λhk=>?_,λip hp=>?_,λ⟨e1,e2⟩=>?_⟩
 ·obtain⟨p,hp,e⟩:=Yf.mp hk;have n:=no p hp;have hit:p.2.k=c.k->((au b.ps p.2.one=au b.ps c.one/\a_ b.ps p.2=a_ b.ps c)\/(c.k="sibling"/\a_ b.ps p.2=.inr (au b.ps c.one)/\Sum.inr (au b.ps p.2.one)=a_ b.ps c))->False:=λe1 e2=>by
   have:lO b.ps c.k (au b.ps c.one) (kV (a_ b.ps c)) p.2=true:=by
    unfold lO;rw[decide_eq_true e1,Jx];rcases e2 with⟨e2,e3⟩|⟨e2,e3,e4⟩;·rw[decide_eq_true e2,decide_eq_true (Zgi e3)];rfl
    ·rw[decide_eq_true e2,decide_eq_true (show kV (a_ b.ps p.2)=.str (au b.ps c.one) by rw[e3];rfl),decide_eq_true (show V.str (au b.ps p.2.one)=kV (a_ b.ps c) by rw[←e4];rfl)];simp
   rw[this] at n;cases n
  unfold eZ at e;cases ni:a_ b.ps p.2 with
  |inl z1=>
   cases l6:a_ b.ps c with
   |inl z2=>
    rw[ni,l6] at e;injection e with e1 e;injection e with e2 e;injection e with e3 _;exact hit (Wf e1) (.inl ⟨Wf e2,by rw[ni,l6,e3]⟩)
   |inr z2=>
    rw[ni,l6] at e;unfold keyOf at e;dsimp only at e;split at e
    ·injection e with e1 e;injection e with e2 e;injection e with e3 _;cases e3
    ·injection e with e1 e;injection e with e2 e;injection e with e3 _;cases e3
  |inr z1=>
   cases l6:a_ b.ps c with
   |inl z2=>
    rw[ni,l6] at e;unfold keyOf at e;dsimp only at e;split at e
    ·injection e with e1 e;injection e with e2 e;injection e with e3 _;cases e3
    ·injection e with e1 e;injection e with e2 e;injection e with e3 _;cases e3
   |inr z2=>
    rw[ni,l6] at e;have ek:p.2.k=c.k:=by
     unfold keyOf at e;dsimp only at e;split at e<;>split at e<;>(injection e with e1 _;exact Wf e1)
    unfold keyOf at e;dsimp only at e;rw[ek] at e;by_cases sb:c.k="sibling"
    ·rw[if_pos sb,if_pos sb] at e;injection e with _ e;injection e with e2 e;injection e with e3 _;have e2:=Wf e2;have e3:=Wf e3;refine hit ek ?_;rcases Om (au b.ps p.2.one) z1 with⟨m1,m2⟩|⟨m1,m2⟩<;>rcases Om (au b.ps c.one) z2 with⟨m3,m4⟩|⟨m3,m4⟩<;>rw[m1,m3] at e2<;>rw[m2,m4] at e3;·exact .inl ⟨e2,by rw[ni,l6,e3]⟩
     ·exact .inr ⟨sb,by rw[ni,e3],by rw[l6,e2]⟩
     ·exact .inr ⟨sb,by rw[ni,e2],by rw[l6,e3]⟩
     ·exact .inl ⟨e3,by rw[ni,l6,e2]⟩
    ·rw[if_neg sb,if_neg sb] at e;injection e with _ e;injection e with e2 e;injection e with e3 _;exact hit ek (.inl ⟨Wf e2,by rw[ni,l6,e3]⟩)
 ·obtain⟨q,hq,e⟩:=Yf.mp hp;unfold bX at hq;obtain⟨p,hp,rfl⟩:=Yf.mp hq;obtain⟨oK,dD⟩:=Y4.mp hp;have n:=no p oK;injection e with e1 e;injection e with e2 _;unfold lO at n;rw[decide_eq_true (Wf e1),decide_eq_true (Wf e2),ip] at n;simp at n
 ·rw[decide_eq_true e1,decide_eq_true e2] at h2;cases h2
theorem Z5(ok:cC xs ys b)(fg:eB xs ys b.ps.length c)(h:fN (b.F++[c]) xs.length c.one≠[]):∃f,kW xs.length b.ps.length f/\∀c'∈b.F++[c],eQ f c':=by
 obtain⟨a,ha⟩:=List.exists_mem_of_ne_nil _ h;obtain⟨_,g,cl,hg⟩:=yR.mp ha;obtain⟨f0,inr,sat⟩:=ok.lv;have hU:∀c'∈b.F++[c],dG xs.length b.ps.length c':=λc' qf=>by
  rcases Yv.mp qf with h|h
  ·obtain⟨pp,IV,rfl⟩:=Yf.mp (show c'∈b.fs.map (·.2) from h);exact(ok.fg pp IV).ok
  ·rw[Ym.mp h];exact fg.ok
 obtain⟨f,h1,h2,_⟩:=JU hU inr (λc' qf=>by
  rcases Yv.mp qf with h|h;·grind
  ·rw[Ym.mp h];exact .inl rfl) cl hg
 grind
theorem Oo{xs:List Int}{b:BS}{c:Fc}(h:mP xs.length b c=""):¬(c.k≠bq/\kH c.k (fh b.ps c.one) (fh b.ps c.aH.toNat)=false)/\oh b.ps b.F c.k (au b.ps c.one) (kV (a_ b.ps c))=false/\¬(cJ c.k=true/\fK b (au b.ps c.aH.toNat) (au b.ps c.one))/\fN (b.F++[c]) xs.length c.one≠[]:=by
 unfold mP at h;by_cases h1:c.k≠bq/\kH c.k (fh b.ps c.one) (fh b.ps c.aH.toNat)=false;·rw[if_pos h1] at h;exact absurd h (by decide+kernel)
 rw[if_neg h1] at h;by_cases h2:oh b.ps b.F c.k (au b.ps c.one) (kV (a_ b.ps c))=true;·rw[if_pos h2] at h;exact absurd h (by decide+kernel)
 rw[if_neg h2] at h;by_cases h3:cJ c.k=true/\fK b (au b.ps c.aH.toNat) (au b.ps c.one);·rw[if_pos h3] at h;exact absurd h (by decide+kernel)
 rw[if_neg h3] at h;by_cases h4:fN (b.F++[c]) xs.length c.one=[];·rw[if_pos h4] at h;exact absurd h (by decide+kernel)
 grind
theorem EO{xs ys:List Int}{b:BS}{c:Fc}(ok:cC xs ys b)(fg:eB xs ys b.ps.length c)(lim:b.fs.length<63)(h:mP xs.length b c=""):Aj xs ys b c:=by
 obtain⟨_,h2,_,h4⟩:=Oo h;obtain⟨k1,k2,_⟩:=MY h2;exact⟨fg,k1,k2,Z5 ok fg h4,lim⟩
theorem Zbq{xs ys:List Int}{b:BS}{c:Fc}(ok:cC xs ys b)(fg:eB xs ys b.ps.length c)(lim:b.fs.length<63)(h:mP xs.length b c="")(ns:c.k≠bq):F8 xs ys b c:=by
 obtain⟨h1,h2,h3,_⟩:=Oo h;obtain⟨k1,k2,k3⟩:=MY h2;have eo:=iP (ps:=b.ps) ns;refine⟨EO ok fg lim h,ns,?_,⟨k2,λ_=>⟨?_,λ⟨e1,e2⟩=>k3 ⟨e1,by rw[eo,e2];rfl⟩⟩⟩,λip an=>h3 ⟨ip,an⟩⟩;·grind
 ·rw[←eo];exact k1
def jC(ps:bH):List V:=ps.map λp=>.str p.1
theorem uf(ps:bH):(jC ps).length=ps.length:=Ya _
theorem PV{ps:bH}{z:Int}(h0:0<=z)(h:z<(ps.length:Int)):dJ (jC ps) z=some (.str (au ps z.toNat)):=by
 obtain⟨k,rfl⟩:∃k:Nat,z=(k:Int):=⟨z.toNat,by omega⟩;refine ic ?_;unfold jC au
 grind
theorem wB{z:Int}{n:Nat}(h:0<n):0<=z % (n:Int)/\z % (n:Int)<(n:Int):=⟨W5 _ (by omega),Wp _ (by omega)⟩
theorem Vt.E_{K:PySem.W.Frag}{e:TE}{σ:St}{H:Hp}{nl:Addr}{ps:bH}{z:Int}{i:Nat}(hi:σ[i]?=some (some (.ref nl)))(hn:H nl=some (.lst (jC ps)))(p0:0<ps.length)(he:Vt e σ H (.int z)):Vt (i8 (ux K) (fD i) (i8 (rI (λ_ j=>0<j) λi j=>V.int (i % j)) e (lU (wW K) (gf (fD i) iZ)))) σ H (.str (au ps (z % (ps.length:Int)).toNat)):=λk hk=>⟨_,hi,he _ λH1 g1=>by
 have l:=uf ps;have m:=wB (z:=z) p0;exact⟨_,hi,nl,_,rfl,.inl (ak.of (g1 _ _ hn)),_,_,rfl,rfl,by omega,nl,_,_,_,rfl,rfl,ak.of (g1 _ _ hn),by rw[l];exact PV m.1 m.2,hk H1 g1⟩⟩
inductive Oq(vs:List V)(H:Hp)(Q:VK):Prop
 |mk (nl sd:Addr) (ps:bH) (z:Int) (s:Str) (aC:vs=[.ref nl,.ref sd,.int z,.str s]) (hn:H nl=some (.lst (jC ps))) (hs:H sd=some (.dK (fV ps))) (nd:(ps.map (·.1)).Nodup) (p0:0<ps.length) (pm:ps.length<=100) (q:∀i,i<ps.length->∀H',ai H H'->Q (.str (au ps i)) H'):Oq vs H Q
def PX:Sp:=λvs H Q _=>Oq vs H Q
theorem Zbr(xs ys:List Int){d:Int}(h:0<=d/\d<4):∃(k:Str) (tn:List Int) (w:Str),dJ [V.str "mother",V.str "father",V.str "wed",V.str "sibling"] d=some (.str k)/\(k,tn)∈pU xs ys/\dJ [V.str "woman",V.str "man",V.str "woman",V.str ""] d=some (.str w):=by
 have:d=0\/d=1\/d=2\/d=3:=by omega
 rcases this with rfl|rfl|rfl|rfl;·exact⟨_,inv xs,_,rfl,by simp,rfl⟩
 ·exact⟨_,inv (bw xs ys),_,rfl,by simp,rfl⟩
 ·exact⟨_,ys,_,rfl,by simp,rfl⟩
 ·exact⟨_,bc xs.length,_,rfl,by simp,rfl⟩
inductive Ot(vs:List V)(H:Hp)(Q:VK):Prop
 |mk (nl sd dr:Addr) (ps:bH) (xs ys:List Int) (d0 d1 d2 d3 d4:Int) (aC:vs=[.ref nl,.ref sd,.ref dr,.int (xs.length:Int)]) (hn:H nl=some (.lst (jC ps))) (hs:H sd=some (.dK (fV ps))) (nd:(ps.map (·.1)).Nodup) (p0:0<ps.length) (pm:ps.length<=100) (hd:H dr=some (.lst ([d0,d1,d2,d3,d4].map V.int))) (b4:0<=d4/\d4<4) (gd:oa xs ys) (q:∀c,eB xs ys ps.length c->∀(ff:Addr) (H':Hp),H ff=none->ai H H'->H' ff=some (.tup [.str c.k,.str (au ps c.one),kV (a_ ps c)])->Q (.ref ff) H'):Ot vs H Q
def PY:Sp:=λvs H Q _=>Ot vs H Q
section
theorem Ki:aP ["_law_names","_law_sides","_law_at","_law_side","_law_k"] ["_law_names","_law_sides","_law_at","_law_side"] (aG DQ):=.aV
theorem Xq(F:aM K "_law_pick" "_law_pick" DQ f fd)(bl:Bl mg):aE P w K mg base aL 1 f fd ["_law_names","_law_sides","_law_at","_law_side"] PX:=by
 refine F.o Ki λaA A outer s H vs Q E hr h=>?_;obtain⟨nl,sd,ps,z,sx,rfl,hn,hs,nd,p0,pm,q⟩:=h;refine⟨_,(aj (gP PassesOwn.never rfl (pj rfl bl.jI (aa (dh K bl (pv 0)) ag)) (bF 4 Ki.nd) (aq (aS (PW.pt (pw_or (bp bZ (pv 3) a9) (pw_or1 (bp bZ (df (bj hr) (pv 1) (aY (iL K) (pv 0) (aZ dU (aZ ig (pv 2) (pv 4)) (dh K bl (pv 0)))) (λ_ _=>rfl)) (pv 3))))) (aq (aI (aY (iL K) (pv 0) (aZ dU (aZ ig (pv 2) (pv 4)) (dh K bl (pv 0)))))) aW))) (aq (aI (aY (iL K) (pv 0) (aZ dU (pv 2) (dh K bl (pv 0))))))),?_⟩;have Bv:=uf ps;have at_:∀z:Int,(z % (ps.length:Int)).toNat<ps.length:=λz=>by have:=wB (z:=z) p0;omega
 refine iQ (λσ H6=>ai H H6/\∃o4:Option V,σ=[some (.ref nl),some (.ref sd),some (.int z),some (.str sx),o4]) (λoO fU=>?_) ?_
 ·refine⟨_,rfl,nl,_,rfl,.inl (ak.of hn),_,rfl,by omega,by omega,D8 (lo:=0) (n:=(((jC ps).length:Nat):Int).toNat) (λ_ σ H6=>ai H H6/\∃o4:Option V,σ=[some (.ref nl),some (.ref sd),some (.int z),some (.str sx),o4]) ⟨ai.refl _,none,rfl⟩ ?_ (λσ H6 h=>fU _ _ h)⟩;rintro j σ H6 hj ⟨g6,o4,rfl⟩;rw[AO];have vt:∀H7,ai H6 H7->Vt _ _ H7 _:=λH7 g7=>Vt.E_ (K:=K) (i:=0) (σ:=[some (.ref nl),some (.ref sd),some (.int z),some (.str sx),some (.int (j:Int))]) (z:=z+(j:Int)) (e:=i8 (qh λi j=>V.int (i+j)) (fD 2) (fD 4)) rfl (g7 _ _ (g6 _ _ hn)) p0 (λk hk=>⟨_,rfl,_,rfl,_,_,rfl,rfl,hk _ (ai.refl _)⟩);refine(Bt.or (Vt.test (Vt.eq (Vt.var rfl) (λ_ _=>Vt.c) rfl)) λH7 _ g7=>Vt.test (Vt.eq (x:=.str (fh ps ((z+(j:Int)) % (ps.length:Int)).toNat)) (y:=.str sx) (λk hk=>⟨_,rfl,vt H7 g7 _ λH8 g8=>⟨sd,_,rfl,cU (g8 _ _ (g7 _ _ (g6 _ _ hs))) (nN nd (at_ _)),hk H8 g8⟩⟩) (λ_ _=>Vt.var rfl) rfl)) _ λH9 g9=>?_;refine bB (λ_=>?_) (λ_=>aT ⟨g6.trans g9,_,rfl⟩);exact vt H9 g9 _ λHA gA=>q _ (at_ _) HA ((g6.trans g9).trans gA)
 rintro σ H6 ⟨g6,o4,rfl⟩;exact Vt.E_ (K:=K) (i:=0) (z:=z) rfl (g6 _ _ hn) p0 (Vt.var rfl) _ λHA gA=>q _ (at_ _) HA (g6.trans gA)
theorem vM:aP ["_law_names","_law_sides","_law_drawn","_law_size","_law_kind","_law_one","_law_want"] ["_law_names","_law_sides","_law_drawn","_law_size"] (aG DR):=.aV
theorem Xr(F:aM K "_law_fact" "_law_fact" DR f fd)(yI:HasFn P w K mg base 1 "_law_pick" ["_law_names","_law_sides","_law_at","_law_side"] PX)(bl:Bl mg):aE P w K mg base aL 2 f fd ["_law_names","_law_sides","_law_drawn","_law_size"] PY:=by
 refine F.o vM λaA A outer s H vs Q E hr h=>?_;obtain⟨nl,sd,dr,ps,xs,ys,d0,d1,d2,d3,d4,rfl,hn,hs,nd,p0,pm,hd,b4,gd,q⟩:=h;refine⟨_,(aj (bW 4 vM.nd (aY (iL K) (dt (aa a9 (aa a9 (aa a9 (aa a9 ag))))) (aY (iL K) (pv 2) aN))) (aj (bW 5 vM.nd (aY (iL K) (pv 0) (aZ dU (aY (iL K) (pv 2) aN) (dh K bl (pv 0))))) (aj (aS (bp FQ (aY (iL K) (pv 2) aN) aN) (aq (aI (dm (aa a9 (aa (pv 5) (aa (aZ dU (aY (iL K) (pv 2) aN) (pv 3)) ag)))))) aW) (aj (aS (bp bZ (pv 4) a9) (aq (bW 5 vM.nd (aU yI hr (aa (pv 0) (aa (pv 1) (aa (aY (iL K) (pv 2) aN) (aa a9 ag))))))) aW) (aj (bW 6 vM.nd (aY (iL K) (dt (aa a9 (aa a9 (aa a9 (aa a9 ag))))) (aY (iL K) (pv 2) aN))) (aq (aI (dm (aa (pv 4) (aa (pv 5) (aa (aU yI hr (aa (pv 0) (aa (pv 1) (aa (aY (iL K) (pv 2) aN) (aa (pv 6) ag))))) ag))))))))))),?_⟩;have sz:(10000:Nat)<=sizeLine:=by rw[sizeLine_eq];omega
 obtain⟨k,tn,wt,ek,hk,ew⟩:=Zbr xs ys b4;have at_:∀z:Int,(z % (ps.length:Int)).toNat<ps.length:=λz=>by have:=wB (z:=z) p0;omega
 obtain⟨_,_,_,l2,l8⟩:=id gd;have Zgj:(0:Int)<(xs.length:Int):=by omega
 refine cq ?_;refine⟨by show 4<=sizeLine;omega,λkl H1 nkl g1 AK=>⟨_,rfl,dr,_,_,_,rfl,rfl,ak.of (g1 _ _ hd),rfl,kl,_,_,_,rfl,rfl,ak.of AK,ek,?_⟩⟩;refine cq ?_;have qu:=g1 _ _ hn;refine Vt.E_ (K:=K) (i:=0) (z:=d1) rfl qu p0 (λkk hk=>⟨_,rfl,dr,_,_,_,rfl,rfl,ak.of (g1 _ _ hd),rfl,hk _ (ai.refl _)⟩) _ λH2 g2=>?_;have kY:=g1.trans g2;refine⟨_,rfl,dr,_,_,_,rfl,rfl,ak.of (kY _ _ hd),rfl,_,_,rfl,rfl,_,rfl,bB (λ_=>?_) (λ_=>aT ?_)⟩
 ·refine⟨_,rfl,_,rfl,dr,_,_,_,rfl,rfl,ak.of (kY _ _ hd),rfl,_,rfl,_,_,rfl,rfl,Zgj,by show 3<=sizeLine;omega,λff H3 Bw g3 sW=>?_⟩;have mm:=wB (z:=d3) (n:=xs.length) (by omega);exact q ⟨bq,(d1 % (ps.length:Int)).toNat,d3 % (xs.length:Int),[]⟩ ⟨⟨at_ _,λz=>absurd rfl z⟩,.inl rfl,λ_=>mm⟩ ff H3 (kY.free Bw) (kY.trans g3) (by rw[sW,mj rfl];rfl)
 have nk:k≠bq:=λz=>YJ (z▸hk);refine pO (λσ H6=>ai H H6/\∃i:Nat,i<ps.length/\σ=[some (.ref nl),some (.ref sd),some (.ref dr),some (.int (xs.length:Int)),some (.str k),some (.str (au ps i)),none]) (λqt gv=>?_) ?_
 ·refine⟨_,rfl,rfl,_,rfl,bB (λ_=>?_) (λ_=>aT (gv _ _ ⟨kY,_,at_ _,rfl⟩))⟩;refine⟨_,rfl,_,rfl,_,rfl,dr,_,_,_,rfl,rfl,ak.of (kY _ _ hd),rfl,nl,sd,ps,d1,"man",rfl,kY _ _ hn,kY _ _ hs,nd,p0,pm,λi hi H3 g3=>bo (gv _ _ ⟨kY.trans g3,i,hi,rfl⟩)⟩
 rintro σ H6 ⟨g6,i,hi,rfl⟩;refine cq ?_;refine⟨by show 4<=sizeLine;omega,λwl H7 TZ g7 xw=>⟨_,rfl,dr,_,_,_,rfl,rfl,ak.of (g7 _ _ (g6 _ _ hd)),rfl,wl,_,_,_,rfl,rfl,ak.of xw,ew,?_⟩⟩;have yo:=g6.trans g7;refine⟨_,rfl,_,rfl,_,rfl,_,rfl,_,rfl,dr,_,_,_,rfl,rfl,ak.of (yo _ _ hd),rfl,_,rfl,nl,sd,ps,d2,wt,rfl,yo _ _ hn,yo _ _ hs,nd,p0,pm,λj hj H8 g8=>⟨by show 3<=sizeLine;omega,λff H9 Bw g9 sW=>?_⟩⟩;obtain⟨ft,tl⟩:=Zbf gd hk;exact q ⟨k,i,(j:Int),tn⟩ ⟨⟨hi,λ_=>⟨⟨by show(0:Int)<=(j:Int);omega,hj⟩,ft,tl⟩⟩,.inr hk,λz=>absurd z nk⟩ ff H9 (yo.free (g8.free Bw)) ((yo.trans g8).trans g9) (by rw[sW,iP nk];rfl)
end
def jg(n:Nat):List Nat:=if n<10 then[48+n] else[48+n/10,48+n % 10]
def ko(n:Nat):Str:=.ofString (toString (n:Int))
theorem Fb:∀n<61,(ko n).cps.toList=jg n:=by decide+kernel
def eR(k z:Nat):Nat:=if z/3 % 3=1 then 9 else(k*z+z) % 5
def kq(m:Nat):Str:=Txt.mul "q" (m:Int)
theorem ZcI:∀m<10,(kq m).cps.toList=List.replicate m 113:=by decide+kernel
def sX:Str:="abcdefghijklmnopqrstuvwxyz"
theorem FJ:∀i<26,dJ sX.cps.toList ((i:Nat):Int)=some (97+i):=by decide+kernel
def oU(i:Nat):Str:=⟨#[97+i]⟩
def cX(z k:Nat):Str:=if z % 3=0 then(oU ((k*7+z) % 26)++ko (k/26))++kq (eR k z) else if z % 3=1 then(oU (z % 26)++kq (eR k z))++ko ((k*17+z) % 61) else(oU (z % 26)++ko ((k*17+z) % 61))++kq (eR k z)
theorem FK(k z:Nat):eR k z<10:=by
 unfold eR;split<;>omega
theorem ug(a b:Str):(a++b).cps.toList=a.cps.toList++b.cps.toList:=Array.toList_append
theorem yT(z k:Nat)(hk:k<60):(cX z k).cps.toList=if z % 3=0 then[97+(k*7+z) % 26,48+k/26]++List.replicate (eR k z) 113 else if z % 3=1 then(97+z % 26)::(List.replicate (eR k z) 113++jg ((k*17+z) % 61)) else(97+z % 26)::(jg ((k*17+z) % 61)++List.replicate (eR k z) 113):=by
 have f:=ZcI _ (FK k z);unfold cX;split
 ·rw[ug,ug,f,Fb _ (by omega)];unfold jg;rw[if_pos (by omega)];rfl
 split
 ·rw[ug,ug,f,Fb _ (by omega)];rfl
 ·rw[ug,ug,f,Fb _ (by omega)];rfl
def IW(l:List Nat):Nat:=l.foldl (λa c=>10*a+(c-48)) 0
theorem zZ:IW (jg n)=n:=by
 unfold jg;split
 ·show 10*0+(48+n-48)=n;omega
 ·show 10*(10*0+(48+n/10-48))+(48+n % 10-48)=n;omega
theorem PZ(h:n<61):∀c∈jg n,48<=c/\c<58:=by
 unfold jg
 grind
theorem yJ(h:n<61):(jg n).filter (λc=>decide (c<58))=jg n:=List.filter_eq_self.mpr λc hc=>decide_eq_true (PZ h c hc).2
theorem yK(m:Nat):(List.replicate m 113).filter (λc=>decide (c<58))=[]:=by
 grind
theorem Z6(hk:k<60)(A7:k'<60)(e:cX z k=cX z k'):k=k':=by
 have e:(cX z k).cps.toList=(cX z k').cps.toList:=by rw[e]
 rw[yT z k hk,yT z k' A7] at e;by_cases h0:z % 3=0
 ·rw[if_pos h0,if_pos h0] at e;injection e with e1 e;injection e with e2 _;omega
 rw[if_neg h0,if_neg h0] at e;have key:(k*17+z) % 61=(k'*17+z) % 61->k=k':=λh=>by omega
 by_cases h1:z % 3=1
 ·rw[if_pos h1,if_pos h1] at e;injection e with _ e;have e2:=congrArg (List.filter λc=>decide (c<58)) e;rw[Wq,Wq,yK,yK,yJ (by omega),yJ (by omega),SK,SK] at e2;have e3:=congrArg IW e2;rw[zZ,zZ] at e3;exact key e3
 ·rw[if_neg h1,if_neg h1] at e;injection e with _ e;have e2:=congrArg (List.filter λc=>decide (c<58)) e;rw[Wq,Wq,yK,yK,yJ (by omega),yJ (by omega),Wb,Wb] at e2;have e3:=congrArg IW e2;rw[zZ,zZ] at e3;exact key e3
theorem P0:∀i<26,fJ nM (97+i)=true/\fJ lD (97+i)=true:=by decide+kernel
theorem P1:∀i<10,fJ lD (48+i)=true:=by decide+kernel
theorem Zgk:fJ lD 113=true:=by decide+kernel
theorem KY(hk:k<60):rH (cX z k)=true/\(cX z k).length<=12:=by
 have fl:=FK k z;have rep:(List.replicate (eR k z) 113).all (fJ lD)=true:=Wm.mpr λc hc=>by rw[List.eq_of_mem_replicate hc];exact Zgk
 have dg:∀n,n<61->(jg n).all (fJ lD)=true/\(jg n).length<=2:=λn hn=>by
  refine⟨Wm.mpr λc hc=>?_,?_⟩
  ·have:=PZ hn c hc;have e:=P1 (c-48) (by omega)
   grind
  ·unfold jg;split<;>simp
 have len:(cX z k).length=(cX z k).cps.toList.length:=rfl;have c:=yT z k hk;have main:∃(i:Nat) (r:List Nat),i<26/\(cX z k).cps.toList=(97+i)::r/\r.length<=11/\r.all (fJ lD)=true:=by
  by_cases h0:z % 3=0
  ·rw[if_pos h0] at c;refine⟨_,_,by omega,c,?_,?_⟩
   ·show((48+k/26)::List.replicate (eR k z) 113).length<=11
    grind
   ·show((48+k/26)::List.replicate (eR k z) 113).all (fJ lD)=true;rw[Jf,rep,P1 _ (by omega)];rfl
  grind
 obtain⟨i,r,hi,e,lr,ar⟩:=main;have Bc:(cX z k).length<=12:=by
  grind
 refine⟨?_,Bc⟩;rw[LG e,decide_eq_true Bc,(P0 i hi).1,Jf,(P0 i hi).2,ar];rfl
theorem ZcJ:∀m<10,(kq m).length<=9:=by decide+kernel
theorem Ou:∀n<61,(ko n).length<=2:=by decide+kernel
theorem Fd(a b:Str):(a++b).length=a.length+b.length:=Array.size_append
inductive Ov(vs:List V)(H:Hp)(Q:VK):Prop
 |mk (k z:Nat) (aC:vs=[.int (k:Int),.int (z:Int)]) (hk:k<60) (hz:z<97) (q:Q (.str (cX z k)) H):Ov vs H Q
def P2:Sp:=λvs H Q _=>Ov vs H Q
section
theorem vN:aP ["_law_k","_law_salt","_law_letters","_law_fill","_law_number"] ["_law_k","_law_salt"] (aG DN):=.aV
theorem Xs(F:aM K "_law_name" "_law_name" DN f fd)(bl:Bl mg):aE P w K mg base aL 1 f fd ["_law_k","_law_salt"] P2:=by
 refine F.o vN λaA A outer s H vs Q E hr h=>?_;obtain⟨k,z,rfl,hk,hz,q⟩:=h;refine⟨_,(aj (bW 2 vN.nd a9) (aj (bW 3 vN.nd (aZ NB a9 (aZ dU (aZ ig (aZ nR (pv 0) (pv 1)) (pv 1)) aN))) (aj (bW 4 vN.nd (aZ dU (aZ ig (aZ nR (pv 0) aN) (pv 1)) aN)) (aj (aS (bp bZ (aZ dU (aZ zb (pv 1) aN) aN) aN) (aq (bW 3 vN.nd (aZ NB a9 aN))) aW) (aj (aS (bp bZ (aZ dU (pv 1) aN) aN) (aq (aI (aZ tO (aZ tO (aY wg (pv 2) (aZ dU (aZ ig (aZ nR (pv 0) aN) (pv 1)) aN)) (eN CM rfl bl.wF wk (aa (aZ zb (pv 0) aN) ag))) (pv 3)))) aW) (aj (aS (bp bZ (aZ dU (pv 1) aN) aN) (aq (aI (aZ tO (aZ tO (aY wg (pv 2) (aZ dU (pv 1) aN)) (pv 3)) (eN CM rfl bl.wF wk (aa (pv 4) ag))))) aW) (aq (aI (aZ tO (aZ tO (aY wg (pv 2) (aZ dU (pv 1) aN)) (eN CM rfl bl.wF wk (aa (pv 4) ag))) (pv 3)))))))))),?_⟩;have cm:wO (k:Int) (z:Int):=.inl ⟨by omega,by omega⟩;have Uk:∀j:Int,wO (k:Int) j:=λj=>.inl ⟨by omega,by omega⟩;have c3:Gh (z:Int) 3:=⟨by omega,by omega⟩;have c26:Gh (k:Int) 26:=⟨by omega,by omega⟩;have sz:(10000:Nat)<=sizeLine:=by rw[sizeLine_eq];omega
 have Ul:((k:Int)*17+(z:Int)) % 61=(((k*17+z) % 61:Nat):Int):=by omega
 have m26:((k:Int)*7+(z:Int)) % 26=(((k*7+z) % 26:Nat):Int):=by omega
 have Um:(z:Int) % 26=((z % 26:Nat):Int):=by omega
 have d26:(k:Int)/26=((k/26:Nat):Int):=by omega
 have e5:((k:Int)*(z:Int)+(z:Int)) % 5=(((k*z+z) % 5:Nat):Int):=by rw[Int.natCast_emod,Int.natCast_add,Int.natCast_mul];rfl
 refine setC ?_;refine cq ?_;refine⟨_,rfl,_,rfl,_,_,rfl,rfl,cm,_,rfl,_,_,rfl,rfl,_,_,rfl,rfl,by omega,"q",(k*z+z) % 5,rfl,congrArg V.int e5,by decide+kernel,by omega,?_⟩;refine cq ?_;refine⟨_,rfl,_,_,rfl,rfl,Uk _,_,rfl,_,_,rfl,rfl,_,_,rfl,rfl,by omega,?_⟩;refine pO (λσ H6=>H6=H/\σ=[some (.int (k:Int)),some (.int (z:Int)),some (.str sX),some (.str (kq (eR k z))),some (.int (((k*17+z) % 61:Nat):Int))]) (λqt gv=>?_) ?_
 ·refine⟨_,rfl,_,_,rfl,rfl,c3,_,_,rfl,rfl,by omega,rfl,_,rfl,bB (λc=>?_) (λc=>aT ?_)⟩
  ·have c:=V.int.inj (of_decide_eq_true c);have c1:z/3 % 3=1:=by omega
   have fe:eR k z=9:=if_pos c1;refine⟨"q",9,rfl,rfl,by decide+kernel,by omega,bo (gv _ _ ⟨rfl,?_⟩)⟩;rw[fe,←Ul];rfl
  ·have c1:¬z/3 % 3=1:=λw=>c (decide_eq_true (congrArg V.int (by omega)));have fe:eR k z=(k*z+z) % 5:=if_neg c1;refine gv _ _ ⟨rfl,?_⟩;rw[fe,←Ul];rfl
 rintro σ H6 ⟨rfl,rfl⟩;have ls:=ZcJ _ (FK k z);have ll:sX.length<=sizeLine:=Y0 (show sX.length<=100 by decide+kernel) (by omega);have lg:∀n:Nat,n<61->(n:Int).natAbs.log2<1920:=λn hn=>W9 (Nat.log2_le_self _) (by omega);refine⟨_,rfl,_,_,rfl,rfl,by omega,rfl,_,rfl,bB (λc=>?_) (λc=>aT ?_)⟩
 ·have h0:z % 3=0:=by have:=V.int.inj (of_decide_eq_true c);omega
  have ld:=Ou (k/26) (by omega);refine⟨_,rfl,_,rfl,_,_,rfl,rfl,Uk _,_,rfl,_,_,rfl,rfl,_,_,rfl,rfl,by omega,sX,_,_,rfl,congrArg V.int m26,ll,FJ _ (by omega),_,rfl,_,_,rfl,rfl,c26,((k/26:Nat):Int),congrArg (λi=>[V.int i]) d26,lg _ (by omega),_,_,rfl,rfl,?_,_,rfl,_,_,rfl,rfl,?_,?_⟩
  ·show 1+(ko (k/26)).length<=sizeLine;omega
  ·show(oU ((k*7+z) % 26)++ko (k/26)).length+(kq (eR k z)).length<=sizeLine;rw[Fd];show 1+_+_<=_;omega
  ·have e:cX z k=(oU ((k*7+z) % 26)++ko (k/26))++kq (eR k z):=if_pos h0;rw[e] at q;exact q
 have h0:¬z % 3=0:=λw=>c (decide_eq_true (congrArg V.int (by omega)));have ld:=Ou ((k*17+z) % 61) (by omega);refine⟨_,rfl,_,_,rfl,rfl,by omega,rfl,_,rfl,bB (λc=>?_) (λc=>aT ?_)⟩
 ·have h1:z % 3=1:=by have:=V.int.inj (of_decide_eq_true c);omega
  refine⟨_,rfl,_,rfl,_,_,rfl,rfl,by omega,sX,_,_,rfl,congrArg V.int Um,ll,FJ _ (by omega),_,rfl,_,_,rfl,rfl,?_,_,rfl,_,rfl,lg _ (by omega),_,_,rfl,rfl,?_,?_⟩
  ·show 1+(kq (eR k z)).length<=sizeLine;omega
  ·show(oU (z % 26)++kq (eR k z)).length+(ko ((k*17+z) % 61)).length<=sizeLine;rw[Fd];show 1+_+_<=_;omega
  ·have e:cX z k=(oU (z % 26)++kq (eR k z))++ko ((k*17+z) % 61):=(if_neg h0).trans (if_pos h1);rw[e] at q;exact q
 have h1:¬z % 3=1:=λw=>c (decide_eq_true (congrArg V.int (by omega)));refine⟨_,rfl,_,rfl,_,_,rfl,rfl,by omega,sX,_,_,rfl,congrArg V.int Um,ll,FJ _ (by omega),_,rfl,_,rfl,lg _ (by omega),_,_,rfl,rfl,?_,_,rfl,_,_,rfl,rfl,?_,?_⟩
 ·show 1+(ko ((k*17+z) % 61)).length<=sizeLine;omega
 ·show(oU (z % 26)++ko ((k*17+z) % 61)).length+(kq (eR k z)).length<=sizeLine;rw[Fd];show 1+_+_<=_;omega
 ·have e:cX z k=(oU (z % 26)++ko ((k*17+z) % 61))++kq (eR k z):=(if_neg h0).trans (if_neg h1);rw[e] at q;exact q
end
inductive P4(C CL CJ:Addr)(vs:List V)(H:Hp)(Q:VK):Prop
 |mk (l:BL) (b:BS) (xs ys:List Int) (c:Fc) (ff:Addr) (aC:vs=[.ref l.h,.ref ff]) (ba:bb H C CL CJ l xs ys b) (ok:cC xs ys b) (hf:H ff=some (.tup [.str c.k,.str (au b.ps c.one),kV (a_ b.ps c)])) (fg:eB xs ys b.ps.length c) (lim:b.fs.length<63) (hw:mP xs.length b c="") (dl:b.dn.length<200) (q:∀(l':BL) (H':Hp),bK H H' l l'->bb H' C CL CJ l' xs ys (b.wM c)->Q (.int (b.co:Int)) H'):P4 C CL CJ vs H Q
def QP(C CL CJ:Addr):Sp:=λvs H Q _=>P4 C CL CJ vs H Q
structure dv(C CL CJ:Addr)(H:Hp)(xs ys:List Int)(z j:Nat)(td:Addr)(l:BL)(b:BS)(nl sd fl st:Addr):Prop where
 ba:bb H C CL CJ l xs ys b
 ok:cC xs ys b
 names:H nl=some (.lst (jC b.ps))
 n1:nl∉l.fp
 cW:H sd=some (.dK (fV b.ps))
 n2:sd∉l.fp
 facts:∃as:List Addr,H fl=some (.lst (as.map V.ref))/\Paired (eA H b.ps) as b.fs
 n3:fl∉l.fp
 tup:H st=some (.tup [.ref nl,.ref sd,.ref fl,.int (b.co:Int)])
 turns:fX H td xs ys
 n4:td∉l.fp
 nm:b.ps.map (·.1)=(List.range b.ps.length).map (cX z)
 so:(b.fs.map (·.1)).Pairwise (·<·)
 cp:b.ps.length<=j
 cf:b.ps.length+b.fs.length<=j
 cd:b.dn.length<=j
section
variable {H H':Hp}{xs ys:List Int}{z j:Nat}{td:Addr}{l l':BL}{b b':BS}{nl sd fl st:Addr}
theorem dv.same(g:ai H H')(s:dv C CL CJ H xs ys z j td l b nl sd fl st):dv C CL CJ H' xs ys z j td l b nl sd fl st:=
 ⟨s.ba.same g,s.ok,g _ _ s.names,s.n1,g _ _ s.cW,s.n2,let⟨as,h1,h2⟩:=s.facts;⟨as,g _ _ h1,L2.Paired.bA h2 λ_ _ e=>g _ _ e⟩,s.n3,g _ _ s.tup,s.turns.same g,s.n4,s.nm,s.so,s.cp,s.cf,s.cd⟩
theorem dv.more(s:dv C CL CJ H xs ys z j td l b nl sd fl st):dv C CL CJ H xs ys z (j+1) td l b nl sd fl st:=
 ⟨s.ba,s.ok,s.names,s.n1,s.cW,s.n2,s.facts,s.n3,s.tup,s.turns,s.n4,s.nm,s.so,W3 s.cp,W3 s.cf,W3 s.cd⟩
theorem dv.FL(s:dv C CL CJ H xs ys z j td l b nl sd fl st):FL H b.ps fl b.F:=by
 obtain⟨as,h1,h2⟩:=s.facts;refine⟨as,h1,?_⟩;have:∀{as:List Addr} {fs:List (Nat×Fc)},Paired (eA H b.ps) as fs->Paired (IF H b.ps) as (fs.map (·.2)):=λh=>by
  induction h with
  |nil=>exact .nil
  |cons e _ ih=>exact .cons ⟨_,e⟩ ih
 exact this h2
theorem bK.off(w:bK H H' l l')(h:H a=some o)(n:a∉l.fp):H' a=some o/\a∉l'.fp:=
 ⟨w.out _ _ h n,λz=>(w.grow a z).elim n λq=>by rw[h] at q;cases q⟩
theorem bK.bJ(w:bK H H' l l')(ba:bb H C CL CJ l xs ys b)(h:H a=some (.tup us)):H' a=some (.tup us):=w.out _ _ h (ba.tup h)
theorem bK.fX(w:bK H H' l l')(ba:bb H C CL CJ l xs ys b)(h:fX H td xs ys)(n:td∉l.fp):fX H' td xs ys:=by
 obtain⟨m,f,w1,s,h1,h2,h3,h4,h5⟩:=h;exact⟨m,f,w1,s,w.out _ _ h1 n,w.bJ ba h2,w.bJ ba h3,w.bJ ba h4,w.bJ ba h5⟩
theorem yU(w:bK H H' l l')(ba:bb H C CL CJ l xs ys b)(h:Paired (eA H ps) as fs):Paired (eA H' ps) as fs:=L2.Paired.bA h λ_ _ e=>w.bJ ba e
theorem bb.fresh(ba:bb H C CL CJ l xs ys b)(h:H a=none):a∉l.fp:=λz=>ba.there z h
theorem eA.ext(fg:eB xs ys ps.length p.2)(h:eA H ps a p):eA H (ps++[(n,s)]) a p:=by
 have e1:∀i,i<ps.length->au (ps++[(n,s)]) i=au ps i:=λi hi=>by
  unfold au
  grind
 unfold eA dR at h⊢;have e2:a_ (ps++[(n,s)]) p.2=a_ ps p.2:=by
  by_cases k:p.2.k=bq;·rw[mj k,mj k]
  ·rw[iP k,iP k,e1 _ (fg.ok.gG k).1.2]
 rw[e1 _ fg.ok.one,e2];exact h
theorem dv.fresh(s:dv C CL CJ H xs ys z j td l b nl sd fl st)(h60:j<60)(kZ:Str)(hs:FG kZ=true):GD b (cX z b.ps.length) kZ:=by
 have c:=s.cp;obtain⟨f1,f2⟩:=KY (k:=b.ps.length) (by omega);refine⟨f1,hs,λm=>?_,by omega,by omega⟩;rw[s.nm] at m;obtain⟨i,hi,e⟩:=Yf.mp m;have hi:=Wi.mp hi;have:=Z6 (by omega) (by omega) e;omega
theorem nm_more(h:b.ps.map (·.1)=(List.range b.ps.length).map (cX z))(s:Str):(b.ps++[(cX z b.ps.length,s)]).map (·.1)=(List.range (b.ps++[(cX z b.ps.length,s)]).length).map (cX z):=by
 rw[Ys,h,Yk];show _++[cX z b.ps.length]=(List.range (b.ps.length+1)).map (cX z);rw[List.range_succ,Ys];rfl
end
inductive MZ(C CL CJ:Addr)(vs:List V)(H:Hp)(Q:VK):Prop
 |mk (xs ys:List Int) (z j:Nat) (cell:Int) (td:Addr) (l:BL) (b:BS) (nl sd fl st:Addr) (aC:vs=[.ref l.h,.ref st,.int cell,.ref td,.int (z:Int)]) (si:dv C CL CJ H xs ys z j td l b nl sd fl st) (hz:z<97) (hj:j<60) (q:∀(l':BL) (b':BS) (oV kZ l9 aK:Addr) (H':Hp),bK H H' l l'->dv C CL CJ H' xs ys z (j+1) td l' b' oV kZ l9 aK->0<b'.ps.length->Q (.ref aK) H'):MZ C CL CJ vs H Q
def Ow(C CL CJ:Addr):Sp:=λvs H Q _=>MZ C CL CJ vs H Q
theorem Xt{P Q:α->β->Prop}(h:∀a b,b∈bs->P a b->Q a b)(p:Paired P as bs):Paired Q as bs:=by
 induction p with
 |nil=>exact .nil
 |cons e _ ih=>exact .cons (h _ _ Yl e) (ih λa b hb=>h a b (Yw _ hb))
theorem YT(fs:List α)(p:α->Bool):((List.range fs.length).filter λi=>(fs[i]?.map p).getD false).map (λi=>fs[i]?)=(fs.filter p).map some:=by
 have e:(List.range fs.length).map (λi=>fs[i]?)=fs.map some:=Wu λi=>by
  grind
 have h:=Jw (f:=λi=>fs[i]?) (l:=List.range fs.length) (p:=λo:Option α=>(o.map p).getD false);rw[e,Jw] at h;exact h.symm
theorem Ox:∀{l:List (Nat×α)},(l.map (·.1)).Nodup->∀{p q:Nat×α},p∈l->q∈l->p.1=q.1->p=q
 |[],_,_,_,h,_,_=>nomatch h
 |a::l,nd,p,q,hp,hq,e=>by
  obtain⟨n1,n2⟩:=Yz.mp (show(a.1::l.map (·.1)).Nodup from nd);rcases Yo.mp hp with e1|h1<;>rcases Yo.mp hq with e2|h2;·rw[e1,e2]
  ·grind
  ·grind
  ·exact Ox n2 h1 h2 e
theorem P5(ks:List Key):(ks.map kV).all mZ=true:=by
 rw[Wm];intro v hv;obtain⟨k,_,rfl⟩:=Yf.mp hv;cases k<;>rfl
theorem ZcK:∃s:Str,dJ [V.str "man",V.str "woman"] (d % 2)=some (.str s)/\FG s=true:=by
 have:d % 2=0\/d % 2=1:=by omega
 rcases this with e|e<;>rw[e];·exact⟨_,rfl,by decide+kernel⟩
 ·exact⟨_,rfl,by decide+kernel⟩
section
theorem YU:aP ["_law_book","_law_fact_here"] ["_law_book","_law_fact_here"] (aG Ej):=.aV
theorem YV(F:aM K "_law_put" "_law_put" Ej f fd)(C2:cz P w K mg base 12 "say" C ["self","name","section"] (PN C CL CJ))(C3:cz P w K mg base 12 "tie" C ["self","kind","one","other"] (PM C CL CJ)):aE P w K mg base aL 13 f fd ["_law_book","_law_fact_here"] (QP C CL CJ):=by
 refine F.o YU λaA A outer s H vs Q E hr h=>?_;obtain⟨l,b,xs,ys,c,ff,rfl,ba,ok,hf,fg,lim,hw,dl,q⟩:=h;refine⟨_,(aj (aS (bp bZ (aY (iT K) (pv 1) aN) a9) (aq (aI (cP C2 hr (by omega) (pv 0) (aa (aY (iT K) (pv 1) aN) (aa (aY (iT K) (pv 1) aN) ag))))) aW) (aq (aI (cP C3 hr (by omega) (pv 0) (aa (aY (iT K) (pv 1) aN) (aa (aY (iT K) (pv 1) aN) (aa (aY (iT K) (pv 1) aN) ag))))))),?_⟩;obtain⟨dx,ho⟩:=ba.obj;refine⟨_,rfl,ff,_,_,_,rfl,rfl,aB.of hf,rfl,rfl,_,rfl,?_⟩;rw[dO];refine bB (λcc=>?_) (λcc=>aT ?_)
 ·have sk:c.k=bq:=of_decide_eq_true cc;have eo:kV (a_ b.ps c)=.int c.aH:=by rw[mj sk];rfl
  exact⟨_,rfl,l.h,dx,_,rfl,ho,rfl,_,rfl,ff,_,_,_,rfl,rfl,aB.of hf,rfl,_,rfl,ff,_,_,_,rfl,rfl,aB.of hf,rfl,l,b,xs,ys,c,by rw[eo];rfl,ba,ok,⟨EO ok fg lim hw,sk⟩,dl,λl' H' wt IX=>q l' H' wt IX⟩
 ·have ns:c.k≠bq:=λz=>cc (decide_eq_true z);have eo:kV (a_ b.ps c)=.str (au b.ps c.aH.toNat):=by rw[iP ns];rfl
  exact⟨_,rfl,l.h,dx,_,rfl,ho,rfl,_,rfl,ff,_,_,_,rfl,rfl,aB.of hf,rfl,_,rfl,ff,_,_,_,rfl,rfl,aB.of hf,rfl,_,rfl,ff,_,_,_,rfl,rfl,aB.of hf,rfl,l,b,xs,ys,c,by rw[eo];rfl,ba,ok,Zbq ok fg lim hw ns,dl,λl' H' wt IX=>q l' H' wt IX⟩
theorem lq:aP ["_law_book","_law_state","_law_cell_here","_law_turns_here","_law_salt","_law_names","_law_sides","_law_facts","_law_after_here","_law_drawn","_law_name_here","_law_side","_law_fact_here","_law_out"] ["_law_book","_law_state","_law_cell_here","_law_turns_here","_law_salt"] (aG DS):=.aV
theorem Xu(F:aM K "_law_step" "_law_step" DS f fd)(ny:HasFn P w K mg base 1 "_law_draws" ["_law_cell_here","_law_parts"] (zg K))(D2:HasFn P w K mg base 1 "_law_name" ["_law_k","_law_salt"] P2)(D3:HasFn P w K mg base 2 "_law_fact" ["_law_names","_law_sides","_law_drawn","_law_size"] PY)(D4:HasFn P w K mg base 4 "_law_word" ["_law_sides","_law_facts","_law_turns_here","_law_fact_here"] PU)(Ep:HasFn P w K mg base 13 "_law_put" ["_law_book","_law_fact_here"] (QP C CL CJ))(Cd:cz P w K mg base 11 "person" C ["self","name","side"] (ML C CL CJ))(CK:cz P w K mg base 11 "take" C ["self","number"] (PH C CL CJ))(bl:Bl mg):aE P w K mg base aL 14 f fd ["_law_book","_law_state","_law_cell_here","_law_turns_here","_law_salt"] (Ow C CL CJ):=by
 refine F.o lq λaA A outer s H vs Q E hr h=>?_;obtain⟨xs,ys,z,j,cell,td,l,b,nl,sd,fl,st,rfl,si,hz,hj,q⟩:=h;have hu:=hr.uh;refine⟨_,(aj (nQ (pv 1) (jj (K:=K) (n:=4) rfl rfl (bR (bF 5 lq.nd) (bR (bF 6 lq.nd) (bR (bF 7 lq.nd) (bR (bF 8 lq.nd) jh)))))) (aj (bW 9 lq.nd (aU ny hr (aa (pv 2) (aa (dt (aa aN (aa aN (aa aN (aa aN (aa aN ag)))))) ag)))) (aj (aS (PW.pt (pw_or (bp mO (dh K bl (pv 5)) aN) (pw_or1 (bp mO (aY (iL K) (pv 9) aN) aN)))) (aj (bW 10 lq.nd (aU D2 hr (aa (dh K bl (pv 5)) (aa (pv 4) ag)))) (aj (bW 11 lq.nd (aY (iL K) (dt (aa a9 (aa a9 ag))) (aZ dU (aY (iL K) (pv 9) aN) aN))) (aj (bU (cP Cd hr (by omega) (pv 0) (aa (pv 10) (aa (pv 11) ag)))) (aj (bW 6 lq.nd (eN Xb rfl bl.Zdj Zb_ (aa (pv 6) ag))) (aj (nJ (bj hr) (pv 6) (pv 10) (pv 11)) (aq (aI (dm (aa (aZ zo (pv 5) (dt (aa (pv 10) ag))) (aa (pv 6) (aa (pv 7) (aa (pv 8) ag)))))))))))) aW) (aj (aS (bp mO (aY (iL K) (pv 9) aN) aN) (aj (bW 12 lq.nd (aU D3 hr (aa (pv 5) (aa (pv 6) (aa (pv 9) (aa (dh K bl (df (bj hr) (pv 3) a9 (λ_ _=>rfl))) ag)))))) (aj (aS (bp lE (aU D4 hr (aa (pv 6) (aa (pv 7) (aa (pv 3) (aa (pv 12) ag))))) a9) (aq (aI (pv 1))) aW) (aj (bU (aU Ep hr (aa (pv 0) (aa (pv 12) ag)))) (aq (aI (dm (aa (pv 5) (aa (pv 6) (aa (aZ zo (pv 7) (dt (aa (aZ ZbG (dm (aa (pv 8) ag)) (pv 12)) ag))) (aa (aZ ig (pv 8) aN) ag)))))))))) aW) (aj (aS (bp (E1 (K:=K) rfl (O_ hu)) (pv 7) (dt ag)) (aq (aI (pv 1))) aW) (aj (gc (i:=13) lq.nd rfl (Or.inr rfl) (aY (iL K) (pv 7) (aZ dU (aY (iL K) (pv 9) aN) (dh K bl (pv 7))))) (aj (bU (cP CK hr (by omega) (pv 0) (aa (aY (iT K) (pv 13) aN) ag))) (aq (aI (dm (aa (pv 5) (aa (pv 6) (aa (ji (x:="_law_one") (fr:=[("_law_out",13)]) (cl:=[("_law_out",s.heap.objs.size+1)]) rfl (.g_ ⟨rfl,trivial⟩ ⟨⟨rfl,.inl rfl,.inl rfl,rfl⟩,trivial⟩) (fZ (K:=K) rfl (pv 7)) (λ_ _ _ _=>vZ (bp (Zd1 (K:=K) rfl hu) (pv 0) (pv 1))) (λ_ _ _ _=>(pv 0))) (aa (pv 8) ag)))))))))))))),?_⟩;have sz:(10000:Nat)<=sizeLine:=by rw[sizeLine_eq];omega
 refine⟨_,rfl,st,_,rfl,aB.of si.tup,rfl,_,_,rfl,bo ⟨_,_,rfl,bo ⟨_,_,rfl,bo ⟨_,_,rfl,bo ⟨rfl,?_⟩⟩⟩⟩⟩;dsimp only;refine cq ?_;refine⟨_,rfl,by show 5<=sizeLine;omega,λpp H1 np g1 hp=>⟨cell,pp,[16,61,59,8,4],rfl,ak.of hp,by decide,by decide,λdr ds H2 nd g2 h2 bd=>?_⟩⟩;obtain⟨d0,d1,d2,d3,d4,rfl,_,_,_,_,b4⟩:=Zcf bd;have kY:=g1.trans g2;have s2:=si.same kY;obtain⟨dx,ho⟩:=s2.ba.obj;have Bv:=uf b.ps;have cp:=si.cp;have cf:=si.cf;have cd:=si.cd;have m64:=si.ok.m;have f63:=si.ok.fl;have ix:∀{i:Int} {v:Int} {H9:Hp},ai H2 H9->dJ ([d0,d1,d2,d3,d4].map V.int) i=some (.int v)->∀σ:St,σ[9]?=some (some (.ref dr))->Vt (i8 (ux K) (fD 9) (tC (V.int i))) σ H9 (.int v):=λg e σ hσ kk hk=>⟨_,hσ,dr,_,_,_,rfl,rfl,ak.of (g _ _ h2),e,hk _ (ai.refl _)⟩;refine(Bt.or (a:=decide (((jC b.ps).length:Int)<2)) (b:=decide (d0<5)) (λkk hk=>⟨_,rfl,nl,_,rfl,.inl (ak.of s2.names),_,_,rfl,rfl,_,rfl,hk _ (ai.refl _)⟩) λH3 _ g3 kk hk=>ix g3 rfl _ rfl _ λH4 g4=>⟨_,_,rfl,rfl,_,rfl,hk _ g4⟩) _ λH3 g3=>?_;have s3:=s2.same g3;have jy:=kY.trans g3;rw[Bv];refine bB (λcc=>?_) (λcc=>aT ?_)
 ·refine cq ?_;refine⟨_,rfl,nl,_,rfl,.inl (ak.of s3.names),_,rfl,b.ps.length,z,by rw[Bv];rfl,by omega,hz,?_⟩;refine cq ?_;obtain⟨sx,es,so⟩:=ZcK (d:=d1);refine⟨by show 2<=sizeLine;omega,λsl H4 Ij g4 hsl=>ix (g3.trans g4) rfl _ rfl _ λH5 g5=>⟨_,_,rfl,rfl,by omega,sl,_,_,_,rfl,rfl,ak.of (g5 _ _ hsl),es,?_⟩⟩;have s5:=(s3.same g4).same g5;have Bx:=(jy.trans g4).trans g5;obtain⟨IY,IZ⟩:=s5.ba.obj;refine⟨_,rfl,l.h,IY,_,rfl,IZ,rfl,_,rfl,_,rfl,l,b,xs,ys,cX z b.ps.length,sx,rfl,s5.ba,s5.ok,s5.fresh hj sx so,by omega,λl' H6 wt oW=>?_⟩;have I0:=s5.fresh hj sx so;dsimp only;refine cq ?_;have off:=λ{a:Addr} {o:HO} (h:H5 a=some o) (n:a∉l.fp)=>wt.off h n;obtain⟨yp,Al⟩:=off s5.cW s5.n2;obtain⟨yq,Am⟩:=off s5.names s5.n1;obtain⟨as,vA,dQ⟩:=s5.facts;obtain⟨vB,GI⟩:=off vA s5.n3;refine⟨_,rfl,sd,_,rfl,yp,λs' H7 de g7 oI=>?_⟩;have vn:aQ (fV b.ps) (.inr (cX z b.ps.length))=none:=oX λhm=>I0.new (by
   obtain⟨p,hp,e⟩:=Yf.mp hm;obtain⟨p',hp',rfl⟩:=Yf.mp hp;exact Yf.mpr ⟨p',hp',Wf e⟩)
  refine⟨_,rfl,_,rfl,_,rfl,s',_,.inr (cX z b.ps.length),rfl,oI,rfl,by rw[Ya];omega,λH8 b8 e8=>?_⟩;have kr:ai H6 H8:=λc o e=>b8 _ _ (g7 _ _ e) (bT e de);rw[kB _ vn] at e8;refine⟨_,rfl,_,rfl,by show 1<=sizeLine;omega,λt H9 nt g9 ht=>⟨nl,t,_,_,rfl,rfl,g9 _ _ (kr _ _ yq),ht,by rw[Bv];show _+1<=_;omega,λn' HA nn' gA uH=>⟨_,rfl,_,rfl,_,rfl,by show 4<=sizeLine;omega,λaK HB AU gB c7=>?_⟩⟩⟩;have yr:=(g9.trans gA).trans gB;have k9:=kr.trans yr;have pe:(b.F6 (cX z b.ps.length) sx).ps=b.ps++[(cX z b.ps.length,sx)]:=rfl;obtain⟨tm,tf,tw,ts,eF,_⟩:=id s5.turns;refine q l' (b.F6 (cX z b.ps.length) sx) n' s' fl aK HB ((bK.after Bx wt).same k9) ⟨oW.same k9,si.ok.Zf1 I0.new I0.lim (Yd _) (by rw[Yk];show _+1<=200;omega) (Yx _),?_,((oW.same kr).same g9).fresh nn',?_,oW.fresh de,⟨as,k9 _ _ vB,?_⟩,GI,c7,(wt.fX s5.ba s5.turns s5.n4).same k9,(off eF s5.n4).2,nm_more si.nm sx,si.so,?_,?_,?_⟩ (by rw[pe,Yk];exact Nat.succ_pos _)
  ·rw[gB _ _ uH,pe,jC,jC,Ys];rfl
  ·rw[yr _ _ e8,pe];show _=some (HO.dK ((b.ps++[(cX z b.ps.length,sx)]).map _));rw[Ys];rfl
  ·have:=yU wt s5.ba dQ;refine Xt (λa p hp e=>?_) this;exact eA.ext (si.ok.fg p hp) (k9 _ _ e)
  ·rw[pe,Yk];show _+1<=_;omega
  ·rw[pe,Yk];show _+1+b.fs.length<=_;omega
  ·show(b.dn++[_]).length<=_;rw[Yk];show _+1<=_;omega
 have p0:0<b.ps.length:=by
  rw[IP,decide_eq_true_iff] at cc;omega
 refine⟨_,rfl,dr,_,_,_,rfl,rfl,ak.of (g3 _ _ h2),rfl,_,_,rfl,rfl,_,rfl,?_⟩;refine bB (λcc2=>?_) (λcc2=>aT ?_)
 ·refine cq ?_;obtain⟨tm,tf,tw,u0,eF,_,_,_,vw⟩:=id s3.turns;refine⟨_,rfl,_,rfl,_,rfl,_,rfl,td,.ref u0,rfl,cU eF rfl,u0,_,rfl,.inr (aB.of vw),nl,sd,dr,b.ps,xs,ys,d0,d1,d2,d3,d4,by rw[Ya,eM];rfl,s3.names,s3.cW,si.ok.nm,p0,by omega,g3 _ _ h2,b4,si.ok.gd,λc fg ff H4 Bw g4 sW=>?_⟩;have s4:=s3.same g4;refine⟨_,rfl,_,rfl,_,rfl,_,rfl,sd,fl,td,ff,xs,ys,b,c,rfl,s4.cW,s4.FL,s4.turns,sW,si.ok,fg,λH5 g5=>⟨rfl,_,rfl,?_⟩⟩;have s5:=s4.same g5;have Bx:=(jy.trans g4).trans g5;rw[dO];refine bB (λcw=>?_) (λcw=>aT ?_);·exact⟨_,rfl,q l b nl sd fl st H5 (bK.of Bx) s5.more p0⟩
  have hw:mP xs.length b c="":=by
   by_cases e:mP xs.length b c="";·exact e
   ·rw[decide_eq_false e] at cw;exact absurd rfl cw
  have nf:=EO si.ok fg (by omega) hw;refine⟨_,rfl,_,rfl,l,b,xs,ys,c,ff,rfl,s5.ba,si.ok,g5 _ _ sW,fg,by omega,hw,by omega,λl' H6 wt oW=>?_⟩;have off:=λ{a:Addr} {o:HO} (h:H5 a=some o) (n:a∉l.fp)=>wt.off h n;obtain⟨yp,Al⟩:=off s5.cW s5.n2;obtain⟨yq,Am⟩:=off s5.names s5.n1;obtain⟨as,vA,dQ⟩:=s5.facts;obtain⟨vB,GI⟩:=off vA s5.n3;have ff6:=wt.bJ s5.ba (g5 _ _ sW);have al:=c9 dQ;refine⟨_,rfl,_,rfl,_,rfl,_,rfl,by show 1<=sizeLine;omega,λt1 H7 nt1 g7 IT=>⟨_,rfl,t1,ff,_,_,rfl,rfl,aB.of IT,aB.of (g7 _ _ ff6),by simp,by show 1+3<=sizeLine;omega,λe=>(by cases e),λ_ t2 nt2=>?_⟩⟩;obtain⟨H8,e8⟩:∃H8,H8=upd H7 t2 (.tup ([V.int (b.co:Int)]++[V.str c.k,V.str (au b.ps c.one),kV (a_ b.ps c)])):=⟨_,rfl⟩;have g8:ai H7 H8:=by rw[e8];exact bY nt2 _
  have ht2:eA H8 b.ps t2 (b.co,c):=by
   show H8 t2=_;rw[e8,aO];rfl
  rw[←e8];have kr:=g7.trans g8;refine⟨by show 1<=sizeLine;omega,λl1 H9 nl1 g9 hl1=>⟨fl,l1,_,_,rfl,rfl,g9 _ _ (kr _ _ vB),hl1,by rw[Ya];show _+1<=_;omega,λl9 HA Zgl gA Zgm=>⟨_,rfl,_,_,rfl,rfl,by show 4<=sizeLine;omega,λaK HB AU gB c7=>?_⟩⟩⟩;have yr:=(g9.trans gA).trans gB;have k9:=kr.trans yr;obtain⟨tm,tf,tw,ts,GJ,_⟩:=id s5.turns;have Uo:=si.ok.lt;refine q l' (b.wM c) nl sd l9 aK HB ((bK.after Bx wt).same k9) ⟨oW.same k9,?_,k9 _ _ yq,Am,k9 _ _ yp,Al,⟨as++[t2],?_,?_⟩,((oW.same kr).same g9).fresh Zgl,c7,(wt.fX s5.ba s5.turns s5.n4).same k9,(off GJ s5.n4).2,si.nm,?_,W3 cp,?_,?_⟩ p0
  ·exact si.ok.Zf2 fg (λm=>by
    obtain⟨p,hp,e⟩:=Yf.mp m;have:=Uo p hp;omega) nf.nk nf.np nf.lv (by omega) (co:=b.co+1) (Jz _) (Jg _) (by rw[Yk];show _+1<=200;omega) (Yx _)
  ·rw[gB _ _ Zgm,Ys];rfl
  ·exact jE (F:=eA HB b.ps) (yr _ _ ht2) (L2.Paired.bA (yU wt s5.ba dQ) λ_ _ e=>k9 _ _ e)
  ·show((b.fs++[(b.co,c)]).map (·.1)).Pairwise _;rw[Ys];refine List.pairwise_append.mpr ⟨si.so,by simp,λu hu v hv=>?_⟩;obtain⟨p,hp,rfl⟩:=Yf.mp hu;have:v=b.co:=by simpa using hv
   rw[this];exact Uo p hp
  ·show _+(b.fs++[_]).length<=_;rw[Yk];show b.ps.length+(_+1)<=_;omega
  ·show(b.dn++[_]).length<=_;rw[Yk];show _+1<=_;omega
 obtain⟨as,vA,dQ⟩:=s3.facts;have al:=c9 dQ;refine⟨_,rfl,by show 0<=sizeLine;omega,λe0 H4 yj g4 xY=>⟨fl,e0,_,rfl,rfl,ak.of (g4 _ _ vA),ak.of xY,_,rfl,bB (λce=>?_) (λce=>aT ?_)⟩⟩;·exact⟨_,rfl,q l b nl sd fl st H4 (bK.of (jy.trans g4)) (s3.same g4).more p0⟩
 refine cq ?_;have s4:=s3.same g4;have f0:0<as.length:=by
  cases e:as with
  |nil=>rw[e] at ce;exact absurd rfl ce
  |cons _ _=>exact Nat.succ_pos _
 have mi:=wB (z:=d1) f0;refine⟨_,rfl,ix (g3.trans g4) rfl _ rfl _ λH5 g5=>?_⟩;have s5:=s4.same g5;have GK:=g5 _ _ (g4 _ _ vA);obtain⟨i,ei⟩:∃i:Nat,d1 % (as.length:Int)=(i:Int):=⟨(d1 % (as.length:Int)).toNat,by omega⟩;have hi:i<as.length:=by omega
 obtain⟨ao,Up⟩:∃ao,as[i]?=some ao:=⟨_,Yc hi⟩;obtain⟨⟨z0,c0⟩,Uq,ID⟩:=fY dQ Up;have RN:=g5 _ _ (g4 _ _ ID);refine⟨_,rfl,fl,_,rfl,.inl (ak.of GK),_,_,rfl,rfl,by rw[Ya];omega,fl,_,_,.ref ao,rfl,rfl,ak.of GK,?_,?_⟩
 ·rw[Ya,ei];exact ic (by rw[Yg,Up];rfl)
 obtain⟨IY,IZ⟩:=s5.ba.obj;refine⟨_,rfl,l.h,IY,_,rfl,IZ,rfl,_,rfl,ao,_,_,_,rfl,rfl,aB.of RN,rfl,l,b,xs,ys,z0,c0,rfl,s5.ba,si.ok,Yi Uq,by omega,λl' H6 wt oW=>?_⟩;have off:=λ{a:Addr} {o:HO} (h:H5 a=some o) (n:a∉l.fp)=>wt.off h n;obtain⟨yp,Al⟩:=off s5.cW s5.n2;obtain⟨yq,Am⟩:=off s5.names s5.n1;obtain⟨vB,GI⟩:=off GK s5.n3;have Zgn:Paired (eA H5 b.ps) as b.fs:=L2.Paired.bA dQ λ_ _ e=>g5 _ _ (g4 _ _ e);have RO:=yU wt s5.ba Zgn;have al5:=c9 dQ;have ao6:=wt.bJ s5.ba RN;refine⟨_,rfl,_,rfl,_,rfl,fl,rfl,⟨_,ak.of vB⟩,λD hD=>?_⟩;have qe:∀p∈b.fs,p.1=z0->p=(z0,c0):=λp hp e=>Ox si.ok.zs hp (Yi Uq) e;refine DF (K:=K) (ak.of vB) (by rw[Ya];omega) hD (λi=>(b.fs[i]?.map λp=>decide (p.1≠z0)).getD false) (λi y _=>∃a,as[i]?=some a/\y=.ref a) (λ_ _ _ _ _ h=>h) (λi v hi H7 g7 _ Kt Kf kt kf=>?_) λus H7 g7 h7 pr=>?_
 ·rw[Yg] at hi;obtain⟨a,ea,rfl⟩:∃a,as[i]?=some a/\V.ref a=v:=by
   cases e:as[i]? with
   |none=>rw[e] at hi;cases hi
   |some c=>rw[e] at hi;exact⟨c,rfl,Yr hi⟩
  obtain⟨p,ep,hp⟩:=fY RO ea;have mp:=Yi ep;have pb:(b.fs[i]?.map λp=>decide (p.1≠z0)).getD false=decide (p.1≠z0):=by rw[ep];rfl
  rw[pb] at kt kf;refine⟨_,rfl,_,rfl,a,ao,_,_,rfl,rfl,aB.of (g7 _ _ hp),aB.of (g7 _ _ ao6),P5 _,P5 _,_,rfl,?_⟩;have ed:(!decide ((dR b.ps p.1 p.2).map kV=(dR b.ps z0 c0).map kV))=decide (p.1≠z0):=by
   by_cases e:p.1=z0
   ·rw[qe p mp e];simp
   ·rw[decide_eq_true e,decide_eq_false (λh=>e ?_)];·rfl
    ·injection h with h1 _;have:=V.int.inj h1;omega
  show(if(!decide ((dR b.ps p.1 p.2).map kV=(dR b.ps z0 c0).map kV))=true then _ else _);rw[ed];cases e:decide (p.1≠z0) with
  |true=>exact c5 ⟨_,rfl,kt _ H7 e (ai.refl _) ⟨a,ea,rfl⟩⟩
  |false=>exact bO (kf H7 e (ai.refl _))
 rw[Ya,al5] at pr;obtain⟨iG,rfl,Zgo⟩:∃iG:List Addr,us=iG.map V.ref/\Paired (eA H7 b.ps) iG (cR z0 b.fs):=by
  have aux:∀{ys:List V} {is:List Nat} {gs:List (Nat×Fc)},Paired (λy i=>∃a,as[i]?=some a/\y=.ref a) ys is->is.map (λi=>b.fs[i]?)=gs.map some->∃as:List Addr,ys=as.map V.ref/\Paired (eA H7 b.ps) as gs:=by
   intro ys is gs pr;induction pr generalizing gs with
   |nil=>
    intro e;cases gs with
    |nil=>exact⟨[],rfl,.nil⟩
    |cons _ _=>cases e
   |cons f _ ih=>
    intro e;cases gs with
    |nil=>cases e
    |cons g gs=>
     obtain⟨a,e1,e2⟩:=f;obtain⟨p,ep,hp⟩:=fY RO e1;injection e with e4 e5;obtain⟨as,r1,r2⟩:=ih e5;exact⟨a::as,by rw[e2,r1];rfl,.cons (by rw[←Yr (ep.symm.trans e4)];exact g7 _ _ hp) r2⟩
  exact aux pr (YT b.fs λp=>decide (p.1≠z0))
 refine⟨_,rfl,by show 4<=sizeLine;omega,λaK H8 AU g8 c7=>?_⟩;have kr:=g7.trans g8;obtain⟨tm,tf,tw,ts,GJ,_⟩:=id s5.turns;have sub:(cR z0 b.fs).Sublist b.fs:=List.filter_sublist;refine q l' (b.without z0 c0) nl sd D aK H8 ((bK.after (((jy.trans g4).trans g5)) wt).same kr) ⟨oW.same kr,si.ok.drop z0 (Yd _) (by rw[Yk];show _+1<=200;omega) (Yx _),kr _ _ yq,Am,kr _ _ yp,Al,⟨iG,g8 _ _ h7,L2.Paired.bA Zgo λ_ _ e=>g8 _ _ e⟩,oW.fresh hD,c7,(wt.fX s5.ba s5.turns s5.n4).same kr,(off GJ s5.n4).2,si.nm,si.so.sublist (sub.map _),W3 cp,W3 (Y0 (Nat.add_le_add_left sub.length_le _) cf),?_⟩ p0;show(b.dn++[_]).length<=_;rw[Yk];show _+1<=_;omega
end
theorem cC.nil(gd:oa xs ys):cC xs ys ⟨[],[],0,[],[]⟩:=
 ⟨gd,Ja,Yx _,Yx _,λ_ h=>(nomatch h),Ja,λ_ h=>(nomatch h),Ja,Ja,⟨λ_=>0,λ_ h=>absurd h (Wk _),λ_ h=>(nomatch h)⟩,Yx _,Yx _⟩
theorem dv.RP{C CL CJ:Addr}{H H':Hp}{xs ys:List Int}{z j:Nat}{td:Addr}{l l':BL}{b:BS}{nl sd fl st:Addr}(s:dv C CL CJ H xs ys z j td l b nl sd fl st)(w:bK H H' l l')(ba:bb H' C CL CJ l' xs ys b):dv C CL CJ H' xs ys z j td l' b nl sd fl st:=by
 obtain⟨a1,c1⟩:=w.off s.names s.n1;obtain⟨a2,c2⟩:=w.off s.cW s.n2;obtain⟨as,h1,h2⟩:=s.facts;obtain⟨a3,c3⟩:=w.off h1 s.n3;obtain⟨_,_,_,_,eF,_⟩:=id s.turns;exact⟨ba,s.ok,a1,c1,a2,c2,⟨as,a3,yU w s.ba h2⟩,c3,w.bJ s.ba s.tup,w.fX s.ba s.turns s.n4,(w.off eF s.n4).2,s.nm,s.so,s.cp,s.cf,s.cd⟩
theorem dv.good{C CL CJ:Addr}{H:Hp}{xs ys:List Int}{z j:Nat}{td:Addr}{l:BL}{b:BS}{nl sd fl st:Addr}(s:dv C CL CJ H xs ys z j td l b nl sd fl st):(∀c∈b.F,eB xs ys b.ps.length c)/\b.F.length<=64:=by
 refine⟨λc hc=>?_,?_⟩
 ·obtain⟨p,hp,rfl⟩:=Yf.mp (show c∈b.fs.map (·.2) from hc);exact s.ok.fg p hp
 ·show(b.fs.map (·.2)).length<=64;rw[Ya];exact W3 s.ok.fl
theorem ZcL{ds:List Int}{a:Int}(h:Paired Bd ds [a]):∃v,ds=[v]/\Bd v a:=by
 cases h with
 |cons r t=>cases t;exact⟨_,rfl,r⟩
theorem Zbs(h:xs.length<=63):(oj xs (some 4) none).length<=59:=by
 unfold oj;have e:HT.gw xs.length 0 (some 4)=min 4 xs.length:=HT.ZbE _ _ 4
 grind
theorem dv.nam{C CL CJ:Addr}{H:Hp}{xs ys:List Int}{z j:Nat}{td:Addr}{l:BL}{b:BS}{nl sd fl st:Addr}(s:dv C CL CJ H xs ys z j td l b nl sd fl st){i:Nat}(hi:i<b.ps.length):au b.ps i=cX z i:=by
 have e:(b.ps.map (·.1))[i]?=((List.range b.ps.length).map (cX z))[i]?:=by rw[s.nm]
 rw[Yg,Yg,T_ hi,Yc hi] at e;rw[au,Ye,Yc hi];exact Yr e
theorem dv.len{C CL CJ:Addr}{H:Hp}{xs ys:List Int}{z j:Nat}{td:Addr}{l:BL}{b:BS}{nl sd fl st:Addr}(s:dv C CL CJ H xs ys z j td l b nl sd fl st)(h60:j<=60){i:Nat}(hi:i<b.ps.length):(au b.ps i).length<=1000:=by
 rw[s.nam hi];have:=(KY (z:=z) (k:=i) (by have:=s.cp;omega)).2;omega
theorem ZcM{ps:bH}{j:Nat}(h:j<ps.length):(jC ps)[j]?=some (.str (au ps j)):=by
 unfold jC au;rw[Yg,Yc h,Ye,Yc h];rfl
theorem dv.up{C CL CJ:Addr}{H:Hp}{xs ys:List Int}{z j k:Nat}{td:Addr}{l:BL}{b:BS}{nl sd fl st:Addr}(s:dv C CL CJ H xs ys z j td l b nl sd fl st)(h:j<=k):dv C CL CJ H xs ys z k td l b nl sd fl st:=
 ⟨s.ba,s.ok,s.names,s.n1,s.cW,s.n2,s.facts,s.n3,s.tup,s.turns,s.n4,s.nm,s.so,Y0 s.cp h,Y0 s.cf h,Y0 s.cd h⟩
theorem YW(ok:cC xs ys b)(hi:i<b.ps.length):∃(r:Int) (rs:List Int),fN b.F xs.length i=r::rs:=by
 obtain⟨f,inr,sat⟩:=ok.lv;have hU:∀c∈b.F,dG xs.length b.ps.length c:=λc hc=>by
  obtain⟨p,hp,rfl⟩:=Yf.mp (show c∈b.fs.map (·.2) from hc);exact(ok.fg p hp).ok
 have m:=yR.mpr ⟨inr i hi,JT hU hi inr sat⟩;cases e:fN b.F xs.length i with
 |nil=>grind
 |cons r rs=>grind
inductive KZ(C CL CJ cN:Addr)(vs:List V)(H:Hp)(Q:VK)(E:XK):Prop
 |mk (l:BL) (b:BS) (xs ys:List Int) (z:Str) (aC:vs=[.ref l.h,.str z]) (ba:bb H C CL CJ l xs ys b) (nm:(b.ps.map (·.1)).Nodup) (lz:z.length<=1000) (yes:∀i,i<b.ps.length->z=au b.ps i->Q (.int (i:Int)) H) (no:z∉b.ps.map (·.1)->XP H cN "no person" E):KZ C CL CJ cN vs H Q E
def LQ(C CL CJ cN:Addr):Sp:=λvs H Q E=>KZ C CL CJ cN vs H Q E
theorem Zef{ps:bH}{z:Str}(h:z∈ps.map (·.1)):∃i,i<ps.length/\z=au ps i:=by
 obtain⟨i,hi,e⟩:=List.getElem_of_mem h;rw[Ya] at hi;refine⟨i,hi,?_⟩;rw[←e,List.getElem_map,au,Ye,Yc hi];rfl
theorem Zbt{ps:bH}{z:Str}(h:z∉ps.map (·.1)):aQ (iI ps) (.inr z)=none:=oX λm=>h (by
 obtain⟨p,hp,e⟩:=Yf.mp m;obtain⟨⟨q,i⟩,hq,rfl⟩:=Yf.mp hp;exact Yf.mpr ⟨q,(GP (by rw[List.zipIdx_eq_zip_range'] at hq;exact hq)).1,Wf e⟩)
section
variable {cN:Addr}
theorem UI:aP ["self","name"] ["self","name"] (aG BN):=.aV
theorem Xv(F:aM K "place_of" "Hearth.place_of" BN f fd)(hc:fC K C)(D5:Ft P w K mg base "NoPerson" "no person" cN):aE P w K mg base (dP P w) 4 f fd ["self","name"] (LQ C CL CJ cN):=by
 refine F.G4 UI (λvs H Q E h=>?_) (λaA A outer s H vs Q E hr h=>?_)
 ·obtain⟨l,b,xs,ys,z,rfl,_⟩:=h;rfl
 obtain⟨l,b,xs,ys,z,rfl,ba,nm,lz,yes,no⟩:=h;refine⟨_,(aj (aS (jK (mf (bj hr) (pv 1) (pF K 0)) (by with_unfolding_all rfl)) (aq (ZA D5 hr (by omega) rfl rfl zS (pv 1))) aW) (aq (aI (df (bj hr) (pF K 0) (pv 1) (λ_ _=>rfl))))),?_⟩;obtain⟨dx,h1⟩:=ba.obj;by_cases m:z∈b.ps.map (·.1)
 ·obtain⟨i,hi,rfl⟩:=Zef m;have pg:=qY nm hi;exact⟨_,rfl,_,rfl,l.h,C,dx,_,_,rfl,h1,hc.cls,hc.pE,rfl,l.pl,some _,rfl,cU ba.places pg,_,rfl,bO (aT ⟨_,rfl,l.h,C,dx,_,_,rfl,h1,hc.cls,hc.pE,rfl,_,rfl,l.pl,_,rfl,cU ba.places pg,yes i hi rfl⟩)⟩
 ·exact⟨_,rfl,_,rfl,l.h,C,dx,_,_,rfl,h1,hc.cls,hc.pE,rfl,l.pl,none,rfl,cU ba.places (Zbt m),_,rfl,c5 ⟨_,rfl,z,rfl,by omega,no m⟩⟩
end
theorem Zbu(z k:Nat)(hk:k<60):cX z k≠"stranger":=λe=>by
 have e:(cX z k).cps.toList[1]?=some 116:=by rw[e];decide+kernel
 rw[yT z k hk] at e;have dg:∀(n:Nat) (r:List Nat),n<61->(jg n++r)[0]?≠some 116:=λn r h=>by
  unfold jg;split;·intro z;injection z with z;omega
  ·intro z;injection z with z;omega
 by_cases h0:z % 3=0
 ·rw[if_pos h0] at e;injection e with e;omega
 ·rw[if_neg h0] at e;by_cases h1:z % 3=1
  ·rw[if_pos h1,Jv] at e;cases f:eR k z with
   |zero=>rw[f] at e;exact dg ((k*17+z) % 61) [] (by omega) (by simpa using e)
   |succ m=>rw[f,List.replicate_succ] at e;injection e with e;omega
  ·rw[if_neg h1,Jv] at e;exact dg ((k*17+z) % 61) _ (by omega) e
inductive LR(C CL CJ cN:Addr)(vs:List V)(H:Hp)(Q:VK)(E:XK):Prop
 |mk (l:BL) (b:BS) (xs ys:List Int) (z:Str) (aC:vs=[.ref l.h,.str z]) (ba:bb H C CL CJ l xs ys b) (ok:cC xs ys b) (lz:z.length<=1000) (yes:∀i,i<b.ps.length->z=au b.ps i->∀(l':BL) (H1:Hp) (p:Addr) (H':Hp),bK H H1 l l'->bb H1 C CL CJ l' xs ys b->H1 p=none->ai H1 H'->H' p=some (.lst ((fN b.F xs.length i).map V.int))->Q (.ref p) H') (no:z∉b.ps.map (·.1)->∀(l':BL) (H1:Hp),bK H H1 l l'->bb H1 C CL CJ l' xs ys b->XP H1 cN "no person" E):LR C CL CJ cN vs H Q E
def ER(C CL CJ cN:Addr):Sp:=λvs H Q E=>LR C CL CJ cN vs H Q E
section
variable {cN:Addr}
theorem YX:aP ["hearth","name"] ["hearth","name"] (aG Eh):=.aV
theorem YY(F:aM K "open_of" "open_of" Eh f fd)(s_:cz P w K mg base 8 "joins" C ["self"] (E7 C CL CJ))(BP:O8 P w K mg base 4 "place_of" C ["self","name"] (LQ C CL CJ cN))(jD:cz P w K mg base 2 "open_at" CJ ["self","one"] (vW CJ)):aE P w K mg base (dP P w) 9 f fd ["hearth","name"] (ER C CL CJ cN):=by
 refine F.G4 YX (λvs H Q E h=>?_) (λaA A outer s H vs Q E hr h=>?_)
 ·obtain⟨l,b,xs,ys,z,rfl,_⟩:=h;rfl
 obtain⟨l,b,xs,ys,z,rfl,ba,ok,lz,yes,no⟩:=h;refine⟨_,(aq (aI (cP jD hr (by omega) (wu s_ hr (by omega) (pv 0)) (aa (ZdA BP hr (by omega) zS (pv 0) (aa (pv 1) ag)) ag)))),?_⟩;obtain⟨dx,ho⟩:=ba.obj;refine⟨_,rfl,l.h,dx,_,rfl,ho,rfl,l,b,xs,ys,rfl,ba,ok,λl' jl st H1 w1 cE e1 e2 ja me len fH _=>?_⟩;obtain⟨dy,hj⟩:=ja.obj;obtain⟨qp,su⟩:=cE.obj;rw[w1.h] at su;refine⟨jl.J,dy,_,rfl,hj,rfl,_,rfl,l.h,qp,_,rfl,su,rfl,_,rfl,l',b,xs,ys,z,by rw[w1.h];rfl,cE,ok.nm,lz,λi hi ez=>?_,λm=>no m l' H1 w1 cE⟩;have gF:i<st.hd.length:=by rw[len];exact hi
 have one:=me.wf.one ok.gd.2.2.2.2 gF;refine⟨jl,st,xs.length,i,_,_,_,rfl,ja,one.hd,one.ld,one.fr,one.eX,one.iF,λp ns H2 np g2 pm so hp=>?_⟩;rw[me.opn gF pm so] at hp;exact yes i hi ez l' H1 p H2 w1 cE np g2 hp
end
inductive Kj(C CL CJ:Addr)(vs:List V)(H:Hp)(Q:VK):Prop
 |mk (l:BL) (b:BS) (xs ys:List Int) (aC:vs=[.ref l.h]) (ba:bb H C CL CJ l xs ys b) (ok:cC xs ys b) (no:(Str.ofString "stranger")∉b.ps.map (·.1)) (q:∀(l':BL) (H1:Hp) (p:Addr) (H':Hp),bK H H1 l l'->bb H1 C CL CJ l' xs ys b->ai H1 H'->H' p=some (.tup [.str "no person",.bl true])->Q (.ref p) H'):Kj C CL CJ vs H Q
def K0(C CL CJ:Addr):Sp:=λvs H Q _=>Kj C CL CJ vs H Q
section
variable {ph kz:Addr}
theorem JH:aP ["_law_book","e"] ["_law_book"] (aG Cj):=.aV
theorem Xw(F:aM K "_law_stranger" "_law_stranger" Cj f fd)(qT:Ac P w K mg base 9 "open_of" ["hearth","name"] (ER C CL CJ kz))(tP:mg "KinError"=some (.ref ph))(D6:du K ph)
  (yL:mg "NoPerson"=some (.ref kz))(qQ:du K kz)(vO:cZ K kz "word")(BC:PySem.W.mroIn K kz (.ref ph)=some true)(bl:Bl mg):aE P w K mg base aL 12 f fd ["_law_book"] (K0 C CL CJ):=by
 refine F.o JH λaA A outer s H vs Q E hr h=>?_;obtain⟨l,b,xs,ys,rfl,ba,ok,no,q⟩:=h;refine⟨_,(aq (Zdh (B:=ph) (i:=1) ⟨rfl,rfl⟩ JH.nd rfl rfl rfl tP D6 (λpn xe E hx ow=>(aj (bU (Fn qT hr (by omega) hx rfl (aa (pv 0) (aa a9 ag)))) (aq (aI a9)))) (λ_=>(aq (aI (dm (aa (Zay (K:=K) rfl (pv 1)) (aa (ia (Zax (K:=K) rfl) rfl bl.JP JK (aa (pv 1) (aa (dk (v:=.ref kz) rfl yL rfl) ag))) ag)))))))),?_⟩;refine⟨_,rfl,l,b,xs,ys,"stranger",rfl,ba,ok,by decide+kernel,λi hi e=>absurd (by rw[e];exact ue hi) no,λ_ l' H0 w1 cE=>?_⟩;intro a' d' H1 _ _ g e1 e2;refine⟨kz,d',rfl,rfl,qQ,BC,λz' e3=>?_⟩;refine⟨_,rfl,z',kz,d',_,_,rfl,e3,e2,qQ,vO,rfl,?_⟩;refine⟨_,rfl,z',kz,d',_,_,_,true,rfl,rfl,e3,e2,qQ,Zaw _,?_⟩;exact⟨by show 2<=sizeLine;decide,λp H4 np g4 hp=>q l' H0 p H4 w1 cE (g.trans g4) hp⟩
end
def z4(K:PySem.W.Frag):Sp:=λvs H Q _=>∃(a:Addr) (ns:List Int),vs=[.ref a]/\ak K H a (ns.map V.int)/\ns.length<=63/\∀H',Q (.bl true) H'
def By(s1 m wi td h st:Addr)(n z:Int)(o8 o9 fL:Option V):St:=[some (.ref s1),some (.int n),some (.ref m),some (.ref wi),some (.ref td),some (.int z),some (.ref h),some (.ref st),o8,o9,fL]
section
variable {cN:Addr}
theorem jo:aP ["_law_script","_law_size","_law_mother","_law_wife","_law_turns_here","_law_salt","_law_book","_law_state","_law_cell_here","_law_name_here","_law_found"] ["_law_script"] (aG rF):=.aV
theorem Zeg(F:aM K "law" "law" rF f fd)(tS:HasFn P w K mg base 1 "_law_cell" ["_law_script","_law_k"] (OW K))(ny:HasFn P w K mg base 1 "_law_draws" ["_law_cell_here","_law_parts"] (zg K))(yV:HasFn P w K mg base 2 "_law_row" ["_law_cell_here","_law_size"] QH)(DC:HasFn P w K mg base 2 "_law_turns" ["_law_mother","_law_wife"] Oh)(o_:HasFn P w K mg base 4 "_law_same" ["_law_found","_law_due"] (rb 4))(qO:HasFn P w K mg base 3 "_law_room" ["_law_facts","_law_turns_here","_law_name_here"] FI)(D7:HasFn P w K mg base 14 "_law_step" ["_law_book","_law_state","_law_cell_here","_law_turns_here","_law_salt"] (Ow C CL CJ))(yv:HasFn P w K mg base 12 "_law_stranger" ["_law_book"] (K0 C CL CJ))(qT:Ac P w K mg base 9 "open_of" ["hearth","name"] (ER C CL CJ cN))
  (Es:HasFn P w K mg base 7 "land_of" ["mother","wife"] (Mn CL))(ES:uq P w K mg base 1 "Hearth" C ["self","land"] (N5 C CL CJ))(bl:Bl mg):aE P w K mg base (dP P w) 16 f fd ["_law_script"] (z4 K):=by
 refine F.G4 jo (λvs H Q E h=>?_) (λaA A outer s H vs Q E hr h=>?_)
 ·obtain⟨a,ns,rfl,_⟩:=h;rfl
 obtain⟨a,ns,rfl,hs,hlen,q⟩:=h;have hu:=hr.uh;refine⟨_,(aj (bW 0 jo.nd (LV (L8 (K:=K) rfl) (pv 0) Nc (Nd aN))) (aj (bW 1 jo.nd (aZ ig aN (aZ dU (aU tS hr (aa (pv 0) (aa aN ag))) aN))) (aj (bW 2 jo.nd (aU yV hr (aa (aU tS hr (aa (pv 0) (aa aN ag))) (aa (pv 1) ag)))) (aj (bW 3 jo.nd (aU yV hr (aa (aU tS hr (aa (pv 0) (aa aN ag))) (aa (pv 1) ag)))) (aj (bW 4 jo.nd (aU DC hr (aa (pv 2) (aa (pv 3) ag)))) (aj (bW 5 jo.nd (aZ dU (aU tS hr (aa (pv 0) (aa aN ag))) aN)) (aj (bW 6 jo.nd (FX ES hr (by omega) rfl (aa (aU Es hr (aa (pv 2) (aa (pv 3) ag))) ag))) (aj (aS (jk (eO (aU o_ hr (aa (aU yv hr (aa (pv 6) ag)) (aa (dm (aa a9 (aa iS ag))) ag))))) (aq (aI iS)) aW) (aj (bW 7 jo.nd (dm (aa (dt ag) (aa qR (aa (dt ag) (aa aN ag)))))) (aj (gP Rc rfl (fZ (K:=K) rfl (LV (L8 (K:=K) rfl) (pv 0) (Nd aN) Nc)) (bF 8 jo.nd) (aj (bW 7 jo.nd (aU D7 hr (aa (pv 6) (aa (pv 7) (aa (pv 8) (aa (pv 4) (aa (pv 5) ag))))))) (aj (bW 9 jo.nd (aY (iL K) (aY (iT K) (pv 7) aN) (aZ dU (aY (iL K) (aU ny hr (aa (aZ ig (pv 8) aN) (aa (dt (aa aN ag)) ag))) aN) (dh K bl (aY (iT K) (pv 7) aN))))) (aj (bW 10 jo.nd (Fn qT hr (by omega) zS rfl (aa (pv 6) (aa (pv 9) ag)))) (aj (aS (PW.pt (pw_or (bp (E1 (K:=K) rfl (O_ hu)) (pv 10) (dt ag)) (pw_or1 (jk (eO (aU o_ hr (aa (pv 10) (aa (aU qO hr (aa (aY (iT K) (pv 7) aN) (aa (pv 4) (aa (pv 9) ag)))) ag)))))))) (aq (aI iS)) aW) (aq (bU (mJ (K:=K) rfl (jL plainAttrs_list PySem.F.slot_list_append PySem.F.type_list_append nE (pv 10) (aa aN ag)))))))))) (aj (gP Rc rfl (fZ (K:=K) rfl (aY (iT K) (pv 7) aN)) (bF 9 jo.nd) (aq (aS (jk (eO (aU o_ hr (aa (Fn qT hr (by omega) zS rfl (aa (pv 6) (aa (pv 9) ag))) (aa (aU qO hr (aa (aY (iT K) (pv 7) aN) (aa (pv 4) (aa (pv 9) ag)))) ag))))) (aq (aI iS)) aW))) (aq (aI (aU o_ hr (aa (aU yv hr (aa (pv 6) ag)) (aa (dm (aa a9 (aa iS ag))) ag)))))))))))))))),?_⟩;have sz:(10000:Nat)<=sizeLine:=by rw[sizeLine_eq];omega
 obtain⟨ms,em⟩:=LZ ns none (some 63);have lms:ms.length<=ns.length:=by
  have:=JW (ns.map V.int) none (some 63);rw[em,Ya,Ya] at this;exact this
 obtain⟨cs,ec⟩:=LZ ms (some 4) none;have lcs:cs.length<=59:=by
  have:=Zbs (xs:=ms.map V.int) (by rw[Ya];omega);rw[ec,Ya] at this;exact this
 refine cq ?_;refine⟨_,rfl,_,rfl,a,_,rfl,hs,λs1 H0 n1 g0 vC=>?_⟩;rw[em] at vC;refine cq ?_;refine⟨_,rfl,s1,ms,0,rfl,ak.of vC,Int.le_refl 0,λc0=>⟨_,_,rfl,rfl,(by show(0:Int)<7;decide),_,_,rfl,rfl,?_⟩⟩;try dsimp only
 have m0:=W5 c0 (show(7:Int)≠0 by decide);have m1:=Wp c0 (show(0:Int)<7 by decide);obtain⟨n,en⟩:∃n:Nat,2+c0 % 7=(n:Int):=⟨(2+c0 % 7).toNat,by omega⟩;rw[en];have n2:2<=n:=by omega
 have n8:n<=8:=by omega
 refine cq ?_;refine⟨_,rfl,s1,ms,1,rfl,ak.of vC,by decide,λc1=>⟨_,rfl,c1,n,rfl,by omega,by omega,λm xs H1 nm g1 hM px=>?_⟩⟩;refine cq ?_;refine⟨_,rfl,s1,ms,2,rfl,ak.of (g1 _ _ vC),by decide,λc2=>⟨_,rfl,c2,n,rfl,by omega,by omega,λwi ys H2 nw g2 hW py=>?_⟩⟩;have lx:xs.length=n:=by rw[px.length_eq,eM]
 have ly:ys.length=n:=by rw[py.length_eq,eM]
 have gd:oa xs ys:=⟨qV px,qV py,by omega,by omega,by omega⟩;refine cq ?_;refine⟨_,rfl,_,rfl,m,wi,xs,ys,rfl,g2 _ _ hM,hW,gd,λtd H3 ntd g3 ht=>?_⟩;have jy:=(g1.trans g2).trans g3;refine cq ?_;refine⟨_,rfl,s1,ms,3,rfl,ak.of (jy _ _ vC),by decide,λc3=>⟨_,_,rfl,rfl,(by show(0:Int)<97;decide),?_⟩⟩;try dsimp only
 have z0:=W5 c3 (show(97:Int)≠0 by decide);have z1:=Wp c3 (show(0:Int)<97 by decide);obtain⟨z,ez⟩:∃z:Nat,c3 % 97=(z:Int):=⟨(c3 % 97).toNat,by omega⟩;rw[ez];have hz:z<97:=by omega
 refine cq ?_;refine⟨_,rfl,_,rfl,m,wi,xs,ys,rfl,g3 _ _ (g2 _ _ hM),g3 _ _ hW,gd.1,gd.2.1,gd.2.2.1,gd.2.2.2.1,gd.2.2.2.2,λLd H4 g4 la=>λx dx nx xO nd=>?_⟩;have xP:upd H4 dx (.own x) x=none:=by rw[aJ (λz=>nd z.symm)];exact nx
 obtain⟨H5,e5⟩:∃H5,H5=upd (upd H4 dx (.own x)) x (.ins C dx []):=⟨_,rfl⟩;have g5:ai H4 H5:=by rw[e5];exact(bY xO _).trans (bY xP _)
 have hx5:H5 x=some (.ins C dx []):=by rw[e5];exact aO
 rw[←e5];refine⟨x,dx,Ld,xs,ys,rfl,hx5,la.same g5,λl H6 eh Bf b6 ba=>⟨rfl,?_⟩⟩;subst eh;have keep:∀{a:Addr} {o:HO},H4 a=some o->H6 a=some o/\a∉l.fp:=λ{a o} e=>by
  have na:a≠l.h:=bT e nx;refine⟨b6 _ _ (g5 _ _ e) na,λz=>?_⟩;have:=Bf a z na;rw[g5 _ _ e] at this;cases this
 have Ur:=g4 _ _ (jy _ _ vC);have ht4:=ht.same g4;obtain⟨tm,tf,tw,ts,eF,q1,q2,q3,q4⟩:=ht4;have ht6:fX H6 td xs ys:=⟨tm,tf,tw,ts,(keep eF).1,(keep q1).1,(keep q2).1,(keep q3).1,(keep q4).1⟩;have yt:∀(F:List Fc) (i:Nat),(fN F xs.length i).length<=1000:=λF i=>by
  have:=yx (n:=xs.length) (Mw F xs.length i).2 λa ha=>(yR.mp ha).1;omega
 have Bz:∀{H:Hp} {p:Addr},H p=some (.tup [.str "no person",.bl true])->At H 3 (.ref p) (.tup [.str "no person",.bl true]):=λh=>Zdy h (by show 2<=1000;decide) (.cons (Zdx _) (.cons (ZeI _) .nil));refine⟨_,rfl,l,_,xs,ys,rfl,ba,cC.nil gd,(λh=>by cases h),λl1 H7 pq H8 w7 Us g8 I_=>⟨by show 2<=sizeLine;omega,λp2 H9 n9 g9 e9=>⟨_,_,.tup [.str "no person",.bl true],3,rfl,rfl,Bz (g9 _ _ I_),Bz e9,λHZ gZ=>⟨_,rfl,bO (aT ?_)⟩⟩⟩⟩;have Ut:=(g8.trans g9).trans gZ;have w8:=w7.same Ut;have vd:=Us.same Ut;refine cq ?_;refine⟨by show 0<=sizeLine;omega,λnl HY nY gY hY=>?_⟩;refine λsd HA nA gA hA=>?_;refine⟨by show 0<=sizeLine;omega,λfl HB nB gB hB=>⟨by show 4<=sizeLine;omega,λst HC nC gC hC=>?_⟩⟩;have JA:=((gY.trans gA).trans gB).trans gC;have Uu:=vd.same gY;have baA:=Uu.same gA;have htC:=(w8.fX ba ht6 (keep eF).2).same JA;have wC:=w8.same JA;have si:dv C CL CJ HC xs ys z 0 td l1 ⟨[],[],0,[],[]⟩ nl sd fl st:=⟨vd.same JA,cC.nil gd,gC _ _ (gB _ _ (gA _ _ hY)),vd.fresh nY,gC _ _ (gB _ _ hA),Uu.fresh nA,⟨[],gC _ _ hB,.nil⟩,baA.fresh nB,hC,htC,(w8.off (keep eF).1 (keep eF).2).2,rfl,List.Pairwise.nil,Yx _,Yx _,Yx _⟩;have hsC:=(wC.off (keep Ur).1 (keep Ur).2).1;have Uv:=w7.h;refine iQ (λσ H'=>∃(l':BL) (b':BS) (oV kZ l9 aK:Addr) (o8 o9 fL:Option V),bK HC H' l1 l'/\dv C CL CJ H' xs ys z 59 td l' b' oV kZ l9 aK/\σ=By s1 m wi td l.h aK n z o8 o9 fL) (λoO fU=>?_) ?_
 ·refine⟨_,rfl,_,rfl,s1,_,rfl,ak.of hsC,λca HE nca gE JB=>⟨ca,rfl,⟨_,ak.of JB⟩,?_⟩⟩;rw[ec] at JB;have sE:=si.same gE;have nc:ca∉l1.fp:=si.ba.fresh nca;refine kA (K:=K) (a:=ca) (xs:=cs.map V.int) (λj σ H'=>∃(l':BL) (b':BS) (oV kZ l9 aK:Addr) (o8 o9 fL:Option V),bK HE H' l1 l'/\dv C CL CJ H' xs ys z j td l' b' oV kZ l9 aK/\σ=By s1 m wi td l.h aK n z o8 o9 fL)
   ⟨l1,_,nl,sd,fl,st,none,none,none,bK.of (ai.refl _),sE,rfl⟩ (λj σ H' _ ⟨_,_,_,_,_,_,_,_,_,wt,_⟩=>ak.of (wt.off JB nc).1) ?_ ?_
  ·rintro j v σ HF hj ⟨l',b',oV,kZ,l9,aK,o8,o9,fL,wt,sF,rfl⟩;obtain⟨x,rfl,hx⟩:=mC hj;have jl:j<cs.length:=(Yj.mp hx).1;refine bo ?_;refine cq ?_;have e':l'.h=l.h:=wt.h.trans Uv;refine⟨_,rfl,_,rfl,_,rfl,_,rfl,_,rfl,xs,ys,z,j,x,td,l',b',oV,kZ,l9,aK,by rw[e'];rfl,sF,hz,by omega,λl2 b2 j9 uS qG c_ HG wG sG p0=>?_⟩;have e2:l2.h=l.h:=wG.h.trans e';have wtG:=wt.trans wG;refine cq ?_;refine⟨_,rfl,c_,_,_,.ref j9,rfl,rfl,aB.of sG.tup,rfl,_,rfl,_,_,rfl,rfl,by show 1<=sizeLine;omega,λpl HI ye gI bN=>⟨x+3,pl,[61],rfl,ak.of bN,by decide,by decide,λdr ds HJ ndr gJ hdr bd=>?_⟩⟩;obtain⟨d0,rfl,_⟩:=ZcL bd;have Uw:=gI.trans gJ;have sJ:=sG.same Uw;have m0:=W5 d0 (show(b2.ps.length:Int)≠0 by omega);have m1:=Wp d0 (show(0:Int)<(b2.ps.length:Int) by omega);refine⟨dr,_,_,.int d0,rfl,rfl,ak.of hdr,rfl,_,rfl,c_,_,_,.ref j9,rfl,rfl,aB.of sJ.tup,rfl,j9,_,rfl,.inl (ak.of sJ.names),_,_,rfl,rfl,by rw[uf];omega,j9,_,_,_,rfl,rfl,ak.of sJ.names,by rw[uf];exact PV m0 m1,?_⟩;obtain⟨i0,ei0⟩:∃i0,i0=(d0 % (b2.ps.length:Int)).toNat:=⟨_,rfl⟩;have yu:i0<b2.ps.length:=by omega
   rw[←ei0];refine cq ?_;refine⟨_,rfl,_,rfl,l2,b2,xs,ys,au b2.ps i0,by rw[e2];rfl,sJ.ba,sJ.ok,sJ.len (by omega) yu,λi hi ei l3 HK p HL wK JC np gL hp=>?_,λno=>absurd (ue yu) no⟩;obtain rfl:=q5 sJ.ok.nm yu hi ei;have sK:=sJ.RP wK JC;have sL:=sK.same gL;obtain⟨r,rs,er⟩:=YW sL.ok yu;refine⟨_,rfl,by show 0<=sizeLine;omega,λle HM nle gM hle=>⟨p,le,_,rfl,rfl,ak.of (gM _ _ hp),ak.of (xs:=[]) hle,_,rfl,?_⟩⟩;rw[if_neg Yh,List.isEmpty_map,er];refine bO ?_;have sM:=sL.same gM;refine⟨_,rfl,_,rfl,c_,_,_,.ref qG,rfl,rfl,aB.of sM.tup,rfl,_,rfl,_,rfl,qG,td,b2.ps,xs,ys,b2.F,i0,rfl,sM.FL,sM.turns,sM.ok.nm,sM.good.1,gd.2.2.2.2,by have:=sM.ok.m;omega,sM.good.2,yu,λrm HN nrm gN JD=>⟨_,_,.lst ((fN b2.F xs.length i0).map Dt.int),3,rfl,rfl,zh (gN _ _ (gM _ _ hp)) (yt _ _),zh JD (yt _ _),λHO gO=>⟨_,rfl,bO (aT ?_)⟩⟩⟩;have Ux:=gO _ _ (gN _ _ (gM _ _ hp));refine⟨_,rfl,.inl ⟨rfl,_,ak.of Ux⟩,p,_,_,rfl,rfl,Ux,by rw[Ya];have:=yt b2.F i0;omega,λHP bP eP=>?_⟩;have Uy:ai HK HP:=λc o e=>bP _ _ (gO _ _ (gN _ _ (gM _ _ (gL _ _ e)))) (bT e np);exact⟨l3,b2,j9,uS,qG,c_,_,_,_,((wtG.same Uw).trans wK).same Uy,sK.same Uy,rfl⟩
  ·rintro σ HF ⟨l',b',oV,kZ,l9,aK,o8,o9,fL,wt,sF,rfl⟩;rw[Ya] at sF;exact fU _ _ ⟨l',b',oV,kZ,l9,aK,o8,o9,fL,bK.after gE wt,sF.up lcs,rfl⟩
 rintro σ HF ⟨l2,b2,j9,uS,qG,c_,o8,o9,fL,wt,sF,rfl⟩;have e2:l2.h=l.h:=wt.h.trans Uv;refine iQ (λσ H'=>∃(l3:BL) (o:Option V),bK HF H' l2 l3/\dv C CL CJ H' xs ys z 59 td l3 b2 j9 uS qG c_/\σ=By s1 m wi td l.h c_ n z o8 o fL) (λoO fU=>?_) ?_
 ·refine⟨_,rfl,c_,_,_,.ref j9,rfl,rfl,aB.of sF.tup,rfl,j9,rfl,⟨_,ak.of sF.names⟩,kA (K:=K) (a:=j9) (xs:=jC b2.ps) (λi σ H'=>∃(l3:BL) (o:Option V),bK HF H' l2 l3/\dv C CL CJ H' xs ys z 59 td l3 b2 j9 uS qG c_/\σ=By s1 m wi td l.h c_ n z o8 o fL) ⟨l2,o9,bK.of (ai.refl _),sF,rfl⟩ (λi σ H' _ ⟨_,_,_,s,_⟩=>ak.of s.names) ?_ ?_⟩
  ·rintro i v σ HG hi ⟨l3,o,wG,sG,rfl⟩;have jx:i<b2.ps.length:=by
    have:=(Yj.mp hi).1;rw[uf] at this;exact this
   obtain rfl:V.str (au b2.ps i)=v:=Yr ((ZcM jx).symm.trans hi);refine bo ?_;refine⟨_,rfl,_,rfl,l3,b2,xs,ys,au b2.ps i,by rw[wG.h,e2];rfl,sG.ba,sG.ok,sG.len (by omega) jx,λi' gF ei l4 HK p HL wK JC np gL hp=>?_,λno=>absurd (ue jx) no⟩;obtain rfl:=q5 sG.ok.nm jx gF ei;have sL:=(sG.RP wK JC).same gL;exact⟨_,rfl,c_,_,_,.ref qG,rfl,rfl,aB.of sL.tup,rfl,_,rfl,_,rfl,qG,td,b2.ps,xs,ys,b2.F,i,rfl,sL.FL,sL.turns,sL.ok.nm,sL.good.1,gd.2.2.2.2,by have:=sL.ok.m;omega,sL.good.2,jx,λrm HN nrm gN JD=>⟨_,_,.lst ((fN b2.F xs.length i).map Dt.int),3,rfl,rfl,zh (gN _ _ hp) (yt _ _),zh JD (yt _ _),λHO gO=>⟨_,rfl,bO (aT ⟨l4,_,((wG.trans wK).same gL).same (gN.trans gO),sL.same (gN.trans gO),rfl⟩)⟩⟩⟩
  ·rintro σ HG ⟨l3,o,wG,sG,rfl⟩;exact fU _ _ ⟨l3,o,wG,sG,rfl⟩
 rintro σ HG ⟨l3,o,wG,sG,rfl⟩;have nos:(Str.ofString "stranger")∉b2.ps.map (·.1):=λh=>by
  rw[sG.nm] at h;obtain⟨k,hk,e⟩:=Yf.mp h;have:=Wi.mp hk;have:=sG.cp;exact Zbu z k (by omega) e
 exact⟨_,rfl,l3,b2,xs,ys,by rw[wG.h,e2];rfl,sG.ba,sG.ok,nos,λl4 H7 pq H8 w7 Us g8 I_=>⟨by show 2<=sizeLine;omega,λp2 H9 n9 g9 e9=>⟨_,_,.tup [.str "no person",.bl true],3,rfl,rfl,Bz (g9 _ _ I_),Bz e9,λHZ _=>q HZ⟩⟩⟩
end
theorem all_mk{l:PySem.W.OpenLaw}{w:World}{K:PySem.W.Frag}{h:Heap}{mg:Str->Option Value}{fa:Addr}(X:K.In h)(G:h.Ns mainGlobals mg)(c8:mg "law"=some (.ref fa))
  (p1:bM K "is_turn" Ee f1)
  (p2:bM K "still" E2 f2)
  (p3:bM K "behind" EB f3)
  (p4:bM K "back" Fx f4)
  (p5:bM K "check_turn" CP f5)
  (p6:bM K "check_rows" CQ f6)
  (p7:bM K "check_parents" BY f7)
  (p8:bM K "land_of" Ef f8)
  (p9:bM K "followed" DH f9)
  (p10:bM K "turned_back" Cy Hf)
  (p11:bM K "lines_up" DI f11)
  (p12:bM K "is_tie" EC f12)
  (p13:bM K "tie_turn" DJ f13)
  (p14:bM K "fact_key" DK f14)
  (p15:bM K "keep_fact" C9 f15)
  (p16:bM K "fact_fits" C_ f16)
  (p17:bM K "is_name" Eg f17)
  (p18:bM K "check_person" Ce f18)
  (p19:bM K "check_tie" Dc f19)
  (p20:bM K "sides_fit" Dd f20)
  (p21:bM K "told_already" Cf f21)
  (p22:bM K "check_elders" Cg f22)
  (p23:bM K "check_saying" Ci f23)
  (p24:bM K "check_section" BZ f24)
  (p25:bM K "is_person" De f25)
  (p26:bM K "open_of" Eh f26)
  (p27:bM K "_law_cell" KG f27)
  (p28:bM K "_law_draws" Ka f28)
  (p29:bM K "_law_turn" KH f29)
  (p30:bM K "_law_row" Ei f30)
  (p31:bM K "_law_inverse" Cz f31)
  (p32:bM K "_law_after" Df f32)
  (p33:bM K "_law_turns" Dg f33)
  (p34:bM K "_law_same" yD f34)
  (p35:bM K "_law_nets" DL f35)
  (p36:bM K "_law_carried" CA f36)
  (p37:bM K "_law_room" DM f37)
  (p38:bM K "_law_name" DN f38)
  (p39:bM K "_law_up" ED f39)
  (p40:bM K "_law_told" DO f40)
  (p41:bM K "_law_sided" Dh f41)
  (p42:bM K "_law_word" DP f42)
  (p43:bM K "_law_pick" DQ f43)
  (p44:bM K "_law_fact" DR f44)
  (p45:bM K "_law_put" Ej f45)
  (p46:bM K "_law_step" DS f46)
  (p47:bM K "_law_stranger" Cj f47)
  (p48:bM K "law" rF f48)
  (z:qm K ["len","abs","list","range","tuple","any","all","isinstance","bool","int","str","sorted","min","max","sum","dict","reversed","ValueError"])
  (VL:nsIn K mainGlobals "LEAST_SIZE"=some (some (.int (2) ZgI)))
  (WG:nsIn K mainGlobals "MOST_SIZE"=some (some (.int (8) ZgP)))
  (Vb:nsIn K mainGlobals "LONGEST_NAME"=some (some (.int (12) ZgA)))
  (Z7:nsIn K mainGlobals "PUT_IN"=some (some (.int (1) Zhb)))
  (WH:nsIn K mainGlobals "TAKEN_OUT"=some (some (.int (-1) ZgQ)))
  (Vp:nsIn K mainGlobals "TIE_LETTERS"=some (some (.ref l_)))
  (JJ:PyProof.Rows.KTD.tabLook PyProof.Rows.KTD.flatLooks (λb=>K.lookup b) l_ [("mother",PyData.str "m"),("father",PyData.str "f"),("wed",PyData.str "w"),("sibling",PyData.str "s")]=true)
  (YZ:nsIn K mainGlobals "PARENTS"=some (some (.ref dw)))
  (Y_:K.lookup dw=some ⟨.type "tuple",Zg7,.seq #[.str "mother" ZgR,.str "father" ZgS] Zg8,Zg9⟩)
  (Zeh:nsIn K mainGlobals "MAN"=some (some (.str "man" Zhj)))
  (Zbv:nsIn K mainGlobals "WOMAN"=some (some (.str "woman" Zhe)))
  (UG:nsIn K mainGlobals "LETTERS_OF_NAMES"=some (some (.str "abcdefghijklmnopqrstuvwxyz" Zgq)))
  (UO:nsIn K mainGlobals "SIGNS_OF_NAMES"=some (some (.str "abcdefghijklmnopqrstuvwxyz0123456789" Zgu)))
  (ZcN:nsIn K mainGlobals "SAID"=some (some (.str "said" Zhf)))
  (Za:nsIn K mainGlobals "SIBLING"=some (some (.str "sibling" Zg_)))
  (Xx:xK K "KinError" "KinError.__init__" [] B6 ph Xy)
  (Dn:FW K ph "__init__" Xy)
  (Xz:xK K "NoPerson" "NoPerson.__init__" [ph] B7 kz ZgZ)
  (Zei:xJ K "Land" cS)
  (lc:uu K cS)
  (XA:cM K cS "__init__" "Land.__init__" Di Zg0)
  (XD:cM K cS "step" "Land.step" Dj Zg1)
  (ZcO:xJ K "Joins" cy)
  (jc:mK K cy)
  (WI:cM K cy "__init__" "Joins.__init__" CS ZgT)
  (XE:cM K cy "add" "Joins.add" Dk Zg2)
  (XF:cM K cy "tie" "Joins.tie" Dl Zg3)
  (XG:cM K cy "say" "Joins.say" Dm Zg4)
  (Vc:cM K cy "open_at" "Joins.open_at" B0 ZgB)
  (WJ:cM K cy "left" "Joins.left" CT ZgU)
  (U0:cM K cy "together" "Joins.together" BQ Zgx)
  (VM:cM K cy "pairs" "Joins.pairs" CB ZgJ)
  (Vq:cM K cy "narrow" "Joins.narrow" Ck ZgF)
  (UA:cM K cy "bring_together" "Joins.bring_together" BA Zgp)
  (WK:cM K cy "move" "Joins.move" CU ZgV)
  (Zbw:xJ K "Hearth" di)
  (hc:fC K di)
  (VN:cM K di "__init__" "Hearth.__init__" CC ZgK)
  (Vd:cM K di "person" "Hearth.person" B3 ZgC)
  (WL:cM K di "tie" "Hearth.tie" CV ZgW)
  (WM:cM K di "say" "Hearth.say" CW ZgX)
  (VO:cM K di "keep" "Hearth.keep" CD ZgL)
  (VP:cM K di "take" "Hearth.take" CF ZgM)
  (Ve:cM K di "people" "Hearth.people" B4 ZgD)
  (U1:cM K di "side_of" "Hearth.side_of" BR Zgy)
  (ZgN:cM K di "kept" "Hearth.kept" VA ZgO)
  (WN:cM K di "has" "Hearth.has" CY ZgY)
  (UJ:cM K di "parent_of" "Hearth.parent_of" BG Zgs)
  (UH:cM K di "parents_of" "Hearth.parents_of" BD Zgr)
  (Vr:cM K di "joins" "Hearth.joins" Cm ZgG)
  (U2:cM K di "do_deed" "Hearth.do_deed" BU Zgz)
  (Vs:cM K di "shift" "Hearth.shift" Cn ZgH)
  (Vf:cM K di "put_in" "Hearth.put_in" B5 ZgE)
  (UK:cM K di "note_fact" "Hearth.note_fact" BH Zgt)
  (UP:cM K di "take_out" "Hearth.take_out" BM Zgv)
  (UQ:cM K di "place_of" "Hearth.place_of" BN Zgw)
  (BC:PySem.W.mroIn K kz (.ref ph)=some true)
  :∃fd:FuncData,(∀(s:Shared) (v:Value),BindsTo s fd ⟨[v],[]⟩ [("_law_script",v)])/\∀base:Heap,K.In base->base.Ns mainGlobals mg->aE l.prog w K mg base (dP l.prog w) 16 fa fd ["_law_script"] (z4 K):=by
 obtain @⟨od,an,sl,oc,kV,dc,pm,cd,ct,ax,lx,cx,kx⟩:=p48;have e:=c8.symm.trans (mg_of X G ax);cases e;have bl:=z.bl X G;have CZ:=mg_of X G VL;have Dp:=mg_of X G WG;have Cq:=mg_of X G Vb;have nL:=mg_of X G Z7;have Dx:=mg_of X G WH;have tE:=mg_of X G Vp;have iN:=mg_of X G YZ;have vU:∀H,aB K H dw [.str "mother",.str "father"]:=λ_=>.inr ⟨_,_,_,Y_,rfl,rfl,by show 2<=sizeLine;decide,(.cons ⟨_,rfl⟩ (.cons ⟨_,rfl⟩ .nil))⟩;have rJ:=mg_of X G Zeh;have q0:=mg_of X G Zbv;have BJ:=mg_of X G UG;have BX:=mg_of X G UO;have kG:=mg_of X G ZcN;have nI:=mg_of X G Za;obtain⟨_,Zb,DT,D6,Zha,tP,Zg5⟩:=Xx.b X G ["self","word","why"];obtain⟨_,Zc,Zd,qQ,Ze,yL,vO⟩:=Xz.b X G ["self","why"];have Zej:=lc.cls;have mF:=jc.cls;have gK:=hc.cls;refine⟨fnOf "law" "law" (kF rF) (ie rF) (aG rF) .none kV dc pm an cd ct,λs v=>.of_eq rfl,λbase _ _=>?_⟩;have F:=wj (st:=rF) lx cx kx;have D:iH l.prog w K mg base:=⟨X,G⟩;have D5:Ft l.prog w K mg base "NoPerson" "no person" kz:=⟨_,_,Ze,Xd Zc Dn (Xc Zb bl) DT tP qQ vO,Zd,yL,qQ,vO⟩;have tS:=D.d p27 (λ_ F=>Zcd F bl.zU);have ny:=D.d p28 (λ_ F=>ZaY F bl.ZeE);have tV:=D.d p1 (λ_ F=>YA F bl);have pd:=D.d p9 (λ_ F=>Xg F bl);have nv:=D.d p10 (λ_ F=>Vl F bl);have ub:=D.d p2 (λ_ F=>Za1 F bl);have Dr:=D.m Zej XD (λ_ F=>Zcj F lc);have E8:=D.j ZcO WI (λ_ F=>Za5 F jc bl);have sY:=D.m mF U0 (λ_ F=>Xh F jc bl);have jD:=D.m mF Vc (λ_ F=>YE F jc bl);have sZ:=D.m mF Vq (λ_ F=>ZU F jc bl);have t_:=D.d p12 (λ_ F=>ZZ F tE JJ);have nF:=D.d p14 (λ_ F=>Xl F nI bl);have Cb:=D.m gK Ve (λ_ F=>Z0 (CL:=cS) (CJ:=cy) F hc bl);have qH:=D.m gK U1 (λ_ F=>YK (CL:=cS) (CJ:=cy) F hc bl);have tK:=D.d p25 (λ_ F=>V6 F bl);have BK:=D.m gK UJ (λ_ F=>V7 (CL:=cS) (CJ:=cy) F hc);have BE:=D.m gK UH (λ_ F=>VH (CL:=cS) (CJ:=cy) F hc iN vU);have En:=D.d p17 (λ_ F=>YN F Cq BJ BX bl);have ES:=D.j Zbw VN (λ_ F=>Zbn (CL:=cS) (CJ:=cy) F hc);have Dy:=D.d p20 (λ_ F=>V9 F rJ q0 nI);have Cc:=D.d p24 (λ_ F=>UZ (C:=di) (CL:=cS) (CJ:=cy) F hc lc bl);have DA:=D.d p32 (λ_ F=>WC F bl);have qJ:=D.d p31 (λ_ F=>YQ F bl);have CI:=D.d p36 (λ_ F=>YR F bl);have D1:=D.d p40 (λ_ F=>Xo F);have DB:=D.d p41 (λ_ F=>WE F);have EN:=D.d p39 (λ_ F=>Z4 F bl);have yI:=D.d p43 (λ_ F=>Xq F bl);have D2:=D.d p38 (λ_ F=>Xs F bl);have BP:=D.mX gK UQ (λ_ F=>Xv (CL:=cS) (CJ:=cy) F hc D5);have DZ:=D.d p29 (λ_ F=>Zce F bl.ui bl.jI bl.mD);have o_:HasFn l.prog w K mg base 4 "_law_same" ["_law_found","_law_due"] (rb 4):=let⟨_,F,b,k,m⟩:=D.p (ps:=["_law_found","_law_due"]) p34;⟨_,_,NG F b k m bl 4,b,k,m⟩;have qK:=D.d p5 (λ_ F=>Zd4 F tV);have tG:=D.d p6 (λ_ F=>Zch F tV CZ Dp bl);have tL:=D.m mF XE (λ_ F=>Zd5 F jc ub bl);have Du:=D.m mF XG (λ_ F=>Zd6 F jD sZ bl);have yw:=D.m mF WK (λ_ F=>Zcl F jc pd nv bl);have CH:=D.m mF VM (λ_ F=>Za9 F jc sY jD bl);have tR:=D.d p13 (λ_ F=>Xj (CL:=cS) F tE JJ lc t_ Dr);have tI:=D.m gK WN (λ_ F=>Zeb (CL:=cS) (CJ:=cy) F hc nF);have BI:=D.m gK UK (λ_ F=>Zcx (CL:=cS) (CJ:=cy) F hc iN vU nF);have BO:=D.m gK UP (λ_ F=>Xm (CL:=cS) (CJ:=cy) F hc iN vU tK nF);have Cr:=D.d p18 (λ_ F=>U7 (C:=di) (CL:=cS) (CJ:=cy) F En rJ q0 Cb);have DY:=D.d p11 (λ_ F=>Xn (C:=di) (CL:=cS) (CJ:=cy) F BE);have yV:=D.d p30 (λ_ F=>YO F ny DZ bl);have D0:=D.d p35 (λ_ F=>ZcF F qJ bl);have DC:=D.d p33 (λ_ F=>Zbp F qJ DA bl);have D3:=D.d p44 (λ_ F=>Xr F yI bl);have t9:=D.d p3 (λ_ F=>ZeY F qK pd bl);have wz:=D.d p4 (λ_ F=>ZeZ F qK nv bl);have BB:=D.m mF UA (λ_ F=>Za8 F jc nv yw bl);have tH:=D.m mF WJ (λ_ F=>Zcm F CH bl);have Cs:=D.d p21 (λ_ F=>ZcB (C:=di) (CL:=cS) (CJ:=cy) F nI iN vU BK tI);have Ct:=D.d p22 (λ_ F=>U9 (C:=di) (CL:=cS) (CJ:=cy) F DY);have Cu:=D.d p23 (λ_ F=>Va (C:=di) (CL:=cS) (CJ:=cy) F kG qH Cc tI);have qO:=D.d p37 (λ_ F=>ZcH F D0 CI bl);have B8:=D.d p7 (λ_ F=>YB F t9 bl);have Dv:=D.m mF XF (λ_ F=>Zd9 F jc tH sY BB sZ bl);have Dw:=D.d p16 (λ_ F=>V4 (CL:=cS) (CJ:=cy) F kG tR jD tH);have Dz:=D.d p19 (λ_ F=>WA (C:=di) (CL:=cS) (CJ:=cy) F iN vU t_ Dy qH Cs Ct);have D4:=D.d p42 (λ_ F=>Xp F DB D1 EN qO bl);have Fz:=D.j Zei XA (λ_ F=>Zci F lc tG B8 wz ub bl);have tM:=D.d p15 (λ_ F=>V3 (CL:=cS) (CJ:=cy) F kG tR Du Dv);have Es:=D.d p8 (λ_ F=>YD (C:=cS) F tG t9 Fz);have B_:=D.m gK Vf (λ_ F=>Z2 (CL:=cS) (CJ:=cy) F hc tK tL BI tM bl);have s_:=D.m gK Vr (λ_ F=>Zbl (CL:=cS) (CJ:=cy) F hc lc E8 tL tM);have Cp:=D.m gK Vs (λ_ F=>Zbk (CL:=cS) (CJ:=cy) F hc nL B_ BO);have qT:=D.dX p26 (λ_ F=>YY (C:=di) (CL:=cS) (CJ:=cy) F s_ BP jD);have nj:=D.m gK U2 (λ_ F=>YL (CL:=cS) (CJ:=cy) F hc Cp);have yv:=D.d p47 (λ_ F=>Xw (C:=di) (CL:=cS) (CJ:=cy) F qT tP D6 yL qQ vO BC bl);have Cd:=D.m gK Vd (λ_ F=>Z3 (CL:=cS) (CJ:=cy) F hc nL Cr nj);have tF:=D.m gK VO (λ_ F=>Zcz (CL:=cS) (CJ:=cy) F hc nL Dw s_ nj);have CK:=D.m gK VP (λ_ F=>ZcA (CL:=cS) (CJ:=cy) F hc Dx nj);have C3:=D.m gK WL (λ_ F=>ZcC (CL:=cS) (CJ:=cy) F hc Dz tF);have C2:=D.m gK WM (λ_ F=>ZcD (CL:=cS) (CJ:=cy) F hc kG Cu tF);have Ep:=D.d p45 (λ_ F=>YV (C:=di) (CL:=cS) (CJ:=cy) F C2 C3);have D7:=D.d p46 (λ_ F=>Xu (C:=di) (CL:=cS) (CJ:=cy) F ny D2 D3 D4 Ep Cd CK bl);exact Zeg F tS ny yV DC o_ qO D7 yv qT Es ES bl
theorem walk{l:PySem.W.OpenLaw}{q:Program}{loose:List Str}{XP:(Str->Option Value)->Heap->Prop}{YP:World->Heap->Prop}{d:DefRec}{K:Params->PySem.W.Frag}(hn:l.most=some 63)(xx:d.params.defaults=[])
  (hY:∀(w:World) (h:Heap),YP w h->(K w.params).In h)
  (F:∀(w:World) (mg:Str->Option Value) (fa:Addr) (h:Heap),(K w.params).In h->h.Ns mainGlobals mg->mg d.name=some (.ref fa)->
   ∃fd:FuncData,(∀(s:Shared) (u:Value),BindsTo s fd ⟨[u],[]⟩ [("_law_script",u)])/\∀base:Heap,(K w.params).In base->base.Ns mainGlobals mg->aE l.prog w (K w.params) mg base (dP l.prog w) 16 fa fd ["_law_script"] (z4 (K w.params))):
  PySem.W.WalkO q loose XP YP l.row.toRowW d [] (λf vs=>PySem.call f vs):=
 L2.ZbK (n:=63) (k:=16) (x:="_law_script") (CX:=λw=>dP l.prog w) (sp:=λw=>z4 (K w.params)) hn (by decide) xx ⟨rfl,by decide,by decide,rfl⟩ hY F (λ_ _ a ns hl _ hS=>⟨a,ns,rfl,hS,hl,λ_=>rfl⟩) λ_ _ _ _ _ h=>by obtain⟨_,_,_,_,_,_,_,_,_,_,_,_,_,_,z⟩:=h;exact z
end Hv
namespace PySem.W.Fast
def tw7239789869701675916:=0
def tw16263603926904299654:=0
def tw16741205380581678848:=0
def tw8544779624008518241:=0
def tw17541915760102076738:=0
def tw4417434979769770498:=0
def tw4770810090590886434:=0
def tw4409414390412180739:=0
def tw2895256102060933539:=0
def tw10869019826575431139:=0
def tw2077429748589150819:=0
def tw14133172089376968900:=0
def tw3425643674602292516:=0
def tw12974223882308933861:=0
def tw15909536242453355845:=0
def tw13408126544572849829:=0
def tw11967615979954242950:=0
def tw17964533092987687366:=0
def tw12110441276984800616:=0
def tw13158562414023317224:=0
def tw6833000004785466665:=0
def tw8124152792747802153:=0
def tw2721019668710943082:=0
def tw5410674019714671306:=0
def tw7318984572866947850:=0
def tw1164882606590744490:=0
def tw13354565773569485099:=0
def tw5353252039497025165:=0
def tw14755645932880568398:=0
def tw1857752446306042286:=0
def tw5513459503125527727:=0
def tw9416571781909792303:=0
def tw11544815777413141231:=0
def tw18202442361297591279:=0
def tw13079925360201962064:=0
def tw2344498215221625680:=0
def tw4254338420571569745:=0
def tw5536874258410429586:=0
def tw15285917448711230547:=0
def tw15833620186470187731:=0
def tw11787981811298904149:=0
def tw15730282221368867317:=0
def tw7850982143297187190:=0
def tw14756760652565776310:=0
def tw7780570380375364055:=0
def tw9819894579977448023:=0
def tw8239408943542649656:=0
def tw9706746151479112825:=0
def tw11323813944493229401:=0
def tw7152734531802932697:=0
def tw17185330047173991353:=0
def tw9800859736154554842:=0
def tw2424724060574110043:=0
def tw14593623120071718268:=0
def tw2952469672854666269:=0
def tw8958535644942532957:=0
def tw6879034310116281117:=0
def tw7564127795322291122:=0
def tw4023682649168583877:=0
def tw16148194921729070573:=0
def tw8956745510555946093:=0
def tw1041486437231368473:=0
def tw12114336236099859784:=0
def tw17234101052803207840:=0
def tw2252479228853223244:=0
def tw7894773617092123190:=0
def tw13299178805715756224:=0
def tw4242775701587775098:=0
def tw13336246173443956400:=0
def tw277222999325370051:=0
def tw3237328623114682631:=0
def tw10028806192097103105:=0
def tw93134575754610023:=0
def tw17048444692549499128:=0
def tw17849397489110325952:=0
def tw15234804598768789273:=0
def tw7451799709376040210:=0
def tw17837870069832755650:=0
def tw7155767984827568262:=0
def tw1589896823645107484:=0
def tw15074579066846704451:=0
def tw18272493859005587563:=0
def tw13013666747618965517:=0
def tw11287912261156057565:=0
def tw9590155139643782341:=0
def tw9214924213470365585:=0
def tw16883245940322917092:=0
def tw9706175036993397022:=0
def tw18360256508811493986:=0
def tw17497217188058561676:=0
def tw9856400149569810922:=0
def tw11275881297547357447:=0
def tw12597723789542562166:=0
def tw10449922022778086157:=0
def tw9116065910084929478:=0
def tw8957294022215712559:=0
def tw2538944947127099122:=0
def tw1133707132692474562:=0
def tw2007741844371316903:=0
def tw7804272297634464166:=0
def tw2375920329296053998:=0
def tw16828198461117658684:=0
def tw5495838135967843399:=0
def tw3682030817467312421:=0
def tw10075373872898483457:=0
def tw7199183029162745726:=0
def tw18426079107154919325:=0
def tw1112435855457611661:=0
def tw1274962555169547136:=0
def tw3171099003654358219:=0
def tw16809437831987596291:=0
def tw17272695263963253572:=0
def tw17082818072292522968:=0
def tw3469584608342447820:=0
def tw13147954276871703236:=0
def tw3675571803813814144:=0
def tw1017825308947343181:=0
def tw47355232275146592:=0
def tw16129101092634589630:=0
def tw13119327768777417122:=0
def tw625430192862872614:=0
def tw1824940136879742540:=0
def tw18183688215326015820:=0
def tw18192956374942426979:=0
def tw4481979550152527790:=0
def tw5840936322643864712:=0
def tw13199136034812681602:=0
def tw10977447762196051211:=0
def tw7439987376831356685:=0
def tw9866728073441795959:=0
def tw4300696980751707721:=0
def tw4134865670679564775:=0
def tw11414256271551096414:=0
def tw4483439899882884194:=0
def tw9905588509394246967:=0
def tw2913138085458693940:=0
def tw5806568811942471988:=0
def tw9956530403988412516:=0
def tw5380955850623698869:=0
def tw11554875717482931006:=0
def tw12978547275233526551:=0
def tw13429927747066236410:=0
def tw4934700162096210545:=0
def tw4284222247398875495:=0
def tw3074191739147725173:=0
def tw16681795333828807311:=0
def tw10616802320932055170:=0
def tw7037516132854788232:=0
def tw9015204300424392885:=0
def tw7570332693955207584:=0
def tw4629847331697249635:=0
def tw13992828456816357046:=0
def tw929890658971387713:=0
def tw2199665858444193342:=0
def tw3530131599728105090:=0
def tw11896084766256818:=0
def tw15072436191517120806:=0
def tw11912192888945581226:=0
def tw13203808848821789363:=0
def tw16698477532047939831:=0
def tw10803178882622028439:=0
def tw1086297877508285260:=0
def tw4532070639284294702:=0
def tw7645135265847439973:=0
def tw17150502967829937089:=0
def tw17373576980307152337:=0
def tw4072758786132450291:=0
def tw12198814106891119870:=0
def tw9333611867543207723:=0
def tw12060268977619155692:=0
def tw4928764139376747566:=0
def tw803122386156049097:=0
def tw10735671591625749046:=0
def tw14215435783026594781:=0
def tw17210085205784514378:=0
def tw11817624365680098614:=0
def tw7935302251100629674:=0
def tw9699977711648285608:=0
def tw712339178603460410:=0
def tw18390803600791998336:=0
def tw18159658621281929635:=0
def tw17392267642424150307:=0
def tw14534449284784624865:=0
def tw17367826598260765022:=0
def tw13512222447466310945:=0
def tw5839106310486711860:=0
def tw8513429547733913703:=0
def tw3277799556601193572:=0
def tw10896913607366759358:=0
def tw8641254592020275453:=0
def tw18408842439129136957:=0
def tw6068532430417619942:=0
def tw12196384258888448873:=0
def tw12484192575536906353:=0
def tw13752207650107329696:=0
def tw1892047348530857138:=0
def tw17540107827737550976:=0
def tw13037148221867624679:=0
def tw6487537681763750848:=0
def tw1646153535507165921:=0
def tw17556191187491472026:=0
def tw18403867583117010345:=0
def tw4036009588754319252:=0
def tw3139186434247874893:=0
def tw1855101110052595267:=0
def tw9178973798241464859:=0
def tw2221783086614181089:=0
def tw9036272061741514552:=0
def tw4802464430885213297:=0
def tw10493388575703474112:=0
def tw17311598938965267876:=0
def tw5862747346431739600:=0
def tw13767212447876632382:=0
def tw10001126074499882722:=0
def tw389052189485143782:=0
def tw17164459996976020362:=0
def tw7950510087422364835:=0
def tw8906028490723847404:=0
def tw9034543880048907781:=0
def tw18119018942121902562:=0
def tw2445374737528906927:=0
def tw16851837887024122892:=0
def tw715959716644987189:=0
def tw4563116312987984680:=0
def tw10413310037896428424:=0
def tw18331181902040464607:=0
def tw2310701667879467290:=0
def tw2380653158951348096:=0
def tw18393858768406578219:=0
def tw13632686908784342673:=0
def tw950670984710152251:=0
def tw211544201689032790:=0
def tw7664309141211217157:=0
def tw615736592905112150:=0
def tw2518114170037408977:=0
def tw15008645601198387291:=0
def tw1603511250308765871:=0
def tw11264780414262684445:=0
def tw10411905378480564238:=0
def tw12108632460053262490:=0
def tw3140983765287673841:=0
def tw11200457598882913056:=0
def tw949789750474409915:=0
def tw17181398928914796341:=0
def tw10227600955699505510:=0
def tw17218440792032845251:=0
def tw9383343982322818928:=0
def tw6208609017140921234:=0
def tw12278390831633050554:=0
def tw9325360585883554332:=0
def tw17707223070063306479:=0
def tw17527272995712326178:=0
def tw1424885784537229238:=0
def tw4107703519333497965:=0
def tw7095169294702599297:=0
def tw2274848123421182308:=0
def tw148248914897646774:=0
def tw4087163870107022628:=0
def tw8066628861227362373:=0
def tw17037285094304875636:=0
def tw16118849418708344147:=0
def tw7273759896971733256:=0
def tw9128643470893867580:=0
def tw18323091224820419034:=0
def tw13639884948541145155:=0
def tw12820057268724222913:=0
def tw6411488809381276894:=0
def tw10678424063576646802:=0
def tw2589787939608664558:=0
def tw2381026742850906181:=0
def tw6428720639249402950:=0
def tw6099795621408533828:=0
def tw285469385178984899:=0
def tw17376072233843021155:=0
def tw14357324520351931174:=0
def tw13502198099377063840:=0
def tw638780207169755955:=0
def tw14602489739189479325:=0
def tw17623484603670447976:=0
def tw6684785678651368394:=0
def tw10675493989759721673:=0
def tw10706308494439411468:=0
def tw18369831186136512520:=0
def tw7536680001357595996:=0
def tw415224636642130843:=0
def tw14230203671270308643:=0
def tw10361255779799889304:=0
def tw4873553317422026774:=0
def tw2799768175610872170:=0
def tw10274086077195465721:=0
def tw7156527476356244371:=0
def tw3296605617660702533:=0
def tw9512349116427078531:=0
def tw13008227139270906044:=0
def tw14599815037753162533:=0
def tw10596184677895089649:=0
def tw4000966541080103384:=0
def tw9931460656756352679:=0
def tw3197316532474607451:=0
def tw10151300376528566241:=0
def tw13737790621262737177:=0
def tw10676440509579924560:=0
def tw8393574475371990014:=0
def tw15529176794841382922:=0
def tw7211949666177158622:=0
def tw15214981955285413926:=0
def tw12213795702731346874:=0
def tw11735422879603774471:=0
def tw14872425603119919078:=0
def tw12861530729913934213:=0
def tw10179919561266529972:=0
def tw10407738316662492593:=0
def tw2920950201607893962:=0
def tw9073130443154861489:=0
def tw8164081666616236847:=0
def tw13642373109116336187:=0
def tw1638957818070791473:=0
def tw17462205786157035603:=0
def tw2517631256308822289:=0
def tw16928061600343126680:=0
def tw15377957407120352561:=0
def tw9734127257826817392:=0
def tw2903678063779753115:=0
def tw12337962985542720963:=0
def tw12819111523514203409:=0
def tw12634644419301942940:=0
def tw4650165827936420298:=0
def tw18106017262985462856:=0
def tw16775275470309861434:=0
def tw8962902028850074515:=0
def tw5437292506206052968:=0
def tw5096114495831505583:=0
def tw17193624506599922736:=0
def tw3504329827845932509:=0
def tw395022276763680191:=0
def tw10374634346715521660:=0
def tw8990582104813585042:=0
def tw12205410444714977245:=0
def tw10003292253511046480:=0
def tw765578849428038776:=0
def tw8301131665705686150:=0
def tw3220950700812331156:=0
def tw8275658312771526384:=0
def tw4008502099193035586:=0
def tw7768912704903563696:=0
def tw13517481084430511925:=0
def tw6389475031826303226:=0
def tw3533502888631584390:=0
def tw5222697055664861007:=0
def tw2648089464885956686:=0
def tw1848397858844097289:=0
def tw17648021533681531457:=0
def tw14246615672546071006:=0
def tw14133558246415096769:=0
def tw11677682361741425286:=0
def tw1280086910313890981:=0
def tw10109847275033382798:=0
def tw1416933336239157334:=0
def tw13509432180010864591:=0
def tw10868198819791042185:=0
def tw15468440422559662716:=0
def tw18156902794714608817:=0
def tw12457330145641595468:=0
def tw8187218417631923180:=0
def tw9915728795632295770:=0
def tw5561061997173591395:=0
def tw5135178787330602309:=0
def tw3800705298822517029:=0
def tw16263094173044007674:=0
def tw13168149657996804085:=0
def tw12046587917113692445:=0
def tw10431848504786833065:=0
def tw16029232883927172601:=0
def tw10869151356010045292:=0
def tw9816065057608097974:=0
def tw16669787976506732814:=0
def tw2255838410433588767:=0
end PySem.W.Fast
open PySem PySem.W PyProof.Rows
set_option maxRecDepth 100000 in
set_option maxHeartbeats 0 in
theorem PySem.Challenge.cw_kinhearth_k29_whole_open_sections_holds : PySem.Challenge.rw_kinhearth_k29_whole_open_sections.Holds := by
 w_on; o_law; k_head; (case hw=>w_witness2)
 k_fill
 refine Hv.walk (l:=PySem.Challenge.rw_kinhearth_k29_whole_open_sections) rfl rfl (λ w h Y=>kIn_of Y) ?F
 case F=>
  intro w mg fa h KX G xy
  apply Hv.all_mk KX G xy <;> repeat' first | k_is | (show _=_; k_is) | kernel_rfl | constructor
