import PyProof.Rows.All
import Wide.All
import OpenK.AllK
import Wide.FinOn
import Lean
import PyProof.EqAt
import PyProof.EqKinds
import PyProof.TupleCall
import PyProof.NeKinds
import PyProof.ConsumeWalk
import PyProof.ListRange
import PyProof.TupleOfSeq
import PyProof.Rows.SortWalk
import PyProof.CompFree
import PySem.Challenge.RW_kinhearth_k33_groups_and_settled_ones
set_option Elab.async false
set_option linter.all false
set_option maxRecDepth 100000
set_option maxHeartbeats 4000000
open PySem
open PySem.W (instObj methodObj lookIn plainGet hasDictIn handedIn plainGet_of isFn plainOver takerIn makesIn typeIn emptyDict keepIn kitOne kia_one kitx_list kitx_dict callWith_K methodCall_KW cellsFrom_some fnOf codeIn nsIn mg_of mg_none_of kIn_of)
open PySem.F (slot_tuple_add slot_dict_delitem slot_dict_pop slot_dict_get entry_dict_get plainAttrs_dict type_dict_get slot_dict_values plainAttrs_list)
abbrev Ya:=@List.length_map
abbrev Yb:=@List.getElem?_eq_getElem
abbrev Yc:=@Heap.get?_push_of_some
abbrev Yd:=@Nat.le_refl
abbrev Ye:=@List.mem_singleton
abbrev Yf:=@List.mem_map
abbrev Yg:=@List.getElem?_eq_some_iff
abbrev Yh:=@List.mem_of_getElem?
abbrev Yi:=@List.length_append
abbrev Yj:=@List.map_append
abbrev Yk:=@List.mem_cons_self
abbrev Yl:=@List.getElem?_map
abbrev Ym:=@Bool.false_ne_true
abbrev Yn:=@List.getD_eq_getElem?_getD
abbrev Yo:=@List.mem_append_left
abbrev Yp:=@Option.some.inj
abbrev Yq:=@List.mem_append_right
abbrev Yr:=@List.mem_append
abbrev Ys:=@Heap.get?_push_size
abbrev Yt:=@List.mem_cons
abbrev Yu:=@List.size_toArray
abbrev Yv:=@List.mem_cons_of_mem
abbrev Yw:=@Nat.zero_le
abbrev Yx:=@Heap.lt_size
abbrev Yy:=@List.nodup_cons
abbrev Yz:=@List.mem_filter
abbrev Y0:=@List.take_add_one
abbrev Y1:=@Nat.ne_of_lt
abbrev Y2:=@Nat.lt_of_lt_of_le
abbrev Y3:=@List.not_mem_nil
abbrev Y4:=@Nat.le_trans
abbrev Y5:=@List.append_nil
abbrev Y6:=@List.getElem?_append_left
abbrev Y7:=@List.mem_range
abbrev Y8:=@Int.toNat_natCast
abbrev Y9:=@List.getElem?_eq_none
abbrev Wa:=@Nat.lt_irrefl
abbrev Wb:=@Array.getD_eq_getD_getElem?
abbrev Wc:=@List.map_map
abbrev Wd:=@List.length_take
abbrev We:=@List.take_length
abbrev Wf:=@Bool.eq_iff_iff
abbrev Wg:=@List.nodup_append
abbrev Wh:=@List.filter_append
abbrev Wi:=@List.length_filter_le
abbrev Wj:=@Sum.inr.inj
abbrev Wk:=@Bool.and_eq_true
abbrev Wl:=@List.map_cons
abbrev Wm:=@Nat.not_lt_zero
abbrev Wn:=@List.map_congr_left
abbrev Wo:=@List.filter_cons
abbrev Wp:=@List.mem_iff_getElem
abbrev Wq:=@List.length_cons
abbrev Wr:=@List.all_eq_true
abbrev Ws:=@List.nodup_nil
abbrev Wt:=@List.lookup_cons
abbrev Wu:=@List.take_of_length_le
abbrev Wv:=@Nat.lt_succ_of_lt
abbrev Ww:=@List.ext_getElem?
abbrev Wx:=@Array.length_toList
abbrev Wy:=@Nat.le_succ_of_le
abbrev Wz:=@List.pairwise_iff_getElem
abbrev W0:=@List.length_replicate
abbrev W1:=@Int.emod_lt_of_pos
abbrev W3:=@List.pairwise_map
abbrev W4:=@List.append_assoc
abbrev W5:=@Bool.eq_false_iff
abbrev W6:=@List.length_zip
abbrev W7:=@List.nodup_iff_pairwise_ne
abbrev W8:=@Nat.lt_of_le_of_lt
abbrev W9:=@Array.getElem?_eq_getElem
abbrev Ja:=@Option.isSome_iff_exists
abbrev Jb:=@List.length_set
abbrev Jc:=@Int.emod_nonneg
abbrev Jd:=@List.all_cons
abbrev Je:=@Nat.lt_succ_self
abbrev Jf:=@Heap.size_push
abbrev Jg:=@List.mem_filterMap
abbrev Jh:=@List.filter_filter
abbrev Ji:=@Nat.le_of_lt
abbrev Jj:=@Array.getElem?_toList
abbrev Jk:=@List.range_succ
abbrev Jl:=@Nat.le_of_ble_eq_true
abbrev Jm:=@List.any_cons
abbrev Jn:=@List.getElem?_append_right
abbrev Jo:=@Array.perm_iff_toList_perm
abbrev Jp:=@List.getElem_mem
abbrev Jq:=@Int.toNat_of_nonneg
abbrev Jr:=@List.filter_cons_of_pos
abbrev Js:=@List.filter_map
abbrev Jt:=@Bool.true_and
abbrev Ju:=@Array.getElem?_eq_none
abbrev Jv:=@Heap.get?_push_ne
abbrev Jw:=@List.length_range
abbrev Jx:=@List.filter_congr
abbrev Jy:=@Nat.mul_le_mul
abbrev Jz:=@Heap.get?_update_self
abbrev J0:=@List.any_eq_true
abbrev J1:=@List.length_drop
abbrev J3:=@List.mem_of_mem_take
abbrev J4:=@Bool.false_or
abbrev J5:=@List.filterMap_cons
abbrev J6:=@List.find?_cons
abbrev J7:=@Sum.inl.inj
abbrev J8:=@Bool.or_eq_true
abbrev J9:=@Nat.ne_of_gt
abbrev AG:=@Int.zero_add
abbrev Vi:=@List.zip_cons_cons
abbrev UJ:=@List.any_eq_false
abbrev UZ:=@Option.isSome_map
abbrev UY:=@List.cons_append
abbrev Vw:=@List.mem_flatMap
abbrev UL:=@List.of_mem_zip
abbrev JW:=@Int.ne_of_gt
abbrev Kn:=@List.all_map
abbrev U7:=@List.nil_append
abbrev JG:=@Nat.le_succ
namespace L2
open PySem PySem.Spec PyProof.Rows
abbrev Key:=Sum Int Str
def rL:Key->Value->Bool
 |.inl k,v=>Value.isInt k v
 |.inr x,v=>Value.isStrOf x v
def Zgr(w:World):Key->Int
 |.inl k=>hashInt k
 |.inr x=>hashStr w x
theorem lL:∀{k:Key} {v:Value},rL k v=true->(∃i t,k=Sum.inl i/\v=Value.int i t)\/(∃x t,k=Sum.inr x/\v=Value.str x t)
 |.inl i,v,h=>by
  obtain⟨t,e⟩:=Value.isInt_shape h
  grind
 |.inr x,v,h=>by
  obtain⟨t,e⟩:=Value.isStrOf_shape h
  grind
theorem Za4(i:Int)(t:Tok):rL (.inl i) (.int i t)=true:=by simp[rL,Value.isInt]
theorem Za5(x:Str)(t:Tok):rL (.inr x) (.str x t)=true:=by simp[rL,Value.isStrOf]
theorem Zek(a b:Int):decide ((Sum.inl a:Key)=Sum.inl b)=(a==b):=by
 grind
theorem Zel(a b:Str):decide ((Sum.inr a:Key)=Sum.inr b)=decide (a=b):=by
 grind
theorem Zem(a:Int)(b:Str):decide ((Sum.inl a:Key)=Sum.inr b)=false:=decide_eq_false (λq=>nomatch q)
theorem Zen(a:Str)(b:Int):decide ((Sum.inr a:Key)=Sum.inl b)=false:=decide_eq_false (λq=>nomatch q)
def dC(prog:Program)(w:World):PySem.KeyKind prog w Key where
 is:=rL
 hash:=Zgr w
 inj:=λv a b ha hb=>by
  rcases lL ha with⟨i,t,rfl,rfl⟩|⟨x,t,rfl,rfl⟩
  ·rcases lL hb with⟨j,u,rfl,e⟩|⟨y,u,rfl,e⟩;·injection e with e1 _;rw[e1]
   ·exact nomatch e
  ·rcases lL hb with⟨j,u,rfl,e⟩|⟨y,u,rfl,e⟩;·exact nomatch e
   ·injection e with e1 _;rw[e1]
 byValue:=λk v h=>by
  rcases lL h with⟨i,t,rfl,rfl⟩|⟨x,t,rfl,rfl⟩<;>rfl
 pyHash:=λhv h=>by
  rcases lL hv with⟨i,t,rfl,rfl⟩|⟨x,t,rfl,rfl⟩;·exact wpAny_pyHash_int h
  ·exact wpAny_pyHash_str h
 eqBool:=λhu hv h=>by
  rcases lL hu with⟨i,t,rfl,rfl⟩|⟨x,t,rfl,rfl⟩
  ·rcases lL hv with⟨j,u,rfl,rfl⟩|⟨y,u,rfl,rfl⟩;·rw[Zek] at h;exact wpAny_eqBool_int h
   ·rw[Zem] at h;exact SeqAt.EqAt.int_str i t y u _ _ _ _ h
  ·rcases lL hv with⟨j,u,rfl,rfl⟩|⟨y,u,rfl,rfl⟩;·rw[Zen] at h;exact SeqAt.EqAt.str_int x t j u _ _ _ _ h
   ·rw[Zel] at h;exact wpAny_eqBool_str h
 «strs»:=λk x t v h=>by
  rcases lL h with⟨i,u,rfl,e⟩|⟨y,u,rfl,e⟩;·exact nomatch e
  ·injection e with e1 _;subst e1;cases v<;>rfl
theorem ZE(prog:Program)(w:World)(i:Int)(t:Tok):(dC prog w).is (.inl i) (.int i t)=true:=Za4 i t
theorem ZF(prog:Program)(w:World)(x:Str)(t:Tok):(dC prog w).is (.inr x) (.str x t)=true:=Za5 x t
inductive V where
 |ay|bl (b:Bool)|int (i:Int)|str (x:Str)|jx (b:Array UInt8)|sh (b:UInt64)|ref (a:Addr)|ty (n:String)
 deriving DecidableEq
def RelV:V->Value->Prop
 |.ay,u=>u=Value.none
 |.bl b,u=>u=Value.bool b
 |.int i,u=>∃t,u=Value.int i t
 |.str x,u=>∃t,u=Value.str x t
 |.jx b,u=>∃t,u=Value.bytes b t
 |.sh b,u=>∃t,u=Value.float b t
 |.ref a,u=>u=Value.ref a
 |.ty n,u=>u=Value.type n
abbrev Vals:List V->List Value->Prop:=Paired RelV
theorem Vals.length{xs:List V}{us:List Value}(r:Vals xs us):xs.length=us.length:=Paired.length r
theorem Vals.get:∀{xs:List V} {us:List Value} {i:Nat} {x:V},Vals xs us->xs[i]?=some x->∃u,us[i]?=some u/\RelV x u
 |_,_,_,_,.nil,e=>by simp at e
 |_,_,0,_,.cons r _,e=>by simp at e;subst e;exact⟨_,rfl,r⟩
 |_,_,i+1,x,.cons _ t,e=>by
  obtain⟨u,h1,h2⟩:=Vals.get t (by simpa using e)
  grind
theorem Vals.set{x:V}{u:Value}(r:RelV x u):∀{xs:List V} {us:List Value} (i:Nat),Vals xs us->Vals (xs.set i x) (us.set i u)
 |_,_,_,.nil=>.nil
 |_,_,0,.cons _ t=>.cons r t
 |_,_,i+1,.cons q t=>.cons q (Vals.set r i t)
theorem Vals.append:∀{xs ys:List V} {us ws:List Value},Vals xs us->Vals ys ws->Vals (xs++ys) (us++ws):=by
 intro xs ys us ws h h';induction h with
 |nil=>exact h'
 |cons r t ih=>exact .cons r ih
theorem Vals.take:∀{xs:List V} {us:List Value} (n:Nat),Vals xs us->Vals (xs.take n) (us.take n)
 |_,_,0,_=>.nil
 |_,_,_+1,.nil=>.nil
 |_,_,n+1,.cons r t=>.cons r (Vals.take n t)
theorem Vals.drop:∀{xs:List V} {us:List Value} (n:Nat),Vals xs us->Vals (xs.drop n) (us.drop n)
 |_,_,0,r=>r
 |_,_,_+1,.nil=>.nil
 |_,_,n+1,.cons _ t=>Vals.drop n t
def fW:Option V->Option Value->Prop
 |some v,some u=>RelV v u
 |none,none=>True
 |_,_=>False
def KV{κ:Type}:List (κ×V)->List (κ×Value)->Prop:=Paired λ(p:κ×V) (q:κ×Value)=>p.1=q.1/\RelV p.2 q.2
def kV:Key->V
 |.inl i=>.int i
 |.inr x=>.str x
inductive HO where
 /--a list-/
 |lst(xs:List V)
 /--a tuple(never changes)-/
 |tup(xs:List V)
 /--a dict ZfJ keys are ints and texts;one ZfJ keys are tuples of ints and texts(oV empty one is both)-/
 |dK(kvs:List (Key×V))|dT(kvs:List (List Key×V))
 /--a set of ints:ai members,ai size-/
 |set (S:Int->Bool) (n:Nat)
 /--an instance of oV class at C,ai dict at dx,ai attributes-/
 |ins (C dx:Addr) (fs:List (Str×V))
 /--oV dict of oV instance at x-/
 |own (x:Addr)
 /--oV dict of an exception-/
 |xd (fs:List (Str×V))
 /--a bound method,f of x-/
 |met (f x:Addr)
 /--a range object lo,lo+1,.. below hi-/
 |jy (lo hi:Int)
 /--a ZfK ZhZ is known to oV object (oV Q_;a dict while a loop walks it):read,never written while it is so-/
 |cE (o:Obj) (u:HO)
 /--a code ZhP table-/
 |qA (ps:Array Value)
 /--any other ZfK,by Zh0 is true of ai one object (a def of ZhU own:Zh1 a S n:=HO.ext λh=>..)-/
 |ext (φ:Heap->Prop)
abbrev Hp:=Addr->Option HO
def upd(H:Hp)(a:Addr)(o:HO):Hp:=λb=>if b=a then some o else H b
theorem aZ{H:Hp}{a:Addr}{o:HO}:upd H a o a=some o:=by unfold upd;rw[if_pos rfl]
theorem a9{H:Hp}{a b:Addr}{o:HO}(h:b≠a):upd H a o b=H b:=by unfold upd;rw[if_neg h]
theorem Gn{H:Hp}{a:Addr}{o u:HO}:upd (upd H a o) a u=upd H a u:=by
 funext b;unfold upd;split<;>rfl
theorem Su{H:Hp}{a b:Addr}{o u:HO}(h:H a=some o)(h':H b=some u)(d:o≠u):a≠b:=by
 intro e;subst e;rw[h] at h';exact d (Yp h')
theorem bQ{H:Hp}{a b:Addr}{o:HO}(h:H a=some o)(h':H b=none):a≠b:=by
 grind
section
variable (P:Program)(w:World)
def mZ(h:Heap)(a:Addr)(items:Array Value):Prop:=∃o,h.get? a=some o/\o.cls=.type "tuple"/\∃n,o.data=.seq items n/\o.dict=none
theorem mZ.tup{h:Heap}{a:Addr}{items:Array Value}(x:mZ h a items):IsTup h a items:=let⟨o,e,c,n,d,_⟩:=x;⟨o,e,c,n,d⟩
theorem mZ.lt{h:Heap}{a:Addr}{items:Array Value}(x:mZ h a items):a<h.objs.size:=x.tup.lt
theorem mZ.new(h:Heap)(items:Array Value):mZ (h.push {cls:=.type "tuple",data:=.seq items}) h.objs.size items:=⟨_,Ys _ rfl,rfl,_,rfl,rfl⟩
def cQ(H:Hp)(h:Heap)(a:Addr):HO->Prop
 |.lst xs=>xs.length<=sizeLine/\∃(ai:List Value) (n:Nat),Vals xs ai/\h.get? a=some {cls:=.type "list",data:=.seq ai.toArray n}
 |.tup xs=>xs.length<=sizeLine/\∃ai:List Value,Vals xs ai/\mZ h a ai.toArray
 |.dK kvs=>kvs.length<=sizeLine/\(a==sysModules)=false/\∃vs,KV kvs vs/\h.DictOf (dC P w) a vs
 |.dT kvs=>kvs.length<=sizeLine/\(a==sysModules)=false/\∃xs:List (List Key×Addr×Value),
   Paired (λ(p:List Key×V) (q:List Key×Addr×Value)=>p.1=q.1/\H q.2.1=some (.tup (p.1.map kV))/\RelV p.2 q.2.2) kvs xs/\
   ∃o es ep,h.get? a=some o/\o.ExactDict/\o.data=.dict es ep/\es.toList=xs.map (entryOfKey (tupleKind (dC P w)))/\(xs.map (·.1)).Nodup
 |.set S n=>h.SetOf (intKind P w) a S n
 |.ins C dx fs=>H dx=some (.own a)/\fs.length<=1000/\dx≠a/\h.get? a=some (instObj C dx)/\
   ∃mA,h.Ns1 dx mA/\(∀f,fW (fs.lookup f) (mA f))/\PySem.Within mA (fs.map (·.1))
 |.own _=>∃o,h.get? a=some o
 |.xd fs=>∃mA,h.Ns1 a mA/\∀f,fW (fs.lookup f) (mA f)
 |.jy lo hi=>∃t u v,h.get? a=some {cls:=.type "range",data:=.fields #[.int lo t,.int hi u,.int 1 v]}
 |.cE o u=>h.get? a=some o/\cQ H h a u
 |.qA ps=>h.get? a=some {cls:=.none,data:=.fields ps}
 |.met f x=>h.get? a=some (methodObj (.ref f) (.ref x))
 |.ext φ=>φ h/\(∃o,h.get? a=some o)/\∀h1 h2:Heap,φ h1->(∀o,h1.get? a=some o->h2.get? a=some o)->φ h2
def dq(H:Hp)(h:Heap):Prop:=∀a o,H a=some o->cQ P w H h a o
end
section
variable {P:Program}{w:World}{H H':Hp}{h h':Heap}{a:Addr}{o:HO}
theorem cQ.lt(x:cQ P w H h a o):a<h.objs.size:=by
 cases o with
 |lst xs=>obtain⟨_,_,_,_,e⟩:=x;exact Yx e
 |tup xs=>obtain⟨_,_,_,p⟩:=x;exact p.lt
 |dK kvs=>obtain⟨_,_,_,_,o,_,_,e,_⟩:=x;exact Yx e
 |dT kvs=>obtain⟨_,_,_,_,o,_,_,e,_⟩:=x;exact Yx e
 |set S n=>obtain⟨o,_,_,_,e,_⟩:=x;exact Yx e
 |ins C dx fs=>obtain⟨_,_,_,e,_⟩:=x;exact Yx e
 |own y=>obtain⟨_,e⟩:=x;exact Yx e
 |xd fs=>obtain⟨_,⟨_,_,_,e,_⟩,_⟩:=x;exact Yx e
 |jy lo hi=>obtain⟨_,_,_,e⟩:=x;exact Yx e
 |cE ob u=>obtain⟨e,_⟩:=x;exact Yx e
 |qA ps=>exact Yx (show h.get? a=some _ from x)
 |met f y=>exact Yx (show h.get? a=some _ from x)
 |ext φ=>obtain⟨_,⟨_,e⟩,_⟩:=x;exact Yx e
theorem Paired.bp{α β:Type}{F G:α->β->Prop}:∀{Iv:List α} {l₂:List β},Paired F Iv l₂->(∀a b,F a b->G a b)->Paired G Iv l₂:=by
 intro Iv l₂ h f;induction h with
 |nil=>exact .nil
 |cons r t ih=>exact .cons (f _ _ r) ih
theorem cQ.jQ(x:cQ P w H h a o)(k:∀b u,(b=a\/H b=some (.own a))->h.get? b=some u->h'.get? b=some u)
  (ho:∀b,H b=some (.own a)->H' b=some (.own a))(ht:∀b xs,H b=some (.tup xs)->H' b=some (.tup xs)):cQ P w H' h' a o:=by
 induction o with
 |lst xs=>obtain⟨z,ai,n,r,e⟩:=x;exact⟨z,ai,n,r,k _ _ (.inl rfl) e⟩
 |tup xs=>obtain⟨z,ai,r,ob,e,c⟩:=x;exact⟨z,ai,r,ob,k _ _ (.inl rfl) e,c⟩
 |dK kvs=>obtain⟨z,y,vs,r,ob,es,ep,e,c⟩:=x;exact⟨z,y,vs,r,ob,es,ep,k _ _ (.inl rfl) e,c⟩
 |dT kvs=>
  obtain⟨z,y,xs,r,ob,es,ep,e,c⟩:=x;exact⟨z,y,xs,Paired.bp r λp q z=>⟨z.1,ht _ _ z.2.1,z.2.2⟩,ob,es,ep,k _ _ (.inl rfl) e,c⟩
 |set S n=>obtain⟨ob,es,ep,t,e,c⟩:=x;exact⟨ob,es,ep,t,k _ _ (.inl rfl) e,c⟩
 |ins C dx fs=>
  obtain⟨d,z,ne,e,mA,⟨od,es,ep,e2,c⟩,r⟩:=x;exact⟨ho _ d,z,ne,k _ _ (.inl rfl) e,mA,⟨od,es,ep,k _ _ (.inr d) e2,c⟩,r⟩
 |own y=>obtain⟨ob,e⟩:=x;exact⟨ob,k _ _ (.inl rfl) e⟩
 |xd fs=>obtain⟨mA,⟨od,es,ep,e,c⟩,r⟩:=x;exact⟨mA,⟨od,es,ep,k _ _ (.inl rfl) e,c⟩,r⟩
 |jy lo hi=>obtain⟨t,u,v,e⟩:=x;exact⟨t,u,v,k _ _ (.inl rfl) e⟩
 |cE ob u ih=>obtain⟨e,q⟩:=x;exact⟨k _ _ (.inl rfl) e,ih q⟩
 |qA ps=>
  have e:h.get? a=some {cls:=.none,data:=.fields ps}:=x;show h'.get? a=some {cls:=.none,data:=.fields ps};exact k a _ (.inl rfl) e
 |met f y=>
  have e:h.get? a=some (methodObj (.ref f) (.ref y)):=x;show h'.get? a=some (methodObj (.ref f) (.ref y));exact k a _ (.inl rfl) e
 |ext φ=>obtain⟨p,⟨o,e⟩,st⟩:=x;exact⟨st _ _ p λo q=>k _ _ (.inl rfl) q,⟨o,k _ _ (.inl rfl) e⟩,st⟩
theorem dq.lt(x:dq P w H h)(e:H a=some o):a<h.objs.size:=(x a o e).lt
theorem dq.fresh(x:dq P w H h)(e:h.objs.size<=a):H a=none:=by
 cases q:H a with
 |none=>rfl
 |some u=>exact absurd (Y2 (x.lt q) e) (Wa _)
theorem dq.kept(x:dq P w H h)(k:∀b u,h.get? b=some u->h'.get? b=some u):dq P w H h':=λa o e=>
 (x a o e).jQ (λb u _ q=>k b u q) (λ_ q=>q) λ_ _ q=>q
theorem dq.laid(x:dq P w H h)(k:∀b u,h.get? b=some u->h'.get? b=some u)(hp:h.objs.size<=a)(new:cQ P w (upd H a o) h' a o):dq P w (upd H a o) h':=λb u e=>by
 have hn:=x.fresh hp;by_cases hb:b=a;·subst hb;rw[aZ] at e;cases e;exact new
 ·rw[a9 hb] at e;exact(x b u e).jQ (λc v _ q=>k c v q) (λc q=>by rw[a9 (bQ q hn)];exact q) λc xs q=>by rw[a9 (bQ q hn)];exact q
end
def Rd(H:Hp)(a:Addr)(u:HO):Prop:=H a=some u\/∃o,H a=some (.cE o u)
theorem Rd.ok{P:Program}{w:World}{H:Hp}{h:Heap}{a:Addr}{u:HO}(r:Rd H a u)(x:dq P w H h):cQ P w H h a u:=by
 rcases r with r|⟨o,r⟩;·exact x a u r
 ·obtain⟨_,q⟩:=x a _ r;exact q
def xn:Option HO->Prop
 |some (.lst _)=>True
 |some (.dK _)=>True
 |some (.dT _)=>True
 |some (.set _ _)=>True
 |some (.ins _ _ _)=>True
 |some (.ext _)=>True
 |_=>False
section
variable {P:Program}{w:World}{H:Hp}{h h':Heap}{x e:Addr}{o':HO}
theorem dq.write(ok:dq P w H h)(mu:xn (H x))(he:e=x\/H e=some (.own x))(k:∀b u,b≠e->h.get? b=some u->h'.get? b=some u)(xp:∃u,h'.get? e=some u)
  (new:cQ P w (upd H x o') h' x o'):dq P w (upd H x o') h':=λb u q=>by
 have Te:∀c y,H c=some (.own y)->c≠x:=λc y r z=>by subst z;rw[r] at mu;exact mu
 have Zgs:∀c xs,H c=some (.tup xs)->c≠x:=λc xs r z=>by subst z;rw[r] at mu;exact mu
 by_cases hb:b=x;·subst hb;rw[aZ] at q;cases q;exact new
 ·rw[a9 hb] at q;by_cases Ag:b=e
  ·have q':H b=some (.own x):=by
    rcases he with z|z;·exact absurd (Ag.trans z) hb
    ·rw[Ag];exact z
   rw[q] at q';cases q';obtain⟨v,hv⟩:=xp;exact⟨v,by rw[Ag];exact hv⟩
  ·refine(ok b u q).jQ (λc v hc r=>k c v ?_ r) (λc r=>by rw[a9 (Te c b r)];exact r) λc xs r=>by rw[a9 (Zgs c xs r)];exact r
   rcases hc with rfl|hc;·exact Ag
   ·rintro rfl;rcases he with z|z;·exact Te c b hc z
    ·rw[hc] at z;cases z;exact hb rfl
end
structure Un(fs ex:List Addr)(H H':Hp)(h h':Heap):Prop where
 keep:∀b o,h.get? b=some o->H b=none->b∉fs->b∉ex->h'.get? b=some o
 slot:∀b o,h.get? b=some o->H b=none->b∈fs->b∉ex->∃sl,h'.get? b=some {o with slots:=sl}
 free:∀b o,h.get? b=some o->H b=none->b∉ex->H' b=none
 there:∀b o,h.get? b=some o->b∉ex->∃o',h'.get? b=some o'
 kW:∀b xs,H b=some (.tup xs)->H' b=some (.tup xs)
 lZ:∀b o u,H b=some (.cE o u)->H' b=some (.cE o u)
 ng:∀b ps,H b=some (.qA ps)->∃more,H' b=some (.qA (ps++more))
section
variable {fs fs' ex ex':List Addr}{H H1 H2:Hp}{h h1 h2 h':Heap}{a x e:Addr}{o:HO}
theorem Un.any(u:Un fs ex H H1 h h1){b:Addr}{ob:Obj}(q:h.get? b=some ob)(n:H b=none)(hx:b∉ex):∃sl,h1.get? b=some {ob with slots:=sl}:=by
 by_cases hb:b∈fs;·exact u.slot b ob q n hb hx
 ·exact⟨ob.slots,u.keep b ob q n hb hx⟩
theorem Un.kept(k:∀b u,h.get? b=some u->h'.get? b=some u):Un fs ex H H h h':=
 ⟨λb ob q _ _ _=>k b ob q,λb ob q _ _ _=>⟨ob.slots,k b ob q⟩,λ_ _ _ n _=>n,λb ob q _=>⟨ob,k b ob q⟩,λ_ _ q=>q,λ_ _ _ q=>q,λ_ ps q=>⟨#[],by rw[q];simp⟩⟩
theorem Un.refl:Un fs ex H H h h:=Un.kept λ_ _ q=>q
theorem Un.laid(k:∀b u,h.get? b=some u->h'.get? b=some u)(hp:h.objs.size<=a)(hn:H a=none):Un fs ex H (upd H a o) h h' where
 keep:=λb u q _ _ _=>k b u q
 slot:=λb u q _ _ _=>⟨u.slots,k b u q⟩
 free:=λb u q n _=>by rw[a9 (Y1 (Y2 (Yx q) hp))];exact n
 there:=λb u q _=>⟨u,k b u q⟩
 kW:=λb xs q=>by rw[a9 (bQ q hn)];exact q
 lZ:=λb u xs q=>by rw[a9 (bQ q hn)];exact q
 ng:=λb ps q=>⟨#[],by rw[a9 (bQ q hn),q];simp⟩
theorem Un.write(mu:xn (H x))(he:e=x\/H e=some (.own x))(k:∀b u,b≠e->h.get? b=some u->h'.get? b=some u)(xp:∃u,h'.get? e=some u):Un fs ex H (upd H x o) h h':=by
 have hx:∀b,H b=none->b≠x:=λb n z=>by subst z;rw[n] at mu;exact mu
 have hb:∀b,H b=none->b≠e:=λb n z=>by
  grind
 have hm:∀b u,H b=some u->¬xn (some u)->b≠x:=λb u q nm z=>by subst z;rw[q] at mu;exact nm mu
 refine⟨λb u q n _ _=>k b u (hb b n) q,λb u q n _ _=>⟨u.slots,k b u (hb b n) q⟩,λb u q n _=>by rw[a9 (hx b n)];exact n,λb u q _=>?_,
  λb xs q=>by rw[a9 (hm b _ q λz=>z)];exact q,λb u xs q=>by rw[a9 (hm b _ q λz=>z)];exact q,λb ps q=>⟨#[],by rw[a9 (hm b _ q λz=>z),q];simp⟩⟩
 grind
end
def JB(h:Heap)(H:Hp):List Addr:=(List.range h.objs.size).filter λa=>(H a).isSome
def oR(h:Heap)(H:Hp):Heap:=PySem.W.hideAll h (JB h H)
theorem Za6(h:Heap)(H:Hp):(oR h H).objs.size=h.objs.size:=PySem.W.hideAll_size _ _
theorem ZbT{h:Heap}{H:Hp}{b:Addr}{o:Obj}(e:h.get? b=some o)(n:H b=none):(oR h H).get? b=some o:=
 PySem.W.hideAll_get _ e λhm=>by
  have q:=(Yz.mp hm).2
  grind
theorem Zc7{h:Heap}{H:Hp}{b:Addr}{o:Obj}(e:(oR h H).get? b=some o):h.get? b=some o/\H b=none:=by
 have e':=PySem.W.of_hideAll (JB h H) e;refine⟨e',?_⟩;cases q:H b with
 |none=>rfl
 |some x=>
  have z:(oR h H).get? b=none:=PySem.W.hideAll_none (JB h H) (Yz.mpr ⟨Y7.mpr (Yx e'),by simp[q]⟩)
  grind
structure Mod(K:PySem.W.Frag)(mg:Str->Option Value)(base:Heap):Prop where
 sr:K.In base
 glob:base.Ns mainGlobals mg
 blt:∃mb,base.Ns builtinsNs mb/\∀x:Str,x≠"__name__"->mb x=bootBuiltins x
 nolimit:base.NoLimit
structure Cx where
 prog:Program
 w:World
 K:PySem.W.Frag
 mg:Str->Option Value
 base:Heap
 A:Around
 N:List Str
 cZ:Shared
 kX:Hp
 env:Env
 outer:List Env
 stack:List Env
 ex:List Addr
 fn:Str->Bool
 calm:Bool
 pn:List (Addr×Obj)
 xe:Value->Shared->Prop
def iK(l:List Env):List Addr:=l.filterMap (·.frame)
abbrev Cx.fs(X:Cx):List Addr:=iK X.outer
def xq(sc:Scope)(x:Str):Prop:=sc.names.lookup x=some .local\/sc.names.lookup x=some .cell\/sc.names.lookup x=some .free
def Loc(sc:Scope)(x:Str):Prop:=sc.names.lookup x=some .local\/sc.names.lookup x=some .cell
def Look(env:Env)(h:Heap)(m:Str->Option Value)(x:Str)(u:Value):Prop:=
 (env.kindOf x=some .local/\m x=some u)\/((env.kindOf x=some .cell\/env.kindOf x=some .free)/\∃c,env.cells.lookup x=some c/\h.IsCell c (some u))
structure Cx.Ok(X:Cx):Prop where
 mod:Mod X.K X.mg X.base
 kind:X.env.scope.kind=.function
 glob:X.env.globals=mainGlobals
 blt:X.env.builtins=builtinsNs
 above:X.cZ.heap.objs.size<=X.env.locals
 inj:∀x y c,X.env.cells.lookup x=some c->X.env.cells.lookup y=some c->x=y
 has:∀x,(X.env.kindOf x=some .cell\/X.env.kindOf x=some .free)->∃c,X.env.cells.lookup x=some c
 xr:∀x c,X.fn x=true->X.env.cells.lookup x=some c->X.cZ.heap.objs.size<=c
 hd:X.calm=true->X.A.handled=none
 frames:X.A.frames=some X.stack
 Ah:X.stack=X.outer\/(X.stack=X.env::X.outer/\X.env.frame=some X.env.locals)
 uN:∀b∈X.ex,b≠X.env.locals/\∀x c,X.env.cells.lookup x=some c->c≠b
 bs:∀b o,X.base.get? b=some o->X.cZ.heap.get? b=some o/\X.kX b=none
 oW:X.base.objs.size<=X.cZ.heap.objs.size
 wW:∀b o,X.base.get? b=some o->b∉X.ex
 uG:∀b∈X.ex,b∉X.fs
 kY:X.cZ.heap.FunFrames X.base X.outer
 su:∀b∈X.fs,X.kX b=none
structure Inv(X:Cx)(pins:List (Addr×Obj))(σ:List (Option V))(H:Hp)(s:Shared):Prop where
 ok:X.Ok
 os:s.os=X.cZ.os
 bare:AllBare s.gens
 base:Un X.fs X.ex X.kX H X.cZ.heap s.heap
 loc:∃m,s.heap.Ns X.env.locals m/\∀(i:Nat) (x:Str) (v:V),X.N[i]?=some x->σ[i]?=some (some v)->xq X.env.scope x->∃u,RelV v u/\Look X.env s.heap m x u
 cell:∀x c,X.env.cells.lookup x=some c->∃v,s.heap.IsCell c v
 free:H X.env.locals=none
 kP:∀x c,X.env.cells.lookup x=some c->H c=none
 pin:∀p∈X.pn++pins,s.heap.get? p.1=some p.2/\H p.1=none/\p.1≠X.env.locals/\p.1∉X.fs/\∀v,p.2.data≠.cell v
 av:dq X.prog X.w H s.heap
 len:σ.length=X.N.length
section
variable {X:Cx}{pins:List (Addr×Obj)}{σ:List (Option V)}{H H':Hp}{s:Shared}{h':Heap}
theorem Cx.Ok.Zgt(ok:X.Ok){b:Addr}{o:Obj}(e:X.base.get? b=some o):b∉X.fs:=λhb=>by
 have:=(ok.kY.mem hb).1
 grind
theorem Inv.bs(I:Inv X pins σ H s):∀b o,X.base.get? b=some o->s.heap.get? b=some o/\H b=none:=λb o e=>
 ⟨I.base.keep b o (I.ok.bs b o e).1 (I.ok.bs b o e).2 (I.ok.Zgt e) (I.ok.wW b o e),I.base.free b o (I.ok.bs b o e).1 (I.ok.bs b o e).2 (I.ok.wW b o e)⟩
theorem Inv.bk(I:Inv X pins σ H s):∀b o,X.base.get? b=some o->s.heap.get? b=some o:=λb o e=>(I.bs b o e).1
theorem Inv.mod(I:Inv X pins σ H s):Mod X.K X.mg X.base:=I.ok.mod
theorem Inv.dN(I:Inv X pins σ H s):X.K.In s.heap:=I.ok.mod.sr.keeps I.bk
theorem Inv.lt(I:Inv X pins σ H s):X.env.locals<s.heap.objs.size:=let⟨_,hn,_⟩:=I.loc;hn.lt
theorem Inv.sz(I:Inv X pins σ H s):X.cZ.heap.objs.size<=s.heap.objs.size:=Y4 I.ok.above (Ji I.lt)
theorem Inv.Zgu(I:Inv X pins σ H s){a:Addr}(h:s.heap.objs.size<=a):a∉X.fs:=λhb=>by
 obtain⟨_,o,ho,_⟩:=I.ok.kY.mem hb;exact absurd (Y2 (Yx ho) (Y4 I.sz h)) (Wa _)
theorem Inv.sv(I:Inv X pins σ H s):∀x c,X.env.cells.lookup x=some c->c≠X.env.locals:=λx c e z=>by
 obtain⟨v,o,ho,hd⟩:=I.cell x c e;obtain⟨m,⟨o',es,ep,uO,Ai,_⟩,_⟩:=I.loc
 grind
theorem Inv.kY(I:Inv X pins σ H s):s.heap.FunFrames X.base X.outer:=by
 have all:∀(l:List Env),(∀b∈iK l,b∈X.fs)->X.cZ.heap.FunFrames X.base l->s.heap.FunFrames X.base l:=by
  intro l;induction l with
  |nil=>intro _ _;trivial
  |cons env r ih=>
   rintro hs ⟨hk,⟨L,o,hf,hn,ho,hd⟩,hr⟩;have hL:=hs L (by unfold iK;rw[J5,hf];exact Yk);obtain⟨sl,e⟩:=I.base.slot L o ho (I.ok.su L hL) hL λz=>I.ok.uG L z hL;exact⟨hk,⟨L,_,hf,hn,e,hd⟩,ih (λb hb=>hs b (by unfold iK;rw[J5,hf];exact Yv _ hb)) hr⟩
 exact all X.outer (λ_ hb=>hb) I.ok.kY
theorem Inv.stack(I:Inv X pins σ H s):s.heap.FunFrames X.base X.stack:=by
 rcases I.ok.Ah with e|⟨e,hf⟩;·rw[e];exact I.kY
 ·rw[e];obtain⟨m,hn,_⟩:=I.loc;refine .cons (by rw[I.ok.kind];decide) hf hn ?_ I.kY;exact Heap.get?_none_of_le (Y4 I.ok.oW I.ok.above)
theorem Inv.GS(I:Inv X pins σ H s):∀b∈iK X.stack,b∈X.env.locals::X.fs:=λb hb=>by
 rcases I.ok.Ah with e|⟨e,hf⟩;·grind
 ·rw[e] at hb;unfold iK at hb;rw[J5,hf] at hb;exact hb
theorem Inv.PF(I:Inv X pins σ H s):∀b∈iK X.stack,H b=none:=λb hb=>by
 rcases Yt.mp (I.GS b hb) with e|hb;·rw[e];exact I.free
 ·obtain⟨_,o,ho,_⟩:=I.ok.kY.mem hb;exact I.base.free b o ho (I.ok.su b hb) λz=>I.ok.uG b z hb
theorem Inv.step{g':Array GenState}{t':Nat}{d':Drawn}{ch:List Addr}(I:Inv X pins σ H s)
  (nG:∀b∈ch,(b∈X.ex\/X.cZ.heap.objs.size<=b)/\b≠X.env.locals/\(∀x c,X.env.cells.lookup x=some c->c≠b)/\∀p∈X.pn++pins,p.1≠b)
  (keep:∀b o,b≠X.env.locals->b∉X.fs->b∉ch->s.heap.get? b=some o->H b=none->h'.get? b=some o)
  (slot:∀b o,b≠X.env.locals->b∈X.fs->b∉ch->s.heap.get? b=some o->H b=none->∃sl,h'.get? b=some {o with slots:=sl})(free:∀b o,b∉ch->s.heap.get? b=some o->H b=none->H' b=none)
  (there:∀b o,b∉ch->s.heap.get? b=some o->∃o',h'.get? b=some o')
  (kW:∀b xs,H b=some (.tup xs)->H' b=some (.tup xs))(lZ:∀b o u,H b=some (.cE o u)->H' b=some (.cE o u))(ng:∀b ps,H b=some (.qA ps)->∃more,H' b=some (.qA (ps++more)))
  (ns:∀m,s.heap.Ns X.env.locals m->h'.Ns X.env.locals m)(av:dq X.prog X.w H' h')(hg:AllBare g'):
  Inv X pins σ H' {s with heap:=h',gens:=g',drawn:=d',toks:=t'}:=by
 have Ux:∀b o,X.cZ.heap.get? b=some o->b≠X.env.locals:=λb o e=>Y1 (Y2 (Yx e) I.ok.above);have Aj:∀b o,X.cZ.heap.get? b=some o->b∉X.ex->b∉ch:=λb o e hx hb=>by
  rcases(nG b hb).1 with z|z;·exact hx z
  ·exact absurd (Y2 (Yx e) z) (Wa _)
 have cellK:∀x c,X.env.cells.lookup x=some c->∀v,s.heap.IsCell c v->h'.IsCell c v:=λx c e v ⟨o,ho,hd⟩=>by
  have xt:c∉ch:=λz=>(nG c z).2.2.1 x c e rfl;by_cases hc:c∈X.fs
  ·obtain⟨sl,q⟩:=slot c o (I.sv x c e) hc xt ho (I.kP x c e);exact⟨_,q,hd⟩
  ·exact⟨o,keep c o (I.sv x c e) hc xt ho (I.kP x c e),hd⟩
 refine⟨I.ok,I.os,hg,⟨λb o e n hb hx=>?_,λb o e n hb hx=>?_,λb o e n hx=>?_,λb o e hx=>?_,λb xs e=>kW b xs (I.base.kW b xs e),λb o xs e=>lZ b o xs (I.base.lZ b o xs e),λb ps e=>?_⟩,?_,λx c e=>?_,?_,λx c e=>?_,λp hp=>?_,av,I.len⟩;·exact keep b o (Ux b o e) hb (Aj b o e hx) (I.base.keep b o e n hb hx) (I.base.free b o e n hx)
 ·obtain⟨sl,e1⟩:=I.base.slot b o e n hb hx;obtain⟨sl',e2⟩:=slot b _ (Ux b o e) hb (Aj b o e hx) e1 (I.base.free b o e n hx);exact⟨sl',e2⟩
 ·obtain⟨o',e1⟩:=I.base.there b o e hx;exact free b o' (Aj b o e hx) e1 (I.base.free b o e n hx)
 ·obtain⟨o',e1⟩:=I.base.there b o e hx;exact there b o' (Aj b o e hx) e1
 ·obtain⟨m1,e1⟩:=I.base.ng b ps e;obtain⟨m2,e2⟩:=ng b _ e1;exact⟨m1++m2,by rw[e2,Array.append_assoc]⟩
 ·obtain⟨m,hn,hl⟩:=I.loc;refine⟨m,ns m hn,λi x v e1 e2 e3=>?_⟩;obtain⟨u,r,l⟩:=hl i x v e1 e2 e3;refine⟨u,r,?_⟩;rcases l with l|⟨k,c,e,z⟩;·exact .inl l
  ·exact .inr ⟨k,c,e,cellK x c e _ z⟩
 ·obtain⟨v,z⟩:=I.cell x c e;exact⟨v,cellK x c e v z⟩
 ·obtain⟨m,⟨o,_,_,ho,_⟩,_⟩:=I.loc;exact free _ o (λz=>(nG _ z).2.1 rfl) ho I.free
 ·obtain⟨v,o,ho,hd⟩:=I.cell x c e;exact free c o (λz=>(nG c z).2.2.1 x c e rfl) ho (I.kP x c e)
 ·obtain⟨e,n,ne,nf,d⟩:=I.pin p hp;have xt:p.1∉ch:=λz=>(nG p.1 z).2.2.2 p hp rfl;exact⟨keep p.1 p.2 ne nf xt e n,free p.1 p.2 xt e n,ne,nf,d⟩
theorem Inv.un{t':Nat}(I:Inv X pins σ H s)(u:Un X.fs [] H H' s.heap h')(av:dq X.prog X.w H' h'):Inv X pins σ H' {s with heap:=h',toks:=t'}:=by
 obtain⟨m,⟨o,es,ep,ho,r⟩,_⟩:=id I.loc;obtain⟨sl,hL⟩:=u.any ho I.free (by simp);exact I.step (g':=s.gens) (d':=s.drawn) (ch:=[]) (λ_ z=>nomatch z) (λb o _ hb _ e n=>u.keep b o e n hb (by simp)) (λb o _ hb _ e n=>u.slot b o e n hb (by simp)) (λb o _ e n=>u.free b o e n (by simp)) (λb o _ e=>u.there b o e (by simp)) u.kW u.lZ u.ng (λm' hm=>by
  obtain⟨o',Ak,Al,uO,r'⟩:=hm;rw[ho] at uO;cases uO;exact⟨_,Ak,Al,hL,r'⟩) av I.bare
theorem Inv.call{g':Array GenState}{t':Nat}{d':Drawn}{ch:List Addr}(I:Inv X pins σ H s)(u:Un (iK X.stack) ch H H' s.heap h')(av:dq X.prog X.w H' h')(hg:AllBare g')
  (nG:∀b∈ch,(b∈X.ex\/X.cZ.heap.objs.size<=b)/\b≠X.env.locals/\(∀x c,X.env.cells.lookup x=some c->c≠b)/\∀p∈X.pn++pins,p.1≠b):
  Inv X pins σ H' {s with heap:=h',gens:=g',drawn:=d',toks:=t'}:=by
 obtain⟨m,⟨o,es,ep,ho,r⟩,_⟩:=id I.loc;obtain⟨sl,hL⟩:=u.any ho I.free λz=>(nG _ z).2.1 rfl;exact I.step (ch:=ch) nG (λb o hL hb hc e n=>u.keep b o e n (λz=>(Yt.mp (I.GS b z)).elim hL hb) hc) (λb o _ _ hc e n=>u.any e n hc) (λb o hc e n=>u.free b o e n hc) (λb o hc e=>u.there b o e hc) u.kW u.lZ u.ng (λm' hm=>by
  obtain⟨o',Ak,Al,uO,r'⟩:=hm;rw[ho] at uO;cases uO;exact⟨_,Ak,Al,hL,r'⟩) av hg
theorem Inv.turned{t':Nat}{it:Addr}(I:Inv X pins σ H s)(k:∀b o,b≠it->s.heap.get? b=some o->h'.get? b=some o)(hn:H it=none)(hL:it≠X.env.locals)
  (h1:it∈X.ex\/X.cZ.heap.objs.size<=it)(h2:∀x c,X.env.cells.lookup x=some c->c≠it)(h3:∀p∈X.pn++pins,p.1≠it):Inv X pins σ H {s with heap:=h',toks:=t'}:=by
 have Uy:∀b u,H b=some u->b≠it:=λb u e z=>by rw[z,hn] at e;cases e
 refine I.step (g':=s.gens) (d':=s.drawn) (ch:=[it]) (λb hb=>?_) (λb o _ _ hc e _=>k b o (λz=>hc (by simp[z])) e) (λb o _ _ hc e _=>⟨o.slots,k b o (λz=>hc (by simp[z])) e⟩) (λ_ _ _ _ n=>n)
  (λb o hc e=>⟨o,k b o (λz=>hc (by simp[z])) e⟩) (λ_ _ e=>e) (λ_ _ _ e=>e) (λb ps e=>⟨#[],by rw[e];simp⟩) (λm hm=>?_) (λb u e=>?_) I.bare
 ·have e:b=it:=by simpa using hb
  subst e;exact⟨h1,hL,h2,h3⟩
 ·obtain⟨o,es,ep,ho,r⟩:=hm;exact⟨o,es,ep,k _ o (Ne.symm hL) ho,r⟩
 ·refine(I.av b u e).jQ (λc v hc q=>k c v ?_ q) (λ_ q=>q) λ_ _ q=>q;rcases hc with z|z;·rw[z];exact Uy b u e
  ·exact Uy c _ z
theorem Inv.tok(I:Inv X pins σ H s)(t:Nat):Inv X pins σ H {s with toks:=t}:=I.un (h':=s.heap) (t':=t) Un.refl I.av
theorem Inv.kept{t':Nat}(I:Inv X pins σ H s)(k:∀b u,s.heap.get? b=some u->h'.get? b=some u):Inv X pins σ H {s with heap:=h',toks:=t'}:=I.un (Un.kept k) (I.av.kept k)
theorem Inv.laid{a:Addr}{o:HO}{t':Nat}(I:Inv X pins σ H s)(k:∀b u,s.heap.get? b=some u->h'.get? b=some u)(hp:s.heap.objs.size<=a)(new:cQ X.prog X.w (upd H a o) h' a o):
  Inv X pins σ (upd H a o) {s with heap:=h',toks:=t'}:=I.un (Un.laid k hp (I.av.fresh hp)) (I.av.laid k hp new)
theorem Inv.write{x e:Addr}{o:HO}{t':Nat}(I:Inv X pins σ H s)(mu:xn (H x))(he:e=x\/H e=some (.own x))(k:∀b u,b≠e->s.heap.get? b=some u->h'.get? b=some u)(xp:∃u,h'.get? e=some u)
  (new:cQ X.prog X.w (upd H x o) h' x o):Inv X pins σ (upd H x o) {s with heap:=h',toks:=t'}:=I.un (Un.write mu he k xp) (I.av.write mu he k xp new)
theorem Inv.PH{Sv:List (Addr×Obj)}(I:Inv X pins σ H s)(h:∀p∈Sv,s.heap.get? p.1=some p.2/\H p.1=none/\p.1≠X.env.locals/\p.1∉X.fs/\∀v,p.2.data≠.cell v):Inv X Sv σ H s:=
 ⟨I.ok,I.os,I.bare,I.base,I.loc,I.cell,I.free,I.kP,λp hp=>(Yr.mp hp).elim (λz=>I.pin p (Yo _ z)) (h p),I.av,I.len⟩
theorem Oj{N:List Str}(hN:N.Nodup){i j:Nat}{x:Str}(a:N[i]?=some x)(b:N[j]?=some x):i=j:=by
 obtain⟨h1,e1⟩:=Yg.mp a;obtain⟨h2,e2⟩:=Yg.mp b;exact(List.getElem_inj hN).mp (e1.trans e2.symm)
theorem Za7{M:Model}{A:Around}{E:Value->Shared->Prop}{i:Nat}{x:Str}{v:V}{u:Value}{Q:Unit->Shared->Prop}(I:Inv X pins σ H s)(hN:X.N.Nodup)(hi:X.N[i]?=some x)(hx:Loc X.env.scope x)(r:RelV v u)
  (h:∀s',Inv X pins (σ.set i (some v)) H s'->(∃a,Heap.SameBut a s.heap s'.heap/\(a=X.env.locals\/X.env.cells.lookup x=some a))->Q () s')(hf:X.fn x=true\/X.env.scope.names.lookup x=some .local:=by first|exact .inl rfl|exact .inr rfl|assumption):wpAny M A (storeName X.env x u) Q E s:=by
 obtain⟨m,hn,hl⟩:=id I.loc;have Zgv:(X.env.scope.kind==.class||(X.env.scope.kind==.module&&X.env.locals !=X.env.globals))=false:=by rw[I.ok.kind];rfl
 have Tf:i<σ.length:=by rw[I.len];exact(Yg.mp hi).1
 have sv:=I.sv;have tracked:∀{a:Addr} {h':Heap},(∃o,s.heap.get? a=some o/\H a=none)->Heap.SameBut a s.heap h'->dq X.prog X.w H h':=λ{a h'} ha hs b ob e=>by
  obtain⟨_,_,Sw⟩:=ha;refine(I.av b ob e).jQ (λc w' hc q=>(hs.2 c ?_).trans q) (λ_ q=>q) λ_ _ q=>q;rintro rfl;rcases hc with rfl|hc;·rw[Sw] at e;cases e
  ·rw[Sw] at hc;cases hc
 rcases hx with hk|hk
 ·refine wpAny_storeName_local hk hn (λh' uP hs=>?_) Zgv;obtain⟨oL,_,_,oX,_⟩:=id hn;refine h _ ⟨I.ok,I.os,I.bare,⟨λb o e n hb hx=>?_,λb o e n hb hx=>?_,I.base.free,λb o e hx=>?_,I.base.kW,I.base.lZ,I.base.ng⟩,⟨_,uP,λj y v' e1 e2 e3=>?_⟩,λy c e=>?_,I.free,I.kP,λp hp=>?_,tracked ⟨oL,oX,I.free⟩ hs,by simpa using I.len⟩ ⟨_,hs,.inl rfl⟩;·exact(hs.2 b (Y1 (Y2 (Yx e) I.ok.above))).trans (I.base.keep b o e n hb hx)
  ·obtain⟨sl,e1⟩:=I.base.slot b o e n hb hx;exact⟨sl,(hs.2 b (Y1 (Y2 (Yx e) I.ok.above))).trans e1⟩
  ·obtain⟨o',e1⟩:=I.base.there b o e hx;exact⟨o',(hs.2 b (Y1 (Y2 (Yx e) I.ok.above))).trans e1⟩
  ·by_cases hj:j=i
   ·subst hj;rw[hi] at e1;cases e1;rw[List.getElem?_set_self Tf] at e2;cases e2;exact⟨u,r,.inl ⟨hk,by simp⟩⟩
   ·rw[List.getElem?_set_ne (Ne.symm hj)] at e2;obtain⟨u',r',q⟩:=hl j y v' e1 e2 e3;refine⟨u',r',?_⟩;rcases q with⟨k,e⟩|⟨k,c,e,z⟩
    ·refine .inl ⟨k,?_⟩;have:y≠x:=λe=>hj (Oj hN e1 (e▸hi));simp[this,e]
    ·exact .inr ⟨k,c,e,z.sameBut hs (sv y c e)⟩
  ·obtain⟨w',z⟩:=I.cell y c e;exact⟨w',z.sameBut hs (sv y c e)⟩
  ·obtain⟨e,n,ne,nf,d⟩:=I.pin p hp;exact⟨(hs.2 p.1 ne).trans e,n,ne,nf,d⟩
 ·have JC:X.fn x=true:=by
   rcases hf with z|z;·exact z
   ·rw[z] at hk;cases hk
  obtain⟨c,hc⟩:=I.ok.has x (.inl hk);obtain⟨w',z⟩:=I.cell x c hc;refine wpAny_storeName_cell I.ok.kind hk hc z (λh' qB hs=>?_);obtain⟨oc,Uz,Zgw⟩:=id z;refine h {s with heap:=h'} ⟨I.ok,I.os,I.bare,⟨λb o e n hb hx=>?_,λb o e n hb hx=>?_,I.base.free,λb o e hx=>?_,I.base.kW,I.base.lZ,I.base.ng⟩,⟨m,hn.sameBut hs (Ne.symm (sv x c hc)),λj y v' e1 e2 e3=>?_⟩,λy c' e=>?_,I.free,I.kP,λp hp=>?_,tracked ⟨oc,Uz,I.kP x c hc⟩ hs,by simpa using I.len⟩ ⟨c,hs,.inr hc⟩;·exact(hs.2 b (Y1 (Y2 (Yx e) (I.ok.xr x c JC hc)))).trans (I.base.keep b o e n hb hx)
  ·obtain⟨sl,e1⟩:=I.base.slot b o e n hb hx;exact⟨sl,(hs.2 b (Y1 (Y2 (Yx e) (I.ok.xr x c JC hc)))).trans e1⟩
  ·obtain⟨o',e1⟩:=I.base.there b o e hx;exact⟨o',(hs.2 b (Y1 (Y2 (Yx e) (I.ok.xr x c JC hc)))).trans e1⟩
  ·by_cases hj:j=i
   ·subst hj;rw[hi] at e1;cases e1;rw[List.getElem?_set_self Tf] at e2;cases e2;exact⟨u,r,.inr ⟨.inl hk,c,hc,qB⟩⟩
   ·rw[List.getElem?_set_ne (Ne.symm hj)] at e2;obtain⟨u',r',q⟩:=hl j y v' e1 e2 e3;refine⟨u',r',?_⟩;rcases q with q|⟨k,c',e,z'⟩;·exact .inl q
    ·refine .inr ⟨k,c',e,z'.sameBut hs ?_⟩;rintro rfl;exact hj (Oj hN e1 (I.ok.inj _ _ _ e hc▸hi))
  ·by_cases UA:c'=c;·subst UA;exact⟨_,qB⟩
   ·obtain⟨w2,z2⟩:=I.cell y c' e;exact⟨w2,z2.sameBut hs UA⟩
  ·obtain⟨e,n,ne,nf,d⟩:=I.pin p hp;refine⟨(hs.2 p.1 ?_).trans e,n,ne,nf,d⟩;intro q;rw[q,Uz] at e;have q':oc=p.2:=Yp e;exact d w' (by rw[←q'];exact Zgw)
theorem FN{M:Model}{A:Around}{E:Value->Shared->Prop}{i:Nat}{x:Str}{v:V}{u:Value}{Q:Unit->Shared->Prop}(I:Inv X pins σ H s)(hN:X.N.Nodup)(hi:X.N[i]?=some x)(hx:Loc X.env.scope x)(r:RelV v u)
  (h:∀s',Inv X pins (σ.set i (some v)) H s'->Q () s')(hf:X.fn x=true\/X.env.scope.names.lookup x=some .local:=by first|exact .inl rfl|exact .inr rfl|assumption):wpAny M A (storeName X.env x u) Q E s:=
 Za7 I hN hi hx r (λs' I' _=>h s' I') hf
theorem Inv.Sx{s':Shared}{ch:List Addr}(I:Inv X pins σ H s)(ho:s'.os=s.os)(u:Un (iK X.stack) ch H H' s.heap s'.heap)(av:dq X.prog X.w H' s'.heap)(hg:AllBare s'.gens)
  (nG:∀b∈ch,(b∈X.ex\/X.cZ.heap.objs.size<=b)/\b≠X.env.locals/\(∀x c,X.env.cells.lookup x=some c->c≠b)/\∀p∈X.pn++pins,p.1≠b):Inv X pins σ H' s':=by
 obtain⟨h',g',d',t',o'⟩:=s';have e:o'=s.os:=ho;subst e;exact I.call (g':=g') (t':=t') (d':=d') u av hg nG
end
abbrev XK:=Value->Option Addr->Hp->Prop
abbrev St:=List (Option V)
abbrev VK:=V->Hp->Prop
abbrev TE:=St->Hp->VK->Prop
abbrev TT:=St->Hp->(Bool->Hp->Prop)->Prop
abbrev TA:=St->Hp->(List V->Hp->Prop)->Prop
structure Ends where
 nx:St->Hp->Prop
 rt:VK
 bk:St->Hp->Prop:=λ_ _=>False
 ct:St->Hp->Prop:=λ_ _=>False
abbrev TS:=Ends->St->Hp->Prop
inductive Tg(X:Cx)(pins:List (Addr×Obj))(σ:St)(Q:VK)(u:Value)(s':Shared):Prop
 |mk (v H') (aB:Inv X pins σ H' s') (aT:RelV v u) (bq:Q v H'):Tg X pins σ Q u s'
def EP(X:Cx)(pins:List (Addr×Obj))(σ:St)(Q:VK)(u:Value)(s':Shared):Prop:=Tg X pins σ Q u s'
inductive Th(X:Cx)(pins:List (Addr×Obj))(σ:St)(R:Hp->Prop)(s':Shared):Prop
 |mk (H':Hp) (aB:Inv X pins σ H' s') (aT:R H'):Th X pins σ R s'
def TP(X:Cx)(pins:List (Addr×Obj))(σ:St)(Q:Bool->Hp->Prop)(b:Bool)(s':Shared):Prop:=Th X pins σ (Q b) s'
inductive Ti(X:Cx)(pins:List (Addr×Obj))(σ:St)(Q:List V->Hp->Prop)(us:List Value)(s':Shared):Prop
 |mk (vs H') (aB:Inv X pins σ H' s') (aT:Vals vs us) (bq:Q vs H'):Ti X pins σ Q us s'
def AP(X:Cx)(pins:List (Addr×Obj))(σ:St)(Q:List V->Hp->Prop)(us:List Value)(s':Shared):Prop:=Ti X pins σ Q us s'
inductive rS(X:Cx)(pins:List (Addr×Obj))(Q:St->Hp->Prop)(s':Shared):Prop
 |mk (aN:St) (H':Hp) (aB:Inv X pins aN H' s') (aT:Q aN H'):rS X pins Q s'
inductive Tj(X:Cx)(pins:List (Addr×Obj))(Q:VK)(u:Value)(s':Shared):Prop
 |mk (v:V) (aN:St) (H':Hp) (aB:Inv X pins aN H' s') (aT:RelV v u) (bq:Q v H'):Tj X pins Q u s'
def SP(X:Cx)(pins:List (Addr×Obj))(D:Ends)(f:Flow)(s':Shared):Prop:=
 match f with
 |.next=>rS X pins D.nx s'
 |.brk=>rS X pins D.bk s'
 |.cont=>rS X pins D.ct s'
 |.ret u=>Tj X pins D.rt u s'
def PE(X:Cx)(e:Expr)(t:TE):Prop:=
 ∀(pins:List (Addr×Obj)) (s:Shared) (σ:St) (H:Hp) (Q:VK),Inv X pins σ H s->t σ H Q->wpAny (model X.prog X.w) X.A (eval e X.env) (EP X pins σ Q) X.xe s
def PT(X:Cx)(e:Expr)(t:TT):Prop:=
 ∀(pins:List (Addr×Obj)) (s:Shared) (σ:St) (H:Hp) (Q:Bool->Hp->Prop),Inv X pins σ H s->t σ H Q->wpAny (model X.prog X.w) X.A (isTrue e X.env (eval e X.env)) (TP X pins σ Q) X.xe s
def PW(X:Cx)(e:Expr)(t:TT):Prop:=
 ∀(whole:Sem Value) (pins:List (Addr×Obj)) (s:Shared) (σ:St) (H:Hp) (Q:Bool->Hp->Prop),Inv X pins σ H s->t σ H Q->wpAny (model X.prog X.w) X.A (isTrue e X.env whole) (TP X pins σ Q) X.xe s
theorem PW.pt{X:Cx}{e:Expr}{t:TT}(h:PW X e t):PT X e t:=h _
def PA(X:Cx)(es:List Expr)(t:TA):Prop:=
 ∀(pos:Pos) (pins:List (Addr×Obj)) (s:Shared) (σ:St) (H:Hp) (Q:List V->Hp->Prop),Inv X pins σ H s->t σ H Q->wpAny (model X.prog X.w) X.A (spliced (backTo pos (starEach es X.env))) (AP X pins σ Q) X.xe s
def PS(X:Cx)(st:Stmt)(t:TS):Prop:=
 ∀(pins:List (Addr×Obj)) (s:Shared) (σ:St) (H:Hp) (D:Ends),Inv X pins σ H s->t D σ H->wpAny (model X.prog X.w) X.A (exec st X.env) (SP X pins D) X.xe s
def ia(X:Cx)(st:List Stmt)(t:TS):Prop:=
 ∀(pins:List (Addr×Obj)) (s:Shared) (σ:St) (H:Hp) (D:Ends),Inv X pins σ H s->t D σ H->wpAny (model X.prog X.w) X.A (execs st X.env) (SP X pins D) X.xe s
theorem az{α:Type}{t:Sem α}{Q Q':α->Shared->Prop}{M:Model}{A:Around}{E:Value->Shared->Prop}{s:Shared}(h:wpAny M A t Q E s)(hQ:∀a s,Q a s->Q' a s):wpAny M A t Q' E s:=wpAny_mono h hQ λ_ _ x=>x
section
variable {X:Cx}
inductive Ra(i:Nat)(σ:St)(H:Hp)(Q:VK):Prop
 |mk (v) (aB:σ[i]?=some (some v)) (aT:Q v H):Ra i σ H Q
def hZ(i:Nat):TE:=λσ H Q=>Ra i σ H Q
def tC(v:V):TE:=λ_ H Q=>Q v H
theorem Zeo{i:Nat}{x:Str}{pos:Pos}(hN:X.N[i]?=some x)(hv:xq X.env.scope x)(hd:(x==("__debug__":Str))=false:=by decide)(jV:(x==("__classdict__":Str))=false:=by decide):PE X (.Name x pos) (hZ i):=by
 rintro pins s σ H Q I ⟨v,e,h⟩;obtain⟨m,hn,hl⟩:=I.loc;obtain⟨u,r,l⟩:=hl i x v hN e hv;have fin:EP X pins σ Q u s:=⟨v,H,I,r,h⟩;rcases l with⟨hk,hm⟩|⟨hk,c,hc,zL⟩;·exact wpAny_Name (wpAny_loadName_local I.ok.kind hk hn hm fin) hd
 ·rcases hk with hk|hk;·exact wpAny_Name (wpAny_loadName_cell I.ok.kind hk hc zL fin) hd
  ·exact wpAny_Name (wpAny_loadName_free I.ok.kind hk hc zL fin jV) hd
theorem aL{i j pos}:PE X (.Constant (.int i) j pos) (tC (.int i)):=λ_ _ _ H _ I h=>wpAny_Constant_int ⟨.int i,H,I.tok _,⟨_,rfl⟩,h⟩
theorem kQ{b j pos}:PE X (.Constant (.bool b) j pos) (tC (.bl b)):=λ_ _ _ H _ I h=>Constant_bool ⟨.bl b,H,I,rfl,h⟩
theorem lQ{j pos}:PE X (.Constant .none j pos) (tC .ay):=λ_ _ _ H _ I h=>Constant_none ⟨.ay,H,I,rfl,h⟩
theorem bC{x j pos}:PE X (.Constant (.str x) j pos) (tC (.str x)):=λ_ _ _ H _ I h=>Calls.Constant_str ⟨.str x,H,I.tok _,⟨_,rfl⟩,h⟩
def Gl(X:Cx)(x:Str):Prop:=X.env.kindOf x=some .globalImplicit
theorem Gp{E:Value->Shared->Prop}{pins:List (Addr×Obj)}{s:Shared}{σ:St}{H:Hp}{x:Str}{u:Value}{pos:Pos}{Q:Value->Shared->Prop}(I:Inv X pins σ H s)(hg:Gl X x)(hm:X.mg x=some u)(h:Q u s)
  (hd:(x==("__debug__":Str))=false:=by decide):wpAny (model X.prog X.w) X.A (eval (.Name x pos) X.env) Q E s:=
 Calls.Name_function_global I.ok.kind hg (Calls.loadGlobal_global (by rw[I.ok.glob];exact I.mod.glob.keeps I.bk) hm h) hd
theorem zA{E:Value->Shared->Prop}{pins:List (Addr×Obj)}{s:Shared}{σ:St}{H:Hp}{x:Str}{u:Value}{pos:Pos}{Q:Value->Shared->Prop}(I:Inv X pins σ H s)(hg:Gl X x)(hm:X.mg x=none)(hv:bootBuiltins x=some u)(h:Q u s)
  (hn:x≠"__name__":=by decide)(hd:(x==("__debug__":Str))=false:=by decide):wpAny (model X.prog X.w) X.A (eval (.Name x pos) X.env) Q E s:=by
 obtain⟨mb,h1,h2⟩:=I.mod.blt;exact Calls.Name_function_global I.ok.kind hg (Calls.loadGlobal_builtin (by rw[I.ok.glob];exact I.mod.glob.keeps I.bk) hm (by rw[I.ok.blt];exact h1.keeps I.bk) ((h2 x hn).trans hv) h) hd
theorem dD{x:Str}{v:V}{u:Value}{pos:Pos}(hg:Gl X x)(hm:X.mg x=some u)(r:RelV v u)(hd:(x==("__debug__":Str))=false:=by decide):PE X (.Name x pos) (tC v):=
 λ_ _ _ H _ I h=>Gp I hg hm ⟨v,H,I,r,h⟩ hd
theorem Zc8{x:Str}{v:V}{u:Value}{pos:Pos}(hg:Gl X x)(hm:X.mg x=none)(hv:bootBuiltins x=some u)(r:RelV v u)(hn:x≠"__name__":=by decide)(hd:(x==("__debug__":Str))=false:=by decide):PE X (.Name x pos) (tC v):=
 λ_ _ _ H _ I h=>zA I hg hm hv ⟨v,H,I,r,h⟩ hn hd
variable {a b:Expr}{ta tb:TE}{pos:Pos}
def PC(X:Cx)(op:CmpOp)(a b:Expr)(t:TE):Prop:=
 ∀(pins:List (Addr×Obj)) (s:Shared) (σ:St) (H:Hp) (Q:VK),Inv X pins σ H s->t σ H Q->
  wpAny (model X.prog X.w) X.A (eval a X.env) (λv bI=>wpAny (model X.prog X.w) X.A (eval b X.env) (λu eB=>wpAny (model X.prog X.w) X.A (compareOp op v u) (EP X pins σ Q) X.xe eB) X.xe bI) X.xe s
inductive Tn(Q:Bool->Hp->Prop)(x:V)(H1:Hp):Prop
 |mk (c) (aB:x=.bl c) (aT:Q c H1):Tn Q x H1
def tB(t:TE):TT:=λσ H Q=>t σ H λx H1=>Tn Q x H1
theorem Zep{op:CmpOp}{t:TE}(h:PC X op a b t)(h1:behindInMarks op b=false:=by first|exact ZbU _ (by decide) (by decide)|rfl):PE X (.Compare a [op] [b] pos) t:=λpins s σ H Q I hw=>wpAny_Compare1 (h pins s σ H Q I hw) h1
theorem jN{op:CmpOp}{t:TE}(h:PC X op a b t)(h1:behindInMarks op b=false:=by first|exact ZbU _ (by decide) (by decide)|rfl):PT X (.Compare a [op] [b] pos) (tB t):=by
 intro pins s σ H Q I hw;refine wpAny_isTrue_Compare1 (az (h pins s σ H _ I hw) λv s1 h1=>az h1 λu s2 h2=>az h2 λc s3 zq=>?_) h1;obtain⟨x,H1,I1,r1,q1⟩:=zq;obtain⟨d,rfl,q⟩:=q1;cases r1;exact wpAny_truthy_bool ⟨H1,I1,q⟩
theorem fC{e:Expr}{t:TE}(h:PE X e t)(he:∀whole,isTrue e X.env whole=(do let v←whole;standAt e.pos;holding [v] (truthy v)):=by intro _;rfl):PT X e (tB t):=by
 intro pins s σ H Q I hw;refine isTrue_plain (az (h pins s σ H _ I hw) λv s1 zq=>?_) (he _);obtain⟨x,H1,I1,r1,q1⟩:=zq;obtain⟨d,rfl,q⟩:=q1;cases r1;exact wpAny_truthy_bool ⟨H1,I1,q⟩
variable {tA Am:TT}{rest:List Expr}
def To(t u:TT):TT:=λσ H Q=>t σ H λc H1=>if c=true then u σ H1 Q else Q false H1
def UB(t u:TT):TT:=λσ H Q=>t σ H λc H1=>if c=true then Q true H1 else u σ H1 Q
def Zgx(t:TT):TT:=λσ H Q=>t σ H λc H1=>Q (!c) H1
theorem pw_and1(ha:PT X a tA):PW X (.BoolOp .And [a] pos) tA:=by
 intro wh pins s σ H Q I h;refine isTrue_and (az (ha pins s σ H Q I h) λc s1 e=>?_);cases c with
 |true=>exact isTrue_and_nil e
 |false=>exact e
theorem pw_or1(ha:PT X a tA):PW X (.BoolOp .Or [a] pos) tA:=by
 intro wh pins s σ H Q I h;refine isTrue_or (az (ha pins s σ H Q I h) λc s1 e=>?_);cases c with
 |false=>exact isTrue_or_nil e
 |true=>exact e
theorem pw_and(ha:PT X a tA)(hb:PW X (.BoolOp .And (b::rest) pos) Am):PW X (.BoolOp .And (a::b::rest) pos) (To tA Am):=by
 intro wh pins s σ H Q I h;refine isTrue_and (az (ha pins s σ H _ I h) λc s1 zq=>?_);obtain⟨H1,I1,q1⟩:=zq;cases c with
 |true=>exact hb wh pins s1 σ H1 Q I1 q1
 |false=>exact⟨H1,I1,q1⟩
theorem pw_or(ha:PT X a tA)(hb:PW X (.BoolOp .Or (b::rest) pos) Am):PW X (.BoolOp .Or (a::b::rest) pos) (UB tA Am):=by
 intro wh pins s σ H Q I h;refine isTrue_or (az (ha pins s σ H _ I h) λc s1 zq=>?_);obtain⟨H1,I1,q1⟩:=zq;cases c with
 |true=>exact⟨H1,I1,q1⟩
 |false=>exact hb wh pins s1 σ H1 Q I1 q1
theorem jO(ha:PT X a tA):PT X (.UnaryOp .Not a pos) (Zgx tA):=by
 intro pins s σ H Q I h;exact isTrue_not (ha pins s σ H (λc H1=>Q (!c) H1) I h)
def Sy(ta tb:TE):TE:=λσ H Q=>ta σ H λx H1=>∃c,x=.bl c/\if c=true then tb σ H1 Q else Q (.bl false) H1
def Tp(ta tb:TE):TE:=λσ H Q=>ta σ H λx H1=>∃c,x=.bl c/\if c=true then Q (.bl true) H1 else tb σ H1 Q
def ZfL(ta:TE):TE:=λσ H Q=>ta σ H λx H1=>∃c,x=.bl c/\Q (.bl (!c)) H1
theorem lR{op}{t:TE}(h:PE X a t):PE X (.BoolOp op [a] pos) t:=λpins s σ H Q I hw=>BoolOp_one (h pins s σ H Q I hw)
theorem oC(ha:PE X a ta)(hb:PE X (.BoolOp .And (b::rest) pos) tb):PE X (.BoolOp .And (a::b::rest) pos) (Sy ta tb):=by
 intro pins s σ H Q I h;refine BoolOp_and (az (ha pins s σ H _ I h) λv s1 zq=>?_);obtain⟨x,H1,I1,r1,q1⟩:=zq;obtain⟨c,rfl,q1⟩:=q1;cases r1;refine wpAny_truthy_bool ?_;cases c with
 |true=>exact hb pins s1 σ H1 Q I1 q1
 |false=>exact⟨.bl false,H1,I1,rfl,q1⟩
theorem Hs(ha:PE X a ta)(hb:PE X (.BoolOp .Or (b::rest) pos) tb):PE X (.BoolOp .Or (a::b::rest) pos) (Tp ta tb):=by
 intro pins s σ H Q I h;refine BoolOp_or (az (ha pins s σ H _ I h) λv s1 zq=>?_);obtain⟨x,H1,I1,r1,q1⟩:=zq;obtain⟨c,rfl,q1⟩:=q1;cases r1;refine wpAny_truthy_bool ?_;cases c with
 |false=>exact hb pins s1 σ H1 Q I1 q1
 |true=>exact⟨.bl true,H1,I1,rfl,q1⟩
theorem Zeq(ha:PE X a ta):PE X (.UnaryOp .Not a pos) (ZfL ta):=by
 intro pins s σ H Q I h;refine UnaryOp_ (az (ha pins s σ H _ I h) λv s1 zq=>?_);obtain⟨x,H1,I1,r1,q1⟩:=zq;obtain⟨c,rfl,q1⟩:=q1;cases r1;exact not_of (wpAny_truthy_bool ⟨.bl (!c),H1,I1,rfl,q1⟩)
end
def aj(K:PySem.W.Frag)(H:Hp)(a:Addr)(xs:List V):Prop:=
 Rd H a (.lst xs)\/
  ∃(o:Obj) (ai:Array Value) (n:Nat),K.lookup a=some o/\o.cls=.type "list"/\o.dict=none/\o.data=.seq ai n/\ai.size<=sizeLine/\Vals xs ai.toList
def aA(K:PySem.W.Frag)(H:Hp)(a:Addr)(xs:List V):Prop:=
 Rd H a (.tup xs)\/
  ∃(o:Obj) (ai:Array Value) (n:Nat),K.lookup a=some o/\o.cls=.type "tuple"/\o.data=.seq ai n/\ai.size<=sizeLine/\Vals xs ai.toList
def Zgy:Value->Option V
 |.none=>some .ay
 |.bool b=>some (.bl b)
 |.int i _=>some (.int i)
 |.str x _=>some (.str x)
 |.bytes b _=>some (.jx b)
 |.float b _=>some (.sh b)
 |.ref a=>some (.ref a)
 |.type n=>some (.ty n)
 |_=>none
theorem RelV.abs{x:V}{u:Value}(r:RelV x u):Zgy u=some x:=by
 cases x with
 |ay=>cases r;rfl
 |bl _=>cases r;rfl
 |int _=>obtain⟨t,rfl⟩:=r;rfl
 |str _=>obtain⟨t,rfl⟩:=r;rfl
 |jx _=>obtain⟨t,rfl⟩:=r;rfl
 |sh _=>obtain⟨t,rfl⟩:=r;rfl
 |ref _=>cases r;rfl
 |ty _=>cases r;rfl
theorem RelV.inj{x y:V}{u:Value}(r:RelV x u)(q:RelV y u):x=y:=Yp (r.abs.symm.trans q.abs)
theorem Vals.inj:∀{xs ys:List V} {us:List Value},Vals xs us->Vals ys us->xs=ys:=by
 intro xs ys us h;induction h generalizing ys with
 |nil=>intro h';cases h';rfl
 |cons r t ih=>
  intro h';cases h' with
  |cons r' t'=>rw[r.inj r',ih t']
section
variable {X:Cx}{pins:List (Addr×Obj)}{σ:St}{H:Hp}{s:Shared}{a:Addr}{xs ys:List V}
theorem aj.of{K:PySem.W.Frag}(h:H a=some (.lst xs)):aj K H a xs:=.inl (.inl h)
theorem aA.of{K:PySem.W.Frag}(h:H a=some (.tup xs)):aA K H a xs:=.inl (.inl h)
theorem Inv.list(I:Inv X pins σ H s)(h:aj X.K H a xs):∃ai:List Value,Vals xs ai/\PlainL s.heap a ai.toArray/\xs.length<=sizeLine:=by
 rcases h with h|⟨o,ai,n,hk,hc,hd,hs,hz,r⟩
 ·obtain⟨z,ai,n,r,e⟩:=h.ok I.av;exact⟨ai,r,⟨_,n,e,rfl,rfl,rfl⟩,z⟩
 ·refine⟨ai.toList,r,⟨o,n,I.dN a o hk,hc,hd,by simpa using hs⟩,?_⟩;have e:=r.length
  grind
theorem Inv.tuple(I:Inv X pins σ H s)(h:aA X.K H a xs):∃ai:List Value,Vals xs ai/\IsTup s.heap a ai.toArray/\xs.length<=sizeLine:=by
 rcases h with h|⟨o,ai,n,hk,hc,hs,hz,r⟩
 ·obtain⟨z,ai,r,p⟩:=h.ok I.av;exact⟨ai,r,p.tup,z⟩
 ·refine⟨ai.toList,r,⟨o,I.dN a o hk,hc,n,by simpa using hs⟩,?_⟩;have e:=r.length
  grind
theorem Inv.ZbV(I:Inv X pins σ H s)(h:aj X.K H a xs)(h':aj X.K H a ys):xs=ys:=by
 obtain⟨ai,r,⟨o,n,e,_,_,d⟩,_⟩:=I.list h;obtain⟨its',r',⟨o',n',e',_,_,d'⟩,_⟩:=I.list h';rw[e] at e';cases e';rw[d] at d';injection d' with d1 _;have:ai=its':=by simpa using congrArg Array.toList d1
 subst this;exact r.inj r'
theorem Inv.Za8(I:Inv X pins σ H s)(h:aA X.K H a xs)(h':aA X.K H a ys):xs=ys:=by
 obtain⟨ai,r,⟨o,e,_,n,d⟩,_⟩:=I.tuple h;obtain⟨its',r',⟨o',e',_,n',d'⟩,_⟩:=I.tuple h';rw[e] at e';cases e';rw[d] at d';injection d' with d1 _;have:ai=its':=by simpa using congrArg Array.toList d1
 subst this;exact r.inj r'
end
abbrev Cx.ni(X:Cx)(E:Value->Shared->Prop):Cx:={X with xe:=E}
abbrev Cx.An(X:Cx):Cx:=X.ni λ_ _=>False
theorem Cx.Ok.ni{X:Cx}(ok:X.Ok)(E:Value->Shared->Prop):(X.ni E).Ok:=
 ⟨ok.mod,ok.kind,ok.glob,ok.blt,ok.above,ok.inj,ok.has,ok.xr,ok.hd,ok.frames,ok.Ah,ok.uN,ok.bs,ok.oW,ok.wW,ok.uG,ok.kY,ok.su⟩
theorem Cx.Ok.qf{X:Cx}{E:Value->Shared->Prop}(ok:(X.ni E).Ok):X.Ok:=
 ⟨ok.mod,ok.kind,ok.glob,ok.blt,ok.above,ok.inj,ok.has,ok.xr,ok.hd,ok.frames,ok.Ah,ok.uN,ok.bs,ok.oW,ok.wW,ok.uG,ok.kY,ok.su⟩
section
variable {X:Cx}{pins:List (Addr×Obj)}{σ:St}{H:Hp}{s:Shared}{E:Value->Shared->Prop}
theorem Inv.ni(I:Inv X pins σ H s)(E:Value->Shared->Prop):Inv (X.ni E) pins σ H s:=⟨I.ok.ni E,I.os,I.bare,I.base,I.loc,I.cell,I.free,I.kP,I.pin,I.av,I.len⟩
theorem Inv.qf(I:Inv (X.ni E) pins σ H s):Inv X pins σ H s:=⟨I.ok.qf,I.os,I.bare,I.base,I.loc,I.cell,I.free,I.kP,I.pin,I.av,I.len⟩
theorem SP.qf{D:Ends}{f:Flow}{s':Shared}(h:SP (X.ni E) pins D f s'):SP X pins D f s':=by
 cases f with
 |next=>obtain⟨aN,H',I,q⟩:=h;exact⟨aN,H',I.qf,q⟩
 |brk=>obtain⟨aN,H',I,q⟩:=h;exact⟨aN,H',I.qf,q⟩
 |cont=>obtain⟨aN,H',I,q⟩:=h;exact⟨aN,H',I.qf,q⟩
 |ret u=>obtain⟨v,aN,H',I,r,q⟩:=h;exact⟨v,aN,H',I.qf,r,q⟩
theorem ia.An{st:List Stmt}{t:TS}(h:ia X.An st t):ia X st t:=λpins s σ H D I hw=>
 wpAny_mono (h pins s σ H D (I.ni _) hw) (λ_ _ q=>q.qf) λ_ _ z=>False.elim z
end
section
variable {X:Cx}{st:Stmt}{rest:List Stmt}{t u:TS}{e:Expr}{te:TE}{pos:Pos}
def Sz:TS:=λD σ H=>D.nx σ H
def wX(t u:TS):TS:=λD σ H=>t {D with nx:=u D} σ H
theorem aY:ia X [] Sz:=λ_ _ σ H _ I h=>wpAny_execs_nil ⟨σ,H,I,h⟩
theorem ak(h1:PS X st t)(h2:ia X rest u):ia X (st::rest) (wX t u):=by
 intro pins s σ H D I h;refine wpAny_execs_cons (az (h1 pins s σ H {D with nx:=u D} I h) λf s1 q=>?_);cases f with
 |next=>
  obtain⟨aN,H',I',q⟩:=q;exact h2 pins s1 aN H' D I' q
 |ret v=>exact q
 |brk=>exact q
 |cont=>exact q
theorem au(h1:PS X st t):ia X [st] t:=by
 intro pins s σ H D I h;refine wpAny_execs_cons (az (h1 pins s σ H D I h) λf s1 q=>?_);cases f with
 |next=>exact wpAny_execs_nil q
 |ret v=>exact q
 |brk=>exact q
 |cont=>exact q
theorem Inv.quiet{pins:List (Addr×Obj)}{σ:St}{H:Hp}{s:Shared}(I:Inv X pins σ H s):interactive X.env=false:=by simp[interactive,I.ok.kind]
def ZfM(te:TE):TS:=λD σ H=>te σ H λ_ H1=>D.nx σ H1
theorem bY(he:PE X e te)(hs:swapsWith e none pos.line X.env=pure false:=by rfl):PS X (.Expr e pos) (ZfM te):=by
 intro pins s σ H D I h;exact wpAny_Expr_any (az (he pins s σ H _ I h) λv s1 ⟨x,H1,I1,r1,q1⟩=>⟨σ,H1,I1,q1⟩) I.quiet hs
def Zgz(te:TE):TS:=λD σ H=>te σ H D.rt
theorem aF(he:PE X e te):PS X (.Return (some e) pos) (Zgz te):=by
 intro pins s σ H D I h;exact wpAny_Return_some (az (he pins s σ H _ I h) λv s1 ⟨x,H1,I1,r1,q1⟩=>⟨x,σ,H1,I1,r1,q1⟩)
def Iw(c:TT)(t u:TS):TS:=λD σ H=>c σ H λb H1=>if b=true then t D σ H1 else u D σ H1
theorem aQ{c:Expr}{a b:List Stmt}{tc:TT}(hc:PT X c tc)(ha:ia X a t)(hb:ia X b u):PS X (.If c a b pos) (Iw tc t u):=by
 intro pins s σ H D I h;refine wpAny_If (az (hc pins s σ H _ I h) λd s1 zq=>?_);obtain⟨H1,I1,q1⟩:=zq;cases d with
 |true=>exact ha pins s1 σ H1 D I1 q1
 |false=>exact hb pins s1 σ H1 D I1 q1
def Zer:TS:=λ_ _ _=>False
theorem fN{sts:List Stmt}:ia X sts Zer:=λ_ _ _ _ _ _ h=>h.elim
end
abbrev TG:=V->St->Hp->(St->Hp->Prop)->Prop
abbrev nH:=List V->St->Hp->(St->Hp->Prop)->Prop
def PG(X:Cx)(target:Expr)(t:TG):Prop:=
 ∀(pins:List (Addr×Obj)) (s:Shared) (σ:St) (H:Hp) (v:V) (u:Value) (Q:St->Hp->Prop),Inv X pins σ H s->RelV v u->t v σ H Q->
  wpAny (model X.prog X.w) X.A (assign target X.env u) (λ_ s'=>rS X pins Q s') X.xe s
def xu(X:Cx)(ts:List Expr)(t:nH):Prop:=
 ∀(pins:List (Addr×Obj)) (s:Shared) (σ:St) (H:Hp) (vs:List V) (us:List Value) (Q:St->Hp->Prop),Inv X pins σ H s->Vals vs us->t vs σ H Q->
  wpAny (model X.prog X.w) X.A (assignInOrder ((assignEach ts X.env).map (·.2)) us) (λ_ s'=>rS X pins Q s') X.xe s
abbrev Iy:=V->V->V->Hp->(Hp->Prop)->Prop
def rT(X:Cx)(t:Iy):Prop:=
 ∀(pins:List (Addr×Obj)) (s:Shared) (σ:St) (H:Hp) (o i v:V) (ov iv u:Value) (Q:Hp->Prop),Inv X pins σ H s->RelV o ov->RelV i iv->RelV v u->t o i v H Q->
  wpAny (model X.prog X.w) X.A (setItem ov iv u) (λ_ s'=>∃H',Inv X pins σ H' s'/\Q H') X.xe s
abbrev Ao:=V->V->Hp->VK->Prop
def UC(X:Cx)(op:Operator)(t:Ao):Prop:=
 ∀(pins:List (Addr×Obj)) (s:Shared) (σ:St) (H:Hp) (x y:V) (v u:Value) (Q:VK),Inv X pins σ H s->RelV x v->RelV y u->t x y H Q->
  wpAny (model X.prog X.w) X.A (inplaceOp op v u) (EP X pins σ Q) X.xe s
section
variable {X:Cx}{pos:Pos}
def wJ(i:Nat):TG:=λv σ H Q=>Q (σ.set i (some v)) H
theorem a8{i:Nat}{x:Str}(hN:X.N.Nodup)(hi:X.N[i]?=some x)(hx:Loc X.env.scope x)(hf:X.fn x=true\/X.env.scope.names.lookup x=some .local:=by first|exact .inl rfl|exact .inr rfl|assumption):PG X (.Name x pos) (wJ i):=by
 intro pins s σ H v u Q I r h;exact wpAny_assign_Name (FN I hN hi hx r (λs' I'=>⟨_,H,I',h⟩) hf)
def ZgA:nH:=λvs σ H Q=>vs=[]/\Q σ H
inductive PJ(t:TG)(u:nH)(vs:List V)(σ:St)(H:Hp)(Q:St->Hp->Prop):Prop
 |mk (v r) (aB:vs=v::r) (aT:t v σ H λaN H'=>u r aN H' Q):PJ t u vs σ H Q
def ZfN(t:TG)(u:nH):nH:=λvs σ H Q=>PJ t u vs σ H Q
theorem iC:xu X [] ZgA:=by
 rintro pins s σ H vs us Q I r ⟨e,h⟩;subst e;exact assignInOrder_nil ⟨σ,H,I,h⟩
theorem bN{e:Expr}{es:List Expr}{t:TG}{u:nH}(h1:PG X e t)(h2:xu X es u)
  (hs:(assignEach (e::es) X.env).map (·.2)=assign e X.env::(assignEach es X.env).map (·.2):=by rfl):xu X (e::es) (ZfN t u):=by
 rintro pins s σ H vs us Q I r ⟨v,vr,e1,h⟩;subst e1;cases r with
 |cons r rr=>
  rw[hs];exact assignInOrder_cons (az (h1 pins s σ H _ _ _ I r h) λ_ s1 ⟨uQ,H1,I1,q1⟩=>h2 pins s1 uQ H1 _ _ Q I1 rr q1)
inductive Rb(K:PySem.W.Frag)(n:Nat)(t:nH)(v:V)(σ:St)(H:Hp)(Q:St->Hp->Prop):Prop
 |mk (a xs) (aB:v=.ref a) (aT:aA K H a xs) (bq:xs.length=n) (bR:t xs σ H Q):Rb K n t v σ H Q
def Tq(K:PySem.W.Frag)(n:Nat)(t:nH):TG:=λv σ H Q=>Rb K n t v σ H Q
theorem Zes{es:List Expr}{k:Nat}{t:nH}{n:Nat}(hc:X.calm=true)(h:xu X es t)
  (hn:(assignEach es X.env).length=n:=by rfl)(ib:(assignEach es X.env).findIdx? (·.1)=none:=by rfl):PG X (.Tuple es k pos) (Tq X.K n t):=by
 rintro pins s σ H v u Q I r ⟨a,xs,e1,hq,hl,hw⟩;subst e1;cases r;obtain⟨ai,rv,ht,hz⟩:=I.tuple hq;exact assign_Tuple_tuple (I.ok.hd hc) ht (by simp[hn,←hl,rv.length]) ib λh' hx=>h pins _ σ H xs _ Q (I.kept λb o e=>hx b o (Y1 (Yx e)) e) (by simpa using rv) hw
def Tr(to ti:TE)(t:Iy):TG:=λv σ H Q=>to σ H λo H1=>ti σ H1 λi H2=>t o i v H2 λH3=>Q σ H3
theorem Zet{o i:Expr}{to ti:TE}{t:Iy}(ho:PE X o to)(hi:PE X i ti)(hs:rT X t)
  (ha:∀v,assign (.Subscript o i pos) X.env v=(do
   let ov←holding [v] (eval o X.env);let iv←holding [v,ov] (eval i X.env)
   standAt pos
   holding [v,ov,iv] (setItem ov iv v)
   release [v,ov,iv] []):=by intro _;rfl):PG X (.Subscript o i pos) (Tr to ti t):=by
 intro pins s σ H v u Q I r h;exact wpAny_bind (wpAny_holding (az (ho pins s σ H _ I h) λov s1 ⟨x,H1,I1,r1,q1⟩=>wpAny_bind (wpAny_holding (az (hi pins s1 σ H1 _ I1 q1) λiv s2 ⟨y,H2,I2,r2,q2⟩=>wpAny_bind (wpAny_standAt (wpAny_bind (wpAny_holding (az (hs pins s2 σ H2 x y v ov iv u _ I2 r1 r2 r q2) λ_ s3 ⟨H3,I3,q3⟩=>wpAny_release ⟨σ,H3,I3,q3⟩))))))))
def wY(te:TE)(g:TG):TS:=λD σ H=>te σ H λx H1=>g x σ H1 D.nx
theorem m5{tg e:Expr}{te:TE}{g:TG}(he:PE X e te)(hg:PG X tg g)(hs:swapsWithSole [tg] e pos.line X.env=pure false:=by rfl)(hw:swappedStores [tg] e X.env=pure none:=by rfl)
  (h1:(assignEach [tg] X.env).map (·.2)=[assign tg X.env]:=by rfl):PS X (.Assign [tg] e pos) (wY te g):=by
 intro pins s σ H D I h;refine wpAny_Assign_stores (az (he pins s σ H _ I h) λv s1 zq=>?_) hs hw;obtain⟨x,H1,I1,r1,q1⟩:=zq;rw[h1];exact az (hg pins s1 σ H1 x v _ I1 r1 q1) λ_ s2 q=>q
theorem a_{i:Nat}{x:Str}{e:Expr}{te:TE}{pos':Pos}(hN:X.N.Nodup)(hi:X.N[i]?=some x)(hx:Loc X.env.scope x)(he:PE X e te)(hs:swapsWith e (some (.Name x pos')) pos.line X.env=pure false:=by rfl)(hf:X.fn x=true\/X.env.scope.names.lookup x=some .local:=by first|exact .inl rfl|exact .inr rfl|assumption):
  PS X (.Assign [.Name x pos'] e pos) (wY te (wJ i)):=by
 intro pins s σ H D I h;refine wpAny_Assign_Name (az (he pins s σ H _ I h) λv s1 zq=>?_) hs;obtain⟨y,H1,I1,r1,q1⟩:=zq;exact FN I1 hN hi hx r1 (λs2 I2=>⟨_,H1,I2,q1⟩) hf
def ZgB(i:Nat)(te:TE)(ti:Ao):TS:=λD σ H=>∃x,σ[i]?=some (some x)/\te σ H λy H1=>ti x y H1 λz H2=>D.nx (σ.set i (some z)) H2
theorem GU{i:Nat}{x:Str}{e:Expr}{te:TE}{op:Operator}{ti:Ao}{pos':Pos}(hN:X.N.Nodup)(hi:X.N[i]?=some x)(hx:Loc X.env.scope x)(he:PE X e te)(ho:UC X op ti)(hf:X.fn x=true\/X.env.scope.names.lookup x=some .local:=by first|exact .inl rfl|exact .inr rfl|assumption):
  PS X (.AugAssign (.Name x pos') op e pos) (ZgB i te ti):=by
 rintro pins s σ H D I ⟨v,e1,h⟩;obtain⟨m,hn,hl⟩:=I.loc;have JD:xq X.env.scope x:=by rcases hx with k|k;exact .inl k;exact .inr (.inl k)
 obtain⟨u,r,l⟩:=hl i x v hi e1 JD;refine wpAny_AugAssign_Name ?_;have go:wpAny (model X.prog X.w) X.A (eval e X.env) (λw eB=>wpAny (model X.prog X.w) X.A (inplaceOp op u w) (λr dY=>wpAny (model X.prog X.w) X.A (storeName X.env x r) (λ_=>SP X pins D .next) X.xe dY) X.xe eB) X.xe s:=az (he pins s σ H _ I h) λw s1 ⟨y,H1,I1,r1,q1⟩=>az (ho pins s1 σ H1 v y u w _ I1 r r1 q1) λz s2 ⟨zv,H2,I2,r2,q2⟩=>FN I2 hN hi hx r2 (λs3 I3=>⟨_,H2,I3,q2⟩) hf;rcases l with⟨hk,hm⟩|⟨hk,c,hc,zL⟩;·exact wpAny_loadName_local I.ok.kind hk hn hm go
 ·rcases hk with hk|hk;·exact wpAny_loadName_cell I.ok.kind hk hc zL go
  ·rcases hx with k|k
   ·have:X.env.scope.names.lookup x=some .free:=hk
    grind
   ·have:X.env.scope.names.lookup x=some .free:=hk
    grind
inductive SA(f:Int->Int->Int)(x:V)(y:V)(H:Hp)(Q:VK):Prop
 |mk (i j) (aB:x=.int i) (aT:y=.int j) (bq:Q (.int (f i j)) H):SA f x y H Q
def ipI(f:Int->Int->Int):Ao:=λx y H Q=>SA f x y H Q
theorem GV:UC X .Add (ipI λi j=>i+j):=by
 rintro pins s σ H x y v u Q I r1 r2 ⟨i,j,e1,e2,q⟩;subst e1;subst e2;obtain⟨t,rfl⟩:=r1;obtain⟨t',rfl⟩:=r2;exact iadd_int ⟨.int _,H,I.tok _,⟨_,rfl⟩,q⟩
end
section
variable {X:Cx}{pos:Pos}
def Rc(c:TT)(tb:TS):TS:=λD σ H=>∃W:Nat->St->Hp->Prop,(∃m,W m σ H)/\∀m σ H,W m σ H->
 c σ H λb H1=>if b=true then ∃N:St->Hp->Prop,(∀aN H',N aN H'->∃m',m'<m/\W m' aN H')/\tb {D with nx:=N,ct:=N,bk:=D.nx} σ H1 else D.nx σ H1
theorem yW{c:Expr}{body:List Stmt}{tc:TT}{tb:TS}(hp:PassesOwn (model X.prog X.w) X.A X.env X.xe)(hc:PT X c tc)(hb:ia X body tb):PS X (.While c body [] pos) (Rc tc tb):=by
 intro pins s σ H D I h;obtain⟨W,⟨m0,w0⟩,turn⟩:=h;refine wpAny_While (codeAny_whileLoop (λn s'=>rS X pins (W n) s') ?_ m0 ⟨σ,H,I,w0⟩);rintro n s1 ⟨uQ,H1,I1,w1⟩;refine wpAny_passesOwn hp (az (hc pins s1 uQ H1 _ I1 (turn n uQ H1 w1)) λb s2 zq=>?_);obtain⟨H2,I2,q2⟩:=zq;cases b with
 |true=>
  obtain⟨N,hN,q2⟩:=q2;rw[if_pos rfl];refine wpAny_passesOwn hp (az (hb pins s2 uQ H2 _ I2 q2) λf s3 q3=>?_);cases f with
  |next=>
   obtain⟨cP,H3,I3,n3⟩:=q3;obtain⟨m',hm,w3⟩:=hN cP H3 n3;exact⟨m',hm,cP,H3,I3,w3⟩
  |cont=>
   obtain⟨cP,H3,I3,n3⟩:=q3;obtain⟨m',hm,w3⟩:=hN cP H3 n3;exact⟨m',hm,cP,H3,I3,w3⟩
  |brk=>exact q3
  |ret v=>exact q3
 |false=>
  rw[if_neg Ym];exact wpAny_execs_nil ⟨uQ,H2,I2,q2⟩
end
structure It where
 go:Nat->Hp->Prop
 qC:Nat->Hp->V->Hp->Prop
 stop:Nat->Hp->Prop
def iH(X:Cx)(pins:List (Addr×Obj))(H:Hp)(b:Addr):Prop:=
 H b=none/\b≠X.env.locals/\b∉X.fs/\(b∈X.ex\/X.cZ.heap.objs.size<=b)/\(∀x c,X.env.cells.lookup x=some c->c≠b)/\∀p∈X.pn++pins,p.1≠b
theorem Inv.qr{X:Cx}{pins:List (Addr×Obj)}{σ:St}{H H':Hp}{s:Shared}{b:Addr}(I:Inv X pins σ H s)(hb:s.heap.objs.size<=b)(hn:H' b=none):iH X pins H' b:=by
 refine⟨hn,J9 (Y2 I.lt hb),I.Zgu hb,.inr (Y4 I.sz hb),λx c e z=>?_,λp hp z=>?_⟩
 ·obtain⟨v,q⟩:=I.cell x c e;exact absurd (Y2 q.lt (by rw[z];exact hb)) (Wa _)
 ·exact absurd (Y2 (Yx (I.pin p hp).1) (by rw[z];exact hb)) (Wa _)
structure Turn(P:Program)(w:World)(K:PySem.W.Frag)(tg:Expr)(J:It)(fp:List Addr)(it:Addr)(tn:Nat->Heap->Prop):Prop where
 mem:it∈fp
 obj:∀i h,tn i h->∀b∈fp,∃o,h.get? b=some o/\∀v,o.data≠.cell v
 keep:∀i h h',tn i h->(∀b∈fp,∀o,h.get? b=some o->h'.get? b=some o)->tn i h'
 item:∀(X:Cx),X.prog=P->X.w=w->X.K=K->X.calm=true->∀(i:Nat) (pins:List (Addr×Obj)) (s:Shared) (σ:St) (H:Hp) (E:Value->Shared->Prop),Inv X pins σ H s->(∀b∈fp,iH X pins H b)->tn i s.heap->J.go i H->
  wpAny (model P w) X.A (pyNext (.ref it)) (λr s1=>∃u,r=some u/\
   wpAny (model P w) X.A (letOwnedTupleGo tg (.ref it) u) (λ_ s2=>∃x H',Inv X pins σ H' s2/\RelV x u/\J.qC i H x H'/\tn (i+1) s2.heap/\∀b∈fp,H' b=none) E s1) E s
 done:∀(X:Cx),X.prog=P->X.w=w->X.K=K->X.calm=true->∀(i:Nat) (pins:List (Addr×Obj)) (s:Shared) (σ:St) (H:Hp) (E:Value->Shared->Prop),Inv X pins σ H s->(∀b∈fp,iH X pins H b)->tn i s.heap->J.stop i H->
  wpAny (model P w) X.A (pyNext (.ref it)) (λr s1=>r=none/\Inv X pins σ H s1) E s
 self:∀(A:Around) (i:Nat) (s:Shared) (Q:Value->Shared->Prop) (E:Value->Shared->Prop),tn i s.heap->Q (.ref it) s->wpAny (model P w) A (pyIter (.ref it)) Q E s
abbrev TI:=St->Hp->(It->Hp->Prop)->Prop
def UD(X:Cx)(pins:List (Addr×Obj))(σ:St)(tg:Expr)(R:It->Hp->Prop)(uR:Value)(s2:Shared):Prop:=
 ∃(it:Addr) (fp:List Addr) (tn:Nat->Heap->Prop) (J:It) (H':Hp),uR=.ref it/\Inv X pins σ H' s2/\Turn X.prog X.w X.K tg J fp it tn/\tn 0 s2.heap/\(∀b∈fp,iH X pins H' b)/\R J H'
def PI(X:Cx)(tg iter:Expr)(wi:TI):Prop:=
 ∀(pins:List (Addr×Obj)) (s:Shared) (σ:St) (H:Hp) (R:It->Hp->Prop),Inv X pins σ H s->wi σ H R->
  wpAny (model X.prog X.w) X.A (eval iter X.env) (λv s1=>wpAny (model X.prog X.w) X.A (pyIter v) (UD X pins σ tg R) X.xe s1) X.xe s
theorem rM{M:Model}{A:Around}{E:Value->Shared->Prop}{s:Shared}{tg:Expr}{it:Addr}{u:Value}{o:Obj}{n:String}{vs:Array Value}{Q:Unit->Shared->Prop}(ho:s.heap.get? it=some o)(hc:o.cls=.type n)(hd:o.data=.fields vs)
    (hn:["enumerate","zip","dict_itemiterator","dict_reverseitemiterator","odict_iterator","itertools.zip_longest","itertools.pairwise"].contains n=false)(hQ:Q () s):wpAny M A (letOwnedTupleGo tg (.ref it) u) Q E s:=by
  unfold letOwnedTupleGo;cases tg <;> first
    | exact wpAny_pure hQ
    | (cases u <;> first
        | exact wpAny_pure hQ
        | (refine wpAny_bind (wpAny_load ho ?_)
           rw [hc,hd];show wpAny M A (if (["enumerate","zip","dict_itemiterator","dict_reverseitemiterator","odict_iterator","itertools.zip_longest","itertools.pairwise"].contains n&&vs[0]? == some (rawInt _))=true then _ else _) Q E s;rw [if_neg (by intro h; rw [hn,Bool.false_and] at h; cases h)];exact wpAny_pure hQ))
def jz(K:PySem.W.Frag)(a:Addr):It:=
 ⟨λi H=>∃xs x,aj K H a xs/\xs[i]?=some x,λi H x H'=>H'=H/\∀xs,aj K H a xs->xs[i]?=some x,λi H=>∃xs,aj K H a xs/\xs.length<=i⟩
def uS(K:PySem.W.Frag)(a:Addr):It:=
 ⟨λi H=>∃xs x,aA K H a xs/\xs[i]?=some x,λi H x H'=>H'=H/\∀xs,aA K H a xs->xs[i]?=some x,λi H=>∃xs,aA K H a xs/\xs.length<=i⟩
def oY(lo:Int)(n:Nat):It:=⟨λi _=>i<n,λi H x H'=>H'=H/\x=.int (lo+i),λi _=>n<=i⟩
theorem Nm{P:Program}{w:World}{K:PySem.W.Frag}{tg:Expr}(a it:Addr):Turn P w K tg (jz K a) [it] it (λi h=>h.IsListIter it a i) where
 mem:=by simp
 obj:=λi h st b hb=>by
  have e:b=it:=by simpa using hb
  obtain⟨o,e,c,d⟩:=st
  grind
 keep:=λi h h' st k=>st.at λo e=>k it (by simp) o e
 item:=by
  intro X hP hw hK hc i pins s σ H E I hf st hg;subst hP hw hK;obtain⟨xs,x,hq,hx⟩:=hg;obtain⟨ai,rv,p,hz⟩:=I.list hq;obtain⟨u,hu,ru⟩:=rv.get hx;obtain⟨f0,f1,f2,f3,f4,f5⟩:=hf it (by simp);refine wpAny_pyNext_list_item st p.isList (by simpa using hu) λh' aI sb=>?_;obtain⟨o,e,c,d⟩:=id aI;exact⟨u,rfl,rM e c d (by decide) ⟨x,H,(I.turned (λb o hb e=>(sb.2 b hb).trans e) f0 f1 f3 f4 f5),ru,⟨rfl,λys hy=>by rw[I.ZbV hy hq];exact hx⟩,aI,λb hb=>(hf b hb).1⟩⟩
 done:=by
  intro X hP hw hK hc i pins s σ H E I hf st hg;subst hP hw hK;obtain⟨xs,hq,hx⟩:=hg;obtain⟨ai,rv,p,hz⟩:=I.list hq;obtain⟨f0,f1,f2,f3,f4,f5⟩:=hf it (by simp);have hl:=rv.length;exact wpAny_pyNext_list_end (I.ok.hd hc) st p.isList (by simp;omega) λh' eb=>⟨rfl,I.turned (λb o hb e=>eb b o hb e) f0 f1 f3 f4 f5⟩
 self:=λ_ _ _ _ _ st h=>wpAny_pyIter_listiter st h
theorem MM{P:Program}{w:World}{K:PySem.W.Frag}{tg:Expr}(a it:Addr):Turn P w K tg (uS K a) [it] it (λi h=>h.IsTupleIter it a i) where
 mem:=by simp
 obj:=λi h st b hb=>by
  have e:b=it:=by simpa using hb
  obtain⟨o,e,c,d⟩:=st
  grind
 keep:=λi h h' st k=>st.at λo e=>k it (by simp) o e
 item:=by
  intro X hP hw hK hc i pins s σ H E I hf st hg;subst hP hw hK;obtain⟨xs,x,hq,hx⟩:=hg;obtain⟨ai,rv,p,hz⟩:=I.tuple hq;obtain⟨u,hu,ru⟩:=rv.get hx;obtain⟨f0,f1,f2,f3,f4,f5⟩:=hf it (by simp);refine wpAny_pyNext_tuple_item st (show s.heap.IsTuple a ai.toArray from p) (by simpa using hu) λh' aI sb=>?_;obtain⟨o,e,c,d⟩:=id aI;exact⟨u,rfl,rM e c d (by decide) ⟨x,H,(I.turned (λb o hb e=>(sb.2 b hb).trans e) f0 f1 f3 f4 f5),ru,⟨rfl,λys hy=>by rw[I.Za8 hy hq];exact hx⟩,aI,λb hb=>(hf b hb).1⟩⟩
 done:=by
  intro X hP hw hK hc i pins s σ H E I hf st hg;subst hP hw hK;obtain⟨xs,hq,hx⟩:=hg;obtain⟨ai,rv,p,hz⟩:=I.tuple hq;obtain⟨f0,f1,f2,f3,f4,f5⟩:=hf it (by simp);have hl:=rv.length;exact wpAny_pyNext_tuple_end (I.ok.hd hc) st (show s.heap.IsTuple a ai.toArray from p) (by simp;omega) λh' eb=>⟨rfl,I.turned (λb o hb e=>eb b o hb e) f0 f1 f3 f4 f5⟩
 self:=λ_ _ _ _ _ st h=>wpAny_pyIter_tupleiter st h
theorem Zaf{P:Program}{w:World}{K:PySem.W.Frag}{tg:Expr}(it:Addr)(lo:Int)(n:Nat):Turn P w K tg (oY lo n) [it] it (λi h=>IsRangeIter h it (lo+(i:Nat)*1) ((n:Int)-(i:Nat)) 1) where
 mem:=by simp
 obj:=λi h st b hb=>by
  grind
 keep:=λi h h' st k=>k it (by simp) _ st
 item:=by
  intro X hP hw hK hc i pins s σ H E I hf st hg;subst hP hw hK;obtain⟨f0,f1,f2,f3,f4,f5⟩:=hf it (by simp);refine(Walks.range (I.ok.hd hc) it lo 1 n).item i s _ _ hg st λv h' tk hv aI kk=>?_;obtain⟨t,rfl⟩:=hv;refine⟨_,rfl,rM aI rfl rfl (by decide) ⟨.int (lo+i),H,(I.turned (λb o hb e=>kk b o (by simpa using hb) e) f0 f1 f3 f4 f5),⟨t,?_⟩,⟨rfl,rfl⟩,aI,λb hb=>(hf b hb).1⟩⟩;rw[Int.mul_one]
 done:=by
  intro X hP hw hK hc i pins s σ H E I hf st hg;subst hP hw hK;obtain⟨f0,f1,f2,f3,f4,f5⟩:=hf it (by simp);exact wpAny_pyNext_range_end (I.ok.hd hc) st (by have:n<=i:=hg;omega) λh' eb=>⟨rfl,I.turned (λb o hb e=>eb b o hb e) f0 f1 f3 f4 f5⟩
 self:=λ_ _ _ _ _ st h=>wpAny_pyIter_rangeiter st h
section
variable {X:Cx}{tg:Expr}
inductive PK(K:PySem.W.Frag)(R:It->Hp->Prop)(x:V)(H1:Hp):Prop
 |mk (a) (aB:x=.ref a) (aT:(∃xs,aj K H1 a xs)) (bq:R (jz K a) H1):PK K R x H1
def SD(K:PySem.W.Frag)(tl:TE):TI:=λσ H R=>tl σ H λx H1=>PK K R x H1
inductive Rf(K:PySem.W.Frag)(R:It->Hp->Prop)(x:V)(H1:Hp):Prop
 |mk (a) (aB:x=.ref a) (aT:(∃xs,aA K H1 a xs)) (bq:R (uS K a) H1):Rf K R x H1
def ZgC(K:PySem.W.Frag)(tl:TE):TI:=λσ H R=>tl σ H λx H1=>Rf K R x H1
theorem PL{l:Expr}{tl:TE}(hl:PE X l tl):PI X tg l (SD X.K tl):=by
 intro pins s σ H R I h;refine az (hl pins s σ H _ I h) λv s1 zq=>?_;obtain⟨x,H1,I1,r1,q1⟩:=zq;obtain⟨a,e,⟨xs,hq⟩,q⟩:=q1;subst e;cases r1;obtain⟨ai,rv,p,hz⟩:=I1.list hq;refine wpAny_pyIter_list p.isList ⟨s1.heap.objs.size,[s1.heap.objs.size],_,_,H1,rfl,I1.kept λb o e=>Yc _ e,Nm a _,⟨_,Ys _ rfl,rfl,rfl⟩,λb hb=>?_,q⟩;have e:b=s1.heap.objs.size:=by simpa using hb
 subst e;exact I1.qr (Yd _) (I1.av.fresh (Yd _))
theorem GW{l:Expr}{tl:TE}(hl:PE X l tl):PI X tg l (ZgC X.K tl):=by
 intro pins s σ H R I h;refine az (hl pins s σ H _ I h) λv s1 zq=>?_;obtain⟨x,H1,I1,r1,q1⟩:=zq;obtain⟨a,e,⟨xs,hq⟩,q⟩:=q1;subst e;cases r1;obtain⟨ai,rv,p,hz⟩:=I1.tuple hq;refine wpAny_pyIter_tuple (show s1.heap.IsTuple a ai.toArray from p) ⟨s1.heap.objs.size,[s1.heap.objs.size],_,_,H1,rfl,I1.kept λb o e=>Yc _ e,MM a _,⟨_,Ys _ rfl,rfl,rfl⟩,λb hb=>?_,q⟩;have e:b=s1.heap.objs.size:=by simpa using hb
 subst e;exact I1.qr (Yd _) (I1.av.fresh (Yd _))
theorem ZbW{pins:List (Addr×Obj)}{σ:St}{H:Hp}{s:Shared}{R:It->Hp->Prop}{E:Value->Shared->Prop}{lo hi:Int}{t u v:Tok}{tk:Nat}(I:Inv X pins σ H s)(h1:-(2^62)<=lo)(h2:lo<2^62)(h3:-(2^62)<=hi)(h4:hi<2^62)
  (q:R (oY lo (hi-lo).toNat) H):wpAny (model X.prog X.w) X.A (pyIter (.ref s.heap.objs.size)) (UD X pins σ tg R) E {s with heap:=s.heap.push {cls:=.type "range",data:=.fields #[.int lo t,.int hi u,.int 1 v]},toks:=tk}:=by
 refine wpAny_pyIter_range (IsRange.new ..) (small_one h1 h2 h3 h4) ?_;have I1:Inv X pins σ H {s with heap:=s.heap.push {cls:=.type "range",data:=.fields #[.int lo t,.int hi u,.int 1 v]},toks:=tk}:=I.kept λb o e=>Yc _ e;refine⟨(s.heap.push {cls:=.type "range",data:=.fields #[.int lo t,.int hi u,.int 1 v]}).objs.size,[(s.heap.push {cls:=.type "range",data:=.fields #[.int lo t,.int hi u,.int 1 v]}).objs.size],_,_,H,rfl,
  I1.kept (t':=tk) λb o e=>Yc _ e,Zaf _ lo (hi-lo).toNat,?_,λb hb=>?_,q⟩
 ·have e1:lo+((0:Nat):Int)*1=lo:=by simp
  have e2:(((hi-lo).toNat:Nat):Int)-((0:Nat):Int)=Builtin.Range.rangeSize lo hi 1:=by rw[rangeSize_one];split<;>omega
  show IsRangeIter _ _ (lo+((0:Nat):Int)*1) ((((hi-lo).toNat:Nat):Int)-((0:Nat):Int)) 1;rw[e1,e2];exact Ys _ rfl
 ·have e:b=(s.heap.push {cls:=.type "range",data:=.fields #[.int lo t,.int hi u,.int 1 v]}).objs.size:=by simpa using hb
  subst e;exact I1.qr (Yd _) (I1.av.fresh (Yd _))
inductive PM(R:It->Hp->Prop)(vs:List V)(H1:Hp):Prop
 |mk (j:Int) (aB:vs=[.int j]) (aT:-(2^62)<=j) (bq:j<2^62) (bR:R (oY 0 j.toNat) H1):PM R vs H1
def ZfO(ta:TA):TI:=λσ H R=>ta σ H λvs H1=>PM R vs H1
theorem pW{a:Expr}{ta:TA}{p pos:Pos}(hg:Gl X "range")(hm:X.mg "range"=none)(ha:PA X [a] ta)(hs:starEach [a] X.env=[(false,eval a X.env)]:=by rfl):PI X tg (.Call (.Name "range" p) [a] [] pos) (ZfO ta):=by
 intro pins s σ H R I h;refine Call_ (zA I hg hm boot_range (PyProof.Rows.callWith_type1 (az (ha pos pins s σ H _ I h) λus s1 zq=>?_) hs rfl));obtain⟨vs,H1,I1,r1,q1⟩:=zq;obtain⟨j,e,q1,q2,q⟩:=q1;subst e;cases r1 with
 |cons r rr=>
  cases rr;obtain⟨t,rfl⟩:=r;exact call_range_1 (ZbW I1 (by omega) (by omega) q1 q2 (by simpa using q))
def Iz(wi:TI)(g:TG)(tb:TS):TS:=λD σ H=>wi σ H λJ H1=>∃W:Nat->Nat->St->Hp->Prop,(∃m,W 0 m σ H1)/\∀i m σ H,W i m σ H->
 (J.stop i H/\D.nx σ H)\/(J.go i H/\∃N:St->Hp->Prop,(∀aN H',N aN H'->∃m',m'<m/\W (i+1) m' aN H')/\∀x H',J.qC i H x H'->g x σ H' λdA H2=>tb {D with nx:=N,ct:=N,bk:=D.nx} dA H2)
def qg(fp:List Addr)(h:Heap):List (Addr×Obj):=fp.filterMap λb=>(h.get? b).map λo=>(b,o)
theorem pT{fp:List Addr}{h:Heap}{b:Addr}{o:Obj}(hb:b∈fp)(e:h.get? b=some o):(b,o)∈qg fp h:=Jg.mpr ⟨b,hb,by rw[e];rfl⟩
theorem Za9{fp:List Addr}{h:Heap}{p:Addr×Obj}(hp:p∈qg fp h):p.1∈fp/\h.get? p.1=some p.2:=by
 obtain⟨b,hb,e⟩:=Jg.mp hp;cases q:h.get? b with
 |none=>grind
 |some o=>grind
theorem Inv.pinned{pins:List (Addr×Obj)}{σ:St}{H:Hp}{s:Shared}{fp:List Addr}(I:Inv X pins σ H s)(hf:∀b∈fp,iH X pins H b)(ho:∀b∈fp,∃o,s.heap.get? b=some o/\∀v,o.data≠.cell v):Inv X (pins++qg fp s.heap) σ H s:=
 I.PH λp hp=>(Yr.mp hp).elim (λz=>I.pin p (Yq _ z)) λz=>by
  obtain⟨hb,e⟩:=Za9 z;obtain⟨f0,f1,f2,_⟩:=hf p.1 hb
  grind
theorem Inv.ue{pins pl:List (Addr×Obj)}{σ:St}{H:Hp}{s:Shared}(I:Inv X (pins++pl) σ H s):Inv X pins σ H s:=I.PH λp hp=>I.pin p (Yq _ (Yo _ hp))
theorem eY{iter:Expr}{body:List Stmt}{wi:TI}{g:TG}{tb:TS}{pos:Pos}(hp:PassesOwn (model X.prog X.w) X.A X.env X.xe)(hc:X.calm=true)(hi:PI X tg iter wi)(hg:PG X tg g)(hb:ia X body tb)
  (hs:∀x,foldedSetIterable iter X.env x=pure x:=by intro _;rfl):PS X (.For tg iter body [] pos) (Iz wi g tb):=by
 intro pins s σ H D I h;refine wpAny_For (az (hi pins s σ H _ I h) λv s1 h1=>az h1 λuR s2 h2=>?_) hs;obtain⟨it,fp,tn,J,H2,e,I2,T,fk,f2,W,⟨m0,w0⟩,turn⟩:=h2;subst e;have l5:∀{H':Hp},(∀b∈fp,H' b=none)->∀b∈fp,iH X pins H' b:=λhn b hb=>⟨hn b hb,(f2 b hb).2⟩;refine codeAny_forLoop_any (λn s'=>∃i aN H',Inv X pins aN H' s'/\tn i s'.heap/\(∀b∈fp,H' b=none)/\W i n aN H') ?_ m0 ⟨0,σ,H2,I2,fk,λb hb=>(f2 b hb).1,w0⟩;rintro n s3 ⟨i,cP,H3,I3,UE,UG,w3⟩;rcases turn i n cP H3 w3 with⟨stop,qn⟩|⟨go,N,hN,step⟩
 ·refine wpAny_passesOwn hp (az (T.done X rfl rfl rfl hc i pins s3 cP H3 X.xe I3 (l5 UG) UE stop) λr s4 zq=>?_);obtain⟨hr,I4⟩:=zq;subst hr;exact wpAny_execs_nil ⟨cP,H3,I4,qn⟩
 ·refine wpAny_passesOwn hp (az (T.item X rfl rfl rfl hc i pins s3 cP H3 X.xe I3 (l5 UG) UE go) λr s4 zq=>?_);obtain⟨u,hr,h4⟩:=zq;subst hr;refine wpAny_passesOwn hp (az h4 λ_ s5 ⟨x,H5,I5,r5,y5,oZ,sy⟩=>wpAny_passesOwn hp (az (hg _ s5 cP H5 x u _ (I5.pinned (l5 sy) (T.obj _ _ oZ)) r5 (step x H5 y5)) λ_ s6 ⟨σ6,H6,I6,q6⟩=>wpAny_passesOwn hp (az (hb _ s6 σ6 H6 _ I6 q6) λf s7 q7=>?_)));have again:∀{mn:St} {H7:Hp},Inv X (pins++qg fp s5.heap) mn H7 s7->N mn H7->∃m,m<n/\∃i aN H',Inv X pins aN H' s7/\tn i s7.heap/\(∀b∈fp,H' b=none)/\W i m aN H':=λ{mn H7} I7 n7=>by
   obtain⟨m',hm,w7⟩:=hN mn H7 n7;refine⟨m',hm,i+1,mn,H7,I7.ue,T.keep _ _ _ oZ λb hb o e=>(I7.pin (b,o) (Yq _ (Yq _ (pT hb e)))).1,λb hb=>?_,w7⟩;obtain⟨o,e,d⟩:=T.obj _ _ oZ b hb;exact(I7.pin (b,o) (Yq _ (Yq _ (pT hb e)))).2.1
  cases f with
  |next=>obtain⟨mn,H7,I7,n7⟩:=q7;exact again I7 n7
  |cont=>obtain⟨mn,H7,I7,n7⟩:=q7;exact again I7 n7
  |brk=>obtain⟨mn,H7,I7,q7⟩:=q7;exact⟨mn,H7,I7.ue,q7⟩
  |ret v=>obtain⟨x7,mn,H7,I7,r7,q7⟩:=q7;exact⟨x7,mn,H7,I7.ue,r7,q7⟩
end
theorem hJ{K:PySem.W.Frag}{a:Addr}{xs:List V}{g:TG}{tb:TS}{D:Ends}{σ:St}{H:Hp}(Pv:Nat->St->Hp->Prop)(h0:Pv 0 σ H)(hl:∀i σ H,i<=xs.length->Pv i σ H->aj K H a xs)
  (hs:∀i x σ H,xs[i]?=some x->Pv i σ H->g x σ H λdA H2=>tb {D with nx:=Pv (i+1),ct:=Pv (i+1),bk:=D.nx} dA H2)(hd:∀σ H,Pv xs.length σ H->D.nx σ H):
  ∃W:Nat->Nat->St->Hp->Prop,(∃m,W 0 m σ H)/\∀i m σ H,W i m σ H->
   ((jz K a).stop i H/\D.nx σ H)\/((jz K a).go i H/\∃N:St->Hp->Prop,(∀aN H',N aN H'->∃m',m'<m/\W (i+1) m' aN H')/\∀x H',(jz K a).qC i H x H'->g x σ H' λdA H2=>tb {D with nx:=N,ct:=N,bk:=D.nx} dA H2):=by
 refine⟨λi m σ H=>m=xs.length-i/\i<=xs.length/\Pv i σ H,⟨xs.length,by simp,Yw _,h0⟩,?_⟩;rintro i m σ H ⟨rfl,hi,p⟩;have q:=hl i σ H hi p;by_cases bX:i<xs.length
 ·refine .inr ⟨⟨xs,xs[i],q,by simp[bX]⟩,Pv (i+1),λaN H' p'=>⟨xs.length-(i+1),by omega,rfl,bX,p'⟩,λx H' y=>?_⟩;obtain⟨e,y⟩:=y;subst e;exact hs i x σ _ (y xs q) p
 ·have e:i=xs.length:=by omega
  subst e;exact .inl ⟨⟨xs,q,Yd _⟩,hd σ H p⟩
theorem E9{lo:Int}{n:Nat}{g:TG}{tb:TS}{D:Ends}{σ:St}{H:Hp}(Pv:Nat->St->Hp->Prop)(h0:Pv 0 σ H)
  (hs:∀i σ H,i<n->Pv i σ H->g (.int (lo+i)) σ H λdA H2=>tb {D with nx:=Pv (i+1),ct:=Pv (i+1),bk:=D.nx} dA H2)(hd:∀σ H,Pv n σ H->D.nx σ H):
  ∃W:Nat->Nat->St->Hp->Prop,(∃m,W 0 m σ H)/\∀i m σ H,W i m σ H->
   ((oY lo n).stop i H/\D.nx σ H)\/((oY lo n).go i H/\∃N:St->Hp->Prop,(∀aN H',N aN H'->∃m',m'<m/\W (i+1) m' aN H')/\∀x H',(oY lo n).qC i H x H'->g x σ H' λdA H2=>tb {D with nx:=N,ct:=N,bk:=D.nx} dA H2):=by
 refine⟨λi m σ H=>m=n-i/\i<=n/\Pv i σ H,⟨n,by simp,Yw _,h0⟩,?_⟩;rintro i m σ H ⟨rfl,hi,p⟩;by_cases bX:i<n
 ·refine .inr ⟨bX,Pv (i+1),λaN H' p'=>⟨n-(i+1),by omega,rfl,bX,p'⟩,λx H' y=>?_⟩;obtain⟨e,y⟩:=y
  grind
 ·have e:i=n:=by omega
  subst e;exact .inl ⟨Yd _,hd σ H p⟩
theorem yX{c:TT}{tb:TS}{D:Ends}{σ:St}{H:Hp}(Pv:St->Hp->Prop)(μ:St->Hp->Nat)(h0:Pv σ H)
  (hs:∀σ H,Pv σ H->c σ H λb H1=>if b=true then tb {D with nx:=λaN H'=>Pv aN H'/\μ aN H'<μ σ H,ct:=λaN H'=>Pv aN H'/\μ aN H'<μ σ H,bk:=D.nx} σ H1 else D.nx σ H1)
  (mono:∀σ H Q Q',(∀b H1,Q b H1->Q' b H1)->c σ H Q->c σ H Q'):Rc c tb D σ H:=by
 refine⟨λm σ H=>m=μ σ H/\Pv σ H,⟨_,rfl,h0⟩,?_⟩;rintro m σ H ⟨rfl,p⟩;refine mono σ H _ _ (λb H1 q=>?_) (hs σ H p);cases b with
 |true=>exact⟨_,λaN H' ⟨p',l⟩=>⟨_,l,rfl,p'⟩,q⟩
 |false=>exact q
abbrev R2:=V->V->Hp->VK->Prop
def cL(X:Cx)(f:Value->Value->Sem Value)(r:R2):Prop:=
 ∀(pins:List (Addr×Obj)) (s:Shared) (σ:St) (H:Hp) (x y:V) (v u:Value) (Q:VK),Inv X pins σ H s->RelV x v->RelV y u->r x y H Q->
  wpAny (model X.prog X.w) X.A (f v u) (EP X pins σ Q) X.xe s
def JE(X:Cx)(f:Value->Sem Value)(r:V->Hp->VK->Prop):Prop:=
 ∀(pins:List (Addr×Obj)) (s:Shared) (σ:St) (H:Hp) (x:V) (v:Value) (Q:VK),Inv X pins σ H s->RelV x v->r x H Q->
  wpAny (model X.prog X.w) X.A (f v) (EP X pins σ Q) X.xe s
def c6(X:Cx)(f:Value)(r:List V->Hp->VK->Prop):Prop:=
 ∀(pins:List (Addr×Obj)) (s:Shared) (σ:St) (H:Hp) (xs:List V) (us:List Value) (Q:VK),Inv X pins σ H s->Vals xs us->r xs H Q->
  wpAny (model X.prog X.w) X.A (call f us) (EP X pins σ Q) X.xe s
def ZgD(X:Cx)(r:V->Hp->(Bool->Hp->Prop)->Prop):Prop:=
 ∀(pins:List (Addr×Obj)) (s:Shared) (σ:St) (H:Hp) (x:V) (v:Value) (Q:Bool->Hp->Prop),Inv X pins σ H s->RelV x v->r x H Q->
  wpAny (model X.prog X.w) X.A (truthy v) (TP X pins σ Q) X.xe s
def k_(r:R2)(ta tb:TE):TE:=λσ H Q=>ta σ H λx H1=>tb σ H1 λy H2=>r x y H2 Q
def tUn(r:V->Hp->VK->Prop)(ta:TE):TE:=λσ H Q=>ta σ H λx H1=>r x H1 Q
inductive Ts(C:Int->Int->Prop)(g:Int->Int->V)(x:V)(y:V)(H:Hp)(Q:VK):Prop
 |mk (i j) (aB:x=.int i) (aT:y=.int j) (bq:C i j) (bR:Q (g i j) H):Ts C g x y H Q
def rI(C:Int->Int->Prop)(g:Int->Int->V):R2:=λx y H Q=>Ts C g x y H Q
inductive SE(g:Int->Int->V)(x:V)(y:V)(H:Hp)(Q:VK):Prop
 |mk (i j) (aB:x=.int i) (aT:y=.int j) (bq:Q (g i j) H):SE g x y H Q
def qD(g:Int->Int->V):R2:=λx y H Q=>SE g x y H Q
inductive Tt(g:Int->V)(x:V)(H:Hp)(Q:VK):Prop
 |mk (i) (aB:x=.int i) (aT:Q (g i) H):Tt g x H Q
def rU(g:Int->V):V->Hp->VK->Prop:=λx H Q=>Tt g x H Q
section
variable {X:Cx}{a b c:Expr}{ta tb tc:TE}{pos:Pos}
theorem IA(ha:PE X a ta)(hb:PE X b tb){pins:List (Addr×Obj)}{s:Shared}{σ:St}{H:Hp}{R:V->V->Hp->Prop}(I:Inv X pins σ H s)
  (h:ta σ H λx H1=>tb σ H1 λy H2=>R x y H2){Q:Value->Shared->Prop}{f:Value->Value->Sem Value}
  (hf:∀v u s2 x y H2,Inv X pins σ H2 s2->RelV x v->RelV y u->R x y H2->wpAny (model X.prog X.w) X.A (f v u) Q X.xe s2):
  wpAny (model X.prog X.w) X.A (eval a X.env) (λv bI=>wpAny (model X.prog X.w) X.A (eval b X.env) (λu eB=>wpAny (model X.prog X.w) X.A (f v u) Q X.xe eB) X.xe bI) X.xe s:=by
 refine az (ha pins s σ H _ I h) λv s1 zq=>?_;obtain⟨x,H1,I1,r1,q1⟩:=zq;refine az (hb pins s1 σ H1 _ I1 q1) λu s2 zq=>?_;obtain⟨y,H2,I2,r2,q2⟩:=zq
 grind
theorem bj{op:Operator}{r:R2}(ho:cL X (binaryOp op) r)(ha:PE X a ta)(hb:PE X b tb):PE X (.BinOp a op b pos) (k_ r ta tb):=by
 intro pins s σ H Q I h;exact wpAny_BinOp (IA ha hb I h λv u s2 x y H2 I2 rx ry q=>ho pins s2 σ H2 x y v u Q I2 rx ry q)
theorem ZfP{op:UnaryOp}{r:V->Hp->VK->Prop}(ho:JE X (unaryOp op) r)(ha:PE X a ta):PE X (.UnaryOp op a pos) (tUn r ta):=by
 intro pins s σ H Q I h;exact UnaryOp_ (az (ha pins s σ H _ I h) λv s1 ⟨x,H1,I1,r1,q1⟩=>ho pins s1 σ H1 x v Q I1 r1 q1)
theorem Ap{f:Value->Value->Sem Value}{C:Int->Int->Prop}{g:Int->Int->Int}
  (rule:∀(i j:Int) (t u:Tok) (s:Shared) (Q:Value->Shared->Prop) (E:Value->Shared->Prop),C i j->Q (.int (g i j) s.toks) {s with toks:=s.toks+1}->wpAny (model X.prog X.w) X.A (f (.int i t) (.int j u)) Q E s):
  cL X f (rI C λi j=>.int (g i j)):=by
 rintro pins s σ H x y v u Q I rx ry ⟨i,j,rfl,rfl,hc,q⟩;obtain⟨t,rfl⟩:=rx;obtain⟨t',rfl⟩:=ry;exact rule i j t t' s _ _ hc ⟨.int (g i j),H,I.tok _,⟨_,rfl⟩,q⟩
theorem Tu{f:Value->Value->Sem Value}{g:Int->Int->Int}
  (rule:∀(i j:Int) (t u:Tok) (s:Shared) (Q:Value->Shared->Prop) (E:Value->Shared->Prop),Q (.int (g i j) s.toks) {s with toks:=s.toks+1}->wpAny (model X.prog X.w) X.A (f (.int i t) (.int j u)) Q E s):
  cL X f (qD λi j=>.int (g i j)):=by
 rintro pins s σ H x y v u Q I rx ry ⟨i,j,rfl,rfl,q⟩;obtain⟨t,rfl⟩:=rx;obtain⟨t',rfl⟩:=ry;exact rule i j t t' s _ _ ⟨.int (g i j),H,I.tok _,⟨_,rfl⟩,q⟩
theorem IB{f:Value->Value->Sem Value}{g:Int->Int->Bool}
  (rule:∀(i j:Int) (t u:Tok) (s:Shared) (Q:Value->Shared->Prop) (E:Value->Shared->Prop),Q (.bool (g i j)) s->wpAny (model X.prog X.w) X.A (f (.int i t) (.int j u)) Q E s):
  cL X f (qD λi j=>.bl (g i j)):=by
 rintro pins s σ H x y v u Q I rx ry ⟨i,j,rfl,rfl,q⟩;obtain⟨t,rfl⟩:=rx;obtain⟨t',rfl⟩:=ry;exact rule i j t t' s _ _ ⟨.bl (g i j),H,I,rfl,q⟩
def IC(i j:Int):Prop:=0<j/\j<1073741824
def ZgE(i j:Int):Prop:=0<=j/\j<=1000000/\i.natAbs<2^64
def wZ(i j:Int):Prop:=(-(2^64)<i/\i<2^64)\/(-(2^64)<j/\j<2^64)
theorem wZ.ok{i j:Int}(h:wZ i j):IntMulOk i j:=by
 rcases h with⟨h1,h2⟩|⟨h1,h2⟩;·exact .of_left (intBits_le_64 h1 h2)
 ·exact .of_right (intBits_le_64 h1 h2)
theorem iY:cL X (binaryOp .Add) (qD λi j=>.int (i+j)):=Tu λ_ _ _ _ _ _ _ q=>add_int q
theorem zB:cL X (binaryOp .Sub) (qD λi j=>.int (i-j)):=Tu λ_ _ _ _ _ _ _ q=>sub_int q
theorem oE:cL X (binaryOp .Mult) (rI wZ λi j=>.int (i*j)):=Ap λ_ _ _ _ _ _ _ hc q=>mul_int q hc.ok
theorem zd:cL X (binaryOp .FloorDiv) (rI IC λi j=>.int (i/j)):=Ap λi j _ _ _ _ _ hc q=>by
 have h1:(0:Int)<j:=hc.1;have h2:j<1073741824:=hc.2;exact floordiv_int (by omega) (by rw[Int.fdiv_eq_ediv_of_nonneg i (by omega)];exact q) (.inl (PyProof.noPylong_small (by omega)))
theorem eO:cL X (binaryOp .Mod) (rI (λ_ j=>0<j) λi j=>.int (i % j)):=Ap λi j _ _ _ _ _ hc q=>by
 have h1:(0:Int)<j:=hc;exact mod_int' (by omega) (by rw[Int.fmod_eq_emod_of_nonneg i (by omega)];exact q)
theorem Rg:cL X (binaryOp .Pow) (rI ZgE λi j=>.int (i^j.toNat)):=Ap λ_ _ _ _ _ _ _ hc q=>pow_int_small hc.1 hc.2.1 hc.2.2 q
theorem unI{f:Value->Sem Value}{g:Int->Int}
  (rule:∀(i:Int) (t:Tok) (s:Shared) (Q:Value->Shared->Prop) (E:Value->Shared->Prop),Q (.int (g i) s.toks) {s with toks:=s.toks+1}->wpAny (model X.prog X.w) X.A (f (.int i t)) Q E s):
  JE X f (rU λi=>.int (g i)):=by
 rintro pins s σ H x v Q I rx ⟨i,rfl,q⟩;obtain⟨t,rfl⟩:=rx;exact rule i t s _ _ ⟨.int (g i),H,I.tok _,⟨_,rfl⟩,q⟩
theorem Zeu:JE X (unaryOp .USub) (rU λi=>.int (-i)):=unI λ_ _ _ _ _ q=>neg_int q
end
def w8:V->V->Bool
 |.ay,.ay=>true|.ay,.int _=>true|.int _,.ay=>true|.ay,.bl _=>true|.bl _,.ay=>true|.ay,.str _=>true|.str _,.ay=>true
 |.int _,.int _=>true|.bl _,.bl _=>true|.str _,.str _=>true|.jx _,.jx _=>true
 |.int _,.str _=>true|.str _,.int _=>true|.bl _,.str _=>true|.str _,.bl _=>true
 |_,_=>false
def UH:R2:=λx y H Q=>w8 x y=true/\Q (.bl (decide (x=y))) H
def UI:R2:=λx y H Q=>w8 x y=true/\Q (.bl (!decide (x=y))) H
theorem PN{i j:Int}:decide (V.int i=V.int j)=(i==j):=by
 grind
theorem Rh{i j:Bool}:decide (V.bl i=V.bl j)=(i==j):=by
 grind
theorem PQ{i j:Str}:decide (V.str i=V.str j)=(i==j):=by
 grind
theorem PR{i j:Array UInt8}:decide (V.jx i=V.jx j)=(i.toList==j.toList):=by
 rw[Wf];simp_all
section
variable {X:Cx}{a b c:Expr}{ta tb tc:TE}{pos:Pos}
theorem cJ{pins:List (Addr×Obj)}{σ:St}{H:Hp}{s:Shared}{Q:VK}{k k':Bool}(I:Inv X pins σ H s)(q:Q (.bl k) H)(e:k=k'):EP X pins σ Q (.bool k') s:=by
 subst e;exact⟨.bl k,H,I,rfl,q⟩
theorem cg:cL X (compareOp .Eq) UH:=by
 intro pins s σ H x y v u Q I rx ry h;obtain⟨hs,q⟩:=h;cases x with
 |ay=>
  cases rx;cases y with
  |ay=>cases ry;exact PySem.EqNone.eq_none_none (cJ I q (by simp))
  |bl j=>cases ry;exact PySem.EqNone.eq_none_bool (cJ I q (by simp))
  |int j=>obtain⟨t',rfl⟩:=ry;exact PySem.EqNone.eq_none_int (cJ I q (by simp))
  |str j=>obtain⟨t',rfl⟩:=ry;exact PySem.EqNone.eq_none_str (cJ I q (by simp))
  |_=>exact absurd (show false=true from hs) Ym
 |bl i=>
  cases rx;cases y with
  |ay=>cases ry;exact PySem.EqNone.eq_bool_none (cJ I q (by simp))
  |bl j=>cases ry;exact eq_bool (cJ I q Rh)
  |str j=>obtain⟨t',rfl⟩:=ry;exact PySem.EqMixed.eq_bool_str (cJ I q (by simp))
  |_=>exact absurd (show false=true from hs) Ym
 |int i=>
  obtain⟨t,rfl⟩:=rx;cases y with
  |ay=>cases ry;exact PySem.EqNone.eq_int_none (cJ I q (by simp))
  |int j=>obtain⟨t',rfl⟩:=ry;exact eq_int (cJ I q PN)
  |str j=>obtain⟨t',rfl⟩:=ry;exact PySem.EqMixed.eq_int_str (cJ I q (by simp))
  |_=>exact absurd (show false=true from hs) Ym
 |str i=>
  obtain⟨t,rfl⟩:=rx;cases y with
  |ay=>cases ry;exact PySem.EqNone.eq_str_none (cJ I q (by simp))
  |bl j=>cases ry;exact PySem.EqMixed.eq_str_bool (cJ I q (by simp))
  |int j=>obtain⟨t',rfl⟩:=ry;exact PySem.EqMixed.eq_str_int (cJ I q (by simp))
  |str j=>obtain⟨t',rfl⟩:=ry;exact eq_str (cJ I q PQ)
  |_=>exact absurd (show false=true from hs) Ym
 |jx i=>
  obtain⟨t,rfl⟩:=rx;cases y with
  |jx j=>obtain⟨t',rfl⟩:=ry;exact PySem.W.eq_bytes (cJ I q PR)
  |_=>exact absurd (show false=true from hs) Ym
 |_=>cases y<;>exact absurd (show false=true from hs) Ym
theorem kR:cL X (compareOp .NotEq) UI:=by
 intro pins s σ H x y v u Q I rx ry h;obtain⟨hs,q⟩:=h;cases x with
 |ay=>
  cases rx;cases y with
  |ay=>cases ry;exact PySem.EqNone.ne_none_none (cJ I q (by simp))
  |bl j=>cases ry;exact PySem.EqNone.ne_none_bool (cJ I q (by simp))
  |int j=>obtain⟨t',rfl⟩:=ry;exact PySem.EqNone.ne_none_int (cJ I q (by simp))
  |str j=>obtain⟨t',rfl⟩:=ry;exact PySem.EqNone.ne_none_str (cJ I q (by simp))
  |_=>exact absurd (show false=true from hs) Ym
 |bl i=>
  cases rx;cases y with
  |ay=>cases ry;exact PySem.EqNone.ne_bool_none (cJ I q (by simp))
  |bl j=>cases ry;exact ne_bool (cJ I q (congrArg not Rh))
  |str j=>obtain⟨t',rfl⟩:=ry;exact PySem.EqMixed.ne_bool_str (cJ I q (by simp))
  |_=>exact absurd (show false=true from hs) Ym
 |int i=>
  obtain⟨t,rfl⟩:=rx;cases y with
  |ay=>cases ry;exact PySem.EqNone.ne_int_none (cJ I q (by simp))
  |int j=>obtain⟨t',rfl⟩:=ry;exact ne_int (cJ I q (congrArg not PN))
  |str j=>obtain⟨t',rfl⟩:=ry;exact PySem.EqMixed.ne_int_str (cJ I q (by simp))
  |_=>exact absurd (show false=true from hs) Ym
 |str i=>
  obtain⟨t,rfl⟩:=rx;cases y with
  |ay=>cases ry;exact PySem.EqNone.ne_str_none (cJ I q (by simp))
  |bl j=>cases ry;exact PySem.EqMixed.ne_str_bool (cJ I q (by simp))
  |int j=>obtain⟨t',rfl⟩:=ry;exact PySem.EqMixed.ne_str_int (cJ I q (by simp))
  |str j=>obtain⟨t',rfl⟩:=ry;exact ne_str (cJ I q (congrArg not PQ))
  |_=>exact absurd (show false=true from hs) Ym
 |jx i=>
  obtain⟨t,rfl⟩:=rx;cases y with
  |jx j=>obtain⟨t',rfl⟩:=ry;exact PySem.W.ne_bytes (cJ I q (congrArg not PR))
  |_=>exact absurd (show false=true from hs) Ym
 |_=>cases y<;>exact absurd (show false=true from hs) Ym
theorem lU:cL X (compareOp .Lt) (qD λi j=>.bl (decide (i<j))):=IB λ_ _ _ _ _ _ _ q=>lt_int q
theorem Hu:cL X (compareOp .Gt) (qD λi j=>.bl (decide (j<i))):=IB λ_ _ _ _ _ _ _ q=>gt_int q
theorem ZfQ:cL X (compareOp .GtE) (qD λi j=>.bl (decide (j<=i))):=IB λ_ _ _ _ _ _ _ q=>ge_int q
theorem Za_:cL X (compareOp .In) (λx y H Q=>∃i j,x=.str i/\y=.str j/\Q (.bl (!(Builtin.Str.occurrences j i 0 j.length 1).isEmpty)) H):=by
 intro pins s σ H x y v u Q I rx ry h;obtain⟨i,j,rfl,rfl,q⟩:=h;obtain⟨t,rfl⟩:=rx;obtain⟨t',rfl⟩:=ry;exact in_str (cJ I q rfl)
theorem GX:cL X (compareOp .Is) (λx y H Q=>y=.ay/\Q (.bl (decide (x=.ay))) H):=by
 intro pins s σ H x y v u Q I rx ry h;obtain⟨rfl,q⟩:=h;cases ry;refine is_none_gen (cJ I q ?_);cases x<;>first
  |(cases rx;rfl)
  |(obtain⟨t,rfl⟩:=rx;rfl)
theorem ze:cL X (compareOp .IsNot) (λx y H Q=>y=.ay/\Q (.bl (!decide (x=.ay))) H):=by
 rintro pins s σ H x y v u Q I rx ry ⟨rfl,q⟩;cases ry;refine isnot_none_gen (cJ I q ?_);cases x<;>first
  |(cases rx;rfl)
  |(obtain⟨t,rfl⟩:=rx;rfl)
theorem YW:cL X (compareOp .NotIn) (λx y H Q=>∃i j,x=.str i/\y=.str j/\Q (.bl (!(!(Builtin.Str.occurrences j i 0 j.length 1).isEmpty))) H):=by
 rintro pins s σ H x y v u Q I rx ry ⟨i,j,rfl,rfl,q⟩;obtain⟨t,rfl⟩:=rx;obtain⟨t',rfl⟩:=ry;exact notIn_str (cJ I q rfl)
theorem aP(b:Expr){op:CmpOp}(h:op≠.In:=by decide)(h2:op≠.NotIn:=by decide):behindInMarks op b=false:=by
 have e1:(op==CmpOp.In)=false:=by cases op<;>first|rfl|exact absurd rfl h
 have e2:(op==CmpOp.NotIn)=false:=by cases op<;>first|rfl|exact absurd rfl h2
 cases b<;>simp[behindInMarks,e1,e2]
theorem dQ{op:CmpOp}{r:R2}(ho:cL X (compareOp op) r)(ha:PE X a ta)(hb:PE X b tb)(hm:behindInMarks op b=false):PE X (.Compare a [op] [b] pos) (k_ r ta tb):=by
 intro pins s σ H Q I h;exact wpAny_Compare1 (IA ha hb I h λv u s2 x y H2 I2 rx ry q=>ho pins s2 σ H2 x y v u Q I2 rx ry q) hm
inductive PU(Q:Bool->Hp->Prop)(x:V)(H':Hp):Prop
 |mk (k) (aB:x=.bl k) (aT:Q k H'):PU Q x H'
def SF(t:TE):TT:=λσ H Q=>t σ H λx H'=>PU Q x H'
theorem aU{op:CmpOp}{r:R2}(ho:cL X (compareOp op) r)(ha:PE X a ta)(hb:PE X b tb)(hm:behindInMarks op b=false):PT X (.Compare a [op] [b] pos) (SF (k_ r ta tb)):=by
 intro pins s σ H Q I h;refine wpAny_isTrue_Compare1 (az (ha pins s σ H _ I h) λv s1 ⟨x,H1,I1,r1,q1⟩=>az (hb pins s1 σ H1 _ I1 q1) λu s2 ⟨y,H2,I2,r2,q2⟩=>
  az (ho pins s2 σ H2 x y v u _ I2 r1 r2 q2) λc s3 ⟨z,H3,I3,r3,k,e,q3⟩=>?_) hm
 subst e;cases r3;exact wpAny_truthy_bool ⟨H3,I3,q3⟩
def zU(K:PySem.W.Frag)(x:V)(H:Hp)(k:Bool):Prop:=
 match x with
 |.ay=>k=false
 |.bl b=>k=b
 |.int i=>k=(i !=0)
 |.str y=>y.length<=sizeLine/\k=((y.length:Int)!=0)
 |.jx y=>y.size<=sizeLine/\k=((y.size:Int)!=0)
 |.ref p=>(∃xs,aj K H p xs/\k=!xs.isEmpty)\/(∃xs,aA K H p xs/\k=!xs.isEmpty)\/∃kvs,H p=some (.dK kvs)/\k=!kvs.isEmpty
 |_=>False
theorem Zag{κ:Type}{kvs:List (κ×V)}{vs:List (κ×Value)}(r:KV kvs vs):(!vs.isEmpty)=!kvs.isEmpty:=by
 cases r<;>rfl
theorem MN{xs:List V}{ai:List Value}(r:Vals xs ai):(!ai.toArray.isEmpty)=!xs.isEmpty:=by
 cases r<;>simp
theorem rC:(sizeLine:Nat)<2^63:=by rw[sizeLine_eq];decide
theorem Zev:ZgD X (λx H Q=>∃k,zU X.K x H k/\Q k H):=by
 intro pins s σ H x v Q I rx h;obtain⟨k,e,q⟩:=h;have hl:=rC;have hs:sizeLine=16777216:=sizeLine_eq;cases x with
 |ay=>
  cases rx;have e':k=false:=e;subst e';exact truthy_none ⟨H,I,q⟩
 |bl b=>
  cases rx;have e':k=b:=e;subst e';exact wpAny_truthy_bool ⟨H,I,q⟩
 |int i=>
  obtain⟨t,rfl⟩:=rx;have e':k=(i !=0):=e;subst e';exact PySem.P.truthy_int ⟨H,I,q⟩
 |str y=>
  obtain⟨t,rfl⟩:=rx;obtain⟨hy,e'⟩:y.length<=sizeLine/\k=((y.length:Int)!=0):=e;subst e';exact PySem.P.truthy_str (by omega) ⟨H,I.tok _,q⟩
 |jx y=>
  obtain⟨t,rfl⟩:=rx;obtain⟨hy,e'⟩:y.size<=sizeLine/\k=((y.size:Int)!=0):=e;subst e';exact PySem.W.truthy_bytes (by omega) ⟨H,I.tok _,q⟩
 |ref p=>
  cases rx;have e':=e;rcases e' with⟨xs,hx,e'⟩|⟨xs,hx,e'⟩|⟨kvs,hx,e'⟩
  ·subst e';obtain⟨ai,r,pl,hz⟩:=I.list hx;have hlen:=r.length;exact wpAny_truthy_list pl.isList (by simp only[Yu];omega) ⟨H,I.tok _,by rw[MN r];exact q⟩
  ·subst e';obtain⟨ai,r,pl,hz⟩:=I.tuple hx;have hlen:=r.length;exact truthy_tuple pl (by simp only[Yu];omega) ⟨H,I.tok _,by rw[MN r];exact q⟩
  ·subst e';obtain⟨hz,hS,vs,r,m⟩:kvs.length<=sizeLine/\(p==sysModules)=false/\∃vs,KV kvs vs/\s.heap.DictOf (dC X.prog X.w) p vs:=I.av p _ hx;have hlen:kvs.length=vs.length:=Paired.length r;exact wpAny_truthy_dict hS m (by omega) ⟨H,I.tok _,by rw[Zag r];exact q⟩
 |_=>exact(show False from e).elim
theorem Ol(ha:PE X a ta)(he:∀whole,isTrue a X.env whole=(do let v←whole;standAt a.pos;holding [v] (truthy v))):
  PT X a (λσ H Q=>ta σ H λx H'=>∃k,zU X.K x H' k/\Q k H'):=by
 intro pins s σ H Q I h;exact isTrue_plain (az (ha pins s σ H _ I h) λv s1 ⟨x,H1,I1,r1,q1⟩=>Zev pins s1 σ H1 x v Q I1 r1 q1) (he _)
theorem tX:cL X (binaryOp .Add) (λx y H Q=>∃i j,x=.str i/\y=.str j/\i.length+j.length<=sizeLine/\Q (.str (i++j)) H):=by
 rintro pins s σ H x y v u Q I rx ry ⟨i,j,rfl,rfl,hz,q⟩;obtain⟨t,rfl⟩:=rx;obtain⟨t',rfl⟩:=ry;exact add_str (λt' tk=>⟨.str (i++j),H,I.tok _,⟨_,rfl⟩,q⟩) hz
theorem vals1{x:V}{us:List Value}(r:Vals [x] us):∃u,us=[u]/\RelV x u:=by
 cases r with
 |cons r1 r2=>cases r2;exact⟨_,rfl,r1⟩
theorem vals2{x y:V}{us:List Value}(r:Vals [x,y] us):∃u w',us=[u,w']/\RelV x u/\RelV y w':=by
 cases r with
 |cons r1 r2=>
  cases r2 with
  |cons r3 r4=>cases r4;exact⟨_,_,rfl,r1,r3⟩
theorem Om:c6 X (.builtin "abs") (λxs H Q=>∃i,xs=[.int i]/\Q (.int (if i<0 then-i else i)) H):=by
 rintro pins s σ H xs us Q I r ⟨i,rfl,q⟩;obtain⟨u,rfl,t,rfl⟩:=vals1 r;exact call_abs_int λu tk=>⟨.int (if i<0 then-i else i),H,I.tok _,⟨_,rfl⟩,q⟩
theorem Dp:c6 X (.type "str") (λxs H Q=>∃i,xs=[.int i]/\i.natAbs.log2<1920/\Q (.str (toString i)) H):=by
 rintro pins s σ H xs us Q I r ⟨i,rfl,hz,q⟩;obtain⟨u,rfl,t,rfl⟩:=vals1 r;exact PySem.P.str_of_int hz ⟨.str _,H,I.tok _,⟨_,rfl⟩,q⟩
end
structure rV(h:Heap)(x dx C:Addr)(mA:Str->Option Value):Prop where
 obj:h.get? x=some (instObj C dx)
 ns:h.Ns1 dx mA
 ne:dx≠x
theorem Zba{h:Heap}{dx:Addr}{mA:Str->Option Value}(n:h.Ns1 dx mA):∃od,h.get? dx=some od/\∀name,lookIn name od=some (mA name):=by
 obtain⟨o,es,ep,ho,hd,hk,_,hm⟩:=n;refine⟨o,ho,λname=>?_⟩;have e:=hm name;unfold nsFind findBy at e;rw[←Array.find?_toList] at e;unfold lookIn;rw[hd];dsimp only;split;·grind
 ·rename_i q
  have a:es.toList.any (·.refKey)=false:=by
   rw[UJ];intro y hy;obtain⟨z,t,nj⟩:=hk y (Array.mem_toList_iff.mp hy);simp[DictEntry.refKey,nj]
  grind
theorem rV.look{h:Heap}{x dx C:Addr}{mA:Str->Option Value}(I:rV h x dx C mA):∃od,PySem.W.InstAt h x (instObj C dx) C (some od)/\∀name,lookIn name od=some (mA name):=
 let⟨od,ho,hl⟩:=Zba I.ns
 ⟨od,⟨I.obj,rfl,rfl,ho⟩,hl⟩
section
variable {prog:Program}{w:World}{A:Around}{E:Value->Shared->Prop}{s:Shared}{K:PySem.W.Frag}{x dx C f:Addr}{mA:Str->Option Value}{name:Str}{v:Value}
theorem get_map{expr:Bool}{Q:Value->Shared->Prop}(X:K.In s.heap)(I:rV s.heap x dx C mA)(hg:plainGet K C name=true)(hh:hasDictIn K C=true)
  (ha:PySem.W.findIn K (.ref C) name=some none)(hv:mA name=some v)(hv':handedIn v=true)(h:Q v {s with toks:=s.toks+1}):
  wpAny (model prog w) A (getAttr (.ref x) name expr) Q E s:=by
 obtain⟨od,J,hl⟩:=I.look;exact PySem.W.get_value X J (plainGet_of hg).1 (PySem.W.findObj_own hh ha rfl (by rw[hl,hv])) hv' h
theorem ZbX{pl:Sem Bool}{Q:Value×List Value->Shared->Prop}(X:K.In s.heap)(I:rV s.heap x dx C mA)(hg:plainGet K C name=true)
  (hf:PySem.W.findIn K (.ref C) name=some (some (.ref f)))(ht:isFn K (.ref f)=true)(hv:mA name=none)(h:Q (.ref f,[.ref x]) s):
  wpAny (model prog w) A (getMethod (.ref x) name pl) Q E s:=by
 obtain⟨od,J,hl⟩:=I.look;exact PySem.W.method_fn X J (plainGet_of hg).1 (plainGet_of hg).2 hf (beq_iff_eq.mp ht) (by show(lookIn name od).map (·.isSome)=some false;rw[hl,hv];rfl) h
theorem Zc9{ns:List Str}{Q:Unit->Shared->Prop}(X:K.In s.heap)(I:rV s.heap x dx C mA)
  (hs:PySem.W.findIn K (.ref C) "__setattr__"=some (some (.builtin "object.__setattr__")))(hp:plainOver K C=true)(ht:takerIn K C name=some none)(hh:hasDictIn K C=true)
  (hw:PySem.Within mA ns)(hsz:ns.length<=sizeLine)
  (h:∀h',rV h' x dx C (λy=>if y=name then some v else mA y)->Heap.SameBut dx s.heap h'->Q () {s with heap:=h',toks:=s.toks+2}):
  wpAny (model prog w) A (setAttr (.ref x) name v) Q E s:=by
 obtain⟨od,J,hl⟩:=I.look;refine PySem.W.set_plain X J hs (PySem.W.osa_open X J hp ht λb=>?_);obtain⟨cd,hc,Ai⟩:=PySem.W.any_some hh;refine wpAny_bind (wpAny_pure (wpAny_bind (wpAny_bind (wpAny_loadPart I.obj (wpAny_bind (PySem.W.Looks.here (PySem.W.looks_clsIn X hc) ?_))))));rw[Ai];refine wpAny_pure (wpAny_bind (wpAny_pure (wpAny_bind (wpAny_nsSet1 I.ns λh' eS uT=>?_))));obtain⟨oD,esD,epD,hoD,hdD,hcD⟩:=eS.count (PySem.Within.cons name v hw);exact wpAny_bind (wpAny_lookBehind hoD (by rw[hdD];exact pastItsLine_dict (Y4 hcD (by rw[Wq];omega))) (wpAny_pure (h _ ⟨(uT.2 _ (Ne.symm I.ne)).trans I.obj,eS,I.ne⟩ uT)))
theorem ZbY{R:Result->Shared->Prop}{vs:List Value}{kw:List (Str×Value)}(X:K.In s.heap)(hm:makesIn K C=true)
  (hi:PySem.W.findIn K (.ref C) "__init__"=some (some (.ref f)))(hf:typeIn K (.ref f)=some (.type "function"))
  (h:codeAny (model prog w) (A.under (.builtin "type.__call__" ⟨.ref C::vs,kw⟩)) (.call (.ref f) ⟨.ref (s.heap.objs.size+1)::vs,kw⟩) (PySem.W.InitBack (s.heap.objs.size+1) R)
   {s with heap:=(s.heap.push emptyDict).push (instObj C s.heap.objs.size)}):
  codeAny (model prog w) A (.call (.ref C) ⟨vs,kw⟩) R s:=by
 obtain⟨hh,g,d,t,os⟩:=s;exact PySem.W.make_core (PySem.W.makes_of X hm) (PySem.W.looks_findIn X hi) (λself=>PySem.W.bind_fn X self hf) (.inl rfl) h
end
def cR(f:Str)(v:V):List (Str×V)->List (Str×V)
 |[]=>[(f,v)]
 |(g,x)::r=>if g=f then(g,v)::r else(g,x)::cR f v r
theorem Mx(f g:Str)(v:V):∀fs:List (Str×V),(cR f v fs).lookup g=if g=f then some v else fs.lookup g
 |[]=>by
  show List.lookup g [(f,v)]=_
  grind
 |(k,x)::r=>by
  have ih:=Mx f g v r;rw[show cR f v ((k,x)::r)=(if k=f then(k,v)::r else(k,x)::cR f v r) from rfl]
  grind
theorem E_(f:Str)(v:V):∀fs:List (Str×V),f∈(cR f v fs).map (·.1)/\∀g,g∈fs.map (·.1)->g∈(cR f v fs).map (·.1)
 |[]=>⟨by simp[cR],λg h=>by simp at h⟩
 |(k,x)::r=>by
  obtain⟨i1,i2⟩:=E_ f v r;rw[show cR f v ((k,x)::r)=(if k=f then(k,v)::r else(k,x)::cR f v r) from rfl]
  grind
theorem DU(f:Str)(v:V):∀fs:List (Str×V),(cR f v fs).length<=fs.length+1
 |[]=>by simp[cR]
 |(k,x)::r=>by
  have ih:=DU f v r;rw[show cR f v ((k,x)::r)=(if k=f then(k,v)::r else(k,x)::cR f v r) from rfl]
  grind
theorem fW.some_of{v:V}{o:Option Value}(r:fW (some v) o):∃u,o=some u/\RelV v u:=by
 cases o with
 |none=>exact(show False from r).elim
 |some u=>exact⟨u,rfl,r⟩
theorem fW.none_of{o:Option Value}(r:fW none o):o=none:=by
 cases o with
 |none=>rfl
 |some u=>exact(show False from r).elim
theorem Zbb{v:V}{u:Value}(r:RelV v u):handedIn u=true:=by
 cases v with
 |ay=>cases(show u=Value.none from r);rfl
 |bl b=>cases(show u=Value.bool b from r);rfl
 |int i=>obtain⟨t,e⟩:=(show ∃t,u=Value.int i t from r);cases e;rfl
 |str x=>obtain⟨t,e⟩:=(show ∃t,u=Value.str x t from r);cases e;rfl
 |jx b=>obtain⟨t,e⟩:=(show ∃t,u=Value.bytes b t from r);cases e;rfl
 |sh b=>obtain⟨t,e⟩:=(show ∃t,u=Value.float b t from r);cases e;rfl
 |ref a=>cases(show u=Value.ref a from r);rfl
 |ty n=>cases(show u=Value.type n from r);rfl
section
variable {P:Program}{w:World}{H H':Hp}{h h':Heap}{a C dx:Addr}{fs fs':List (Str×V)}
theorem zf(av:dq P w H h)(e:H a=some (.ins C dx fs)):∃mA,rV h a dx C mA/\(∀f,fW (fs.lookup f) (mA f))/\PySem.Within mA (fs.map (·.1))/\fs.length<=1000/\H dx=some (.own a):=by
 obtain⟨d,z,ne,ob,mA,n,r,q⟩:=(show cQ P w H h a (.ins C dx fs) from av a _ e);exact⟨mA,⟨ob,n,ne⟩,r,q,z,d⟩
end
structure fZ(K:PySem.W.Frag)(C:Addr):Prop where
 pg:plainGet K C Str.empty=true
 hd:hasDictIn K C=true
 po:plainOver K C=true
 sa:PySem.W.findIn K (.ref C) "__setattr__"=some (some (.builtin "object.__setattr__"))
theorem fZ.get{K:PySem.W.Frag}{C:Addr}(c:fZ K C)(f:Str):plainGet K C f=true:=c.pg
def dJ(K:PySem.W.Frag)(C:Addr)(f:Str):Prop:=PySem.W.findIn K (.ref C) f=some none
theorem dJ.ZfR{K:PySem.W.Frag}{C:Addr}{f:Str}(n:dJ K C f):takerIn K C f=some none:=by
 unfold takerIn;rw[show PySem.W.findIn K (.ref C) f=some none from n];rfl
structure Meth(K:PySem.W.Frag)(C:Addr)(m:Str)(f:Addr):Prop where
 at_:PySem.W.findIn K (.ref C) m=some (some (.ref f))
 fn:isFn K (.ref f)=true
 kp:keepIn K (.ref f)=true
section
variable {X:Cx}{pins:List (Addr×Obj)}{σ:St}{H:Hp}{s:Shared}{a C dx:Addr}{fs:List (Str×V)}{f:Str}{v:V}{A:Around}{E:Value->Shared->Prop}
theorem Zah{b:Bool}{Q:Value->Shared->Prop}(I:Inv X pins σ H s)(e:H a=some (.ins C dx fs))(c:fZ X.K C)(n:dJ X.K C f)(l:fs.lookup f=some v)
  (h:∀u s',Inv X pins σ H s'->RelV v u->Q u s'):wpAny (model X.prog X.w) A (getAttr (.ref a) f b) Q E s:=by
 obtain⟨mA,O,r,_,_,_⟩:=zf I.av e;obtain⟨u,hu,ru⟩:=fW.some_of (by rw[←l];exact r f);exact get_map I.dN O (c.get f) c.hd n hu (Zbb ru) (h u _ (I.tok _) ru)
theorem MO{m:Str}{g:Addr}{pl:Sem Bool}{Q:Value×List Value->Shared->Prop}(I:Inv X pins σ H s)(e:H a=some (.ins C dx fs))(c:fZ X.K C)(k:Meth X.K C m g)(l:fs.lookup m=none)
  (h:Q (.ref g,[.ref a]) s):wpAny (model X.prog X.w) A (getMethod (.ref a) m pl) Q E s:=by
 obtain⟨mA,O,r,_,_,_⟩:=zf I.av e;exact ZbX I.dN O (c.get m) k.at_ k.fn (fW.none_of (by rw[←l];exact r m)) h
theorem MP{y:V}{u:Value}{Q:Unit->Shared->Prop}(I:Inv X pins σ H s)(e:H a=some (.ins C dx fs))(c:fZ X.K C)(n:dJ X.K C f)(hl:fs.length<1000)(ry:RelV y u)
  (h:∀s',Inv X pins σ (upd H a (.ins C dx (cR f y fs))) s'->Q () s'):wpAny (model X.prog X.w) A (setAttr (.ref a) f u) Q E s:=by
 obtain⟨mA,O,r,wi,_,ho⟩:=zf I.av e;have hz:(fs.map (·.1)).length<=sizeLine:=by rw[Ya,sizeLine_eq];omega
 refine Zc9 I.dN O c.sa c.po n.ZfR c.hd wi hz λh' O' sb=>h _ (I.write (by rw[e];exact True.intro) (.inr ho) (λb q hb z=>(sb.2 b hb).trans z) (let⟨o,_,_,e',_⟩:=O'.ns;⟨o,e'⟩) ⟨by rw[a9 O.ne];exact ho,?_,O.ne,O'.obj,_,O'.ns,λg=>?_,λg hg=>?_⟩);·have:=DU f y fs;omega
 ·show fW ((cR f y fs).lookup g) (if g=f then some u else mA g);rw[Mx];by_cases q:g=f;·rw[if_pos q,if_pos q];exact ry
  ·grind
 ·by_cases q:g=f;·rw[q];exact(E_ f y fs).1
  ·refine(E_ f y fs).2 g (wi g λz=>hg ?_)
   grind
theorem Inv.made(I:Inv X pins σ H s):Inv X pins σ (upd (upd H s.heap.objs.size (.own (s.heap.objs.size+1))) (s.heap.objs.size+1) (.ins C s.heap.objs.size []))
  {s with heap:=(s.heap.push emptyDict).push (instObj C s.heap.objs.size)}:=by
 have e1:(s.heap.push emptyDict).get? s.heap.objs.size=some emptyDict:=Ys s.heap rfl;have e2:((s.heap.push emptyDict).push (instObj C s.heap.objs.size)).get? (s.heap.objs.size+1)=some (instObj C s.heap.objs.size):=by
  have:=Ys (s.heap.push emptyDict) (o:=instObj C s.heap.objs.size) rfl
  rwa [Jf] at this
 have e3:(s.heap.push emptyDict).Ns s.heap.objs.size (λ_=>none):=⟨emptyDict,#[],_,e1,rfl,(λe he=>absurd he (by simp)),λ_=>rfl⟩;have I1:=I.laid (a:=s.heap.objs.size) (o:=.own (s.heap.objs.size+1)) (h':=s.heap.push emptyDict) (t':=s.toks) (λb u q=>Yc _ q) (Yd _) ⟨_,e1⟩;refine I1.laid (a:=s.heap.objs.size+1) (o:=.ins C s.heap.objs.size []) (t':=s.toks) (λb u q=>Yc _ q) (Nat.le_of_eq (Jf _ _)) ?_;have ne:s.heap.objs.size≠s.heap.objs.size+1:=Y1 (Je _);refine⟨by rw[a9 ne,aZ],Yw _,ne,e2,λ_=>none,(Heap.Ns1.of_empty e3).at λo q=>Yc _ q,λ_=>True.intro,λy hy=>absurd rfl hy⟩
theorem Zc_{prog:Program}{w:World}{env:Env}{e:Expr}{f:Str}{pos:Pos}{s:Shared}{Q:Value->Shared->Prop}(hb:attributeBase e f env (eval e env)=eval e env)
  (h:wpAny (model prog w) A (eval e env) (λo bI=>wpAny (model prog w) A (getAttr o f true) Q E bI) E s):wpAny (model prog w) A (eval (.Attribute e f pos) env) Q E s:=
 Attribute_any_ h (by rw[arm_eval_Attribute,hb])
end
inductive Ri(K:PySem.W.Frag)(f:Str)(Q:VK)(x:V)(H1:Hp):Prop
 |mk (a C dx fs v) (aB:x=.ref a) (aT:H1 a=some (.ins C dx fs)) (bq:fZ K C) (bR:dJ K C f) (cM:fs.lookup f=some v) (dZ:Q v H1):Ri K f Q x H1
def Tv(K:PySem.W.Frag)(ta:TE)(f:Str):TE:=λσ H Q=>ta σ H λx H1=>Ri K f Q x H1
def ZgF(K:PySem.W.Frag)(ta tv:TE)(f:Str):TS:=λD σ H=>tv σ H λy H1=>ta σ H1 λx H2=>∃a C dx fs,x=.ref a/\H2 a=some (.ins C dx fs)/\fZ K C/\dJ K C f/\fs.length<1000/\
 D.nx σ (upd H2 a (.ins C dx (cR f y fs)))
section
variable {X:Cx}{o e value:Expr}{f:Str}{pos pos' zV:Pos}{ta tv:TE}
theorem Zew(he:PE X e ta)(hb:attributeBase e f X.env (eval e X.env)=eval e X.env):PE X (.Attribute e f pos) (Tv X.K ta f):=by
 intro pins s σ H Q I h;refine Zc_ hb (az (he pins s σ H _ I h) λu s1 zq=>?_);obtain⟨x,H1,I1,rx,a,C,dx,fs,v,ex,ea,c,n,l,q⟩:=zq;subst ex;obtain rfl:u=Value.ref a:=rx;exact Zah I1 ea c n l λu' s2 I2 ru=>⟨v,H1,I2,ru,q⟩
theorem wu(ha:PE X o ta)(hv:PE X value tv)(hs:swapsWith value (some (.Attribute o f pos')) pos.line X.env=pure false):PS X (.Assign [.Attribute o f pos'] value pos) (ZgF X.K ta tv f):=by
 intro pins s σ H D I h;refine plainObj_wpAny_Assign_Attribute (az (hv pins s σ H _ I h) λu s1 zq=>?_) hs;obtain⟨y,H1,I1,ry,q⟩:=zq;refine az (ha pins s1 σ H1 _ I1 q) λov s2 zq=>?_;obtain⟨x,H2,I2,rx,a,C,dx,fs,ex,ea,c,n,l,q2⟩:=zq;subst ex;obtain rfl:ov=Value.ref a:=rx;exact MP I2 ea c n l ry λs3 I3=>⟨σ,_,I3,q2⟩
end
section
variable {X:Cx}{pins:List (Addr×Obj)}{σ:St}{H:Hp}{s:Shared}{A:Around}{E:Value->Shared->Prop}{Q:Value->Shared->Prop}{c:Value}{b:Bool}
inductive jb(K:PySem.W.Frag)(H:Hp):V->Value->Prop where
 |ay:jb K H .ay (.type "NoneType")
 |bl (x:Bool):jb K H (.bl x) (.type "bool")
 |int (i:Int):jb K H (.int i) (.type "int")
 |str (x:Str):jb K H (.str x) (.type "str")
 |sh (x:UInt64):jb K H (.sh x) (.type "float")
 |lst {a:Addr} {xs:List V} (e:H a=some (.lst xs)):jb K H (.ref a) (.type "list")
 |cE {a:Addr} {o:Obj} {xs:List V} (e:H a=some (.cE o (.lst xs))):jb K H (.ref a) (.type "list")
 |tup {a:Addr} {xs:List V} (e:H a=some (.tup xs)):jb K H (.ref a) (.type "tuple")
 |dK {a:Addr} {kvs:List (Key×V)} (e:H a=some (.dK kvs)):jb K H (.ref a) (.type "dict")
 |dT {a:Addr} {kvs:List (List Key×V)} (e:H a=some (.dT kvs)):jb K H (.ref a) (.type "dict")
 |ins {a C dx:Addr} {fs:List (Str×V)} (e:H a=some (.ins C dx fs)) (cl:fZ K C) (ha:PySem.W.findIn K (.ref C) "__class__"=some (some (.builtin "object.__class__")))
   (hn:PySem.W.specialIn K (.builtin "object.__class__") "__get__"=some (some (.builtin "getset_descriptor.__get__"))) (UK:PySem.W.takesIn K (.builtin "object.__class__")=some true)
   (hm:PySem.W.mroIn K C (.type "object")=some true):jb K H (.ref a) (.ref C)
theorem Zbc{x:V}{u t:Value}(I:Inv X pins σ H s)(rx:RelV x u)(ty:jb X.K H x t)(e:kitOne X.K t c=some b)(h:∀tk,Q (.bool b) {s with toks:=tk}):
  wpAny (model X.prog X.w) A (call (.builtin "isinstance") [u,c]) Q E s:=by
 cases ty with
 |ay=>cases(show u=Value.none from rx);exact kia_one PySem.W.kitx_none I.dN True.intro e (λz=>nomatch z) h
 |bl y=>cases(show u=Value.bool y from rx);exact kia_one PySem.W.kitx_bool I.dN True.intro e (λz=>nomatch z) h
 |int i=>obtain⟨t,q⟩:=(show ∃t,u=Value.int i t from rx);cases q;exact kia_one PySem.W.kitx_int I.dN True.intro e (λz=>nomatch z) h
 |str y=>obtain⟨t,q⟩:=(show ∃t,u=Value.str y t from rx);cases q;exact kia_one PySem.W.kitx_str I.dN True.intro e (λz=>nomatch z) h
 |sh y=>obtain⟨t,q⟩:=(show ∃t,u=Value.float y t from rx);cases q;exact kia_one PySem.W.kitx_float I.dN True.intro e (λz=>nomatch z) h
 |@lst a xs ea=>
  cases(show u=Value.ref a from rx);obtain⟨_,_,n,_,h1⟩:=(show cQ X.prog X.w H s.heap a (.lst xs) from I.av a _ ea);exact kia_one kitx_list I.dN ⟨_,h1,rfl⟩ e (λz=>nomatch z) h
 |@cE a ob xs ea=>
  cases(show u=Value.ref a from rx);obtain⟨_,_,_,n,_,h1⟩:=(show cQ X.prog X.w H s.heap a (.cE ob (.lst xs)) from I.av a _ ea);exact kia_one kitx_list I.dN ⟨_,h1,rfl⟩ e (λz=>nomatch z) h
 |@tup a xs ea=>
  cases(show u=Value.ref a from rx);obtain⟨_,_,_,p⟩:=(show cQ X.prog X.w H s.heap a (.tup xs) from I.av a _ ea);obtain⟨o,h1,h2,_⟩:=p;exact kia_one PySem.W.kitx_tuple I.dN ⟨o,h1,h2⟩ e (λz=>nomatch z) h
 |@dK a kvs ea=>
  cases(show u=Value.ref a from rx);obtain⟨_,_,vs,_,p⟩:=(show cQ X.prog X.w H s.heap a (.dK kvs) from I.av a _ ea);obtain⟨o,es,ep,h1,h2,_⟩:=p;exact kia_one kitx_dict I.dN ⟨o,h1,h2.1⟩ e (λz=>nomatch z) h
 |@dT a kvs ea=>
  cases(show u=Value.ref a from rx);obtain⟨_,_,xs,_,o,es,ep,h1,h2,_⟩:=(show cQ X.prog X.w H s.heap a (.dT kvs) from I.av a _ ea);exact kia_one kitx_dict I.dN ⟨o,h1,h2.1⟩ e (λz=>nomatch z) h
 |@ins a C dx fs ea cl ha hn UK hm=>
  cases(show u=Value.ref a from rx);obtain⟨mA,O,_⟩:=zf I.av ea;obtain⟨od,J,_⟩:=O.look;exact kia_one (PySem.W.kitx_own (cl.get _) cl.hd ha hn UK hm) I.dN J e (λz=>nomatch z) h
end
structure di(k:Nat)(A:Around):Prop where
 hd:A.handled=none
 dp:A.depth+3*k+5<recursionLimit
 un:A.units+16*k+200<cLine
 gd:A.guards=some []
theorem di.mono{j k:Nat}{A:Around}(r:di k A)(h:j<=k):di j A:=⟨r.hd,by have:=r.dp;omega,by have:=r.un;omega,r.gd⟩
theorem di.deeper{k:Nat}{A:Around}(r:di (k+1) A)(env:Env):di k (A.deeper env):=
 ⟨r.hd,by have:=r.dp;show A.depth+1+3*k+5<_;omega,by have:=r.un;show A.units+3+16*k+200<_;omega,r.gd⟩
theorem Zai{A:Around}{C:Addr}{us:List Value}{kw:List (Str×Value)}:(A.under (.builtin "type.__call__" ⟨.ref C::us,kw⟩)).depth=A.depth+1:=by
 rfl
theorem Zaj{A:Around}{C:Addr}{us:List Value}{kw:List (Str×Value)}:(A.under (.builtin "type.__call__" ⟨.ref C::us,kw⟩)).units=A.units+1:=by
 rfl
theorem di.make{k:Nat}{A:Around}(r:di (k+1) A)(C:Addr)(us:List Value)(kw:List (Str×Value)):di k (A.under (.builtin "type.__call__" ⟨.ref C::us,kw⟩)):=
 ⟨r.hd,by have:=r.dp;rw[Zai];omega,by have:=r.un;rw[Zaj];omega,by first|exact r.gd|simpa[Around.under,Code.isGuard,Code.isFrame,guardIds] using r.gd⟩
theorem di.depth{k:Nat}{A:Around}(r:di k A):A.depth<recursionLimit:=by have:=r.dp;omega
theorem di.units{k:Nat}{A:Around}(r:di k A):A.units+64<cLine:=by have:=r.un;omega
theorem di.uw{k:Nat}{A:Around}(r:di k A):A.units<cLine:=by have:=r.un;omega
def jR:TA:=λ_ H Q=>Q [] H
def iZ(ta:TE)(tr:TA):TA:=λσ H Q=>ta σ H λx H1=>tr σ H1 λxs H2=>Q (x::xs) H2
section
variable {X:Cx}{e:Expr}{es:List Expr}{te:TE}{t:TA}{pos:Pos}
theorem ae:PA X [] jR:=λ_ _ _ _ H Q I h=>Calls.spliced_nil ⟨[],H,I,.nil,h⟩
theorem aa(ha:PE X e te)(hr:PA X es t)(hs:starEach (e::es) X.env=(false,eval e X.env)::starEach es X.env:=by rfl):PA X (e::es) (iZ te t):=by
 intro pos pins s σ H Q I h;rw[hs];exact Calls.spliced_cons (az (ha pins s σ H _ I h) λu s1 ⟨x,H1,I1,r1,q1⟩=>az (hr pos pins s1 σ H1 _ I1 q1) λus s2 ⟨xs,H2,I2,r2,q2⟩=>⟨x::xs,H2,I2,.cons r1 r2,q2⟩)
def ZgG(t:TA):TE:=λσ H Q=>t σ H λxs H1=>xs.length<=sizeLine/\∀p,H1 p=none->Q (.ref p) (upd H1 p (.lst xs))
theorem wx(h:PA X es t):PE X (.List es pos) (ZgG t):=by
 intro pins s σ H Q I hq;refine wpAny_List_spliced (az (h pos pins s σ H _ I hq) λus s1 ⟨xs,H1,I1,r,z,q⟩=>⟨by rw[←r.length];exact z,⟨.ref s1.heap.objs.size,upd H1 s1.heap.objs.size (.lst xs),I1.laid (λb u e=>Yc _ e) (Yd _) ?_,rfl,q _ (I1.av.fresh (Yd _))⟩⟩);exact⟨z,us,0,r,Ys _ rfl⟩
end
abbrev Sp:=List V->Hp->VK->XK->Prop
abbrev jW:=List Env->Hp->Shared->XK->Value->Shared->Prop
structure rW(P:Program)(w:World)(K:PySem.W.Frag)(mg:Str->Option Value)(base:Heap)(A:Around)(outer:List Env)(s:Shared)(H:Hp):Prop where
 frames:A.frames=some outer
 mod:Mod K mg base
 bs:∀b o,base.get? b=some o->s.heap.get? b=some o/\H b=none
 oW:base.objs.size<=s.heap.objs.size
 kY:s.heap.FunFrames base outer
 su:∀b∈iK outer,H b=none
 av:dq P w H s.heap
 bare:AllBare s.gens
def CE(outer:List Env)(P:Program)(w:World)(H:Hp)(s:Shared)(Q:VK)(u:Value)(s':Shared):Prop:=
 ∃v H',s'.os=s.os/\AllBare s'.gens/\Un (iK outer) [] H H' s.heap s'.heap/\dq P w H' s'.heap/\RelV v u/\Q v H'
def CR(CX:jW)(outer:List Env)(P:Program)(w:World)(H:Hp)(s:Shared)(Q:VK)(E:XK)(r:Result)(s':Shared):Prop:=
 match r with
 |.ok (.ret u)=>CE outer P w H s Q u s'
 |.ok _=>False
 |.error e=>CX outer H s E e s'
structure aH(P:Program)(w:World)(K:PySem.W.Frag)(mg:Str->Option Value)(base:Heap)(CX:jW)(k:Nat)(f:Addr)(fd:FuncData)(ps:List Str)(sp:Sp):Prop where
 len:∀vs H Q E,sp vs H Q E->vs.length=ps.length
 run:∀(A:Around) (outer:List Env) (s:Shared) (H:Hp) (args:Args) (us:List Value) (vs:List V) (Q:VK) (E:XK),di k A->rW P w K mg base A outer s H->BindsTo s fd args (ps.zip us)->Vals vs us->sp vs H Q E->
  codeAny (model P w) A (.call (.ref f) args) (CR CX outer P w H s Q E) s
theorem rW.make{P:Program}{w:World}{K:PySem.W.Frag}{mg:Str->Option Value}{base:Heap}{A:Around}{outer:List Env}{s:Shared}{H:Hp}(e:rW P w K mg base A outer s H)(C:Addr)(us:List Value)(kw:List (Str×Value)):
  rW P w K mg base (A.under (.builtin "type.__call__" ⟨.ref C::us,kw⟩)) outer s H:=⟨by first|exact e.frames|(simpa[Around.under,Code.envs,Code.isFrame,pushEnvs] using e.frames),e.mod,e.bs,e.oW,e.kY,e.su,e.av,e.bare⟩
section
variable {X:Cx}{pins:List (Addr×Obj)}{σ:St}{H:Hp}{s s':Shared}
theorem Inv.Tw(I:Inv X pins σ H s):rW X.prog X.w X.K X.mg X.base X.A X.stack s H:=
 ⟨I.ok.frames,I.ok.mod,I.bs,Y4 I.ok.oW I.sz,I.stack,I.PF,I.av,I.bare⟩
theorem Inv.after{Q:VK}{u:Value}(I:Inv X pins σ H s)(h:CE X.stack X.prog X.w H s Q u s'):EP X pins σ Q u s':=by
 obtain⟨v,H',os,bare,un,av,r,q⟩:=h;obtain⟨hh,g,d,t,os'⟩:=s';obtain rfl:os'=s.os:=os;exact⟨v,H',I.call (h':=hh) (g':=g) (d':=d) (t':=t) (ch:=[]) un av bare (λb z=>absurd z (by simp)),r,q⟩
end
def SG(sp:Sp)(eI:List V)(E:XK)(t:TA):TE:=λσ H Q=>t σ H λvs H1=>sp (vs++eI) H1 Q E
def zM(C:Addr)(m:Str)(sp:Sp)(eI:List V)(E:XK)(ta:TE)(t:TA):TE:=λσ H Q=>ta σ H λx H1=>∃a dx fs,x=.ref a/\H1 a=some (.ins C dx fs)/\fs.lookup m=none/\
 t σ H1 λvs H2=>sp (x::(vs++eI)) H2 Q E
def SH(C:Addr)(sp:Sp)(eI:List V)(E:XK)(t:TA):TE:=λσ H Q=>t σ H λvs H1=>∀x dx,H1 x=none->H1 dx=none->dx≠x->
 sp (.ref x::(vs++eI)) (upd (upd H1 dx (.own x)) x (.ins C dx [])) (λv H2=>v=.ay/\Q (.ref x) H2) E
def Binds(K:PySem.W.Frag)(fd:FuncData)(ps:List Str)(ds:List Value):Prop:=
 ∀(s:Shared) (us:List Value),K.In s.heap->(us++ds).length=ps.length->BindsTo s fd ⟨us,[]⟩ (ps.zip (us++ds))
theorem Binds.all{K:PySem.W.Frag}{fd:FuncData}{ps:List Str}(h:∀us:List Value,us.length=ps.length->bindArgs fd ⟨us,[]⟩=pure (ps.zip us)):Binds K fd ps []:=λs us _ hl=>by
 rw[Y5] at hl⊢;exact .of_eq (h us hl)
def Passes(CX:jW)(X:Cx)(E:XK):Prop:=∀(pins:List (Addr×Obj)) (σ:St) (H:Hp) (s:Shared) (e:Value) (s':Shared),Inv X pins σ H s->CX X.stack H s E e s'->X.xe e s'
section
variable {X:Cx}{CX:jW}{k:Nat}{f C:Addr}{fd:FuncData}{ps:List Str}{sp:Sp}{eI:List V}{ds:List Value}{E:XK}{x m:Str}{p pos apos:Pos}{e o:Expr}{es:List Expr}{ta:TE}{t:TA}
theorem GY{pins:List (Addr×Obj)}{σ:St}{H:Hp}{s:Shared}{Q:VK}{us:List Value}{vs:List V}(F:aH X.prog X.w X.K X.mg X.base CX k f fd ps sp)(hr:di k X.A)(hb:Binds X.K fd ps ds)(hd:Vals eI ds)(hx:Passes CX X E)
  (I:Inv X pins σ H s)(r:Vals vs us)(h:sp (vs++eI) H Q E):wpAny (model X.prog X.w) X.A (call (.ref f) us) (EP X pins σ Q) X.xe s:=by
 have r2:Vals (vs++eI) (us++ds):=r.append hd;have hl:(us++ds).length=ps.length:=by rw[←r2.length];exact F.len _ _ _ _ h
 refine wpAny_call (codeAny_mono (F.run X.A X.stack s H ⟨us,[]⟩ (us++ds) (vs++eI) Q E hr I.Tw (hb s us I.dN hl) r2 h) λr s' hq=>?_);cases r with
 |error e=>exact hx pins σ H s e s' I hq
 |ok fl=>
  cases fl with
  |ret u=>exact I.after hq
  |next=>exact False.elim hq
  |brk=>exact False.elim hq
  |cont=>exact False.elim hq
theorem Zda(F:aH X.prog X.w X.K X.mg X.base CX k f fd ps sp)(hr:di k X.A)(hg:Gl X x)(hm:X.mg x=some (.ref f))(hk:keepIn X.K (.ref f)=true)(hb:Binds X.K fd ps ds)(hd:Vals eI ds)(hx:Passes CX X E)
  (ha:PA X (e::es) t)(mw:(x==("__debug__":Str))=false:=by decide)(he:starEach (e::es) X.env=(false,eval e X.env)::starEach es X.env:=by rfl)(dt:(backTo pos (starEach es X.env)).any (·.1)=false:=by rfl):
  PE X (.Call (.Name x p) (e::es) [] pos) (SG sp eI E t):=by
 intro pins s σ H Q I h;exact wpAny_Call_Name_kw (Gp I hg hm (callWith_K I.ok.mod.sr hk (az (ha pos pins s σ H _ I h) λus s1 ⟨vs,H1,I1,r,q⟩=>⟨I1.dN,GY F hr hb hd hx I1 r q⟩) he dt) mw)
theorem Zdb{pl:Sem Bool}(he:PE X o ta)(c:fZ X.K C)(hm:Meth X.K C m f)(F:aH X.prog X.w X.K X.mg X.base CX k f fd ps sp)(hr:di k X.A)(hb:Binds X.K fd ps ds)(hd:Vals eI ds)(hx:Passes CX X E)(ha:PA X (e::es) t)
  (ib:starEach (e::es) X.env=(false,eval e X.env)::starEach es X.env:=by rfl)(dt:(backTo pos (starEach es X.env)).any (·.1)=false:=by rfl)
  (ht:eval (.Call (.Attribute o m apos) (e::es) [] pos) X.env=(do
   let ov←eval o X.env
   standAt apos.atName
   let(f,first)←holding [ov] (getMethod ov m pl)
   callWith pos f first (backTo pos (starEach (e::es) X.env)) (backToKw pos (keywordEach [] X.env))):=by rfl):
  PE X (.Call (.Attribute o m apos) (e::es) [] pos) (zM C m sp eI E ta t):=by
 intro pins s σ H Q I h;refine methodCall_KW (pl:=pl) (az (he pins s σ H _ I h) λu s1 zq=>?_) ht;obtain⟨x,H1,I1,rx,a,dx,fs,ex,ea,l,q⟩:=zq;subst ex;obtain rfl:u=Value.ref a:=rx;refine MO I1 ea c hm l ?_;refine callWith_K (first:=[.ref a]) (h₀:=X.base) I.ok.mod.sr hm.kp (az (ha pos pins s1 σ H1 _ I1 q) λus s2 ⟨vs,H2,I2,r,q2⟩=>⟨I2.dN,?_⟩) ib dt;exact GY (us:=.ref a::us) (vs:=.ref a::vs) F hr hb hd hx I2 (.cons rfl r) q2
theorem ZbZ{pl:Sem Bool}(he:PE X o ta)(c:fZ X.K C)(hm:Meth X.K C m f)(F:aH X.prog X.w X.K X.mg X.base CX k f fd ps sp)(hr:di k X.A)(hb:Binds X.K fd ps ds)(hd:Vals eI ds)(hx:Passes CX X E)
  (ht:eval (.Call (.Attribute o m apos) [] [] pos) X.env=(do
   let ov←eval o X.env
   standAt apos.atName
   let(f,first)←holding [ov] (getMethod ov m pl)
   callWith pos f first (backTo pos (starEach [] X.env)) (backToKw pos (keywordEach [] X.env))):=by rfl):
  PE X (.Call (.Attribute o m apos) [] [] pos) (zM C m sp eI E ta jR):=by
 intro pins s σ H Q I h;refine methodCall_KW (pl:=pl) (az (he pins s σ H _ I h) λu s1 zq=>?_) ht;obtain⟨x,H1,I1,rx,a,dx,fs,ex,ea,l,q⟩:=zq;subst ex;obtain rfl:u=Value.ref a:=rx;refine MO I1 ea c hm l ?_;exact PySem.W.callWith_K0 (first:=[.ref a]) I1.dN hm.kp (GY (us:=[.ref a]) (vs:=[.ref a]) F hr hb hd hx I1 (.cons rfl .nil) q)
structure Mk(K:PySem.W.Frag)(C f:Addr):Prop where
 makes:makesIn K C=true
 init:PySem.W.findIn K (.ref C) "__init__"=some (some (.ref f))
 fn:isFn K (.ref f)=true
 kp:keepIn K (.ref C)=true
theorem Zb0{pins:List (Addr×Obj)}{σ:St}{H:Hp}{s:Shared}{Q:VK}{us:List Value}{vs:List V}(M:Mk X.K C f)(F:aH X.prog X.w X.K X.mg X.base CX k f fd ps sp)(hr:di (k+1) X.A)(hb:Binds X.K fd ps ds)(hd:Vals eI ds)
  (hx:Passes CX X E)(I:Inv X pins σ H s)(r:Vals vs us)
  (h:∀x dx,H x=none->H dx=none->dx≠x->sp (.ref x::(vs++eI)) (upd (upd H dx (.own x)) x (.ins C dx [])) (λv H2=>v=.ay/\Q (.ref x) H2) E):
  wpAny (model X.prog X.w) X.A (call (.ref C) us) (EP X pins σ Q) X.xe s:=by
 have hq:=h (s.heap.objs.size+1) s.heap.objs.size (I.av.fresh (JG _)) (I.av.fresh (Yd _)) (Y1 (Je _));have I2:=Inv.made (C:=C) I;have r2:Vals (V.ref (s.heap.objs.size+1)::(vs++eI)) (Value.ref (s.heap.objs.size+1)::(us++ds)):=.cons rfl (r.append hd);have hl:(Value.ref (s.heap.objs.size+1)::us++ds).length=ps.length:=by
  have e:=r2.length;rw[F.len _ _ _ _ hq] at e;exact e.symm
 refine wpAny_call (ZbY I.dN M.makes M.init (beq_iff_eq.mp M.fn) (codeAny_mono (F.run _ X.stack _ _ ⟨Value.ref (s.heap.objs.size+1)::us,[]⟩ (Value.ref (s.heap.objs.size+1)::(us++ds)) _ _ E (hr.make C us [])
  (I2.Tw.make C us []) (hb _ (Value.ref (s.heap.objs.size+1)::us) I2.dN hl) r2 hq) λr s' xv=>?_))
 cases r with
 |error e=>exact hx pins σ _ _ e s' I2 xv
 |ok fl=>
  cases fl with
  |ret u=>
   obtain⟨v,H',I3,rv,ev,q3⟩:=I2.after xv;subst ev;exact⟨rv,⟨V.ref (s.heap.objs.size+1),H',I3,rfl,q3⟩⟩
  |next=>exact False.elim xv
  |brk=>exact False.elim xv
  |cont=>exact False.elim xv
theorem Zdc(M:Mk X.K C f)(F:aH X.prog X.w X.K X.mg X.base CX k f fd ps sp)(hr:di (k+1) X.A)(hg:Gl X x)(hm:X.mg x=some (.ref C))(hb:Binds X.K fd ps ds)(hd:Vals eI ds)(hx:Passes CX X E)
  (ha:PA X (e::es) t)(mw:(x==("__debug__":Str))=false:=by decide)(he:starEach (e::es) X.env=(false,eval e X.env)::starEach es X.env:=by rfl)(dt:(backTo pos (starEach es X.env)).any (·.1)=false:=by rfl):
  PE X (.Call (.Name x p) (e::es) [] pos) (SH C sp eI E t):=by
 intro pins s σ H Q I h;exact wpAny_Call_Name_kw (Gp I hg hm (callWith_K I.ok.mod.sr M.kp (az (ha pos pins s σ H _ I h) λus s1 ⟨vs,H1,I1,r,q⟩=>⟨I1.dN,Zb0 M F hr hb hd hx I1 r q⟩) he dt) mw)
end
section
variable {X:Cx}{CX:jW}{k:Nat}{f C:Addr}{fd:FuncData}{ps ks:List Str}{sp:Sp}{E:XK}{x m:Str}{p pos apos Zh2:Pos}{e o:Expr}{es:List Expr}{kws:List Keyword}{te ta:TE}{t tk:TA}{nm:Option Str}
variable {g:List Value->List Value->List Value}{gV:List V->List V->List V}
end
structure aR(N P:List Str)(sc:Scope):Prop where
 kind:sc.kind=.function
 co:sc.isCoroutine=false
 gen:sc.isGenerator=false
 nd:N.Nodup
 pre:N.take P.length=P
 par:∀x∈P,sc.names.lookup x=some .local\/sc.names.lookup x=some .cell
 Zex:∀y∈sc.names,y.2≠.free
theorem Nn{kindOf:Str->Option NameKind}{x:Str}:∀{binds:List (Str×Value)} {m:Str->Option Value},(∀v,(x,v)∉binds)->bindL kindOf binds m x=m x
 |[],_,_=>rfl
 |(n,v)::r,m,h=>by
  unfold bindL;rw[Nn λw hw=>h w (Yv _ hw)];split;·grind
  ·rfl
theorem Np{kindOf:Str->Option NameKind}{x:Str}:∀{binds:List (Str×Value)} {m:Str->Option Value},(∀v,(x,v)∉binds)->bindC kindOf binds m x=m x
 |[],_,_=>rfl
 |(n,v)::r,m,h=>by
  unfold bindC;rw[Np λw hw=>h w (Yv _ hw)];split;·rfl
  ·grind
theorem Nq{kindOf:Str->Option NameKind}{x:Str}{v:Value}:∀{P:List Str} {vs:List Value} {i:Nat} {m:Str->Option Value},P.Nodup->P[i]?=some x->vs[i]?=some v->kindOf x=some .local->
  bindL kindOf (P.zip vs) m x=some v
 |[],_,_,_,_,h,_,_=>by simp at h
 |_::_,[],_,_,_,_,h,_=>by simp at h
 |p::P,w::vs,0,m,nd,h1,h2,hk=>by
  simp at h1 h2;subst h1;subst h2;show bindL kindOf ((p,w)::P.zip vs) m p=_;unfold bindL;rw[Nn λv hv=>(Yy.mp nd).1 (UL hv).1,if_pos hk];simp
 |p::P,w::vs,i+1,m,nd,h1,h2,hk=>by
  unfold bindL;exact Nq (Yy.mp nd).2 (by simpa using h1) (by simpa using h2) hk
theorem Nr{kindOf:Str->Option NameKind}{x:Str}{v:Value}:∀{P:List Str} {vs:List Value} {i:Nat} {m:Str->Option Value},P.Nodup->P[i]?=some x->vs[i]?=some v->kindOf x≠some .local->
  bindC kindOf (P.zip vs) m x=some v
 |[],_,_,_,_,h,_,_=>by simp at h
 |_::_,[],_,_,_,_,h,_=>by simp at h
 |p::P,w::vs,0,m,nd,h1,h2,hk=>by
  simp at h1 h2;subst h1;subst h2;show bindC kindOf ((p,w)::P.zip vs) m p=_;unfold bindC;rw[Np λv hv=>(Yy.mp nd).1 (UL hv).1,if_neg hk];simp
 |p::P,w::vs,i+1,m,nd,h1,h2,hk=>by
  unfold bindC;exact Nr (Yy.mp nd).2 (by simpa using h1) (by simpa using h2) hk
def start(N:List Str)(vs:List V):St:=vs.map some++List.replicate (N.length-vs.length) none
def nA(CX:jW)(P:Program)(w:World)(K:PySem.W.Frag)(mg:Str->Option Value)(base:Heap)(N:List Str)(qual:Str)(scope:Scope)(f:Addr)(cd:Value)(A:Around)(outer:List Env)(s:Shared)(H:Hp)(E:XK):Cx where
 prog:=P
 w:=w
 K:=K
 mg:=mg
 base:=base
 A:=A.deeper (envOfC qual scope s.heap.objs.size f cd)
 N:=N
 cZ:=s
 kX:=H
 env:=envOfC qual scope s.heap.objs.size f cd
 outer:=outer
 stack:=envOfC qual scope s.heap.objs.size f cd::outer
 ex:=[]
 calm:=true
 fn:=λ_=>true
 pn:=[]
 xe:=λe s'=>wpAny (model P w) (A.deeper (envOfC qual scope s.heap.objs.size f cd)) (leaving (envOfC qual scope s.heap.objs.size f cd) e) (λ_ sA=>CX outer H s E e sA) (λe' sA=>CX outer H s E e' sA) s'
theorem Oo{sc:Scope}{n:Nat}{x:Str}(h:sc.names.lookup x=some .cell):∃c,(cellsFrom n sc.names []).lookup x=some c:=by
 exact Ja.mp (cellsFrom_some sc.names n [] (.inl h))
theorem Zbd{CX:jW}{P:Program}{w:World}{K:PySem.W.Frag}{mg:Str->Option Value}{base:Heap}{N ps:List Str}{qual:Str}{scope:Scope}{f:Addr}{cd:Value}{A:Around}{outer:List Env}{s s1:Shared}{H:Hp}{E:XK}{us:List Value}{vs:List V}
  (S:aR N ps scope)(hd:A.handled=none)(e0:rW P w K mg base A outer s H)(hl:vs.length=ps.length)(r:Vals vs us)
  (x:InCallC s s.heap.objs.size (bindL (envOfC qual scope s.heap.objs.size f cd).kindOf (ps.zip us) λ_=>none) (cellsFrom (s.heap.objs.size+1) scope.names []) (bindC (envOfC qual scope s.heap.objs.size f cd).kindOf (ps.zip us) λ_=>none) s1):
  Inv (nA CX P w K mg base N qual scope f cd A outer s H E) [] (start N vs) H s1:=by
 have dt:ps.length<=N.length:=by have:=congrArg List.length S.pre;rw[Wd] at this;omega
 obtain⟨h1,tk,rfl,hk⟩:=x.done;have xw:∀b:Addr,b∉(nA CX P w K mg base N qual scope f cd A outer s H E).ex:=λb z=>absurd (show b∈([]:List Addr) from z) (by simp);refine⟨⟨e0.mod,S.kind,rfl,rfl,Yd _,λy z c h1 h2=>?_,λy hy=>?_,λy c _ h=>?_,λ_=>hd,Around.frames_deeper e0.frames,.inr ⟨rfl,rfl⟩,λb z=>absurd z (xw b),e0.bs,e0.oW,λb _ _=>xw b,λb z=>absurd z (xw b),e0.kY,e0.su⟩,
  rfl,e0.bare,Un.kept hk,⟨_,x.toInCall.ns,λi y v h1 h2 h3=>?_⟩,λy c h=>⟨_,x.cell y c h⟩,e0.av.fresh (Yd _),λy c h=>?_,λp hp=>absurd (show p∈([]:List (Addr×Obj)) from hp) (by simp),e0.av.kept hk,?_⟩
 ·exact name_of_addr x.apart (PySem.mem_of_lookup h1) (PySem.mem_of_lookup h2)
 ·have hy:scope.names.lookup y=some .cell\/scope.names.lookup y=some .free:=hy;rcases hy with hy|hy;·exact Oo hy
  ·exact absurd rfl (S.Zex _ (PySem.mem_of_lookup hy))
 ·exact Ji (x.above y c (PySem.mem_of_lookup h))
 ·have hi:i<vs.length:=by
   unfold start at h2
   grind
  have ha:vs[i]?=some v:=by
   unfold start at h2;rw[Y6 (by simpa using hi),Yl] at h2;cases e:vs[i]? with
   |none=>grind
   |some a=>grind
  obtain⟨u,hu,rv⟩:=r.get ha;have hp:ps[i]?=some y:=by
   rw[←S.pre,List.getElem?_take_of_lt (by omega)];exact h1
  have UM:ps.Nodup:=by rw[←S.pre];exact S.nd.sublist (List.take_sublist _ _)
  refine⟨u,rv,?_⟩;rcases S.par y (Yh hp) with k|k;·exact .inl ⟨k,Nq UM hp hu k⟩
  ·obtain⟨c,e⟩:=Oo k;refine .inr ⟨.inl k,c,e,?_⟩;have q:=x.cell y c e;rw[Nr UM hp hu (by show scope.names.lookup y≠_;rw[k];decide)] at q;exact q
 ·exact e0.av.fresh (Ji (x.above y c (PySem.mem_of_lookup h)))
 ·unfold start;show _=N.length
  grind
theorem SI{CX:jW}{P:Program}{w:World}{K:PySem.W.Frag}{mg:Str->Option Value}{base:Heap}{k:Nat}{f:Addr}{name qual:Str}{params:Arguments}{body:List Stmt}{scope:Scope}{dV kV doc pm aC ct oc:Value}{an od:Option Addr}
  {o_:Array (Option Value)}{N ps:List Str}{sp:Sp}(lk:K.lookup f=some ⟨oc,od,.func (fnOf name qual params body scope dV kV doc pm an aC ct),o_⟩)(jV:codeIn K aC qual=true)(S:aR N ps scope)
  (len:∀vs H Q E,sp vs H Q E->vs.length=ps.length)
  (wK:∀(A:Around) (outer:List Env) (s:Shared) (H:Hp) (vs:List V) (Q:VK) (E:XK),di k (A.deeper (envOfC qual scope s.heap.objs.size f aC))->sp vs H Q E->
   ∃t,ia (nA CX P w K mg base N qual scope f aC A outer s H E) body t/\t {nx:=λ_ H'=>Q .ay H',rt:=Q} (start N vs) H):
  aH P w K mg base CX (k+1) f (fnOf name qual params body scope dV kV doc pm an aC ct) ps sp:=by
 refine⟨len,λA outer s H args us vs Q E hr e0 hb r nI=>?_⟩;have hl:=len _ _ _ _ nI;have KX:K.In s.heap:=e0.mod.sr.keeps λb o e=>(e0.bs b o e).1;have lim:s.heap.NoLimit:=e0.mod.nolimit.keeps λb o e=>(e0.bs b o e).1;have ZfS:∀y∈ps.zip us,scope.names.lookup y.1=some .local\/(scope.names.lookup y.1=some .cell/\((cellsFrom (s.heap.objs.size+1) scope.names []).lookup y.1).isSome=true):=λ⟨n,v⟩ hy=>by
  rcases S.par n (UL hy).1 with q|q;·exact .inl q
  ·exact .inr ⟨q,cellsFrom_some _ _ _ (.inl q)⟩
 refine codeAny_call_function hr.depth (KX _ _ lk) rfl S.co S.gen rfl (PySem.W.codeRec_of KX jV) (hb _ _ _ _ ?_);refine wpAny_newFunctionEnv_cells S.kind ZfS λenv he s1 x=>?_;subst he;refine⟨lim.keeps x.toInCall.keep,codeAny_func ?_⟩;obtain⟨t,ht,hq⟩:=wK A outer s H vs Q E (hr.deeper _) nI;have I:Inv (nA CX P w K mg base N qual scope f aC A outer s H E) [] (start N vs) H s1:=Zbd S hr.hd e0 hl r x;refine wpAny_mono (ht [] s1 (start N vs) H _ I hq) (λfl s' hs=>?_) λe s' hs=>hs;have fin:∀{aN:St} {H':Hp} {v:V} {u:Value},Inv (nA CX P w K mg base N qual scope f aC A outer s H E) [] aN H' s'->RelV v u->Q v H'->CE outer P w H s Q u s':=
  λ{aN H' v u} J rv q=>⟨v,H',J.os,J.bare,J.base,J.av,rv,q⟩
 cases fl with
 |ret u=>
  obtain⟨v,aN,H',J,rv,q⟩:=hs;exact fin J rv q
 |next=>
  obtain⟨aN,H',J,q⟩:=hs;exact fin (v:=V.ay) (u:=Value.none) J rfl q
 |brk=>
  obtain⟨_,_,_,q⟩:=hs;exact False.elim q
 |cont=>
  obtain⟨_,_,_,q⟩:=hs;exact False.elim q
section
variable {X:Cx}{x:Str}{p pos:Pos}{e:Expr}{es:List Expr}{t:TA}{id T:String}{r:List V->Hp->VK->Prop}
def qE(r:List V->Hp->VK->Prop)(t:TA):TE:=λσ H Q=>t σ H λvs H1=>r vs H1 Q
theorem bL(hc:c6 X (.builtin id) r)(hg:Gl X x)(hm:X.mg x=none)(hv:bootBuiltins x=some (.builtin id))(ha:PA X (e::es) t)(hn:x≠"__name__":=by decide)(mw:(x==("__debug__":Str))=false:=by decide)
  (he:starEach (e::es) X.env=(false,eval e X.env)::starEach es X.env:=by rfl)(dt:(backTo pos (starEach es X.env)).any (·.1)=false:=by rfl):PE X (.Call (.Name x p) (e::es) [] pos) (qE r t):=by
 intro pins s σ H Q I h;refine wpAny_Call_Name_kw (zA I hg hm hv ?_ hn mw);exact PyProof.Rows.callWith_builtin1 (az (ha pos pins s σ H _ I h) λus s1 ⟨vs,H1,I1,r1,q1⟩=>hc pins s1 σ H1 vs us Q I1 r1 q1) he dt
theorem eN(hc:c6 X (.type T) r)(hg:Gl X x)(hm:X.mg x=none)(hv:bootBuiltins x=some (.type T))(ha:PA X (e::es) t)(hn:x≠"__name__":=by decide)(mw:(x==("__debug__":Str))=false:=by decide)
  (he:starEach (e::es) X.env=(false,eval e X.env)::starEach es X.env:=by rfl)(dt:(backTo pos (starEach es X.env)).any (·.1)=false:=by rfl):PE X (.Call (.Name x p) (e::es) [] pos) (qE r t):=by
 intro pins s σ H Q I h;refine wpAny_Call_Name_kw (zA I hg hm hv ?_ hn mw);exact PyProof.Rows.callWith_type1 (az (ha pos pins s σ H _ I h) λus s1 ⟨vs,H1,I1,r1,q1⟩=>hc pins s1 σ H1 vs us Q I1 r1 q1) he dt
end
end L2
namespace HT
open PySem PyProof.Rows
section
open PySem.SeqAt
open PySem.AutoSeq1 (wpAny_loadPart')
open PySem.MeetsSeq PySem.MeetsSeq2 PySem.MeetsSeq3
end
section
variable {prog:Program}{w:World}{A:Around}{E:Value->Shared->Prop}{s:Shared}
theorem Zdd{t b:Addr}{vs ws:List Value}{Q:Value->Shared->Prop}(ht:IsTup s.heap t vs.toArray)(hb:IsTup s.heap b ws.toArray)(hv:vs≠[])
  (h1:ws=[]->Q (.ref t) s)(h2:ws≠[]->Q (.ref s.heap.objs.size) {s with heap:=s.heap.push {cls:=.type "tuple",data:=.seq (vs++ws).toArray}})
  (hsz:vs.length+ws.length<=sizeLine):wpAny (model prog w) A (binaryOp .Add (.ref t) (.ref b)) Q E s:=by
 obtain⟨⟨cls,dd,data,sl⟩,ho,hc,n,hd⟩:=id ht;obtain⟨⟨Zh3,UN,data2,UO⟩,sC,UP,n2,hd2⟩:=id hb;simp only at hc hd UP hd2;subst hc hd UP hd2;have e:vs.toArray++ws.toArray=(vs++ws).toArray:=by simp
 by_cases hw:ws=[]
 ·exact concat_meets ⟨_,ho,rfl⟩ ⟨_,sC,rfl⟩ noFill_tuple_add seq_tuple_add slot_tuple_add PySem.F.entry_tuple_add (PySem.F.args_tuple_add_2 _ _)
   (tuple_addW1 t b vs.toArray ws.toArray n n2 dd UN sl UO (by simpa using hv) (by simp[hw])) ⟨ho,sC,h1 hw⟩
 ·refine concat_meets ⟨_,ho,rfl⟩ ⟨_,sC,rfl⟩ noFill_tuple_add seq_tuple_add slot_tuple_add PySem.F.entry_tuple_add (PySem.F.args_tuple_add_2 _ _)
   (tuple_addW2 t b vs.toArray ws.toArray n n2 dd UN sl UO (by simpa using hv) (by simpa using hw) (by rw[Yu,Yu];exact hsz)) ⟨ho,sC,?_⟩
  rw[e];exact h2 hw
def gP(n d:Nat):Option Int->Nat
 |none=>d
 |some v=>if v<0 then(v+(n:Int)).toNat else min v.toNat n
theorem Zde(n d k:Nat):gP n d (some (k:Int))=min k n:=by
 show(if(k:Int)<0 then((k:Int)+(n:Int)).toNat else min (k:Int).toNat n)=min k n;rfl
end
end HT
namespace L2
open PySem PySem.Spec PyProof.Rows
abbrev TO:=St->Hp->(Option Int->Hp->Prop)->Prop
def PO(X:Cx)(e:Option Expr)(t:TO):Prop:=
 ∀(pins:List (Addr×Obj)) (s:Shared) (σ:St) (H:Hp) (Q:Option Int->Hp->Prop),Inv X pins σ H s->t σ H Q->
  wpAny (model X.prog X.w) X.A (evalPart e X.env) (λu s'=>∃o H',Inv X pins σ H' s'/\IsPart u o/\Q o H') X.xe s
def Zdf:TO:=λ_ H Q=>Q none H
inductive PV(Q:Option Int->Hp->Prop)(x:V)(H1:Hp):Prop
 |mk (i) (aB:x=.int i) (aT:Q (some i) H1):PV Q x H1
def ZfT(t:TE):TO:=λσ H Q=>t σ H λx H1=>PV Q x H1
theorem intsAre_of{ns:List Int}:∀{us:List Value},Vals (ns.map V.int) us->IntsAre us ns:=by
 induction ns with
 |nil=>intro us r;rw[List.map_nil] at r;cases r;exact .nil
 |cons n ns ih=>
  intro us r;cases r with
  |cons r1 r2=>
   obtain⟨t,e⟩:=r1;subst e;exact .cons n t (ih r2)
section
variable {X:Cx}{e:Expr}{te:TE}{lo hi:Option Expr}{tl th:TO}{pos p2:Pos}
theorem PX:PO X none Zdf:=by
 intro pins s σ H Q I h;exact wpAny_pure ⟨none,H,I,.none,h⟩
theorem PY(h:PE X e te):PO X (some e) (ZfT te):=by
 intro pins s σ H Q I hw;refine az (h pins s σ H _ I hw) λu s1 zq=>?_;obtain⟨x,H1,I1,r1,q1⟩:=zq;obtain⟨i,rfl,q⟩:=q1;obtain⟨t,rfl⟩:=r1;exact⟨some i,H1,I1,.int i t,q⟩
def uU(X:Cx)(r:V->Option Int->Option Int->Hp->VK->Prop):Prop:=
 ∀(pins:List (Addr×Obj)) (s:Shared) (σ:St) (H:Hp) (x:V) (v vl vu:Value) (lo hi:Option Int) (sl:Addr) (Q:VK),Inv X pins σ H s->RelV x v->s.heap.IsSliceOf sl vl vu .none->IsPart vl lo->IsPart vu hi->r x lo hi H Q->
  ∃T id,typeLookup (.type T) "__getitem__"=pure (some (.builtin id))/\s.TypeIs v T/\wpAny (model X.prog X.w) X.A (getItem v (.ref sl)) (EP X pins σ Q) X.xe s
def tSl(r:V->Option Int->Option Int->Hp->VK->Prop)(te:TE)(tl th:TO):TE:=λσ H Q=>te σ H λx H1=>tl σ H1 λl H2=>th σ H2 λu H3=>r x l u H3 Q
theorem Oq{r:V->Option Int->Option Int->Hp->VK->Prop}(hr:uU X r)(he:PE X e te)(hl:PO X lo tl)(hu:PO X hi th):PE X (.Subscript e (.Slice lo hi none p2) pos) (tSl r te tl th):=by
 intro pins s σ H Q I h;refine Subscript_ (az (he pins s σ H _ I h) λv s1 zq=>?_);obtain⟨x,H1,I1,r1,q1⟩:=zq;refine wpAny_Slice (az (hl pins s1 σ H1 _ I1 q1) λvl s2 zq=>?_);obtain⟨l,H2,I2,pl,q2⟩:=zq;refine az (hu pins s2 σ H2 _ I2 q2) λvu s3 zq=>?_;obtain⟨u,H3,I3,pu,q3⟩:=zq;rw[evalPart_none];refine wpAny_pure ?_;have I4:Inv X pins σ H3 {s3 with heap:=s3.heap.push {cls:=.type "slice",data:=.fields #[vl,vu,.none]}}:=I3.kept (t':=s3.toks) λb ob q=>Yc _ q;obtain⟨T,id,hT,ht,hg⟩:=hr pins {s3 with heap:=s3.heap.push {cls:=.type "slice",data:=.fields #[vl,vu,.none]}} σ H3 x v vl vu l u s3.heap.objs.size Q I4 r1 (Heap.IsSliceOf.new ..) pl pu q3;show wpAny (model X.prog X.w) X.A (subscriptTail e (.Slice lo hi none p2) v (.ref s3.heap.objs.size)) (EP X pins σ Q) X.xe {s3 with heap:=s3.heap.push {cls:=.type "slice",data:=.fields #[vl,vu,.none]}};exact tail_any (ops:=[.ref s3.heap.objs.size,v]) ht hT hg (by with_unfolding_all rfl)
def oS(xs:List V)(lo hi:Option Int):List V:=(xs.drop (HT.gP xs.length 0 lo)).take (HT.gP xs.length xs.length hi-HT.gP xs.length 0 lo)
theorem My(xs:List V)(lo hi:Option Int):(oS xs lo hi).length<=xs.length:=by
 unfold oS
 grind
def ZfU(K:PySem.W.Frag):R2:=λx y H Q=>∃a b xs ys,x=.ref a/\y=.ref b/\aA K H a xs/\aA K H b ys/\xs≠[]/\xs.length+ys.length<=sizeLine/\
 (ys=[]->Q (.ref a) H)/\(ys≠[]->∀p,H p=none->Q (.ref p) (upd H p (.tup (xs++ys))))
theorem Vals.Gq{xs:List V}{us:List Value}(r:Vals xs us):us=[]↔xs=[]:=by
 cases r with
 |nil=>simp
 |cons _ _=>simp
theorem Zdg:cL X (binaryOp .Add) (ZfU X.K):=by
 rintro pins s σ H x y v u Q I rx ry ⟨a,b,xs,ys,rfl,rfl,ha,hb,hx,hz,q1,q2⟩;cases rx;cases ry;obtain⟨ai,r1,p1,_⟩:=I.tuple ha;obtain⟨iI,r2,p2,_⟩:=I.tuple hb;refine HT.Zdd p1 p2 (λz=>hx (r1.Gq.mp z)) (λz=>⟨.ref a,H,I,rfl,q1 (r2.Gq.mp z)⟩) (λz=>⟨.ref s.heap.objs.size,_,I.laid (o:=.tup (xs++ys)) (λb ob q=>Yc _ q) (Yd _) ?_,rfl,q2 (λw=>z (r2.Gq.mpr w)) _ (I.av.fresh (Yd _))⟩) (by rw[←r1.length,←r2.length];exact hz);exact⟨by rw[Yi];exact hz,_,r1.append r2,mZ.new _ _⟩
end
def jX(n:Nat)(i:Int):Option Nat:=if 0<=i then(if i<n then some i.toNat else none) else if-(n:Int)<=i then some (i+n).toNat else none
def dv{α:Type}(xs:List α)(i:Int):Option α:=(jX xs.length i).bind λj=>xs[j]?
theorem Gr{n:Nat}{i:Int}{j:Nat}(h:jX n i=some j):seqIndex? i n=some j/\j<n/\-(n:Int)<=i/\i<n:=by
 unfold jX at h;by_cases h0:0<=i
 ·rw[if_pos h0] at h;by_cases h1:i<n
  ·rw[if_pos h1] at h;have e:=Yp h;exact⟨by rw[seqIndex_of h0 h1,e],by omega,by omega,h1⟩
  ·grind
 ·rw[if_neg h0] at h;by_cases h1:-(n:Int)<=i
  ·rw[if_pos h1] at h;have e:=Yp h;exact⟨by rw[seqIndex_neg (by omega) h1,e],by omega,h1,by omega⟩
  ·grind
theorem Gs{α:Type}{xs:List α}{i:Int}{v:α}(h:dv xs i=some v):∃j,seqIndex? i xs.length=some j/\xs[j]?=some v/\j<xs.length/\-(xs.length:Int)<=i/\i<xs.length:=by
 unfold dv at h;cases e:jX xs.length i with
 |none=>grind
 |some j=>
  obtain⟨h1,h2,h3,h4⟩:=Gr e
  grind
theorem hV{α:Type}{xs:List α}{j:Nat}{v:α}(h:xs[j]?=some v):dv xs (j:Int)=some v:=by
 have e:jX xs.length (j:Int)=some j:=by
  unfold jX
  grind
 unfold dv;rw[e];exact h
def Zdh(b:Expr):Prop:=∀o i,subscripted b false o i=operate [o,i] (getItem o i)
def jY(X:Cx)(r:R2):Prop:=
 ∀(value slice:Expr) (pins:List (Addr×Obj)) (s:Shared) (σ:St) (H:Hp) (x y:V) (v u:Value) (Q:VK),Inv X pins σ H s->RelV x v->RelV y u->r x y H Q->
  subscripted slice false v u=operate [v,u] (getItem v u)->wpAny (model X.prog X.w) X.A (subscriptTail value slice v u) (EP X pins σ Q) X.xe s
def UQ(X:Cx)(id:String)(r:V->List V->Hp->VK->Prop):Prop:=
 ∀(pins:List (Addr×Obj)) (s:Shared) (σ:St) (H:Hp) (x:V) (xs:List V) (v:Value) (us:List Value) (Q:VK),Inv X pins σ H s->RelV x v->Vals xs us->r x xs H Q->
  wpAny (model X.prog X.w) X.A (call (.builtin id) (v::us)) (EP X pins σ Q) X.xe s
section
variable {X:Cx}{a b:Expr}{ta tb:TE}{pos:Pos}
theorem jY.or{r r':R2}(h:jY X r)(h':jY X r'):jY X (λx y H Q=>r x y H Q\/r' x y H Q):=by
 intro value slice pins s σ H x y v u Q I rx ry q hs;rcases q with q|q;·exact h value slice pins s σ H x y v u Q I rx ry q hs
 ·exact h' value slice pins s σ H x y v u Q I rx ry q hs
theorem bg{r:R2}(hr:jY X r)(ha:PE X a ta)(hb:PE X b tb)(hs:Zdh b):PE X (.Subscript a b pos) (k_ r ta tb):=by
 intro pins s σ H Q I h;exact Subscript_ (IA ha hb I h λv u s2 x y H2 I2 rx ry q=>hr a b pins s2 σ H2 x y v u Q I2 rx ry q (hs _ _))
inductive Rj(K:PySem.W.Frag)(x:V)(y:V)(H:Hp)(Q:VK):Prop
 |mk (p xs i v) (aB:x=.ref p) (aT:y=.int i) (bq:aj K H p xs) (bR:dv xs i=some v) (cM:Q v H):Rj K x y H Q
def w_(K:PySem.W.Frag):R2:=λx y H Q=>Rj K x y H Q
inductive Rk(K:PySem.W.Frag)(x:V)(y:V)(H:Hp)(Q:VK):Prop
 |mk (p xs i v) (aB:x=.ref p) (aT:y=.int i) (bq:aA K H p xs) (bR:dv xs i=some v) (cM:Q v H):Rk K x y H Q
def ID(K:PySem.W.Frag):R2:=λx y H Q=>Rk K x y H Q
inductive Rl(x:V)(y:V)(H:Hp)(Q:VK):Prop
 |mk (z i c) (aB:x=.str z) (aT:y=.int i) (bq:z.length<=sizeLine) (bR:dv z.cps.toList i=some c) (cM:Q (.str ⟨#[c]⟩) H):Rl x y H Q
def Tx:R2:=λx y H Q=>Rl x y H Q
theorem Gu:jY X (w_ X.K):=by
 intro value slice pins s σ H x y v u Q I rx ry h hs;obtain⟨p,xs,i,z,rfl,rfl,hq,he,q⟩:=h;cases rx;obtain⟨t,rfl⟩:=ry;obtain⟨ai,r,pl,hz⟩:=I.list hq;obtain⟨j,h1,h2,h3,h4,h5⟩:=Gs he;obtain⟨w,ew,f_⟩:=r.get h2;have hl:=r.length;have hn:=rC;have fin:EP X pins σ Q w s:=⟨z,H,I,f_,q⟩;by_cases h0:0<=i
 ·have hj:i.toNat=j:=by
   rw[seqIndex_of h0 h5] at h1;exact Yp h1
  exact item_listR pl.isList h0 (by omega) (by rw[hj];simpa using ew) fin hs
 ·have hj:(i+(ai.toArray.size:Int)).toNat=j:=by
   rw[seqIndex_neg (by omega) h4] at h1
   grind
  exact subscriptTail_builtinR (x:=w) pl.isList.typeIs slot_list_getitem.lookup
   (wpAny_getItem_list_neg pl.isList (by omega) (by rw[Yu]<;>omega) (by omega) (by rw[hj];simpa using ew) ⟨rfl,fin⟩) hs
theorem Rm:jY X (ID X.K):=by
 intro value slice pins s σ H x y v u Q I rx ry h hs;obtain⟨p,xs,i,z,rfl,rfl,hq,he,q⟩:=h;cases rx;obtain⟨t,rfl⟩:=ry;obtain⟨ai,r,pl,hz⟩:=I.tuple hq;obtain⟨j,h1,h2,h3,h4,h5⟩:=Gs he;obtain⟨w,ew,f_⟩:=r.get h2;have hn:=rC;exact subscriptTail_builtinR pl.typeIs slot_tuple_getitem.lookup
  (getItem_tuple pl (by omega) (by omega) (by rw[Yu,←r.length];exact h1) (by simpa using ew) ⟨rfl,⟨z,H,I,f_,q⟩⟩) hs
theorem wy:jY X Tx:=by
 intro value slice pins s σ H x y v u Q I rx ry h hs;obtain⟨z,i,c,rfl,rfl,hz,he,q⟩:=h;obtain⟨t,rfl⟩:=rx;obtain⟨t',rfl⟩:=ry;obtain⟨j,h1,h2,h3,h4,h5⟩:=Gs he;have hl:z.cps.toList.length=z.length:=by simp[Str.length]
 rw[hl] at h1 h4 h5;have hn:=rC;exact tail_any (typeIs_str s z t) slot_str_getitem.lookup (getItem_str (by
  rw[(decide_eq_false (by omega)),(decide_eq_false (by omega)),Bool.or_false]) (by rw[h1];simpa using h2) ⟨.str ⟨#[c]⟩,H,I.tok _,⟨_,rfl⟩,q⟩) hs
def JH(K:PySem.W.Frag):R2:=λx y H Q=>w_ K x y H Q\/ID K x y H Q\/Tx x y H Q
theorem Zey:jY X (JH X.K):=Gu.or (Rm.or wy)
theorem Zak(ai:List Value)(n j:Nat)(u:Value):Obj.mapSeq (·.setIfInBounds j u) {cls:=.type "list",data:=.seq ai.toArray n}={cls:=.type "list",data:=.seq (ai.set j u).toArray n}:=by
 simp[Obj.mapSeq]
theorem Inv.lst{pins:List (Addr×Obj)}{σ:St}{H:Hp}{s:Shared}{p:Addr}{xs:List V}(I:Inv X pins σ H s)(h:H p=some (.lst xs)):
  ∃(ai:List Value) (n:Nat),Vals xs ai/\s.heap.get? p=some {cls:=.type "list",data:=.seq ai.toArray n}/\xs.length<=sizeLine:=by
 obtain⟨z,ai,n,r,e⟩:=I.av p _ h
 grind
theorem Inv.Zez{pins:List (Addr×Obj)}{σ:St}{H:Hp}{s:Shared}{p:Addr}{xs ys:List V}{ai its':List Value}{n n':Nat}{f:Obj->Obj}(I:Inv X pins σ H s)(h:H p=some (.lst xs))
  (ho:s.heap.get? p=some {cls:=.type "list",data:=.seq ai.toArray n})(hf:f {cls:=.type "list",data:=.seq ai.toArray n}={cls:=.type "list",data:=.seq its'.toArray n'})(r:Vals ys its')(hz:ys.length<=sizeLine)(t:Nat):
  Inv X pins σ (upd H p (.lst ys)) {s with heap:=s.heap.update p f,toks:=t}:=by
 have e:(s.heap.update p f).get? p=some {cls:=.type "list",data:=.seq its'.toArray n'}:=by
  rw[Jz f ho (by rw[hf]<;>rfl),hf]
 refine I.write (x:=p) (e:=p) (by rw[h];trivial) (.inl rfl) (λb u hb q=>(Heap.get?_update_other _ _ (Ne.symm hb)).trans q) ⟨_,e⟩ ?_;exact⟨hz,its',n',r,e⟩
def ZfV:V->V->V->Hp->(Hp->Prop)->Prop:=λo i v H Q=>∃p xs k j,o=.ref p/\i=.int k/\H p=some (.lst xs)/\jX xs.length k=some j/\Q (upd H p (.lst (xs.set j v)))
theorem set_list:rT X ZfV:=by
 rintro pins s σ H o i v ov iv u Q I ro ri rv ⟨p,xs,k,j,rfl,rfl,hp,hj,q⟩;cases ro;obtain⟨t,rfl⟩:=ri;obtain⟨ai,n,r,ho,hz⟩:=I.lst hp;obtain⟨h1,h2,h3,h4⟩:=Gr hj;have hl:=r.length;have hn:=rC;have I':Inv X pins σ (upd H p (.lst (xs.set j v))) {s with heap:=s.heap.update p (Obj.mapSeq (·.setIfInBounds j u))}:=
  I.Zez hp ho (Zak ai n j u) (r.set rv j) (by rw[Jb];exact hz) s.toks
 by_cases h0:0<=k
 ·have hk:k.toNat=j:=by
   rw[seqIndex_of h0 h4] at h1
   grind
  exact PySem.W.ki_setAt ho h0 (by omega) (by rw[Yu,←hl];exact h4) (by rw[hk];exact⟨_,I',q⟩)
 ·have hk:(k+(ai.toArray.size:Int)).toNat=j:=by
   rw[seqIndex_neg (by omega) h3] at h1
   grind
  exact PySem.W.ki_setBack ho (by omega) (by rw[Yu,←hl];exact h3) (by omega) (by rw[hk];exact⟨_,I',q⟩)
theorem YX(lo hi:Option Int)(n:Nat):(sliceBounds lo hi none n).1=((HT.gP n 0 lo:Nat):Int)/\(sliceBounds lo hi none n).2.1=((HT.gP n n hi:Nat):Int)/\(sliceBounds lo hi none n).2.2=1:=by
 refine⟨?_,?_,rfl⟩
 ·cases lo with
  |none=>rfl
  |some i=>
   simp only[sliceBounds,HT.gP]
   grind
 ·cases hi with
  |none=>rfl
  |some i=>
   simp only[sliceBounds,HT.gP]
   grind
theorem X_(ai:List Value)(lo hi:Option Int):slicePick ai.toArray lo hi none=((ai.drop (HT.gP ai.length 0 lo)).take (HT.gP ai.length ai.length hi-HT.gP ai.length 0 lo)).toArray:=by
 obtain⟨h1,h2,h3⟩:=YX lo hi ai.toArray.size;unfold slicePick;rw[h1,h2,h3];simp only[sliceRange_one,pick_run]<;>rfl
def ZgH(K:PySem.W.Frag):V->Option Int->Option Int->Hp->VK->Prop:=λx lo hi H Q=>∃a xs,x=.ref a/\aj K H a xs/\∀p,H p=none->Q (.ref p) (upd H p (.lst (oS xs lo hi)))
theorem Zdi:uU X (ZgH X.K):=by
 rintro pins s σ H x v vl vu lo hi sl Q I rx hs pl pu ⟨a,xs,rfl,hx,q⟩;cases rx;obtain⟨ai,r,ht,hz⟩:=I.list hx;have hlen:=r.length;refine⟨"list",_,slot_list_getitem.lookup,ht.isList.typeIs,wpAny_getItem_list_slice ht.isList hs pl pu .none (by simp) ?_ (by rw[Yu]<;>omega)⟩;rw[X_,←hlen];refine⟨.ref s.heap.objs.size,_,I.laid (o:=.lst (oS xs lo hi)) (λb ob q=>Yc _ q) (Yd _) ?_,rfl,q _ (I.av.fresh (Yd _))⟩;exact⟨Y4 (My xs lo hi) hz,_,0,(r.drop (HT.gP xs.length 0 lo)).take (HT.gP xs.length xs.length hi-HT.gP xs.length 0 lo),Ys _ rfl⟩
def i4:V->Bool
 |.ay=>true
 |.bl _=>true
 |.int _=>true
 |.str _=>true
 |_=>false
def jA:V->V->Bool
 |.ay,.ay=>true
 |.bl a,.bl b=>a==b
 |.bl a,.int b=>(if a then 1 else 0)==b
 |.int a,.bl b=>a==(if b then 1 else 0)
 |.int a,.int b=>a==b
 |.str a,.str b=>a==b
 |_,_=>false
theorem Rn{A:Around}{s:Shared}{y x:V}{u v:Value}(ry:RelV y u)(rx:RelV x v)(fy:i4 y=true)(fx:i4 x=true):SeqAt.EqAt A s u v (jA y x):=by
 cases y with
 |ay=>
  cases ry;cases x with
  |ay=>cases rx;exact SeqAt.EqAt.same _
  |bl b=>cases rx;exact SeqAt.EqAt.none_bool b
  |int b=>obtain⟨t,rfl⟩:=rx;exact SeqAt.EqAt.none_int b t
  |str b=>obtain⟨t,rfl⟩:=rx;exact SeqAt.EqAt.none_str b t
  |_=>exact absurd (show false=true from fx) Ym
 |bl a=>
  cases ry;cases x with
  |ay=>cases rx;exact SeqAt.EqAt.bool_none a
  |bl b=>cases rx;exact SeqAt.EqAt.bool_bool a b
  |int b=>obtain⟨t,rfl⟩:=rx;exact SeqAt.EqAt.bool_int a b t
  |str b=>obtain⟨t,rfl⟩:=rx;exact SeqAt.EqAt.bool_str a b t
  |_=>exact absurd (show false=true from fx) Ym
 |int a=>
  obtain⟨t',rfl⟩:=ry;cases x with
  |ay=>cases rx;exact SeqAt.EqAt.int_none a t'
  |bl b=>cases rx;exact SeqAt.EqAt.int_bool a t' b
  |int b=>obtain⟨t,rfl⟩:=rx;exact SeqAt.EqAt.int_int a t' b t
  |str b=>obtain⟨t,rfl⟩:=rx;exact SeqAt.EqAt.int_str a t' b t
  |_=>exact absurd (show false=true from fx) Ym
 |str a=>
  obtain⟨t',rfl⟩:=ry;cases x with
  |ay=>cases rx;exact SeqAt.EqAt.str_none a t'
  |bl b=>cases rx;exact SeqAt.EqAt.str_bool a t' b
  |int b=>obtain⟨t,rfl⟩:=rx;exact SeqAt.EqAt.str_int a t' b t
  |str b=>obtain⟨t,rfl⟩:=rx;exact SeqAt.EqAt.str_str a t' b t
  |_=>exact absurd (show false=true from fx) Ym
 |_=>exact absurd (show false=true from fy) Ym
def ic(x:V)(u:Value):Bool:=match u with
 |.none=>jA .ay x
 |.bool b=>jA (.bl b) x
 |.int i _=>jA (.int i) x
 |.str z _=>jA (.str z) x
 |_=>false
theorem Ro{x y:V}{u:Value}(r:RelV y u)(f:i4 y=true):ic x u=jA y x:=by
 cases y with
 |ay=>cases r;rfl
 |bl b=>cases r;rfl
 |int i=>obtain⟨t,rfl⟩:=r;rfl
 |str z=>obtain⟨t,rfl⟩:=r;rfl
 |_=>exact absurd (show false=true from f) Ym
theorem wj{x:V}:∀{xs:List V} {us:List Value},Vals xs us->xs.all i4=true->us.any (ic x)=xs.any λy=>jA y x
 |_,_,.nil,_=>rfl
 |y::xs,u::us,.cons r t,f=>by
  rw[Jd,Wk] at f;rw[Jm,Jm,Ro r f.1,wj t f.2]
theorem wc{A:Around}{s:Shared}{x:V}{v:Value}(rx:RelV x v)(fx:i4 x=true):∀{xs:List V} {us:List Value},Vals xs us->xs.all i4=true->∀u∈us,SeqAt.EqAt A s u v (ic x u):=by
 intro xs us h;induction h with
 |nil=>intro _ u hu;cases hu
 |cons r t ih=>
  intro f u' hu;rw[Jd,Wk] at f;rcases Yt.mp hu with rfl|hu;·rw[Ro r f.1];exact Rn r rx f.1 fx
  ·exact ih f.2 u' hu
def dI(x:V)(xs:List V):Bool:=xs.any λy=>jA y x
def xx(K:PySem.W.Frag)(neg:Bool):R2:=λx y H Q=>∃p xs,y=.ref p/\(aj K H p xs\/aA K H p xs)/\i4 x=true/\xs.all i4=true/\Q (.bl (if neg then !dI x xs else dI x xs)) H
theorem Zbe:cL X (compareOp .In) (xx X.K false):=by
 rintro pins s σ H x y v u Q I rx ry ⟨p,xs,rfl,hq,fx,fs,q⟩;cases ry;rcases hq with hq|hq
 ·obtain⟨ai,r,pl,hz⟩:=I.list hq;refine SeqAt.in_listAt (ic x) pl.isList (λw hw=>wc rx fx r fs w (by simpa using hw)) ⟨.bl _,H,I,rfl,?_⟩;rw[show ai.toArray.any (ic x)=ai.any (ic x) by simp,wj r fs];exact q
 ·obtain⟨ai,r,pl,hz⟩:=I.tuple hq;refine SeqAt.in_tupleAt (ic x) pl (λw hw=>wc rx fx r fs w (by simpa using hw)) ⟨.bl _,H,I,rfl,?_⟩;rw[show ai.toArray.any (ic x)=ai.any (ic x) by simp,wj r fs];exact q
theorem YY:cL X (compareOp .NotIn) (xx X.K true):=by
 rintro pins s σ H x y v u Q I rx ry ⟨p,xs,rfl,hq,fx,fs,q⟩;cases ry;rcases hq with hq|hq
 ·obtain⟨ai,r,pl,hz⟩:=I.list hq;refine SeqAt.notIn_listAt (ic x) pl.isList (λw hw=>wc rx fx r fs w (by simpa using hw)) ⟨.bl _,H,I,rfl,?_⟩;rw[show ai.toArray.any (ic x)=ai.any (ic x) by simp,wj r fs];exact q
 ·obtain⟨ai,r,pl,hz⟩:=I.tuple hq;refine SeqAt.notIn_tupleAt (ic x) pl (λw hw=>wc rx fx r fs w (by simpa using hw)) ⟨.bl _,H,I,rfl,?_⟩;rw[show ai.toArray.any (ic x)=ai.any (ic x) by simp,wj r fs];exact q
theorem Ms:c6 X (.builtin "len") (λxs H Q=>∃p ys,xs=[.ref p]/\(aj X.K H p ys\/aA X.K H p ys)/\Q (.int ys.length) H):=by
 rintro pins s σ H xs us Q I r ⟨p,ys,rfl,hq,q⟩;obtain⟨u,rfl,rx⟩:=vals1 r;cases rx;have hn:=rC;rcases hq with hq|hq
 ·obtain⟨ai,r',pl,hz⟩:=I.list hq;have hlen:=r'.length;exact Calls.call_len_list pl.isList (by simp only[Yu]<;>omega) ⟨.int ys.length,H,I.tok _,⟨s.toks+1,by rw[Yu,hlen]⟩,q⟩
 ·obtain⟨ai,r',pl,hz⟩:=I.tuple hq;have hlen:=r'.length;exact len_tuple pl (by simp only[Yu]<;>omega) ⟨.int ys.length,H,I.tok _,⟨s.toks+1,by rw[Yu,hlen]⟩,q⟩
theorem YZ:c6 X (.builtin "len") (λxs H Q=>∃z,xs=[.str z]/\z.length<=sizeLine/\Q (.int z.length) H):=by
 rintro pins s σ H xs us Q I r ⟨z,rfl,hz,q⟩;obtain⟨u,rfl,t,rfl⟩:=vals1 r;have hn:=rC;exact len_str (by omega) ⟨.int z.length,H,I.tok _,⟨_,rfl⟩,q⟩
theorem tK:c6 X (.type "tuple") (λxs H Q=>∃p ys,xs=[.ref p]/\((aj X.K H p ys/\∀l,H l=none->Q (.ref l) (upd H l (.tup ys)))\/(aA X.K H p ys/\Q (.ref p) H))):=by
 rintro pins s σ H xs us Q I r ⟨p,ys,rfl,h⟩;obtain⟨u,rfl,rx⟩:=vals1 r;cases rx;rcases h with⟨hq,q⟩|⟨hq,q⟩
 ·obtain⟨ai,r',pl,hz⟩:=I.list hq;have hlen:=r'.length;refine call_tuple_list pl.isList (λh' kp=>?_) (by simp only[Yu]<;>omega);have I1:=I.kept (t':=s.toks) kp;have I2:Inv X pins σ (upd H h'.objs.size (.tup ys)) {s with heap:=h'.push {cls:=.type "tuple",data:=.seq ai.toArray}}:=
   I1.laid (λb o e=>Yc _ e) (Yd _) (show cQ X.prog X.w _ _ _ (.tup ys) from⟨hz,ai,r',mZ.new _ _⟩)
  exact⟨.ref h'.objs.size,_,I2,rfl,q _ (I1.av.fresh (Yd _))⟩
 ·obtain⟨ai,r',pl,hz⟩:=I.tuple hq;exact call_tuple_same pl ⟨.ref p,H,I,rfl,q⟩
def JI(K:PySem.W.Frag)(T:String)(x:V)(H:Hp):Prop:=match x with
 |.str _=>T="str"
 |.int _=>T="int"
 |.ref p=>(T="list"/\∃xs,aj K H p xs)\/(T="tuple"/\∃o,K.lookup p=some o/\o.cls=.type "tuple"/\o.dict=none)\/
   (T="dict"/\((∃kvs,H p=some (.dK kvs))\/∃kvs,H p=some (.dT kvs)))\/(T="set"/\∃S n,H p=some (.set S n))
 |_=>False
theorem Rp{pins:List (Addr×Obj)}{σ:St}{H:Hp}{s:Shared}{T:String}{x:V}{v:Value}(I:Inv X pins σ H s)(r:RelV x v)(ty:JI X.K T x H):
  s.TypeIs v T/\∀a,v=.ref a->∃ob,s.heap.get? a=some ob/\ob.dict=none:=by
 cases x with
 |str z=>
  obtain⟨t,rfl⟩:=r;cases(show T="str" from ty);exact⟨typeIs_str s z t,λ_ e=>nomatch e⟩
 |int i=>
  obtain⟨t,rfl⟩:=r;cases(show T="int" from ty);exact⟨typeIs_int s i t,λ_ e=>nomatch e⟩
 |ref p=>
  cases r;rcases ty with⟨rfl,xs,hq⟩|⟨rfl,o,hk,hc,hd⟩|⟨rfl,hk⟩|⟨rfl,S,n,hk⟩
  ·obtain⟨ai,_,pl,_⟩:=I.list hq;refine⟨pl.isList.typeIs,λa e=>?_⟩;obtain⟨o,n,e,c,hd,_⟩:=pl
   grind
  ·refine⟨⟨o,I.dN p o hk,hc⟩,λa e=>?_⟩;cases e;exact⟨o,I.dN _ o hk,hd⟩
  ·have z:∃o,s.heap.get? p=some o/\o.ExactDict:=by
    rcases hk with⟨kvs,hk⟩|⟨kvs,hk⟩
    ·obtain⟨_,_,_,_,o,_,_,e,ex,_⟩:=I.av p _ hk;exact⟨o,e,ex⟩
    ·obtain⟨_,_,_,_,o,_,_,e,ex,_⟩:=I.av p _ hk;exact⟨o,e,ex⟩
   obtain⟨o,e,ex⟩:=z;refine⟨⟨o,e,ex.1⟩,λa e2=>?_⟩;cases e2;exact⟨o,e,ex.2.1⟩
  ·obtain⟨o,_,_,_,e,ex,_⟩:=I.av p _ hk;refine⟨⟨o,e,ex.1⟩,λa e2=>?_⟩;cases e2;exact⟨o,e,ex.2.1⟩
 |_=>exact False.elim ty
def IE(K:PySem.W.Frag)(T:String)(r:V->List V->Hp->VK->Prop)(to:TE):TE:=λσ H Q=>to σ H λx H1=>JI K T x H1/\r x [] H1 Q
def xy(K:PySem.W.Frag)(T:String)(r:V->List V->Hp->VK->Prop)(to:TE)(t:TA):TE:=λσ H Q=>to σ H λx H1=>JI K T x H1/\t σ H1 λxs H2=>r x xs H2 Q
variable {o e:Expr}{es:List Expr}{to:TE}{t:TA}{name:Str}{apos cG:Pos}{T id:String}{r:V->List V->Hp->VK->Prop}
theorem ZeA(pa:PlainAttrs T)(slot:Slot T name id)(JJ:typeOf (.builtin id)=pure (.type "method_descriptor"))(hm:UQ X id r)(ho:PE X o to)
  (oI:attributeBase o name X.env (eval o X.env)=eval o X.env:=by rfl)(oK:(apos.endLine==cG.line)=true:=by rfl):PE X (.Call (.Attribute o name apos) [] [] cG) (IE X.K T r to):=by
 intro pins s σ H Q I h;refine wpAny_Call_method0_late oI oK (az (ho pins s σ H _ I h) λv s1 zq=>?_);obtain⟨x,H1,I1,r1,ty,q1⟩:=zq;obtain⟨h1,h2⟩:=Rp I1 r1 ty;exact⟨T,id,pa,slot,JJ,h1,h2,Calls.callWith_builtin rfl (PySem.evalArgs_none (hm pins s1 σ H1 x [] v [] Q I1 r1 .nil q1))⟩
theorem fQ(pa:PlainAttrs T)(slot:Slot T name id)(JJ:typeOf (.builtin id)=pure (.type "method_descriptor"))(hm:UQ X id r)(ho:PE X o to)(ha:PA X (e::es) t)
  (oI:attributeBase o name X.env (eval o X.env)=eval o X.env:=by rfl)
  (IF:((backTo cG (starEach (e::es) X.env)).all (λx=>!x.1)&&(backToKw cG (keywordEach [] X.env)).all (λx=>x.1.isSome)
   &&decide ((e::es).length+([]:List Keyword).length+(if([]:List Keyword).isEmpty then 0 else 1)<30))=true:=by rfl)
  (oK:(apos.endLine==cG.line)=true:=by rfl)(hs:starEach (e::es) X.env=(false,eval e X.env)::starEach es X.env:=by rfl)(ZeB:(backTo cG (starEach es X.env)).any (·.1)=false:=by rfl):
  PE X (.Call (.Attribute o name apos) (e::es) [] cG) (xy X.K T r to t):=by
 intro pins s σ H Q I h;refine wpAny_Call_method_late oI IF oK rfl (az (ho pins s σ H _ I h) λv s1 zq=>?_);obtain⟨x,H1,I1,r1,ty,q1⟩:=zq;obtain⟨h1,h2⟩:=Rp I1 r1 ty;refine⟨T,id,pa,slot,JJ,h1,h2,?_⟩;have hA:=ha cG pins s1 σ H1 _ I1 q1;rw[hs] at hA⊢;exact Calls.callWith_builtin (by show(false||(backTo cG (starEach es X.env)).any (·.1))=false;rw[ZeB]<;>rfl) (Calls.evalArgs_plain (az hA λus s2 ⟨vs,H2,I2,r2,q2⟩=>hm pins s2 σ H2 x vs v us Q I2 r1 r2 q2))
end
def nJ(X:Cx)(id:String)(r:V->List V->Hp->VK->Prop):Prop:=
 ∀(pins:List (Addr×Obj)) (s:Shared) (σ:St) (H:Hp) (x:V) (xs:List V) (v:Value) (us:List Value) (Q:VK),Inv X pins σ H s->RelV x v->Vals xs us->r x xs H Q->
  wpAny (model X.prog X.w) X.A (call (.builtin id) (v::us)) (EP X pins σ Q) X.xe s
theorem Vals.one:∀{x:V} {us:List Value},Vals [x] us->∃u,us=[u]/\RelV x u:=by
 intro x us h;cases h with
 |cons r t=>
  cases t;exact⟨_,rfl,r⟩
theorem Vals.zero:∀{us:List Value},Vals [] us->us=[]
 |_,.nil=>rfl
theorem Vals.eraseIdx:∀{xs:List V} {us:List Value} (i:Nat),Vals xs us->Vals (xs.eraseIdx i) (us.eraseIdx i)
 |_,_,_,.nil=>.nil
 |_,_,0,.cons _ t=>t
 |_,_,i+1,.cons r t=>.cons r (Vals.eraseIdx i t)
theorem Zbf{α:Type}:∀(l:List α) (i:Nat),(l.eraseIdx i).length<=l.length
 |[],_=>Yd _
 |_::_,0=>JG _
 |_::r,i+1=>Nat.succ_le_succ (Zbf r i)
section
variable {X:Cx}{pins:List (Addr×Obj)}{σ:St}{H:Hp}{s:Shared}{l b:Addr}{xs ys zs:List V}
theorem Inv.zW{ai its':List Value}{n:Nat}{f:Array Value->Array Value}{t':Nat}(I:Inv X pins σ H s)(hH:H l=some (.lst xs))
  (e:s.heap.get? l=some {cls:=.type "list",data:=.seq ai.toArray n})(hf:f ai.toArray=its'.toArray)(hv:Vals ys its')(hz:ys.length<=sizeLine):
  Inv X pins σ (upd H l (.lst ys)) {s with heap:=s.heap.update l (Obj.mapSeq f),toks:=t'}:=by
 have q:=PySem.IsL.update e f;rw[hf] at q;refine I.write (by rw[hH];exact trivial) (.inl rfl) (λb' u hb hu=>(Heap.get?_update_other s.heap (Obj.mapSeq f) (Ne.symm hb)).trans hu) ⟨_,q⟩ ?_;exact⟨hz,its',_,hv,q⟩
theorem Inv.ZgI{ai:List Value}{t':Nat}(I:Inv X pins σ H s)(hv:Vals ys ai)(hz:ys.length<=sizeLine):
  Inv X pins σ (upd H s.heap.objs.size (.lst ys)) {s with heap:=s.heap.push {cls:=.type "list",data:=.seq ai.toArray},toks:=t'}:=
 I.laid (λ_ _ q=>Yc _ q) (Yd _) ⟨hz,ai,0,hv,Ys _ rfl⟩
theorem Inv.fresh(I:Inv X pins σ H s):H s.heap.objs.size=none:=I.av.fresh (Yd _)
theorem Inv.rX(I:Inv X pins σ H s)(hH:H l=some (.lst xs)):xs.length<=sizeLine/\∃(ai:List Value) (n:Nat),Vals xs ai/\xs.length=ai.length/\s.heap.get? l=some {cls:=.type "list",data:=.seq ai.toArray n}:=by
 obtain⟨z,ai,n,r,e⟩:=I.av l _ hH;exact⟨z,ai,n,r,r.length,e⟩
theorem Zb1{n:Nat}(h:n<=sizeLine):Builtin.List.listTooLong n=false:=by
 exact decide_eq_false (by omega)
end
section
variable {X:Cx}
def Zdj:V->List V->Hp->VK->Prop:=λx vs H Q=>∃l xs y,x=.ref l/\vs=[y]/\H l=some (.lst xs)/\xs.length<sizeLine/\Q .ay (upd H l (.lst (xs++[y])))
theorem v9:nJ X "list.append" Zdj:=by
 intro pins s σ H x vs v us Q I rx rv h;obtain⟨l,xs,y,rfl,rfl,hH,hz,q⟩:=h;cases rx;obtain⟨u,rfl,ru⟩:=rv.one;obtain⟨z,ai,n,r,hl,e⟩:=I.rX hH;refine call_meets F.slot_list_append ⟨_,e,rfl⟩ F.entry_list_append (F.args_list_append_2 _ _) (PySem.list_append l ai.toArray n u (by rw[Yu];omega)) ⟨e,?_⟩;refine⟨.ay,_,I.zW (its':=ai++[u]) hH e (by simp) (r.append (.cons ru .nil)) ?_,rfl,q⟩
 grind
def Zdk:V->List V->Hp->VK->Prop:=λx vs H Q=>∃l b xs zs,x=.ref l/\vs=[.ref b]/\H l=some (.lst xs)/\H b=some (.lst zs)/\xs.length+zs.length<=sizeLine/\Q .ay (upd H l (.lst (xs++zs)))
theorem Zbg:nJ X "list.extend" Zdk:=by
 rintro pins s σ H x vs v us Q I rx rv ⟨l,b,xs,zs,rfl,rfl,hH,hB,hz,q⟩;cases rx;obtain⟨u,rfl,ru⟩:=rv.one;cases ru;obtain⟨z,ai,n,r,hl,e⟩:=I.rX hH;obtain⟨z2,iI,n2,r2,uV,e2⟩:=I.rX hB;have hsz:ai.toArray.size+iI.toArray.size<=sizeLine:=by rw[Yu,Yu];omega
 have ZfW:¬(!ai.toArray.isEmpty&&Builtin.List.listTooLong (ai.toArray.size+iI.toArray.size))=true:=by
  rw[Zb1 hsz,Bool.and_false]
  grind
 refine call_meets F.slot_list_extend ⟨_,e,rfl⟩ F.entry_list_extend (F.args_list_extend_2 _ _)
  (AutoSeq1.list_extend_list_list_0 l ai.toArray n b iI.toArray n2 ZfW (by rw[Yu];omega) (by omega)) ⟨e,e2,?_⟩
 refine⟨.ay,_,I.zW hH e (by simp) (r.append r2) ?_,rfl,q⟩
 grind
def ZeC:V->List V->Hp->VK->Prop:=λx vs H Q=>∃l xs i k y,x=.ref l/\vs=[.int i]/\H l=some (.lst xs)/\-(2^63)<=i/\i<2^63/\seqIndex? i xs.length=some k/\xs[k]?=some y/\Q y (upd H l (.lst (xs.eraseIdx k)))
theorem Zb2:nJ X "list.pop" ZeC:=by
 rintro pins s σ H x vs v us Q I rx rv ⟨l,xs,i,k,y,rfl,rfl,hH,h1,h2,hk,hy,q⟩;cases rx;obtain⟨u,rfl,ru⟩:=rv.one;obtain⟨t,rfl⟩:=ru;obtain⟨z,ai,n,r,hl,e⟩:=I.rX hH;obtain⟨w,hw,f_⟩:=r.get hy;refine call_meets F.slot_list_pop ⟨_,e,rfl⟩ F.entry_list_pop (F.args_list_pop_2 _ _)
  (MeetsSeq.list_pop_at l ai.toArray n i t k w (fitsIndex_both h1 h2) (by rw[Yu,←hl];exact hk) (by rw[←Jj];exact hw) (by rw[Yu];omega)) ⟨e,?_⟩
 refine⟨y,_,I.zW hH e ?_ (r.eraseIdx k) ?_,f_,q⟩;·grind
 ·grind
def ZeD:V->List V->Hp->VK->Prop:=λx vs H Q=>∃l xs,x=.ref l/\vs=[]/\H l=some (.lst xs)/\Q .ay (upd H l (.lst []))
theorem Zb3:nJ X "list.clear" ZeD:=by
 rintro pins s σ H x vs v us Q I rx rv ⟨l,xs,rfl,rfl,hH,q⟩;cases rx;have hus:=rv.zero;subst hus;obtain⟨z,ai,n,r,hl,e⟩:=I.rX hH;exact call_meets F.slot_list_clear ⟨_,e,rfl⟩ F.entry_list_clear (F.args_list_clear_1 _) (AutoSeq1.list_clear_list_0 l ai.toArray n (by rw[Yu];omega)) ⟨e,⟨.ay,_,I.zW hH e rfl .nil (Yw _),rfl,q⟩⟩
def ZgJ:R2:=λx y H Q=>∃l b xs zs,x=.ref l/\y=.ref b/\H l=some (.lst xs)/\H b=some (.lst zs)/\xs.length+zs.length<=sizeLine/\∀p,H p=none->Q (.ref p) (upd H p (.lst (xs++zs)))
theorem ZeE:cL X (binaryOp .Add) ZgJ:=by
 rintro pins s σ H x y v u Q I rx ry ⟨l,b,xs,zs,rfl,rfl,hH,hB,hz,q⟩;cases rx;cases ry;obtain⟨z,ai,n,r,hl,e⟩:=I.rX hH;obtain⟨z2,iI,n2,r2,uV,e2⟩:=I.rX hB;refine PySem.P.add_list e e2 ?_ (by rw[Yu,Yu];omega);have ea:ai.toArray++iI.toArray=(ai++iI).toArray:=by simp
 rw[ea];exact⟨.ref _,_,I.ZgI (r.append r2) (by rw[Yi];omega),rfl,q _ I.fresh⟩
end
section
variable {prog:Program}{w:World}{A:Around}{E:Value->Shared->Prop}{s:Shared}
set_option maxRecDepth 100000 in
end
section
variable {X:Cx}
end
end L2
namespace UR
open PySem PySem.W PySem.Calls PyProof.Rows
theorem XF{P:Params}{h:Heap}:∀(ns:List Int) (vs:List Value),WellAll P h vs (ns.map WData.int)->IntsAre vs ns:=by
 intro ns;induction ns with
 |nil=>
  intro vs w;cases w;exact .nil
 |cons n ns ih=>
  intro vs w;cases w with
  |cons a b=>
   cases a;exact .cons _ _ (ih _ b)
theorem Zbh{l:OpenLaw}{n:Nat}(hn:l.most=some n){P:Params}{h:Heap}{args:List WData}{vals:List Value}
  (zX:l.row.toRowW.claim.pre args=true)(xA:WellAll P h vals args):
  ∃a vs ns,vals=[Value.ref a]/\args=[WData.list (ns.map WData.int)]/\h.get? a=some {cls:=.type "list",data:=.seq vs.toArray}/\IntsAre vs ns/\ns.length<=n:=by
 obtain⟨d,r,rfl,h1,h2⟩:=hasAllW_cons ((pre_splitW zX).1);obtain rfl:=hasAllW_nil h2;obtain⟨xs,rfl,h3⟩:=hasW_list h1;obtain⟨ns,rfl⟩:=items_int h3;have hlen:ns.length<=n:=by
  have h4:(WTm.not (.lt (.lit (.int (n:Int))) (.len (.arg 0)))).holds [] {args:=[.list (ns.map .int)]}=true:=by
   have h4:=(holds_andW ((pre_splitW zX).2)).1;rw[hn] at h4;exact h4
  have h5:=condW_of h4 (w_not (w_lt w_lit (w_len_list (w_arg rfl))))
  grind
 cases xA with
 |cons w1 w2=>
  cases w2;cases w1 with
  |list ho IG=>exact⟨_,_,ns,rfl,rfl,ho,XF ns _ IG,hlen⟩
theorem Zbi(l:OpenLaw)(args:List WData):l.row.toRowW.claim.post args (.bool true) args=true:=
 postW_of (X:=(true==true))
  (show WShape.has [] (.bool true) .bool=true by first|rfl|decide|simp[WShape.has])
  (show(WTm.eq .res (.lit (.bool true))).value [] {args:=args,res:=some (.bool true),after:=args}=some (.bool (true==true)) from w_eq_bool (w_res rfl) w_lit) rfl
theorem ZG{l:OpenLaw}{n:Nat}{q:Program}{loose:List Str}{XP:(Str->Option Value)->Heap->Prop}{YP:World->Heap->Prop}{d:DefRec}
  (hn:l.most=some n)(xB:d.params.defaults=[])
  (call:∀(w:World) (cZ bI:Shared) (mg mb:Str->Option Value) (fa:Addr) (o:Obj) (pm cd doc:Value) (a:Addr) (vs:List Value) (ns:List Int),
   Ground q loose [] XP w cZ mg mb bI.heap->YP w bI.heap->
   bI.heap.get? fa=some o->o.data=.func (docDef d.name d.params d.body d.scope pm cd doc)->bI.heap.CodeRec cd d.name->mg d.name=some (.ref fa)->
   bI.heap.get? a=some {cls:=.type "list",data:=.seq vs.toArray}->IntsAre vs ns->ns.length<=n->bI.gens=#[]->
   codeAny (model l.prog w) callerA (.call (.ref fa) ⟨[.ref a],[]⟩) (λr s'=>r=.ok (.ret (.bool true))/\OldK bI.heap s'.heap/\s'.os=bI.os/\AllBare s'.gens) bI):
  WalkO q loose XP YP l.row.toRowW d [] (λf vs=>PySem.call f vs):=by
 intro w cZ bI mg mb G Y fa o pm cd doc dV kV ho hd jV hD xC hg args vals as zX Zh4 hrd xA hlo;obtain rfl:dV=.none:=Dflts.none hD xB;obtain rfl:kV=.none:=Dflts.noKw hD;obtain⟨a,vs,ns,rfl,rfl,IH,hints,hlen⟩:=Zbh hn zX xA;refine enter_call (codeAny_mono (call w cZ bI mg mb fa o pm cd doc a vs ns G Y ho (fd_plain hd) jV xC IH hints hlen hg) λr s' hq=>?_);obtain⟨rfl,h2,h3,h4⟩:=hq;exact⟨.inl ⟨.bool true,.bool true,[],rfl,λ_=>rfl,.bool true,Zbi l _,λ_=>⟨List.Pairwise.nil,λ_ hm=>(nomatch hm)⟩⟩,h2,h3,h4⟩
section
variable {prog:Program}{w:World}{A:Around}{E:Value->Shared->Prop}{s:Shared}{K:Frag}
end
end UR
namespace L2
open PySem PySem.Spec PyProof.Rows
theorem Nt:∀{vs:List Value} {ns:List Int},IntsAre vs ns->Vals (ns.map V.int) vs:=by
 intro vs ns h;induction h with
 |nil=>exact .nil
 |cons n t h ih=>exact .cons ⟨t,rfl⟩ ih
def II(H:Hp):Prop:=∀b,H b=none\/∃o xs,H b=some (.cE o (.lst xs))
theorem Zb4{P:Program}{w:World}{K:PySem.W.Frag}{mg mb:Str->Option Value}{CX:jW}{k:Nat}{fa a:Addr}{fd:FuncData}{x:Str}{sp:Sp}{bI:Shared}{vs:List Value}{ns:List Int}
  (KX:K.In bI.heap)(US:bI.heap.Ns mainGlobals mg)(hb:bI.heap.Ns builtinsNs mb)(hbb:∀x:Str,x≠"__name__"->mb x=bootBuiltins x)(ZgK:bI.heap.NoLimit)(hg:bI.gens=#[])
  (ha:bI.heap.get? a=some {cls:=.type "list",data:=.seq vs.toArray})(hi:IntsAre vs ns)(hl:ns.length<=sizeLine)(hr:di k callerA)
  (F:∀base:Heap,K.In base->base.Ns mainGlobals mg->aH P w K mg base CX k fa fd [x] sp)(ZfX:∀(s:Shared) (u:Value),BindsTo s fd ⟨[u],[]⟩ [(x,u)])
  (nI:∀H:Hp,II H->aj K H a (ns.map V.int)->sp [.ref a] H (λv _=>v=.bl true) λ_ _ _=>False)
  (JK:∀H e s',CX [] H bI (λ_ _ _=>False) e s'->False):
  codeAny (model P w) callerA (.call (.ref fa) ⟨[.ref a],[]⟩) (λr s'=>r=.ok (.ret (.bool true))/\OldK bI.heap s'.heap/\s'.os=bI.os/\AllBare s'.gens) bI:=by
 have rv:=Nt hi;have ZgL:=hi.length
 --from an abstract heap in ZhV nothing but oV Q_ may be tracked
 have core:∀H:Hp,II H->aj K H a (ns.map V.int)->dq P w H bI.heap->(∀b,H b≠none->b=a)->(H a≠none->K.lookup a=none)->
   codeAny (model P w) callerA (.call (.ref fa) ⟨[.ref a],[]⟩) (λr s'=>r=.ok (.ret (.bool true))/\OldK bI.heap s'.heap/\s'.os=bI.os/\AllBare s'.gens) bI:=by
  intro H hO hS av hA hK;have PZ:∀{b:Addr} {o:Obj},bI.heap.get? b=some o->H b=none->(oR bI.heap H).get? b=some o:=λe n=>ZbT e n;have xw:∀{b:Addr} {o:Obj} {es:Array DictEntry} {ep:Nat},bI.heap.get? b=some o->o.data=.dict es ep->H b=none:=λ{b o es ep} e d=>by
   cases q:H b with
   |none=>rfl
   |some u=>
    have e':b=a:=hA b (by rw[q];simp);subst e';rw[ha] at e;cases e;have d':Data.seq vs.toArray _=Data.dict es ep:=d;cases d'
  have Aq:∀{b:Addr} {m:Str->Option Value},bI.heap.Ns b m->(oR bI.heap H).Ns b m:=λ{b m} ⟨o,es,ep,e,d,r⟩=>⟨o,es,ep,PZ e (xw e d),d,r⟩;have UT:K.In (oR bI.heap H):=λb o e=>PZ (KX b o e) (by
   cases q:H b with
   |none=>rfl
   |some u=>
    have e':b=a:=hA b (by rw[q];simp);subst e';rw[hK (by rw[q];simp)] at e;cases e)
  have hM:Mod K mg (oR bI.heap H):=⟨UT,Aq US,⟨mb,Aq hb,hbb⟩,let⟨mc,h1,h2⟩:=ZgK;⟨mc,Aq h1,h2⟩⟩;have e0:rW P w K mg (oR bI.heap H) callerA [] bI H:=⟨rfl,hM,λb o e=>Zc7 e,Nat.le_of_eq (Za6 _ _),trivial,λb hb=>absurd (show b∈([]:List Addr) from hb) (by simp),av,.of_eq hg⟩;refine codeAny_mono ((F _ UT (Aq US)).run callerA [] bI H ⟨[.ref a],[]⟩ [.ref a] [.ref a] _ _ hr e0 (ZfX bI (.ref a)) (.cons rfl .nil) (nI H hO hS)) λr s' h=>?_;cases r with
  |error e=>exact(JK H e s' h).elim
  |ok fl=>
   cases fl with
   |next=>exact False.elim h
   |brk=>exact False.elim h
   |cont=>exact False.elim h
   |ret u=>
    obtain⟨v,H',os,bare,un,ZgM,r',q⟩:=h;have q':v=.bl true:=q;subst q';obtain rfl:u=Value.bool true:=r';refine⟨rfl,OldK.of_keep λb o e=>?_,os,bare⟩;cases q:H b with
    |none=>exact un.keep b o e q (by intro z;exact absurd (show b∈([]:List Addr) from z) (by simp)) (by simp)
    |some u=>
     rcases hO b with z|⟨ob,xs,z⟩;·rw[q] at z;cases z
     ·have z2:=un.lZ b ob _ z;obtain⟨e1,_⟩:=av b _ z;obtain⟨e2,_⟩:=ZgM b _ z2;rw[e] at e1;cases e1;exact e2
 cases hk:K.lookup a with
 |some o=>
  --oV Q_ is one of oV ZhQ own objects
  have e:=KX a o hk;rw[ha] at e;cases e;refine core (λ_=>none) (λ_=>.inl rfl) (.inr ⟨_,vs.toArray,_,hk,rfl,rfl,rfl,by rw[Yu,ZgL];exact hl,by simpa using rv⟩) (λb u z=>by have z':(none:Option HO)=some u:=z;cases z') (λb z=>absurd rfl z) λz=>absurd rfl z
 |none=>
  refine core (λb=>if b=a then some (.cE {cls:=.type "list",data:=.seq vs.toArray} (.lst (ns.map V.int))) else none) (λb=>?_) (.inl (.inr ⟨{cls:=.type "list",data:=.seq vs.toArray},if_pos rfl⟩)) (λb u z=>?_) (λb z=>?_) λ_=>hk
  ·by_cases hb:b=a;·exact .inr ⟨_,_,if_pos hb⟩
   ·exact .inl (if_neg hb)
  ·by_cases hb:b=a
   ·have z':=(if_pos hb).symm.trans z;cases z';subst hb;exact⟨ha,by rw[Ya];exact hl,vs,_,rv,ha⟩
   ·have z':=(if_neg hb).symm.trans z;cases z'
  ·by_cases hb:b=a;·exact hb
   ·exact absurd (if_neg hb) z
theorem Zdl{l:PySem.W.OpenLaw}{n k:Nat}{q:Program}{loose:List Str}{XP:(Str->Option Value)->Heap->Prop}{YP:World->Heap->Prop}{d:DefRec}{K:Params->PySem.W.Frag}{CX:World->jW}{sp:World->Sp}{x:Str}
  (hn:l.most=some n)(eS:n<=sizeLine)(xB:d.params.defaults=[])(hr:di k callerA)
  (hY:∀(w:World) (h:Heap),YP w h->(K w.params).In h)
  (F:∀(w:World) (mg:Str->Option Value) (fa:Addr) (h:Heap),(K w.params).In h->h.Ns mainGlobals mg->mg d.name=some (.ref fa)->
   ∃fd:FuncData,(∀(s:Shared) (u:Value),BindsTo s fd ⟨[u],[]⟩ [(x,u)])/\
    ∀base:Heap,(K w.params).In base->base.Ns mainGlobals mg->aH l.prog w (K w.params) mg base (CX w) k fa fd [x] (sp w))
  (nI:∀(w:World) (H:Hp) (a:Addr) (ns:List Int),ns.length<=n->II H->aj (K w.params) H a (ns.map V.int)->sp w [.ref a] H (λv _=>v=.bl true) λ_ _ _=>False)
  (JK:∀(w:World) (H:Hp) (s:Shared) (e:Value) (s':Shared),CX w [] H s (λ_ _ _=>False) e s'->False):
  PySem.W.WalkO q loose XP YP l.row.toRowW d [] (λf vs=>PySem.call f vs):=by
 refine UR.ZG hn xB λw cZ bI mg mb fa o pm cd doc a vs ns G Y ho hd jV xC IH hints hlen hg=>?_;have KX:=hY w _ Y;obtain⟨fd,hb,hF⟩:=F w mg fa _ KX G.T.g xC;exact Zb4 KX G.T.g G.T.b G.T.builtins G.T.nolimit hg IH hints (Y4 hlen eS) hr hF hb (λH hO hS=>nI w H a ns hlen hO hS) λH e s'=>JK w H bI e s'
def inClass(s:Stmt)(j:Nat):Stmt:=match s with
 |.ClassDef _ _ _ body _ _ _ _ _ _ _=>body.getD j (.Pass ⟨0,0,0,0⟩)
 |_=>.Pass ⟨0,0,0,0⟩
def oA(s:Stmt):Arguments:=match s with
 |.FunctionDef _ a _ _ _ _ _ _ _ _=>a
 |_=>{posonlyargs:=[],args:=[],vararg:=none,kwonlyargs:=[],kw_defaults:=[],kwarg:=none,defaults:=[]}
def lP(s:Stmt):List Stmt:=match s with
 |.FunctionDef _ _ b _ _ _ _ _ _ _=>b
 |_=>[]
def aJ(s:Stmt):Scope:=match s with
 |.FunctionDef _ _ _ _ _ _ sc _ _ _=>sc
 |_=>{kind:=.function,names:=[],isGenerator:=false,isCoroutine:=false}
abbrev aM:jW:=λ_ _ _ _ _ _=>False
abbrev E0:XK:=λ_ _ _=>False
theorem zN{X:Cx}:Passes aM X E0:=λ_ _ _ _ _ _ _ h=>h.elim
structure aK(K:PySem.W.Frag)(x qual:Str)(st:Stmt)(f:Addr)(fd:FuncData):Prop where
 ex:∃(oc:Value) (od:Option Addr) (kV doc pm:Value) (an:Option Addr) (aC ct:Value) (o_:Array (Option Value)),
  fd=fnOf x qual (oA st) (lP st) (aJ st) .none kV doc pm an aC ct/\K.lookup f=some ⟨oc,od,.func fd,o_⟩/\codeIn K aC qual=true
 kp:keepIn K (.ref f)=true
section
variable {P:Program}{w:World}{K:PySem.W.Frag}{mg:Str->Option Value}{base:Heap}
theorem aK.ok{x qual:Str}{st:Stmt}{f:Addr}{fd:FuncData}{N ps:List Str}{k:Nat}{sp:Sp}(F:aK K x qual st f fd)(S:aR N ps (aJ st))(len:∀vs H Q E,sp vs H Q E->vs.length=ps.length)
  (wK:∀(aC:Value) (A:Around) (outer:List Env) (s:Shared) (H:Hp) (vs:List V) (Q:VK) (E:XK),di k (A.deeper (envOfC qual (aJ st) s.heap.objs.size f aC))->sp vs H Q E->
   ∃t,ia (nA aM P w K mg base N qual (aJ st) f aC A outer s H E).An (lP st) t/\t {nx:=λ_ H'=>Q .ay H',rt:=Q} (start N vs) H):aH P w K mg base aM (k+1) f fd ps sp:=by
 obtain⟨oc,od,kV,doc,pm,an,aC,ct,o_,rfl,lk,jV⟩:=F.ex;refine SI lk jV S len λA outer s H vs Q E hr nI=>?_;obtain⟨t,h,q⟩:=wK aC A outer s H vs Q E hr nI;exact⟨t,h.An,q⟩
theorem aK.binds{x qual:Str}{st:Stmt}{f:Addr}{fd:FuncData}{ps:List Str}(F:aK K x qual st f fd)
  (h:∀(kV doc pm:Value) (an:Option Addr) (aC ct:Value) (us:List Value),us.length=ps.length->bindArgs (fnOf x qual (oA st) (lP st) (aJ st) .none kV doc pm an aC ct) ⟨us,[]⟩=pure (ps.zip us)):Binds K fd ps []:=by
 obtain⟨oc,od,kV,doc,pm,an,aC,ct,o_,rfl,lk,jV⟩:=F.ex;exact .all (h kV doc pm an aC ct)
theorem wz{x qual:Str}{st:Stmt}{f:Addr}{oc:Value}{od an:Option Addr}{o_:Array (Option Value)}{kV doc pm aC ct:Value}(l:K.lookup f=some ⟨oc,od,.func (fnOf x qual (oA st) (lP st) (aJ st) .none kV doc pm an aC ct),o_⟩)
  (c:codeIn K aC qual=true)(k:keepIn K (.ref f)=true):aK K x qual st f (fnOf x qual (oA st) (lP st) (aJ st) .none kV doc pm an aC ct):=⟨⟨oc,od,kV,doc,pm,an,aC,ct,o_,rfl,l,c⟩,k⟩
end
theorem bH{A:Around}{k:Nat}(hr:di k A):A.units+1<cLine:=W8 (Nat.add_le_add_left (by decide:1<=64) _) hr.units
theorem jJ{n:Nat}(h:n<=1000):n<sizeLine:=W8 h (by decide)
section
variable {X:Cx}
theorem pv(i:Nat){x:Str}{pos:Pos}(hN:X.N[i]?=some x:=by rfl)(hv:xq X.env.scope x:=by first|exact Or.inl rfl|exact Or.inr (Or.inl rfl)|exact Or.inr (Or.inr rfl))(hd:(x==("__debug__":Str))=false:=by decide)
  (jV:(x==("__classdict__":Str))=false:=by decide):PE X (.Name x pos) (hZ i):=Zeo hN hv hd jV
end
theorem cz{A B:Prop}(h:B):if false=true then A else B:=by
 grind
theorem c8{A B:Prop}(h:A):if true=true then A else B:=by
 grind
theorem bB{c A B:Prop}[Decidable c](h1:c->A)(h2:¬c->B):if c then A else B:=by
 grind
theorem uC{c A B:Prop}[Decidable c](hc:c)(h:B):if(!decide c)=true then A else B:=by
 grind
def ah(H H':Hp):Prop:=∀b o,H b=some o->H' b=some o
theorem ah.refl(H:Hp):ah H H:=λ_ _ h=>h
theorem ah.trans{H H1 H2:Hp}(a:ah H H1)(b:ah H1 H2):ah H H2:=λc o h=>b c o (a c o h)
theorem ah.free{H H':Hp}(e:ah H H'){l:Addr}(h:H' l=Option.none):H l=Option.none:=by
 cases q:H l with
 |none=>rfl
 |some o=>
  rw[e l o q] at h;cases h
theorem ah.seq{K:PySem.W.Frag}{H H':Hp}{a:Addr}{xs:List V}(e:ah H H')(h:aj K H a xs):aj K H' a xs:=by
 rcases h with(h|⟨o,h⟩)|h;·exact .inl (.inl (e _ _ h))
 ·exact .inl (.inr ⟨o,e _ _ h⟩)
 ·exact .inr h
def uj(cells:List (Str×Addr)):List (Str×Addr)->Prop
 |[]=>True
 |p::r=>cells.lookup p.1=some p.2/\uj cells r
theorem uj.look:∀{cl:List (Str×Addr)},uj cells cl->∀(x:Str) (c:Addr),cl.lookup x=some c->cells.lookup x=some c
 |[],_,x,c,h=>by simp at h
 |(n,a)::r,hh,x,c,h=>by
  rw[Wt] at h;cases e:x==n with
  |true=>
   rw[e] at h;rw[(eq_of_beq e),←(Yp h)];exact hh.1
  |false=>
   rw[e] at h;exact uj.look hh.2 x c h
theorem Dq{env:Env}:∀{names:List (Str×NameKind)} {x:Str} {k:NameKind},
  (names.map λ(n,k)=>if(k==NameKind.free&&env.scope.kind==.function&&env.kindOf n==some .cell) then(n,NameKind.cell) else(n,k)).lookup x=some k->
  ∃k0,(x,k0)∈names/\(k=k0\/k0=.free)
 |[],_,_,h=>by simp at h
 |(n,k0)::r,x,k,h=>by
  have h:List.lookup x ((if(k0==NameKind.free&&env.scope.kind==.function&&env.kindOf n==some .cell)=true then(n,NameKind.cell) else(n,k0))::(r.map λ(n,k)=>if(k==NameKind.free&&env.scope.kind==.function&&env.kindOf n==some .cell) then(n,NameKind.cell) else(n,k)))=some k:=h;by_cases hc:(k0==NameKind.free&&env.scope.kind==.function&&env.kindOf n==some .cell)=true
  ·rw[if_pos hc,Wt] at h;cases e:x==n with
   |true=>grind
   |false=>
    rw[e] at h;obtain⟨k1,m,q⟩:=Dq h
    grind
  ·rw[if_neg hc,Wt] at h;cases e:x==n with
   |true=>grind
   |false=>
    rw[e] at h;obtain⟨k1,m,q⟩:=Dq h
    grind
structure Rq(X:Cx)(scope:Scope)(cl:List (Str×Addr))(y:Str)(j:Nat):Prop where
 ix:X.N[j]?=some y
 out:X.env.kindOf y=some .cell\/X.env.kindOf y=some .free
 sD:(relabel scope X.env).names.lookup y=some .cell\/(relabel scope X.env).names.lookup y=some .free
 cl:(cl.lookup y).isSome=true
def uk(X:Cx)(scope:Scope)(cl:List (Str×Addr)):List (Str×Nat)->Prop
 |[]=>True
 |p::r=>Rq X scope cl p.1 p.2/\uk X scope cl r
theorem uk.get:∀{fr:List (Str×Nat)} {k:Nat} {p:Str×Nat},uk X scope cl fr->fr[k]?=some p->Rq X scope cl p.1 p.2
 |[],k,p,_,h=>by simp at h
 |q::r,0,p,hh,h=>by
  have e:q=p:=by simpa using h
  rw[←e];exact hh.1
 |q::r,k+1,p,hh,h=>uk.get hh.2 (by simpa using h)
structure Nu(X:Cx)(scope:Scope)(cl:List (Str×Addr))(x:Str)(fr:List (Str×Nat)):Prop where
 xc:closureFor scope X.env=pure cl
 sub:uj X.env.cells cl
 kind:scope.kind=.function
 names:∀y∈scope.names,y.2=.local->scope.names.lookup y.1=some .local
 lx:scope.names.lookup x=some .local
 wL:∀y∈scope.names,y.2≠.cell
 has:(scope.names.all λy=>!(y.2==.free)||(cl.lookup y.1).isSome)=true
 iK:uk X scope cl fr
 nd:(x::fr.map (·.1)).Nodup
def gw(σ:St)(fr:List (Str×Nat)):St:=fr.map λp=>(σ[p.2]?).join
structure vX(X:Cx)(scope:Scope)(cl:List (Str×Addr))(xs:List Str)(fr:List (Str×Nat)):Prop where
 xc:closureFor scope X.env=pure cl
 sub:uj X.env.cells cl
 kind:scope.kind=.function
 names:∀y∈scope.names,y.2=.local->scope.names.lookup y.1=some .local
 wL:∀y∈scope.names,y.2≠.cell
 has:(scope.names.all λy=>!(y.2==.free)||(cl.lookup y.1).isSome)=true
 iK:uk X scope cl fr
 nd:(xs++fr.map (·.1)).Nodup
def cS(X:Cx)(xs:List Str)(fr:List (Str×Nat))(scope:Scope)(cl:List (Str×Addr))(C:Addr)(s:Shared)(H:Hp)(fp:List Addr):Cx where
 prog:=X.prog
 w:=X.w
 K:=X.K
 mg:=X.mg
 base:=X.base
 A:=X.A
 N:=xs++fr.map (·.1)
 cZ:=s
 kX:=H
 env:=compEnvC scope cl C X.env
 outer:=X.stack
 stack:=X.stack
 ex:=fp
 fn:=λ_=>false
 calm:=X.calm
 pn:=[]
 xe:=λ_ _=>False
section
variable {X:Cx}{scope:Scope}{cl:List (Str×Addr)}{xs:List Str}{fr:List (Str×Nat)}{pins:List (Addr×Obj)}{σ:St}{H:Hp}{s:Shared}
theorem Nv(S:vX X scope cl xs fr)(I:Inv X pins σ H s)(hC:C=s.heap.objs.size)(hf:∀b∈fp,iH X pins H b)(bX:∀b∈fp,b<s.heap.objs.size)
  (old:∀b o,s.heap.get? b=some o->eR.get? b=some o)(hn:eR.Ns C m):Inv (cS X xs fr scope cl C s H fp) [] (List.replicate xs.length none++gw σ fr) H {s with heap:=eR,toks:=tk}:=by
 have look:=S.sub.look;refine⟨⟨I.ok.mod,S.kind,I.ok.glob,I.ok.blt,by show s.heap.objs.size<=C;rw[hC];exact Yd _,λy z c h1 h2=>I.ok.inj y z c (look y c h1) (look z c h2),λy hy=>?_,λy c h=>?_,I.ok.hd,I.ok.frames,.inl rfl,λb hb=>⟨?_,λy c h=>?_⟩,
   I.bs,Y4 I.ok.oW I.sz,λb o e hb=>?_,λb hb hb2=>?_,I.stack,I.PF⟩,
  rfl,I.bare,Un.kept old,⟨m,hn,λi y v h1 h2 h3=>?_⟩,λy c h=>?_,?_,λy c h=>I.kP y c (look y c h),λp hp=>absurd (show p∈([]:List (Addr×Obj)) from hp) (by simp),I.av.kept old,?_⟩
 ·have hy:(relabel scope X.env).names.lookup y=some .cell\/(relabel scope X.env).names.lookup y=some .free:=hy;have fin:∀{k:NameKind},(relabel scope X.env).names.lookup y=some k->(k=.cell\/k=.free)->∃c,cl.lookup y=some c:=λ{k} e hk=>by
   obtain⟨k0,hm,q⟩:=Dq (env:=X.env) e;have hk0:k0=.free:=by
    rcases q with q|q
    ·rcases hk with z|z;·exact absurd (q.symm.trans z) (S.wL _ hm)
     ·exact q.symm.trans z
    ·exact q
   have hq:=Wr.mp S.has _ hm;rw[hk0] at hq;exact Ja.mp (by simpa using hq)
  rcases hy with e|e;·exact fin e (.inl rfl)
  ·exact fin e (.inr rfl)
 ·exact absurd (show false=true from h) Ym
 ·show b≠C;exact λz=>absurd (bX b hb) (by rw[show b=C from z,hC];exact Wa _)
 ·exact(hf b hb).2.2.2.2.1 y c (look y c h)
 ·obtain⟨_,_,_,z,_⟩:=hf b hb;rcases z with z|z;·exact I.ok.wW b o e z
  ·have h1:=Yx e;have h2:=I.ok.oW;exact absurd (Y2 h1 (Y4 h2 z)) (Wa _)
 ·have z:=I.GS b hb2;rcases Yt.mp z with z|z;·exact(hf b hb).2.1 z
  ·exact(hf b hb).2.2.1 z
 ·by_cases hi:i<xs.length;·grind
  ·have h1:(xs++fr.map (·.1))[i]?=some y:=h1;rw[Jn (Nat.le_of_not_lt hi)] at h1;rw[Jn (by rw[W0];exact Nat.le_of_not_lt hi),W0] at h2;generalize i-xs.length=k at h1 h2;have h2:(fr.map λp=>(σ[p.2]?).join)[k]?=some (some v):=h2;rw[Yl] at h1 h2;cases e:fr[k]? with
   |none=>rw[e] at h1;cases h1
   |some p=>
    rw[e] at h1 h2;have e1:p.1=y:=Yp h1;have e2:(σ[p.2]?).join=some v:=Yp h2;have F:=S.iK.get e;rw[e1] at F;have e3:σ[p.2]?=some (some v):=by
     cases q:σ[p.2]? with
     |none=>rw[q] at e2;cases e2
     |some o=>grind
    obtain⟨m0,_,hl⟩:=I.loc;have JD:xq X.env.scope y:=by
     rcases F.out with z|z;·exact .inr (.inl z)
     ·exact .inr (.inr z)
    obtain⟨u,r,l⟩:=hl p.2 y v F.ix e3 JD;refine⟨u,r,.inr ⟨F.sD,?_⟩⟩;obtain⟨c,hc⟩:=Ja.mp F.cl;refine⟨c,hc,?_⟩;rcases l with⟨k1,_⟩|⟨_,c',e',z⟩
    ·rcases F.out with q|q;·rw[q] at k1;cases k1
     ·rw[q] at k1;cases k1
    ·have e4:=look y c hc;rw[e'] at e4;cases e4;obtain⟨o,ho,hd⟩:=z;exact⟨o,old _ _ ho,hd⟩
 ·obtain⟨v,o,ho,hd⟩:=I.cell y c (look y c h);exact⟨v,o,old _ _ ho,hd⟩
 ·show H C=none;rw[hC];exact I.av.fresh (Yd _)
 ·show(List.replicate xs.length none++gw σ fr).length=(xs++fr.map (·.1)).length;simp[gw]
end
abbrev zC(X:Cx)(x:Str)(fr:List (Str×Nat))(scope:Scope)(cl:List (Str×Addr))(C:Addr)(s:Shared)(H:Hp)(fp:List Addr):Cx:=cS X [x] fr scope cl C s H fp
section
variable {prog:Program}{w:World}{A:Around}{R:Result->Shared->Prop}{s:Shared}
theorem Xi(I:Nat->Shared->Prop)
  (turn:∀n s,I n s->wpAny (model prog w) A (pyNext it) (λr bI=>match r with
   |none=>R (.ok .next) bI
   |some v=>wpAny (model prog w) A (letOwnedTupleGo target it v) (λ_ cZ=>wpAny (model prog w) A (assign target env v) (λ_ eB=>
     wpAny (model prog w) A (forIn ifs true λc r=>if r=true then do let ok←isTrue c env (eval c env);pure (ForInStep.yield ok) else pure (ForInStep.yield r)) (λok dY=>
      if ok=true then wpAny (model prog w) A (eval elt env) (λx jv=>
       wpAny (model prog w) A (call (.builtin "list.append") [acc,x]) (λ_ l6=>∃m,m<n/\I m l6) (notedBy (model prog w) A env λe s'=>R (.error e) s') jv) (notedBy (model prog w) A env λe s'=>R (.error e) s') dY
      else ∃m,m<n/\I m dY) (notedBy (model prog w) A env λe s'=>R (.error e) s') eB) (notedBy (model prog w) A env λe s'=>R (.error e) s') cZ) (notedBy (model prog w) A env λe s'=>R (.error e) s') bI) (notedBy (model prog w) A env λe s'=>R (.error e) s') s)
  (n:Nat)(h:I n s):codeAny (model prog w) A (.compLoop (.ListComp elt [⟨target,iter,ifs,0⟩] scope pos) 0 it acc env) R s:=by
 refine codeAny_loop rfl I (λn s hI=>wpAny_noted (wpAny_bind (wpAny_standAt (wpAny_bind (wpAny_mono (turn n s hI) (λr bI eR=>?_) λ_ _ h'=>h'))))) n h;cases r with
 |none=>exact wpAny_pure eR
 |some v=>
  refine wpAny_bind (wpAny_mono eR (λ_ cZ h₀=>wpAny_bind (wpAny_mono h₀ (λ_ eB oU=>wpAny_bind (wpAny_mono oU (λok dY uH=>?_) λ_ _ h'=>h')) λ_ _ h'=>h')) λ_ _ h'=>h');cases ok with
  |false=>exact wpAny_pure ⟨rfl,uH⟩
  |true=>
   exact wpAny_bind (wpAny_bind (wpAny_mono uH (λx jv xf=>wpAny_bind (wpAny_mono xf (λ_ l6 xg=>wpAny_pure (wpAny_pure ⟨rfl,xg⟩)) λ_ _ h'=>h')) λ_ _ h'=>h'))
end
def uW(X:Cx)(ifs:List Expr)(t:TT):Prop:=
 ∀(pins:List (Addr×Obj)) (s:Shared) (σ:St) (H:Hp) (Q:Bool->Hp->Prop),Inv X pins σ H s->t σ H Q->
  wpAny (model X.prog X.w) X.A (forIn ifs true λc r=>if r=true then do let ok←isTrue c X.env (eval c X.env);pure (ForInStep.yield ok) else pure (ForInStep.yield r)) (TP X pins σ Q) X.xe s
def zY:TT:=λ_ H Q=>Q true H
theorem mS:uW X [] zY:=λ_ _ _ H _ I h=>wpAny_tests_nil ⟨H,I,h⟩
theorem uo(h:PT X c t):uW X [c] t:=λpins s σ H Q I hw=>wpAny_tests_one (h pins s σ H Q I hw)
def GZ(n:Nat)(J:It)(tg:TG)(tt:TT)(te:TE)(fv:St)(D:Addr)(H:Hp)(Q:VK):Prop:=
 ∃W:Nat->Nat->List V->Hp->Prop,(∃m,W 0 m [] (upd H D (.lst [])))/\∀i m ys H,W i m ys H->
  (J.stop i H/\Q (.ref D) H)\/(J.go i H/\∃N:List V->Hp->Prop,(∀gT H',N gT H'->∃m',m'<m/\W (i+1) m' gT H')/\
   ∀v H',J.qC i H v H'->∀os:St,os.length=n->tg v (os++fv) H' λdA H2=>(∃jZ:St,jZ.length=n/\dA=jZ++fv)/\tt dA H2 λc H1=>if c=true then te dA H1 λy H3=>H3 D=some (.lst ys)/\ys.length<sizeLine/\N (ys++[y]) (upd H3 D (.lst (ys++[y]))) else N ys H1)
section
variable {X:Cx}{elt iter qF:Expr}{xs:List Str}{pos:Pos}{ifs:List Expr}{scope:Scope}{cl:List (Str×Addr)}{fr:List (Str×Nat)}{tg:TG}{tt:TT}{te:TE}{pins:List (Addr×Obj)}{σ:St}
theorem MQ{H2:Hp}{s2:Shared}{it:Addr}{fp:List Addr}{tn:Nat->Heap->Prop}{J:It}{Q:VK}{RR:Value->Addr->Result->Shared->Prop}{E:Value->Shared->Prop}
  (hc:X.calm=true)(S:vX X scope cl xs fr)(hg:∀C s H fp,PG (cS X xs fr scope cl C s H fp) qF tg)
  (ht:∀C s H fp,uW (cS X xs fr scope cl C s H fp) ifs tt)(he:∀C s H fp,PE (cS X xs fr scope cl C s H fp) elt te)
  (I2:Inv X pins σ H2 s2)(T:Turn X.prog X.w X.K qF J fp it tn)(fk:tn 0 s2.heap)(f2:∀b∈fp,iH X pins H2 b)
  (hw:∀D,H2 D=none->GZ xs.length J tg tt te (gw σ fr) D H2 Q)
  (hR:∀D C s1 H1 m,Inv X pins σ H1 s1->s1.heap.Ns C m->H1 C=none->C≠X.env.locals->X.cZ.heap.objs.size<=C->(∀y c,X.env.cells.lookup y=some c->c≠C)->(∀p∈X.pn++pins,p.1≠C)->Q (.ref D) H1->RR (.ref D) C (.ok .next) s1):
  wpAny (model X.prog X.w) X.A (newList []) (λacc dY=>wpAny (model X.prog X.w) X.A (newFunctionEnv scope X.env.globals cl [] X.env.qual none .none (some X.env)) (λqt jv=>
   codeAny (model X.prog X.w) X.A (.compStart (.ListComp elt [⟨qF,iter,ifs,0⟩] scope pos) 0 (.ref it) acc {qt with scope:=relabel scope X.env}) (RR acc qt.locals) jv) E dY) E s2:=by
 refine wpAny_newObj_type (wpAny_newFunctionEnv S.wL (by intro y hy;simp at hy) (λeR rD rE=>?_) S.kind);dsimp only at rD rE⊢;have I3:Inv X pins σ (upd H2 s2.heap.objs.size (.lst [])) {s2 with heap:=s2.heap.push {cls:=.type "list",dict:=none,data:=.seq ([]:List Value).toArray}}:=
  I2.laid (t':=s2.toks) (λb u e=>Yc _ e) (Yd _) ⟨Yw _,[],0,.nil,Ys _ rfl⟩
 have JM:H2 s2.heap.objs.size=none:=I2.av.fresh (Yd _);obtain⟨W,⟨m0,w0⟩,turn⟩:=hw s2.heap.objs.size JM;have xh:∀b∈fp,b<s2.heap.objs.size:=λb hb=>by
  obtain⟨o,e,_⟩:=T.obj _ _ fk b hb;exact Yx e
 generalize xD:s2.heap.push {cls:=.type "list",dict:=none,data:=.seq ([]:List Value).toArray}=G2 at rD rE I3⊢;have hC:G2.objs.size=s2.heap.objs.size+1:=by rw[←xD,Jf]
 have old:∀b o,G2.get? b=some o->eR.get? b=some o:=λb o e=>rE.extBut b o (Y1 (Yx e)) (Yc _ e);have f3:∀b∈fp,iH X pins (upd H2 s2.heap.objs.size (.lst [])) b:=λb hb=>by
  have:=xh b hb;exact⟨by rw[a9 (Y1 this)];exact(f2 b hb).1,(f2 b hb).2⟩
 have JN:∀b∈fp,b<G2.objs.size:=λb hb=>by
  rw[hC];exact Wv (xh b hb)
 have xE:tn 0 eR:=T.keep _ _ _ fk λb hb o e=>old b o ((λb o e=>xD▸Yc _ e) b o e);have I4:Inv (cS X xs fr scope cl G2.objs.size {s2 with heap:=G2} (upd H2 s2.heap.objs.size (.lst [])) fp) [] (List.replicate xs.length none++gw σ fr) (upd H2 s2.heap.objs.size (.lst [])) {s2 with heap:=eR,toks:=s2.toks+([]:List (Str×Value)).length}:=
  Nv (tk:=s2.toks+([]:List (Str×Value)).length) S I3 rfl f3 JN old rD
 have loop:∀dY:Shared,dY={s2 with heap:=eR,toks:=s2.toks+([]:List (Str×Value)).length}->
   codeAny (model X.prog X.w) X.A (.compLoop (.ListComp elt [⟨qF,iter,ifs,0⟩] scope pos) 0 (.ref it) (.ref s2.heap.objs.size) (compEnvC scope cl G2.objs.size X.env)) (RR (.ref s2.heap.objs.size) G2.objs.size) dY:=by
  rintro dY rfl;refine Xi (λk s'=>∃i ys H' os,os.length=xs.length/\Inv (cS X xs fr scope cl G2.objs.size {s2 with heap:=G2} (upd H2 s2.heap.objs.size (.lst [])) fp) [] (os++gw σ fr) H' s'/\tn i s'.heap/\(∀b∈fp,H' b=none)/\W i k ys H') ?_ m0
   ⟨0,[],_,List.replicate xs.length none,W0,I4,xE,λb hb=>(f3 b hb).1,w0⟩
  rintro n s5 ⟨i,ys,H5,os,ph,I5,oZ,sy,w5⟩;have l5:∀{H':Hp},(∀b∈fp,H' b=none)->∀b∈fp,iH (cS X xs fr scope cl G2.objs.size {s2 with heap:=G2} (upd H2 s2.heap.objs.size (.lst [])) fp) [] H' b:=λ{H'} hn b hb=>
   ⟨hn b hb,(I5.ok.uN b hb).1,I5.ok.uG b hb,.inl hb,(I5.ok.uN b hb).2,λp hp=>absurd (show p∈([]:List (Addr×Obj)) from hp) (by simp)⟩
  rcases turn i n ys H5 w5 with⟨stop,qn⟩|⟨go,N,hN,step⟩
  ·refine az (T.done (cS X xs fr scope cl G2.objs.size {s2 with heap:=G2} (upd H2 s2.heap.objs.size (.lst [])) fp) rfl rfl rfl hc i [] s5 _ H5 _ I5 (l5 sy) oZ stop) λr s6 zq=>?_;obtain⟨hr,I6⟩:=zq;subst hr;obtain⟨m,JO,_⟩:=I6.loc;have I7:Inv X pins σ H5 s6:=I3.Sx (ch:=fp) I6.os I6.base I6.av I6.bare λb hb=>⟨(f2 b hb).2.2.2.1,(f2 b hb).2.1,(f2 b hb).2.2.2.2.1,(f2 b hb).2.2.2.2.2⟩;refine hR _ _ s6 H5 m I7 JO I6.free ?_ ?_ (λy c e z=>?_) (λp hp z=>?_) qn;·exact J9 I3.lt
   ·exact I3.sz
   ·obtain⟨v,q⟩:=I3.cell y c e;exact absurd q.lt (by rw[z];exact Wa _)
   ·exact absurd (Yx (I3.pin p hp).1) (by rw[z];exact Wa _)
  ·refine az (T.item (cS X xs fr scope cl G2.objs.size {s2 with heap:=G2} (upd H2 s2.heap.objs.size (.lst [])) fp) rfl rfl rfl hc i [] s5 _ H5 _ I5 (l5 sy) oZ go) λr s6 zq=>?_;obtain⟨u,hr,h6⟩:=zq;subst hr;refine az h6 λ_ s7 zq=>?_;obtain⟨v,H7,I7,r7,y7,sE,JP⟩:=zq;have JQ:=I7.pinned (l5 JP) (T.obj _ _ sE);refine wpAny_mono (hg _ _ _ _ _ s7 _ H7 v u _ JQ r7 (step v H7 y7 os ph)) (λ_ s8 zq=>?_) λ_ _ z=>False.elim z;obtain⟨σ8,H8,I8,⟨jZ,Tz,e8⟩,q8⟩:=zq;subst e8;have again:∀{pk:St} {H9:Hp} {s9:Shared} {pq:List V},pk.length=xs.length->Inv (cS X xs fr scope cl G2.objs.size {s2 with heap:=G2} (upd H2 s2.heap.objs.size (.lst [])) fp) ([]++qg fp s7.heap) (pk++gw σ fr) H9 s9->N pq H9->
     ∃m,m<n/\∃i ys H' os,os.length=xs.length/\Inv (cS X xs fr scope cl G2.objs.size {s2 with heap:=G2} (upd H2 s2.heap.objs.size (.lst [])) fp) [] (os++gw σ fr) H' s9/\tn i s9.heap/\(∀b∈fp,H' b=none)/\W i m ys H':=λ{pk H9 s9 pq} l1 I9 n9=>by
    obtain⟨m',hm,w9⟩:=hN pq H9 n9;refine⟨m',hm,i+1,pq,H9,pk,l1,I9.ue,T.keep _ _ _ sE λb hb o e=>(I9.pin (b,o) (Yq _ (Yq _ (pT hb e)))).1,λb hb=>?_,w9⟩;obtain⟨o,e,d⟩:=T.obj _ _ sE b hb;exact(I9.pin (b,o) (Yq _ (Yq _ (pT hb e)))).2.1
   refine wpAny_mono (ht _ _ _ _ _ s8 _ H8 _ I8 q8) (λok s9 zq=>?_) λ_ _ z=>False.elim z;obtain⟨H9,I9,q9⟩:=zq;cases ok with
   |false=>grind
   |true=>
    rw[if_pos rfl];rw[if_pos rfl] at q9;refine wpAny_mono (he _ _ _ _ _ s9 _ H9 _ I9 q9) (λu1 JR zq=>?_) λ_ _ z=>False.elim z;obtain⟨y,mC,JT,r10,hD,hz,pA⟩:=zq;refine wpAny_mono (v9 (X:=cS X xs fr scope cl G2.objs.size {s2 with heap:=G2} (upd H2 s2.heap.objs.size (.lst [])) fp) _ JR _ mC (.ref s2.heap.objs.size) [y] _ [u1] (λ_ H'=>N (ys++[y]) H') JT rfl (.cons r10 .nil) ⟨_,ys,y,rfl,rfl,hD,hz,pA⟩) (λ_ JU zq=>?_) λ_ _ z=>False.elim z;obtain⟨_,xF,Ar,_,q11⟩:=zq;exact again Tz Ar q11
 exact codeAny_compStart_list (loop _ rfl) (T.self _ 0 _ _ _ xE (loop _ rfl))
end
def i6(J:It)(tt:TT)(te:TE)(fv:St)(D:Addr)(H:Hp)(Q:VK):Prop:=
 ∃W:Nat->Nat->List V->Hp->Prop,(∃m,W 0 m [] (upd H D (.lst [])))/\∀i m ys H,W i m ys H->
  (J.stop i H/\Q (.ref D) H)\/(J.go i H/\∃N:List V->Hp->Prop,(∀gT H',N gT H'->∃m',m'<m/\W (i+1) m' gT H')/\
   ∀v H',J.qC i H v H'->tt (some v::fv) H' λc H1=>if c=true then te (some v::fv) H1 λy H3=>H3 D=some (.lst ys)/\ys.length<sizeLine/\N (ys++[y]) (upd H3 D (.lst (ys++[y]))) else N ys H1)
section
variable {X:Cx}{elt iter:Expr}{x:Str}{px pos:Pos}{ifs:List Expr}{scope:Scope}{cl:List (Str×Addr)}{fr:List (Str×Nat)}{tt:TT}{te:TE}{pins:List (Addr×Obj)}{σ:St}
theorem Zbj{H2:Hp}{s2:Shared}{it:Addr}{fp:List Addr}{tn:Nat->Heap->Prop}{J:It}{Q:VK}{RR:Value->Addr->Result->Shared->Prop}{E:Value->Shared->Prop}
  (hc:X.calm=true)(S:Nu X scope cl x fr)
  (ht:∀C s H fp,uW (zC X x fr scope cl C s H fp) ifs tt)(he:∀C s H fp,PE (zC X x fr scope cl C s H fp) elt te)
  (I2:Inv X pins σ H2 s2)(T:Turn X.prog X.w X.K (.Name x px) J fp it tn)(fk:tn 0 s2.heap)(f2:∀b∈fp,iH X pins H2 b)
  (hw:∀D,H2 D=none->i6 J tt te (gw σ fr) D H2 Q)
  (hR:∀D C s1 H1 m,Inv X pins σ H1 s1->s1.heap.Ns C m->H1 C=none->C≠X.env.locals->X.cZ.heap.objs.size<=C->(∀y c,X.env.cells.lookup y=some c->c≠C)->(∀p∈X.pn++pins,p.1≠C)->Q (.ref D) H1->RR (.ref D) C (.ok .next) s1):
  wpAny (model X.prog X.w) X.A (newList []) (λacc dY=>wpAny (model X.prog X.w) X.A (newFunctionEnv scope X.env.globals cl [] X.env.qual none .none (some X.env)) (λqt jv=>
   codeAny (model X.prog X.w) X.A (.compStart (.ListComp elt [⟨.Name x px,iter,ifs,0⟩] scope pos) 0 (.ref it) acc {qt with scope:=relabel scope X.env}) (RR acc qt.locals) jv) E dY) E s2:=by
 refine MQ (xs:=[x]) hc ⟨S.xc,S.sub,S.kind,S.names,S.wL,S.has,S.iK,S.nd⟩ (λC s H fp=>a8 (i:=0) S.nd rfl (.inl (lookup_relabel_local S.lx)) (.inr (lookup_relabel_local S.lx))) ht he I2 T fk f2 (λD hD=>?_) hR;obtain⟨W,h0,h⟩:=hw D hD;refine⟨W,h0,λi m ys H p=>?_⟩;rcases h i m ys H p with z|⟨z,N,hN,q⟩;·exact .inl z
 ·refine .inr ⟨z,N,hN,λv H' y os hl=>?_⟩;match os,hl with
  |[o],_=>exact⟨⟨[some v],rfl,rfl⟩,q v H' y⟩
def ZfY(wi:TI)(fr:List (Str×Nat))(tt:TT)(te:TE):TE:=λσ H Q=>wi σ H λJ H1=>∀D,H1 D=none->i6 J tt te (gw σ fr) D H1 Q
theorem iW(hc:X.calm=true)(S:Nu X scope cl x fr)(hi:PI X (.Name x px) iter wi)
  (ht:∀C s H fp,uW (zC X x fr scope cl C s H fp) ifs tt)(he:∀C s H fp,PE (zC X x fr scope cl C s H fp) elt te)
  (hs:∀x,foldedSetIterable iter X.env x=pure x:=by intro _;rfl):PE X (.ListComp elt [⟨.Name x px,iter,ifs,0⟩] scope pos) (ZfY wi fr tt te):=by
 intro pins s σ H Q I h;refine wpAny_comprehension_free rfl hs S.xc S.kind S.names (az (hi pins s σ H _ I h) λv s1 h1=>az h1 λuR s2 h2=>?_);obtain⟨it,fp,tn,J,H2,e,I2,T,fk,f2,hw⟩:=h2;subst e;refine Zbj (RR:=λacc C=>compPost (model X.prog X.w) X.A X.xe none (EP X pins σ Q) acc C) hc S ht he I2 T fk f2 hw ?_;intro D C s1 H1 m I1 hn f0 f1 f3 f4 f5 q;exact⟨m,hn,λh' pB=>⟨.ref D,H1,I1.turned (λb o hb e=>pB.extBut b o hb e) f0 f1 (.inr f3) f4 f5,rfl,q⟩⟩
end
theorem Fb{K:PySem.W.Frag}{a:Addr}{xs:List V}{tt:TT}{te:TE}{fv:St}{D:Addr}{H:Hp}{Q:VK}(Pv:Nat->List V->Hp->Prop)(h0:Pv 0 [] (upd H D (.lst [])))(hl:∀i ys H,i<=xs.length->Pv i ys H->aj K H a xs)
  (hs:∀i v ys H,xs[i]?=some v->Pv i ys H->tt (some v::fv) H λc H1=>if c=true then te (some v::fv) H1 λy H3=>H3 D=some (.lst ys)/\ys.length<sizeLine/\Pv (i+1) (ys++[y]) (upd H3 D (.lst (ys++[y]))) else Pv (i+1) ys H1)
  (hd:∀ys H,Pv xs.length ys H->Q (.ref D) H):i6 (jz K a) tt te fv D H Q:=by
 refine⟨λi m ys H=>m=xs.length-i/\i<=xs.length/\Pv i ys H,⟨xs.length,by simp,Yw _,h0⟩,?_⟩;rintro i m ys H ⟨rfl,hi,p⟩;have q:=hl i ys H hi p;by_cases bX:i<xs.length
 ·refine .inr ⟨⟨xs,xs[i],q,by simp[bX]⟩,Pv (i+1),λgT H' p'=>⟨xs.length-(i+1),by omega,rfl,bX,p'⟩,λx H' y=>?_⟩;obtain⟨e,y⟩:=y
  grind
 ·have e:i=xs.length:=by omega
  subst e;exact .inl ⟨⟨xs,q,Yd _⟩,hd ys H p⟩
theorem yY{K:PySem.W.Frag}{a:Addr}{xs:List V}{tt:TT}{te:TE}{fv:St}{D:Addr}{H:Hp}{Q:VK}(Pv:Nat->List V->Hp->Prop)(h0:Pv 0 [] (upd H D (.lst [])))(hl:∀i ys H,i<=xs.length->Pv i ys H->aA K H a xs)
  (hs:∀i v ys H,xs[i]?=some v->Pv i ys H->tt (some v::fv) H λc H1=>if c=true then te (some v::fv) H1 λy H3=>H3 D=some (.lst ys)/\ys.length<sizeLine/\Pv (i+1) (ys++[y]) (upd H3 D (.lst (ys++[y]))) else Pv (i+1) ys H1)
  (hd:∀ys H,Pv xs.length ys H->Q (.ref D) H):i6 (uS K a) tt te fv D H Q:=by
 refine⟨λi m ys H=>m=xs.length-i/\i<=xs.length/\Pv i ys H,⟨xs.length,by simp,Yw _,h0⟩,?_⟩;rintro i m ys H ⟨rfl,hi,p⟩;have q:=hl i ys H hi p;by_cases bX:i<xs.length
 ·refine .inr ⟨⟨xs,xs[i],q,by simp[bX]⟩,Pv (i+1),λgT H' p'=>⟨xs.length-(i+1),by omega,rfl,bX,p'⟩,λx H' y=>?_⟩;obtain⟨e,y⟩:=y
  grind
 ·have e:i=xs.length:=by omega
  subst e;exact .inl ⟨⟨xs,q,Yd _⟩,hd ys H p⟩
theorem vY{lo:Int}{n:Nat}{tt:TT}{te:TE}{fv:St}{D:Addr}{H:Hp}{Q:VK}(Pv:Nat->List V->Hp->Prop)(h0:Pv 0 [] (upd H D (.lst [])))
  (hs:∀i ys H,i<n->Pv i ys H->tt (some (.int (lo+i))::fv) H λc H1=>if c=true then te (some (.int (lo+i))::fv) H1 λy H3=>H3 D=some (.lst ys)/\ys.length<sizeLine/\Pv (i+1) (ys++[y]) (upd H3 D (.lst (ys++[y]))) else Pv (i+1) ys H1)
  (hd:∀ys H,Pv n ys H->Q (.ref D) H):i6 (oY lo n) tt te fv D H Q:=by
 refine⟨λi m ys H=>m=n-i/\i<=n/\Pv i ys H,⟨n,by simp,Yw _,h0⟩,?_⟩;rintro i m ys H ⟨rfl,hi,p⟩;by_cases bX:i<n
 ·refine .inr ⟨bX,Pv (i+1),λgT H' p'=>⟨n-(i+1),by omega,rfl,bX,p'⟩,λx H' y=>?_⟩;obtain⟨e,y⟩:=y
  grind
 ·have e:i=n:=by omega
  subst e;exact .inl ⟨Yd _,hd ys H p⟩
def ZgN(K:PySem.W.Frag)(tl:TE):TI:=λσ H R=>tl σ H λx H1=>∃a,x=.ref a/\((∃xs,aj K H1 a xs)/\R (jz K a) H1\/(∃xs,aA K H1 a xs)/\R (uS K a) H1)
theorem ZeF(hl:PE X l tl):PI X tg l (ZgN X.K tl):=by
 intro pins s σ H R I h;refine az (hl pins s σ H _ I h) λv s1 zq=>?_;obtain⟨x,H1,I1,r1,q1⟩:=zq;obtain⟨a,e,q1⟩:=q1;subst e;cases r1;rcases q1 with⟨⟨xs,hq⟩,q⟩|⟨⟨xs,hq⟩,q⟩
 ·obtain⟨ai,rv,p,hz⟩:=I1.list hq;refine wpAny_pyIter_list p.isList ⟨s1.heap.objs.size,[s1.heap.objs.size],_,_,H1,rfl,I1.kept λb o e=>Yc _ e,Nm a _,⟨_,Ys _ rfl,rfl,rfl⟩,λb hb=>?_,q⟩;have e:b=s1.heap.objs.size:=by simpa using hb
  subst e;exact I1.qr (Yd _) (I1.av.fresh (Yd _))
 ·obtain⟨ai,rv,p,hz⟩:=I1.tuple hq;refine wpAny_pyIter_tuple (show s1.heap.IsTuple a ai.toArray from p) ⟨s1.heap.objs.size,[s1.heap.objs.size],_,_,H1,rfl,I1.kept λb o e=>Yc _ e,MM a _,⟨_,Ys _ rfl,rfl,rfl⟩,λb hb=>?_,q⟩;have e:b=s1.heap.objs.size:=by simpa using hb
  subst e;exact I1.qr (Yd _) (I1.av.fresh (Yd _))
theorem DV:∀{xs:List V} {us:List Value},xs.length=us.length->(∀(i:Nat) (x:V) (u:Value),xs[i]?=some x->us[i]?=some u->RelV x u)->Vals xs us
 |[],[],_,_=>.nil
 |[],_::_,h,_=>by simp at h
 |_::_,[],h,_=>by simp at h
 |x::xs,u::us,h,k=>.cons (k 0 x u rfl rfl) (DV (by simpa using h) λi y w e1 e2=>k (i+1) y w (by simpa using e1) (by simpa using e2))
theorem MR:∀{bs:List Bool} {us:List Value},Vals (bs.map V.bl) us->us=bs.map Value.bool:=by
 intro bs;induction bs with
 |nil=>intro us r;cases r;rfl
 |cons b bs ih=>
  intro us r;rw[Wl] at r;cases r with
  |cons r t=>
   have e1:_=Value.bool b:=r;rw[e1,ih t];rfl
def bF(n:Nat):List Int:=(List.range n).map λi:Nat=>(i:Int)
theorem eX(n:Nat):(bF n).length=n:=by simp[bF]
theorem lO(h:i<n):(bF n)[i]?=some (i:Int):=by
 unfold bF
 grind
theorem Zb5(bs:List Bool):(List.range bs.length).any (λi=>bs.getD i false)=bs.any id:=by
 rw[Wf,J0,J0];constructor
 ·rintro⟨i,hi,hb⟩;rw[Y7] at hi;have e:bs.getD i false=bs[i]:=by rw[Yn,Yb hi];rfl
  rw[e] at hb;exact⟨bs[i],Jp hi,hb⟩
 ·rintro⟨b,hb,e⟩;obtain⟨i,hi,rfl⟩:=Wp.mp hb;refine⟨i,Y7.mpr hi,?_⟩
  grind
theorem Zb6(bs:List Bool):(List.range bs.length).all (λi=>bs.getD i false)=bs.all id:=by
 rw[Wf,Wr,Wr];constructor
 ·intro h b hb;obtain⟨i,hi,rfl⟩:=Wp.mp hb;simp_all
 ·intro h i hi;rw[Y7] at hi;rw[Yn,Yb hi];exact h _ (Jp hi)
theorem ZH:∀{ns ms:List Int},ns.length=ms.length->(List.range ns.length).all (λj=>ns.getD j 0==ms.getD j 0)=decide (ns=ms):=by
 intro ns ms hl;rw[Wf,Wr,decide_eq_true_iff];constructor
 ·intro h;refine List.ext_getElem hl λi h1 h2=>?_;simp_all
 ·grind
section
variable {X:Cx}
def TB(K:PySem.W.Frag):List V->Hp->VK->Prop:=λxs H Q=>∃(p:Addr) (bs:List Bool),xs=[.ref p]/\aj K H p (bs.map V.bl)/\Q (.bl (bs.any id)) H
def TC(K:PySem.W.Frag):List V->Hp->VK->Prop:=λxs H Q=>∃(p:Addr) (bs:List Bool),xs=[.ref p]/\aj K H p (bs.map V.bl)/\Q (.bl (bs.all id)) H
theorem XY(hc:X.calm=true):c6 X (.builtin "any") (TB X.K):=by
 rintro pins s σ H xs us Q I r ⟨p,bs,rfl,hq,q⟩;obtain⟨u,rfl,rx⟩:=vals1 r;cases rx;obtain⟨ai,r',pl,hz⟩:=I.list hq;have e:=MR r';subst e;have hl:=pl.isList;have bX:p<s.heap.objs.size:=by obtain⟨_,e,_⟩:=hl;exact Yx e
 refine call_any_walk (wpAny_pyIter_list hl ⟨s.heap.objs.size,_,_,_,_,_,λi=>bs.getD i false,rfl,Walks.list (show X.A.in1.handled=none from I.ok.hd hc) s.heap.objs.size p (Y1 bX) (bs.map Value.bool).toArray,⟨⟨_,Ys _ rfl,rfl,rfl⟩,hl.push _⟩,?_,λh' tk hk=>?_⟩)
 ·intro i v s' Q' E' hP hQ;have lq:(bs.map Value.bool)[i]?=some v:=by simpa using hP
  rw[Yl] at lq;cases e:bs[i]? with
  |none=>grind
  |some b=>
   rw[e] at lq;have ev:=Yp lq;subst ev;refine wpAny_truthy_bool ?_
   grind
 ·refine⟨.bl (bs.any id),H,I.kept (λb o e=>hk b o (by simpa using Y1 (Yx e)) (Yc _ e)),?_,q⟩;show Value.bool _=Value.bool _;have e:(bs.map Value.bool).toArray.size=bs.length:=by simp
  rw[e,Zb5]
theorem XZ(hc:X.calm=true):c6 X (.builtin "all") (TC X.K):=by
 rintro pins s σ H xs us Q I r ⟨p,bs,rfl,hq,q⟩;obtain⟨u,rfl,rx⟩:=vals1 r;cases rx;obtain⟨ai,r',pl,hz⟩:=I.list hq;have e:=MR r';subst e;have hl:=pl.isList;have bX:p<s.heap.objs.size:=by obtain⟨_,e,_⟩:=hl;exact Yx e
 refine call_all_walk (wpAny_pyIter_list hl ⟨s.heap.objs.size,_,_,_,_,_,λi=>bs.getD i false,rfl,Walks.list (show X.A.in1.handled=none from I.ok.hd hc) s.heap.objs.size p (Y1 bX) (bs.map Value.bool).toArray,⟨⟨_,Ys _ rfl,rfl,rfl⟩,hl.push _⟩,?_,λh' tk hk=>?_⟩)
 ·intro i v s' Q' E' hP hQ;have lq:(bs.map Value.bool)[i]?=some v:=by simpa using hP
  rw[Yl] at lq;cases e:bs[i]? with
  |none=>grind
  |some b=>
   rw[e] at lq;have ev:=Yp lq;subst ev;refine wpAny_truthy_bool ?_
   grind
 ·refine⟨.bl (bs.all id),H,I.kept (λb o e=>hk b o (by simpa using Y1 (Yx e)) (Yc _ e)),?_,q⟩;show Value.bool _=Value.bool _;have e:(bs.map Value.bool).toArray.size=bs.length:=by simp
  rw[e,Zb6]
inductive Rr(K:PySem.W.Frag)(xs:List V)(H:Hp)(Q:VK):Prop
 |mk (x:V) (t:Value) (c:String) (b:Bool) (aB:xs=[x,.ty c]) (aT:jb K H x t) (bq:kitOne K t (.type c)=some b) (bR:Q (.bl b) H):Rr K xs H Q
def IJ(K:PySem.W.Frag):List V->Hp->VK->Prop:=λxs H Q=>Rr K xs H Q
theorem ZI:c6 X (.builtin "isinstance") (IJ X.K):=by
 rintro pins s σ H xs us Q I r ⟨x,t,c,b,rfl,ty,e,q⟩;obtain⟨u,w',rfl,rx,ry⟩:=vals2 r;cases ry;exact Zbc I rx ty e λtk=>⟨.bl b,H,I.tok tk,rfl,q⟩
theorem MS(hT:T="list"\/T="tuple")
  (ho:s.heap.get? l=some o)(hc:o.cls=.type T)(hd:o.data=.seq ai.toArray n)(hI:IntsAre ai ns)(jg:ai.length<64)(hsz:ai.toArray.size<=sizeLine)
  (h:∀(h1 h':Heap) (out:Array Value) (df:List Int) (e:Nat),(∀b o,s.heap.get? b=some o->h1.get? b=some o)->(∀b o,h1.get? b=some o->h'.get? b=some o)->h'.get? h1.objs.size=some (seqObj "list" out e)->IntsAre out.toList df->df.Perm ns->df.Pairwise (·<=·)->Q (.ref h1.objs.size) {s with heap:=h'}):
  wpAny (model prog w) A (call (.builtin "sorted") [.ref l]) Q E s:=by
 refine Calls.call_function_entry kind_sorted plain_sorted entry_sorted (args_sorted1 _) (wpAny_bind (wpAny_pure ?_));refine wpAny_bind (wpAny_collect_seq l hT ho hc hd (λh1 kp=>wpAny_bind (wpAny_newList ?_)) hsz);have e1:ai.toArray.toList=ai:=by simp
 rw[e1];have oX:(h1.push (seqObj "list" ai.toArray 0)).get? h1.objs.size=some (seqObj "list" ai.toArray 0):=Ys _ rfl;refine wpAny_bind (wpAny_holding (wpAny_call_entry slot_list_sort ⟨_,oX,rfl⟩ entry_list_sort (list_sort_tree oX hI jg λout df a1 a2 a3=>⟨_,rfl,?_⟩) (args_list_sort _)));obtain⟨e,he⟩:=sortedHeap_at oX;exact wpAny_pure ⟨_,rfl,h h1 _ out df e kp (λb ob hb=>by
  have bX:=Yx hb;rw[sortedHeap_old (Y1 bX) (by rw[size_push'];exact Wv bX),Jv _ _ _ (Y1 bX)];exact hb) he a1 a2 a3⟩
def Gv(K:PySem.W.Frag):List V->Hp->VK->Prop:=λxs H Q=>∃(p:Addr) (ns:List Int),xs=[.ref p]/\(aj K H p (ns.map V.int)\/aA K H p (ns.map V.int))/\ns.length<64/\
  ∀(l:Addr) (df:List Int),H l=none->df.Perm ns->df.Pairwise (·<=·)->Q (.ref l) (upd H l (.lst (df.map V.int)))
theorem Mz:c6 X (.builtin "sorted") (Gv X.K):=by
 rintro pins s σ H xs us Q I r ⟨p,ns,rfl,hq,jg,q⟩;obtain⟨u,rfl,rx⟩:=vals1 r;cases rx;have fin:∀(h1 h':Heap) (out:Array Value) (df:List Int) (e:Nat),(∀b o,s.heap.get? b=some o->h1.get? b=some o)->(∀b o,h1.get? b=some o->h'.get? b=some o)->h'.get? h1.objs.size=some (seqObj "list" out e)->IntsAre out.toList df->df.Perm ns->df.Pairwise (·<=·)->
   EP X pins σ Q (.ref h1.objs.size) {s with heap:=h'}:=λh1 h' out df e kp JV he a1 a2 a3=>by
  have I1:=I.kept (t':=s.toks) kp;refine⟨.ref h1.objs.size,_,I1.laid (o:=.lst (df.map V.int)) JV (Yd _) ⟨?_,out.toList,e,Nt a1,by simpa[seqObj] using he⟩,rfl,q _ df (I1.av.fresh (Yd _)) a2 a3⟩;rw[Ya,a2.length_eq];exact Ji (jJ (by omega))
 rcases hq with hq|hq
 ·obtain⟨ai,r',pl,hz⟩:=I.list hq;obtain⟨o,n,ho,hc,_,hd⟩:=pl;have hl:=r'.length;rw[Ya] at hl;rw[Ya] at hz;exact MS (.inl rfl) ho hc hd (intsAre_of r') (by omega) (by rw[Yu];omega) fin
 ·obtain⟨ai,r',pl,hz⟩:=I.tuple hq;obtain⟨o,ho,hc,n,hd⟩:=pl;have hl:=r'.length;rw[Ya] at hl;rw[Ya] at hz;exact MS (.inr rfl) ho hc hd (intsAre_of r') (by omega) (by rw[Yu];omega) fin
def P0:List V->Hp->VK->Prop:=λxs H Q=>∃j:Int,xs=[.int j]/\∀p:Addr,H p=none->Q (.ref p) (upd H p (.jy 0 j))
def Ot:List V->Hp->VK->Prop:=λxs H Q=>∃(p:Addr) (n:Nat),xs=[.ref p]/\H p=some (.jy 0 (n:Int))/\n<=1000/\∀l:Addr,H l=none->Q (.ref l) (upd H l (.lst ((bF n).map V.int)))
def zZ(K:PySem.W.Frag):List V->Hp->VK->Prop:=λxs H Q=>∃(p:Addr) (ys:List V),xs=[.ref p]/\(aj K H p ys\/aA K H p ys)/\Q (.int ys.length) H
theorem Zal:c6 X (.builtin "len") (zZ X.K):=Ms
theorem yy:c6 X (.type "range") P0:=by
 rintro pins s σ H xs us Q I r ⟨j,rfl,q⟩;obtain⟨u,rfl,t,rfl⟩:=vals1 r;exact call_range_1 ⟨.ref s.heap.objs.size,_,I.laid (o:=.jy 0 j) (λb o e=>Yc _ e) (Yd _) ⟨_,_,_,Ys _ rfl⟩,rfl,q _ (I.av.fresh (Yd _))⟩
theorem C2(hc:X.calm=true):c6 X (.type "list") Ot:=by
 rintro pins s σ H xs us Q I r ⟨p,n,rfl,hp,hn,q⟩;obtain⟨u,rfl,rx⟩:=vals1 r;cases rx;obtain⟨t,u,v,ho⟩:=I.av p _ hp;refine call_list_range (I.ok.hd hc) ho (small_one (by omega) (by omega) (by omega) (by omega)) (n:=n) (by rw[rangeSize_one];split<;>omega) (by omega) λh' tk ZgO c' hk hS' TH=>⟨.ref s.heap.objs.size,_,I.laid (o:=.lst ((bF n).map V.int)) hk (Yd _) ⟨?_,ZgO.toList,c',?_,by simpa using hS'⟩,rfl,q _ (I.av.fresh (Yd _))⟩
 ·rw[Ya,eX];exact Ji (jJ hn)
 ·refine DV (by rw[Ya,eX];simp[TH.1]) λi x u e1 e2=>?_;obtain⟨t',rfl⟩:=TH.2 i u (by simpa using e2);have hi:i<n:=by
   have:=(Yg.mp e1).1;rw[Ya,eX] at this;exact this
  rw[Yl,lO hi] at e1;have e3:=Yp e1;subst e3;exact⟨t',by rw[show(0:Int)+(i:Int)*1=(i:Int) by omega]⟩
theorem P1{ns:List Int}{ai:List Value}(r:Vals (ns.map V.int) ai){j:Nat}(h:j<ai.length):∃t,ai[j]=.int (ns.getD j 0) t:=by
 have hl:=r.length;rw[Ya] at hl;have hj:j<ns.length:=by omega
 obtain⟨u,hu,t,rfl⟩:=r.get (by rw[Yl,Yb hj];rfl)
 grind
def TK(K:PySem.W.Frag)(neg:Bool):R2:=λx y H Q=>∃(p q:Addr) (ns ms:List Int),x=.ref p/\y=.ref q/\aj K H p (ns.map V.int)/\aj K H q (ms.map V.int)/\Q (.bl (if neg=true then !decide (ns=ms) else decide (ns=ms))) H
theorem Rt(hu:X.A.units<cLine):cL X (compareOp .Eq) (TK X.K false):=by
 rintro pins s σ H x y v u Q I rx ry ⟨p,q,ns,ms,rfl,rfl,h1,h2,k⟩;cases rx;cases ry;obtain⟨ai,r1,p1,z1⟩:=I.list h1;obtain⟨iI,r2,p2,z2⟩:=I.list h2;have l1:=r1.length;have l2:=r2.length;rw[Ya] at l1 l2;by_cases hl:ns.length=ms.length
 ·refine SeqAt.eq_listAt (e:=λj=>ns.getD j 0==ms.getD j 0) p1.isList p2.isList (by simp;omega) hu (λj h1 h2=>?_) (cJ I k ?_)
  ·obtain⟨t,e1⟩:=P1 r1 (by simpa using h1);obtain⟨t',e2⟩:=P1 r2 (by simpa using h2);have sF:ai.toArray[j]=.int (ns.getD j 0) t:=by simpa using e1
   have e2':iI.toArray[j]=.int (ms.getD j 0) t':=by simpa using e2
   rw[sF,e2'];exact SeqAt.EqAt.int_int _ _ _ _
  ·rw[if_neg Ym,Yu,←l1,ZH hl]
 ·refine SeqAt.eq_list_lengthsAt p1.isList p2.isList (by simp;omega) hu (cJ I k ?_)
  grind
theorem fw(M:St->Hp->Prop)(h1:∀nx:St->Hp->Prop,(∀σ H,M σ H->nx σ H)->t {D with nx:=nx} σ H)(h2:∀σ H,M σ H->u D σ H):wX t u D σ H:=h1 _ h2
theorem kT(hg:Gl X x)(hm:X.mg x=none)(hv:bootBuiltins x=some (.type T))(hn:x≠"__name__":=by decide)(hd:(x==("__debug__":Str))=false:=by decide):PE X (.Name x pos) (tC (.ty T)):=Zc8 hg hm hv rfl hn hd
end
def HasFn(P:Program)(w:World)(K:PySem.W.Frag)(mg:Str->Option Value)(base:Heap)(k:Nat)(x:Str)(ps:List Str)(sp:Sp):Prop:=
 ∃f fd,aH P w K mg base aM k f fd ps sp/\Binds K fd ps []/\keepIn K (.ref f)=true/\mg x=some (.ref f)
section
variable {P:Program}{w:World}{K:PySem.W.Frag}{mg:Str->Option Value}{base:Heap}{X:Cx}{k j:Nat}{sp:Sp}{x:Str}{ps:List Str}
theorem aW(h:HasFn X.prog X.w X.K X.mg X.base k x ps sp)(hr:di j X.A)(hj:k<=j)(hg:Gl X x)(ha:PA X (e::es) t)
  (mw:(x==("__debug__":Str))=false:=by decide)(he:starEach (e::es) X.env=(false,eval e X.env)::starEach es X.env:=by rfl)(dt:(backTo pos (starEach es X.env)).any (·.1)=false:=by rfl):
  PE X (.Call (.Name x p) (e::es) [] pos) (SG sp [] E0 t):=by
 obtain⟨f,fd,F,b,kp,m⟩:=h;exact Zda F (hr.mono hj) hg m kp b .nil zN ha mw he dt
theorem cy(h:H p=none)(o:HO):ah H (upd H p o):=λb u q=>by rw[a9 (bQ q h)];exact q
theorem ah.jh(e:ah H H')(h:aA K H a xs):aA K H' a xs:=by
 rcases h with(h|⟨o,h⟩)|h;·exact .inl (.inl (e _ _ h))
 ·exact .inl (.inr ⟨o,e _ _ h⟩)
 ·exact .inr h
theorem cA(h:X.K=K):jY X (w_ K):=h▸Gu
theorem gu(h:X.K=K):jY X (ID K):=h▸Rm
theorem kL(h:X.K=K):c6 X (.builtin "isinstance") (IJ K):=h▸ZI
theorem c9(h:X.K=K):c6 X (.builtin "len") (zZ K):=h▸Zal
theorem l_(h:Q true H):zY σ H Q:=h
theorem aX(h:n σ H):Sz ⟨n,rt,bk,ct⟩ σ H:=h
theorem oF(M:St->Hp->Prop)(h1:∀nx:St->Hp->Prop,(∀σ H,M σ H->nx σ H)->Iw c a b {D with nx:=nx} σ H)(h2:∀σ H,M σ H->u D σ H):wX (Iw c a b) u D σ H:=h1 _ h2
theorem ZeG(x:Int)(h0:0<m)(h1:m<=2^62):-(2^64)<x % m/\x % m<2^64:=by
 have a:=Jc x (JW h0);have b:=W1 x h0;omega
theorem MT:∀(l:List α) (k:Nat) (h:k<l.length),l.Perm (l[k]::l.eraseIdx k)
 |[],k,h=>absurd h (Wm k)
 |a::r,0,_=>List.Perm.refl _
 |a::r,k+1,h=>(List.Perm.cons a (MT r k (Nat.lt_of_succ_lt_succ h))).trans (List.Perm.swap _ _ _)
theorem Nx(f:α->β):∀(l:List α) (k:Nat),(l.map f).eraseIdx k=(l.eraseIdx k).map f
 |[],_=>rfl
 |_::_,0=>rfl
 |a::r,k+1=>by
  show f a::(r.map f).eraseIdx k=f a::(r.eraseIdx k).map f;rw[Nx f r k]
theorem G0{n:Nat}{i:Int}(h0:0<=i)(h1:i<n):jX n i=some i.toNat:=by
 unfold jX
 grind
theorem m6{ns:List Int}{i:Int}(h0:0<=i)(h1:i<ns.length):dv (ns.map V.int) i=some (.int (ns.getD i.toNat 0)):=by
 have e:i=((i.toNat:Nat):Int):=by omega
 rw[e];refine hV ?_
 grind
theorem mU{ns:List Int}{i:Nat}{y:V}(h:(ns.map V.int)[i]?=some y):∃z,y=.int z/\ns[i]?=some z:=by
 rw[Yl] at h;cases e:ns[i]? with
 |none=>grind
 |some z=>grind
theorem Ou(ns:List Int)(z:Int):ns.map V.int++[V.int z]=(ns++[z]).map V.int:=by simp
theorem Ov(ns:List Int)(lo hi:Option Int):∃ms:List Int,oS (ns.map V.int) lo hi=ms.map V.int:=by
 refine⟨(ns.drop (HT.gP ns.length 0 lo)).take (HT.gP ns.length ns.length hi-HT.gP ns.length 0 lo),?_⟩;unfold oS;simp_all
end
theorem Ru:bootBuiltins "abs"=some (.builtin "abs"):=by decide+kernel
theorem ZeH:bootBuiltins "any"=some (.builtin "any"):=by decide+kernel
theorem Rv:bootBuiltins "all"=some (.builtin "all"):=by decide+kernel
theorem cT:bootBuiltins "len"=some (.builtin "len"):=by decide+kernel
theorem ZeI:bootBuiltins "min"=some (.builtin "min"):=by decide+kernel
theorem Fd:bootBuiltins "sorted"=some (.builtin "sorted"):=by decide+kernel
theorem kH:bootBuiltins "isinstance"=some (.builtin "isinstance"):=by decide+kernel
theorem ra:bootBuiltins "list"=some (.type "list"):=by decide+kernel
theorem mQ:bootBuiltins "tuple"=some (.type "tuple"):=by decide+kernel
theorem uf:bootBuiltins "range"=some (.type "range"):=by decide+kernel
theorem zg:bootBuiltins "bool"=some (.type "bool"):=by decide+kernel
theorem Rw:bootBuiltins "int"=some (.type "int"):=by decide+kernel
theorem wA:bootBuiltins "str"=some (.type "str"):=by decide+kernel
def Bd(d p:Int):Prop:=0<=d/\d<p
inductive Ow(K:PySem.W.Frag)(vs:List V)(H:Hp)(Q:VK):Prop
 |mk (a:Addr) (ns:List Int) (k:Int) (aB:vs=[.ref a,.int k]) (aT:aj K H a (ns.map V.int)) (bq:0<=k) (bR:∀c:Int,Q (.int c) H):Ow K vs H Q
def Rx(K:PySem.W.Frag):Sp:=λvs H Q _=>Ow K vs H Q
inductive Ny(K:PySem.W.Frag)(vs:List V)(H:Hp)(Q:VK):Prop
 |mk (c:Int) (a:Addr) (ps:List Int) (aB:vs=[.int c,.ref a]) (aT:aj K H a (ps.map V.int)) (bq:(∀p∈ps,0<p/\p<1073741824)) (bR:ps.length<=60) (cM:∀(l:Addr) (ds:List Int) (H':Hp),H l=none->ah H H'->H' l=some (.lst (ds.map V.int))->Paired Bd ds ps->Q (.ref l) H'):Ny K vs H Q
def Gw(K:PySem.W.Frag):Sp:=λvs H Q _=>Ny K vs H Q
inductive Ox(vs:List V)(H:Hp)(Q:VK):Prop
 |mk (c:Int) (n:Nat) (aB:vs=[.int c,.int (n:Int)]) (aT:n<=60) (bq:∀(t:Addr) (ns:List Int) (H':Hp),H t=none->ah H H'->H' t=some (.tup (ns.map V.int))->ns.Perm (bF n)->Q (.ref t) H'):Ox vs H Q
def Ry:Sp:=λvs H Q _=>Ox vs H Q
theorem P2(ho:PE X o to)(hi:PE X i ti)(hs:rT X t)(he:PE X e te)
  (h1:swapsWithSole [.Subscript o i tp] e pos.line X.env=pure false:=by rfl)(h2:swappedStores [.Subscript o i tp] e X.env=pure none:=by rfl)
  (h3:(assignEach [.Subscript o i tp] X.env).map (·.2)=[assign (.Subscript o i tp) X.env]:=by rfl)
  (ha:∀v,assign (.Subscript o i tp) X.env v=(do
   let ov←holding [v] (eval o X.env);let iv←holding [v,ov] (eval i X.env)
   standAt tp
   holding [v,ov,iv] (setItem ov iv v)
   release [v,ov,iv] []):=by intro _;rfl):PS X (.Assign [.Subscript o i tp] e pos) (wY te (Tr to ti t)):=m5 he (Zet ho hi hs ha) h1 h2 h3
def TL(h:Heap)(a C:Addr)(d:Option Addr)(vs:Array Value):Prop:=∃oe:Obj,h.get? a=some oe/\oe.cls=.ref C/\oe.dict=d/\oe.data=.fields vs/\1<vs.size
def xo(a C:Addr)(d:Option Addr):HO:=.ext λh=>∃vs,TL h a C d vs
def Fly(lo:Nat)(H:Hp)(h:Heap)(vs:Array Value):Prop:=
 vs[1]?=some Value.none\/∃T oT ts,vs[1]?=some (Value.ref T)/\lo<=T/\H T=none/\h.get? T=some oT/\oT.data=.fields ts/\ts[3]?=some Value.none
inductive SJ(P:Program)(w:World)(outer:List Env)(H:Hp)(s:Shared)(E:XK)(e:Value)(s':Shared):Prop
 |mk (a C d:Addr) (H':Hp) (vs:Array Value) (aB:e=.ref a) (aT:s.heap.objs.size<=a) (bq:s'.os=s.os) (bR:AllBare s'.gens) (cM:Un (iK outer) [] H H' s.heap s'.heap) (dZ:dq P w H' s'.heap) (ie:H' a=some (xo a C (some d))) (ji:TL s'.heap a C (some d) vs) (qG:Fly s.heap.objs.size H' s'.heap vs) (xG:E (.ref C) (some d) H'):SJ P w outer H s E e s'
def nK(P:Program)(w:World):jW:=λouter H s E e s'=>SJ P w outer H s E e s'
section
variable {M:Model}{A:Around}{Er:Value->Shared->Prop}{s:Shared}
end
section
variable {P:Program}{w:World}{A:Around}{Er:Value->Shared->Prop}
end
section
variable {P:Program}{w:World}{K:PySem.W.Frag}{mg:Str->Option Value}{base:Heap}{N:List Str}{qual:Str}{scope:Scope}{f:Addr}{cd:Value}{A:Around}{outer:List Env}{s:Shared}{H:Hp}{E:XK}
theorem IK:PassesOwn (model P w) (nA (nK P w) P w K mg base N qual scope f cd A outer s H E).A (nA (nK P w) P w K mg base N qual scope f cd A outer s H E).env (nA (nK P w) P w K mg base N qual scope f cd A outer s H E).xe:=
 λe s' h=>PassesOwn.leaving (Q₁:=λe sA=>nK P w outer H s E e sA) e s' h
end
section
variable {X:Cx}{k j:Nat}{f C:Addr}{fd:FuncData}{ps:List Str}{sp:Sp}{eI:List V}{ds:List Value}{E:St->XK}{x m:Str}{p pos apos:Pos}{e o:Expr}{es:List Expr}{ta:TE}{t:TA}
end
section
variable {P:Program}{w:World}{K:PySem.W.Frag}{mg:Str->Option Value}{base:Heap}
theorem aK.okX{x qual:Str}{st:Stmt}{f:Addr}{fd:FuncData}{N ps:List Str}{k:Nat}{sp:Sp}(F:aK K x qual st f fd)(S:aR N ps (aJ st))(len:∀vs H Q E,sp vs H Q E->vs.length=ps.length)
  (wK:∀(aC:Value) (A:Around) (outer:List Env) (s:Shared) (H:Hp) (vs:List V) (Q:VK) (E:XK),di k (A.deeper (envOfC qual (aJ st) s.heap.objs.size f aC))->sp vs H Q E->
   ∃t,ia (nA (nK P w) P w K mg base N qual (aJ st) f aC A outer s H E) (lP st) t/\t {nx:=λ_ H'=>Q .ay H',rt:=Q} (start N vs) H):aH P w K mg base (nK P w) (k+1) f fd ps sp:=by
 obtain⟨oc,od,kV,doc,pm,an,aC,ct,o_,rfl,lk,jV⟩:=F.ex;exact SI lk jV S len λA outer s H vs Q E hr nI=>wK aC A outer s H vs Q E hr nI
end
section
variable {prog:Program}{w:World}{A:Around}{E:Value->Shared->Prop}{h:Heap}{g:Array GenState}{d:Drawn}{t:Nat}{os:OsState}
variable {nm q:Str}{C N:Addr}{bs bm:List Value}{Zh5:Bool}{sn:List Str}{sub:List Value}{ab:Bool}{col:Option Bool}{dd:Option Addr}{k0 k1 k2 k3 k5:Option Value}
local macro_rules|`(tactic|walk_at "vlu")=>`(tactic|exact PySem.F.excBase_ValueError)
end
end L2
namespace L2
open PySem PySem.Spec PyProof.Rows
open PySem.W (Looks InstAt looks_findIn looks_typeIn looks_clsIn looks_mroIn looks_find findObj findIn mroIn clsIn)
section
variable {prog:Program}{w:World}{A:Around}{E:Value->Shared->Prop}{s:Shared}{K:PySem.W.Frag}{x C:Addr}{ox:Obj}{od:Option Obj}{name:Str}
end
section
variable {prog:Program}{w:World}{A:Around}{E:Value->Shared->Prop}{s:Shared}{K:PySem.W.Frag}{x C:Addr}{name:Str}{nV v:Value}{b:Bool}{tk:Tok}
end
section
variable {X:Cx}{o e value:Expr}{f:Str}{pos pos':Pos}{ta tv:TE}
end
section
variable {X:Cx}{CX:jW}{k:Nat}{f C:Addr}{fd:FuncData}{ps:List Str}{sp:Sp}{eI:List V}{ds:List Value}{E:XK}{x m:Str}{p pos apos:Pos}{e:Expr}{es:List Expr}{t:TA}
end
section
variable {M:Model}{A:Around}{E:Value->Shared->Prop}{s:Shared}{K:PySem.W.Frag}{a C:Addr}
end
section
variable {X:Cx}{x:Str}{p pos apos:Pos}{e:Expr}{es:List Expr}{t:TA}
end
section
variable {X:Cx}{k:Nat}{f C:Addr}{fd:FuncData}{ps:List Str}{sp:Sp}{eI:List V}{ds:List Value}{E:St->XK}{x:Str}{p pos cG:Pos}{e:Expr}{es:List Expr}{t:TA}
end
section
variable {X:Cx}{pins:List (Addr×Obj)}{σ:St}{H:Hp}{s:Shared}
end
section
variable {M:Model}{A:Around}{E:Value->Shared->Prop}{s:Shared}{K:PySem.W.Frag}{a C B:Addr}{d:Option Addr}{vs:Array Value}
end
section
variable {X:Cx}{B:Addr}{i:Nat}{n x:Str}{body ZhW:List Stmt}{b0:Stmt}{px hp pos:Pos}{tb:(St->XK)->TS}{th:TS}
end
section
variable {X:Cx}{e:Expr}{te:TE}{pos:Pos}
end
section
variable {X:Cx}{e e2:Expr}{es:List Expr}{te:TE}{t:TJ}{pos:Pos}
end
end L2
namespace L2
open PySem PySem.Spec PyProof.Rows
structure Bl(mg:Str->Option Value):Prop where
 cU:mg "len"=none
 ZfZ:mg "abs"=none
 rF:mg "list"=none
 jM:mg "range"=none
 mV:mg "tuple"=none
 Zf0:mg "any"=none
 SK:mg "all"=none
 kI:mg "isinstance"=none
 zD:mg "bool"=none
 SM:mg "int"=none
 wM:mg "str"=none
 FO:mg "sorted"=none
 Zf1:mg "min"=none
 Zf2:mg "max"=none
 ZhX:mg "sum"=none
 ZeJ:mg "dict"=none
 ZhO:mg "reversed"=none
 ZhL:mg "ValueError"=none
theorem ZgP{X:Cx}{K:PySem.W.Frag}(hc:X.calm=true)(h:X.K=K):c6 X (.builtin "any") (TB K):=h▸XY hc
theorem TM{X:Cx}{K:PySem.W.Frag}(hc:X.calm=true)(h:X.K=K):c6 X (.builtin "all") (TC K):=h▸XZ hc
theorem sortedK{X:Cx}{K:PySem.W.Frag}(h:X.K=K):c6 X (.builtin "sorted") (Gv K):=h▸Mz
theorem lu{X:Cx}{K:PySem.W.Frag}(h:X.K=K):cL X (compareOp .In) (xx K false):=h▸Zbe
theorem ux{X:Cx}{K:PySem.W.Frag}(h:X.K=K):cL X (compareOp .NotIn) (xx K true):=h▸YY
theorem P4{X:Cx}{K:PySem.W.Frag}(h:X.K=K):jY X (JH K):=h▸Zey
section
variable {P:Program}{w:World}{K:PySem.W.Frag}{mg:Str->Option Value}{base:Heap}
end
theorem Rz{K:PySem.W.Frag}:kitOne K (.type "int") (.type "int")=some true:=by kernel_rfl
theorem G1{K:PySem.W.Frag}:kitOne K (.type "int") (.type "bool")=some false:=by kernel_rfl
theorem RA{K:PySem.W.Frag}:kitOne K (.type "bool") (.type "bool")=some true:=by kernel_rfl
theorem ZeK{K:PySem.W.Frag}:kitOne K (.type "str") (.type "bool")=some false:=by kernel_rfl
theorem ZeL{K:PySem.W.Frag}:kitOne K (.type "str") (.type "int")=some false:=by kernel_rfl
theorem RB{K:PySem.W.Frag}:kitOne K (.type "str") (.type "str")=some true:=by kernel_rfl
theorem ZeM{K:PySem.W.Frag}:kitOne K (.type "list") (.type "bool")=some false:=by kernel_rfl
theorem ZeN{K:PySem.W.Frag}:kitOne K (.type "list") (.type "int")=some false:=by kernel_rfl
theorem ZeO{K:PySem.W.Frag}:kitOne K (.type "list") (.type "str")=some false:=by kernel_rfl
theorem ZeP{K:PySem.W.Frag}:kitOne K (.type "list") (.type "list")=some true:=by kernel_rfl
theorem ZeQ{K:PySem.W.Frag}:kitOne K (.type "list") (.type "tuple")=some false:=by kernel_rfl
theorem ZeR{K:PySem.W.Frag}:kitOne K (.type "tuple") (.type "bool")=some false:=by kernel_rfl
theorem ZeS{K:PySem.W.Frag}:kitOne K (.type "tuple") (.type "int")=some false:=by kernel_rfl
theorem ZeT{K:PySem.W.Frag}:kitOne K (.type "tuple") (.type "str")=some false:=by kernel_rfl
theorem ZeU{K:PySem.W.Frag}:kitOne K (.type "tuple") (.type "list")=some false:=by kernel_rfl
theorem ZeV{K:PySem.W.Frag}:kitOne K (.type "tuple") (.type "tuple")=some true:=by kernel_rfl
theorem Fe(ns:List Int)(o:Option Int):(ns++o.toList).map V.int=ns.map V.int++o.toList.map V.int:=by simp
inductive Dt where
 |ay|bl (b:Bool)|int (i:Int)|str (x:Str)|lst (ds:List Dt)|tup (ds:List Dt)
def At(H:Hp):Nat->V->Dt->Prop
 |_,v,.ay=>v=.ay
 |_,v,.bl b=>v=.bl b
 |_,v,.int i=>v=.int i
 |_,v,.str x=>v=.str x
 |0,_,.lst _=>False
 |0,_,.tup _=>False
 |m+1,v,.lst ds=>∃a xs,v=.ref a/\H a=some (.lst xs)/\ds.length<=1000/\Paired (At H m) xs ds
 |m+1,v,.tup ds=>∃a xs,v=.ref a/\H a=some (.tup xs)/\ds.length<=1000/\Paired (At H m) xs ds
theorem At.same(g:ah H H'):∀{m:Nat} {v:V} {d:Dt},At H m v d->At H' m v d
 |_,_,.ay,h=>by unfold At at h⊢;exact h
 |_,_,.bl _,h=>by unfold At at h⊢;exact h
 |_,_,.int _,h=>by unfold At at h⊢;exact h
 |_,_,.str _,h=>by unfold At at h⊢;exact h
 |0,_,.lst _,h=>by unfold At at h;exact h.elim
 |0,_,.tup _,h=>by unfold At at h;exact h.elim
 |m+1,_,.lst _,h=>by
  obtain⟨a,xs,e,h1,h2,h3⟩:=h;exact⟨a,xs,e,g _ _ h1,h2,L2.Paired.bp h3 λ_ _ z=>At.same g z⟩
 |m+1,_,.tup _,h=>by
  obtain⟨a,xs,e,h1,h2,h3⟩:=h;exact⟨a,xs,e,g _ _ h1,h2,L2.Paired.bp h3 λ_ _ z=>At.same g z⟩
section
variable {H:Hp}{m:Nat}
theorem ZeW(i:Int):At H m (.int i) (.int i):=by unfold At;rfl
theorem RC(x:Str):At H m (.str x) (.str x):=by unfold At;rfl
theorem ZeX(h:H a=some (.tup xs))(l:ds.length<=1000)(p:Paired (At H m) xs ds):At H (m+1) (.ref a) (.tup ds):=by unfold At;exact⟨a,xs,rfl,h,l,p⟩
theorem G3(h:H a=some (.lst xs))(l:ds.length<=1000)(p:Paired (At H m) xs ds):At H (m+1) (.ref a) (.lst ds):=by unfold At;exact⟨a,xs,rfl,h,l,p⟩
end
theorem fV:∀{xs:List α} {ys:List β} {i:Nat} {x:α},Paired F xs ys->xs[i]?=some x->∃y,ys[i]?=some y/\F x y:=by
 intro xs ys i x h;induction h generalizing i with
 |nil=>intro e;simp at e
 |cons r t ih=>
  intro e;cases i with
  |zero=>
   have e:=Yp (show some _=some _ by simpa using e);subst e;exact⟨_,rfl,r⟩
  |succ i=>
   obtain⟨y,h1,h2⟩:=ih (i:=i) (by simpa using e);exact⟨y,by simpa using h1,h2⟩
theorem cN:∀{xs:List α} {ys:List β},Paired F xs ys->xs.length=ys.length:=by
 intro xs ys h;induction h with
 |nil=>rfl
 |cons _ _ ih=>rw[Wq,Wq,ih]
theorem Oy{α:Type}{xs:List α}{i:Nat}{x:α}(h:xs[i]?=some x):dv xs (0+(i:Int))=some x:=by
 rw[show(0:Int)+(i:Int)=(i:Int) from by omega];exact hV h
def Zdm:List V->Hp->VK->Prop:=λxs H Q=>∃(p:Addr) (n:Nat),xs=[.ref p]/\H p=some (.jy 0 (n:Int))/\n<=1000/\∀l:Addr,H l=none->Q (.ref l) (upd H l (.tup ((bF n).map V.int)))
section
variable {prog:Program}{w:World}{A:Around}{E:Value->Shared->Prop}{s:Shared}
theorem ZJ{Q:List Value->Shared->Prop}{r:Addr}{n:Nat}{t u v:Tok}(hh:A.handled=none)(hr:IsRange s.heap r 0 (n:Int) 1 t u v)(hn:n<=1000)
  (k:∀h' tk (acc:Array Value),(∀b o,s.heap.get? b=some o->h'.get? b=some o)->ItemsOf (λi v=>∃t,v=.int (0+i*1) t) acc n->Q acc.toList {s with heap:=h',toks:=tk}):
  wpAny (model prog w) A (collect (.ref r)) Q E s:=by
 refine wpAny_bind (wpAny_runValue (codeAny_builtin PySem.F.entry_proto_collect (wpAny_bind (wpAny_newObj_type (wpAny_pure ⟨plainId_quiet PySem.F.plain_list_iadd _,codeAny_builtin PySem.F.entry_list_iadd ?_⟩)))));have Zf3:∀s':Shared,(∃(h':Heap) (tk:Nat) (acc:Array Value) (c:Nat),s'={s with heap:=h',toks:=tk}/\(∀b o,b≠s.heap.objs.size->(s.heap.push {cls:=.type "list",data:=.seq ([]:List Value).toArray}).get? b=some o->h'.get? b=some o)/\
   h'.get? s.heap.objs.size=some {cls:=.type "list",dict:=none,data:=.seq acc c,slots:=#[]}/\ItemsOf (λi v=>∃t,v=.int (0+i*1) t) acc n)->
   wpAny (model prog w) A (match Value.ref s.heap.objs.size with
    |Value.ref a=>do
     match(←load a).data with
      |Data.seq xs _=>pure xs.toList
      |_=>unsupported "internal:collect"
    |_=>unsupported "internal:collect") Q E s':=by
  rintro s' ⟨h',tk,acc,c,rfl,kp,here,ai⟩;exact wpAny_bind (wpAny_load here (wpAny_pure (k h' tk acc (λb o hb=>kp b o (Y1 (Yx hb)) (Yc _ hb)) ai)))
 refine wpAny_mono (wpAny_extend_range (s:={s with heap:=s.heap.push {cls:=.type "list",data:=.seq ([]:List Value).toArray}})
  (R:=λr s'=>r=.ok (.ret (.ref s.heap.objs.size))/\∃(h':Heap) (tk:Nat) (acc:Array Value) (c:Nat),s'={s with heap:=h',toks:=tk}/\(∀b o,b≠s.heap.objs.size->(s.heap.push {cls:=.type "list",data:=.seq ([]:List Value).toArray}).get? b=some o->h'.get? b=some o)/\
   h'.get? s.heap.objs.size=some {cls:=.type "list",dict:=none,data:=.seq acc c,slots:=#[]}/\ItemsOf (λi v=>∃t,v=.int (0+i*1) t) acc n)
  hh (Yc _ hr) (small_one (by omega) (by omega) (by omega) (by omega)) (by rw[rangeSize_one];split<;>omega) (by omega) _ _ 0 (Ys _ rfl) λh' tk acc c kp here ai=>⟨rfl,h',tk,acc,c,rfl,kp,here,ai⟩) (λfin s' z=>?_) λe s' z=>?_
 ·cases fin with
  |done f=>grind
  |again c'=>exact⟨z.1,codeAny_mono z.2 λr sA hr=>by obtain⟨rfl,hz⟩:=hr;exact Zf3 sA hz⟩
 ·grind
theorem Zdn(r:Addr)(n:Nat)(t u v:Tok)(hn:n<=1000):
  Meets (Builtin.«tuple.__new__» ⟨[.type "tuple",.ref r],[]⟩) (λA R s=>A.handled=none/\IsRange s.heap r 0 (n:Int) 1 t u v/\∀(h':Heap) (tk:Nat) (acc:Array Value),(∀b o,s.heap.get? b=some o->h'.get? b=some o)->ItemsOf (λi v=>∃t,v=.int (0+i*1) t) acc n->
   R (.ok (.ret (.ref h'.objs.size))) {s with heap:=h'.push {cls:=.type "tuple",data:=.seq acc},toks:=tk}):=
 .of_wp λprog w A R s h=>by
  obtain⟨hp,g,d,tk,os⟩:=s;obtain⟨hh,ht,q⟩:=h;have sub:=sub_tuple_self;have ini:=init_tuple_lookup;have mh:=madeHere_tuple;have hh1:A.in1.handled=none:=hh
  wp_walk using PySem.AutoSeq1.wpAny_loadPart' ht,wpAny_typeOf ty,ZJ (A:=A.in1) hh1 ht hn
  intro h' tk' acc kp ai;show wpAny _ _ (Builtin.Tuple.tupleExact acc.toList.toArray>>=λv=>ret v) _ _ _;unfold Builtin.Tuple.tupleExact;have lz:acc.toList.toArray.size<=sizeLine:=by
   have e:=ai.1;rw[sizeLine_eq];simp;omega
  refine wpAny_bind (wpAny_newObj_type (wpAny_pure ⟨_,rfl,?_⟩) lz);have e:acc.toList.toArray=acc:=by simp
  rw[e];exact q h' tk' acc kp ai
end
theorem Mo(hc:X.calm=true):c6 X (.type "tuple") Zdm:=by
 intro pins s σ H xs us Q I r h;obtain⟨p,n,rfl,hp,hn,q⟩:=h;obtain⟨u,rfl,rx⟩:=vals1 r;cases rx;obtain⟨t,u,v,ho⟩:=I.av p _ hp;refine callType_new PySem.F.called_tuple (by decide) (PySem.F.typeCall_tuple_1 _) (PySem.F.newCall_tuple_1 _) (λobj=>PySem.F.args_object_init_2 obj _) PySem.F.entry_tuple_new (Zdn p n t u v hn) ⟨I.ok.hd hc,ho,λh' tk acc kp ai=>⟨⟨_,Ys _ rfl,rfl⟩,?_⟩⟩;have I1:=I.kept (t':=tk) kp;have vs:Vals ((bF n).map V.int) acc.toList:=by
  refine DV (by rw[Ya,eX];simp[ai.1]) λi x u e1 e2=>?_;obtain⟨t',rfl⟩:=ai.2 i u (by simpa using e2);have hi:i<n:=by
   have:=(Yg.mp e1).1;rw[Ya,eX] at this;exact this
  rw[Yl,lO hi] at e1;have e3:=Yp e1;subst e3;exact⟨t',by rw[show(0:Int)+(i:Int)*1=(i:Int) by omega]⟩
 have I2:Inv X pins σ (upd H h'.objs.size (.tup ((bF n).map V.int))) {s with heap:=h'.push {cls:=.type "tuple",data:=.seq acc},toks:=tk}:=
  I1.laid (t':=tk) (λb o e=>Yc _ e) (Yd _) (show cQ X.prog X.w _ _ _ (.tup _) from⟨by rw[Ya,eX];exact Ji (jJ hn),acc.toList,vs,by simpa using mZ.new h' acc⟩)
 exact⟨.ref h'.objs.size,_,I2,rfl,q _ (I1.av.fresh (Yd _))⟩
section
variable {X:Cx}{e e2:Expr}{es:List Expr}{te:TE}{t:TF}{pos:Pos}
end
end L2
namespace L2
open PySem PySem.Spec PyProof.Rows
open PySem.W (Looks InstAt looks_findIn looks_typeIn looks_clsIn looks_mroIn looks_find findObj findIn mroIn clsIn)
section
variable {X:Cx}{B1 B2:Addr}{i:Nat}{n x1 x2:Str}{body ZhR ZhS:List Stmt}{b1 b2:Stmt}{px1 px2 pC dB pos:Pos}{tb:(St->XK)->TS}{th1 th2:TS}
end
end L2
namespace As
open L2
theorem Ex(n:Nat):(bF n).Nodup:=by
 exact List.Pairwise.map _ (λa b h e=>h (by omega)) List.nodup_range
section
variable {t:List Int}{n:Nat}
end
end As
namespace L2
open PySem PySem.Spec PyProof.Rows
def Row(K:PySem.W.Frag)(H:Hp)(p:Addr)(ns:List Int):Prop:=aj K H p (ns.map V.int)\/aA K H p (ns.map V.int)
theorem Row.same{K:PySem.W.Frag}{H H':Hp}{p:Addr}{ns:List Int}(e:ah H H')(h:Row K H p ns):Row K H' p ns:=by
 rcases h with h|h;·exact .inl (e.seq h)
 ·exact .inr (e.jh h)
def full(ns:List Int):Bool:=decide (ns.Perm (bF ns.length))
theorem pX(h:full ns=true):ns.Perm (bF ns.length):=of_decide_eq_true h
theorem rb(h:ns.Perm (bF n)):full ns=true:=decide_eq_true (by rw[h.length_eq,eX];exact h)
theorem ZK(n:Nat):(bF n).Pairwise (·<=·):=by
 unfold bF;rw[W3];exact List.pairwise_lt_range.imp λh=>by omega
theorem MU:∀{as bs:List Int},as.Perm bs->as.Pairwise (·<=·)->bs.Pairwise (·<=·)->as=bs
 |[],bs,p,_,_=>by
  simp_all
 |a::as,[],p,_,_=>by
  simp_all
 |a::as,b::bs,p,h1,h2=>by
  rw[List.pairwise_cons] at h1 h2;have e:a=b:=by
   have ha:=p.subset Yk;have hb:=p.symm.subset Yk
   grind
  subst e;rw[MU (List.Perm.cons_inv p) h1.2 h2.2]
theorem ZL(p:df.Perm ns)(h:df.Pairwise (·<=·)):decide (df=bF ns.length)=full ns:=by
 unfold full;rw[Wf,decide_eq_true_iff,decide_eq_true_iff];constructor;·grind
 ·intro q;exact MU (p.trans q) h (ZK _)
def SN(K:PySem.W.Frag)(neg:Bool)(tr:TE):TE:=k_ (TK K neg) (qE (Gv K) (iZ tr jR)) (qE Ot (iZ (qE P0 (iZ (qE (zZ K) (iZ tr jR)) jR)) jR))
theorem Zb7{K:PySem.W.Frag}{i:Nat}{neg:Bool}{σ:St}{H:Hp}{p:Addr}{ns:List Int}{Q:VK}(hi:σ[i]?=some (some (.ref p)))(hR:Row K H p ns)(jg:ns.length<64)(q:∀H',ah H H'->Q (.bl (if neg=true then !full ns else full ns)) H'):
   (SN K neg (hZ i)) σ H Q:=by
 refine⟨_,hi,p,ns,rfl,hR,jg,λl df hl pm so=>?_⟩;have g1:ah H (upd H l (.lst (df.map V.int))):=cy hl _;refine⟨_,hi,p,ns.map V.int,rfl,Row.same g1 hR,_,rfl,λr hr=>⟨r,(ns.map V.int).length,rfl,aZ,by rw[Ya];omega,λu hu=>?_⟩⟩;have g3:=(g1.trans (cy hr (.jy 0 (((ns.map V.int).length:Nat):Int)))).trans (cy hu (.lst ((bF (ns.map V.int).length).map V.int)));refine⟨l,u,df,bF (ns.map V.int).length,rfl,rfl,aj.of ?_,aj.of aZ,?_⟩
 ·rw[a9 (bQ ((cy hr _) _ _ aZ) hu)];exact(cy hr _) _ _ aZ
 ·rw[Ya,ZL pm so]
  grind
theorem any_false(n:Nat):(List.replicate n false).any id=false:=by
 induction n with
 |zero=>rfl
 |succ n ih=>grind
section
open PySem.AutoSeq1 (wpAny_loadPart')
open PySem.MeetsSeq PySem.SeqAt
theorem YA(l:Addr)(items:Array Value)(n:Nat)(dd:Option Addr)(sl:Array (Option Value))(x:Value)(e:Value->Bool)(j:Nat)(hj:j<items.size)
  (hit:e items[j]=true)(JX:∀m (hm:m<items.size),m<j->e items[m]=false):
  Meets (Builtin.«tuple.index» ⟨[.ref l,x],[]⟩)
   (λA R s=>s.heap.get? l=some {cls:=.type "tuple",dict:=dd,data:=.seq items n,slots:=sl}/\(∀y,y∈items->EqAt A.in1 s y x (e y))/\R (.ok (.ret (.int j s.toks))) {s with toks:=s.toks+1}):=
 .of_wp λprog w A R s h=>by
  obtain⟨hp,g,d,tk,os⟩:=s;obtain⟨hl,he,h⟩:=h
  wp_walk using wpAny_loadPart' hl
  show wpAny _ _ (forIn (m:=Sem) [:min items.size items.size] (none,()) _) _ _ _;rw[Std.Legacy.Range.forIn_eq_forIn_range'];refine wpAny_forIn_list _ (λrest b s'=>s'=⟨hp,g,d,tk,os⟩/\∃i,i<=j/\rest=List.range' i (items.size-i)) _ ?_ ?_ _ _ ⟨rfl,0,Yw _,by simp⟩
  ·rintro k rest b s' ⟨rfl,i,hi,hr⟩;have bX:i<items.size:=by omega
   obtain⟨rfl,wN⟩:k=i/\rest=List.range' (i+1) (items.size-(i+1)):=by
    have e:items.size-i=(items.size-(i+1))+1:=by omega
    rw[e,List.range'_succ] at hr;injection hr with h1 h2;exact⟨h1,h2⟩
   rw[W9 bX];refine wpAny_bind (he _ (Array.getElem_mem bX) prog w _ _ ?_);rcases Nat.lt_or_ge k j with hk|hk
   ·rw[JX k bX hk]
    wp_walk
    exact⟨rfl,k+1,by omega,wN⟩
   ·obtain rfl:k=j:=by omega
    rw[hit]
    wp_walk
    exact⟨_,rfl,h⟩
  ·grind
end
def ZeY(to:TE)(t:TA):TE:=λσ H Q=>to σ H λx H1=>∃(p:Addr) (ns:List Int),x=.ref p/\H1 p=some (.tup (ns.map V.int))/\t σ H1 λvs H2=>∃(z:Int) (j:Nat),vs=[.int z]/\H2 p=some (.tup (ns.map V.int))/\ns[j]?=some z/\(∀m,m<j->ns[m]?≠some z)/\Q (.int (j:Int)) H2
theorem YB:∀{ns:List Int} {us:List Value} {j:Nat} (h:j<us.length),Vals (ns.map V.int) us->∃n t,ns[j]?=some n/\us[j]=.int n t:=by
 intro ns;induction ns with
 |nil=>intro us j h r;cases r;simp at h
 |cons n ns ih=>
  intro us j h r;rw[Wl] at r;cases r with
  |cons r t=>
   cases j with
   |zero=>
    obtain⟨t',rfl⟩:=r;exact⟨n,t',rfl,rfl⟩
   |succ j=>
    obtain⟨n',t',e1,e2⟩:=ih (j:=j) (by simpa using h) t;exact⟨n',t',by simpa using e1,by simpa using e2⟩
theorem Zbk(ns:List Int):(ns.map V.int).all i4=true:=by
 induction ns with
 |nil=>rfl
 |cons n ns ih=>rw[Wl,Jd,ih];rfl
theorem MA(ho:PE X o to)(ha:PA X [e] t)
  (oI:attributeBase o "index" X.env (eval o X.env)=eval o X.env:=by rfl)
  (IF:((backTo cG (starEach [e] X.env)).all (λx=>!x.1)&&(backToKw cG (keywordEach [] X.env)).all (λx=>x.1.isSome)
   &&decide ([e].length+([]:List Keyword).length+(if([]:List Keyword).isEmpty then 0 else 1)<30))=true:=by rfl)
  (oK:(apos.endLine==cG.line)=true:=by rfl)(hs:starEach [e] X.env=(false,eval e X.env)::starEach [] X.env:=by rfl):
  PE X (.Call (.Attribute o "index" apos) [e] [] cG) (ZeY to t):=by
 intro pins s σ H Q I h;refine wpAny_Call_method_late oI IF oK rfl (az (ho pins s σ H _ I h) λv s1 zq=>?_);obtain⟨x,H1,I1,r1,p,ns,ex,hp,q1⟩:=zq;subst ex;obtain rfl:v=Value.ref p:=r1;obtain⟨_,_,_,ob,g,oc,_,_,od⟩:=(show cQ X.prog X.w H1 s1.heap p (.tup (ns.map V.int)) from I1.av p _ hp);refine⟨"tuple","tuple.index",F.plainAttrs_tuple,F.slot_tuple_index,F.type_tuple_index,⟨ob,g,oc⟩,λa ea=>by cases ea;exact⟨ob,g,od⟩,?_⟩;have hA:=ha cG pins s1 σ H1 _ I1 q1;rw[hs] at hA⊢;refine Calls.callWith_builtin rfl (Calls.evalArgs_plain ?_);refine az hA λus s2 zq=>?_;obtain⟨vs,H2,I2,r2,z,j,ev,dB,hj,JX,q2⟩:=zq;subst ev;obtain⟨u,rfl,ru⟩:=r2.one;obtain⟨tz,rfl⟩:=ru;obtain⟨_,ai,rv,⟨cls,dd,data,sl⟩,g2,UU,n2,UW,_⟩:=(show cQ X.prog X.w H2 s2.heap p (.tup (ns.map V.int)) from I2.av p _ dB);simp only at UU UW;subst UU UW;have hlen:ai.length=ns.length:=by have:=rv.length;rw[Ya] at this;omega
 have UX:j<ai.length:=by rw[hlen];exact(Yg.mp hj).1
 have ix:∀m (hm:m<ai.length),ic (.int z) ai[m]=decide (ns[m]?=some z):=λm hm=>by
  obtain⟨n',t',e1,e2⟩:=YB hm rv;rw[e1,e2];show(n'==z)=decide (some n'=some z)
  grind
 refine call_meets F.slot_tuple_index ⟨_,g2,rfl⟩ F.entry_tuple_index (F.args_tuple_index_2 _ _) (YA p ai.toArray n2 dd sl (.int z tz) (ic (.int z)) j (by rw[Yu];exact UX) ?_ ?_) ⟨g2,?_,?_⟩;·rw[List.getElem_toArray,ix j UX];exact decide_eq_true hj
 ·intro m hm bX;rw[List.getElem_toArray,ix m (by simpa using hm)];exact decide_eq_false (JX m bX)
 ·intro y hy;exact wc (x:=.int z) ⟨tz,rfl⟩ rfl rv (Zbk ns) y (by simpa using hy)
 ·exact⟨.int _,H2,I2.tok _,⟨_,rfl⟩,q2⟩
section
variable {κ:Type}[DecidableEq κ]
def aS(kvs:List (κ×V))(k:κ):Option V:=(kvs.find? λkv=>decide (kv.1=k)).map (·.2)
def putK(kvs:List (κ×V))(k:κ)(v:V):List (κ×V):=
 if(kvs.any λkv=>decide (kv.1=k))=true then kvs.map (λkv=>if kv.1=k then(kv.1,v) else kv) else kvs++[(k,v)]
def gH(kvs:List (κ×V))(k:κ):List (κ×V):=kvs.filter λkv=>decide (kv.1≠k)
theorem fO{p:κ×V}{r:List (κ×V)}{k:κ}(e:p.1=k):aS (p::r) k=some p.2:=by simp[aS,J6,e]
theorem fq{p:κ×V}{r:List (κ×V)}{k:κ}(e:¬p.1=k):aS (p::r) k=aS r k:=by simp[aS,J6,e]
theorem ug(k:κ):∀kvs:List (κ×V),(kvs.any λkv=>decide (kv.1=k))=(aS kvs k).isSome
 |[]=>rfl
 |p::r=>by
  rw[Jm];by_cases e:p.1=k;·simp only[fO e,decide_eq_true e,Bool.true_or,Option.isSome_some]
  ·rw[fq e,decide_eq_false e,J4];exact ug k r
theorem Oz(k j:κ)(y:V):∀kvs:List (κ×V),aS (kvs.map λkv=>if kv.1=k then(kv.1,y) else kv) j=(aS kvs j).map λx=>if j=k then y else x
 |[]=>rfl
 |p::r=>by
  have ih:=Oz k j y r;rw[Wl];by_cases h:p.1=k
  ·rw[if_pos h];by_cases e:p.1=j;·rw[fO (p:=(p.1,y)) e,fO e,Option.map_some,if_pos (e.symm.trans h)]
   ·rw[fq (p:=(p.1,y)) e,fq e,ih]
  ·rw[if_neg h];by_cases e:p.1=j;·rw[fO e,fO e,Option.map_some,if_neg (λz=>h (e.trans z))]
   ·rw[fq e,fq e,ih]
theorem t8(k j:κ)(y:V):∀kvs:List (κ×V),aS kvs k=none->aS (kvs++[(k,y)]) j=if j=k then some y else aS kvs j
 |[],_=>by
  by_cases e:k=j;·rw[if_pos e.symm];exact fO (p:=(k,y)) e
  ·rw[if_neg (λz=>e z.symm)];exact fq (p:=(k,y)) e
 |p::r,hn=>by
  rw[UY];have hk:¬p.1=k:=λz=>by rw[fO z] at hn;cases hn
  rw[fq hk] at hn;by_cases e:p.1=j;·rw[fO e,fO e,if_neg (λz=>hk (e.trans z))]
  ·rw[fq e,fq e,(t8 k j y r hn)]
theorem Zb8(kvs:List (κ×V))(k j:κ)(y:V):aS (putK kvs k y) j=if j=k then some y else aS kvs j:=by
 unfold putK;by_cases a:(kvs.any λkv=>decide (kv.1=k))=true
 ·rw[if_pos a,Oz];rw[ug] at a;by_cases e:j=k
  ·obtain⟨x,hx⟩:=Ja.mp a
   grind
  ·simp_all
 ·rw[if_neg a];refine t8 k j y kvs ?_;rw[ug] at a;cases q:aS kvs k with
  |none=>rfl
  |some x=>grind
theorem yz(kvs:List (κ×V))(k:κ)(v:V):(putK kvs k v).length<=kvs.length+1:=by
 unfold putK
 grind
theorem kJ{kvs:List (κ×V)}{k:κ}(v:V)(h:aS kvs k=none):putK kvs k v=kvs++[(k,v)]:=by
 unfold putK;rw[ug,h];rfl
theorem fW.t9(r:fW o u):o.isSome=u.isSome:=by
 cases o with
 |none=>cases u with
  |none=>rfl
  |some _=>exact(show False from r).elim
 |some _=>cases u with
  |none=>exact(show False from r).elim
  |some _=>rfl
theorem fW.getD(r:fW o u)(rd:RelV d d'):RelV (o.getD d) (u.getD d'):=by
 cases o with
 |none=>cases u with
  |none=>exact rd
  |some _=>exact(show False from r).elim
 |some _=>cases u with
  |none=>exact(show False from r).elim
  |some _=>exact r
theorem KV.val{kvs:List (κ×V)}{vs:List (κ×Value)}(r:KV kvs vs)(k:κ):fW (aS kvs k) (valueAt vs k):=by
 unfold KV at r;induction r with
 |nil=>exact True.intro
 |@cons p q ps qs h t ih=>
  obtain⟨h1,h2⟩:=h;by_cases e:p.1=k
  ·have e':q.1=k:=h1.symm.trans e;have b:valueAt (q::qs) k=some q.2:=by simp[valueAt,J6,e']
   rw[fO e,b];exact h2
  ·have e':¬q.1=k:=λz=>e (h1.trans z);have b:valueAt (q::qs) k=valueAt qs k:=by simp[valueAt,J6,e']
   rw[fq e,b];exact ih
theorem KV.any(r:KV kvs vs)(k:κ):(kvs.any λkv=>decide (kv.1=k))=vs.any λkv=>decide (kv.1=k):=by
 induction r with
 |nil=>rfl
 |cons h t ih=>grind
theorem KV.IL(r:KV kvs vs)(k:κ)(ry:RelV y u):
  KV (kvs.map λkv=>if kv.1=k then(kv.1,y) else kv) (vs.map λkv=>if kv.1=k then(kv.1,u) else kv):=by
 induction r with
 |nil=>exact .nil
 |@cons p q ps qs h t ih=>
  refine .cons ?_ ih
  grind
theorem KV.put(r:KV kvs vs)(k:κ)(ry:RelV y u):KV (putK kvs k y) (stored vs k u):=by
 unfold putK stored;rw[r.any k];by_cases e:(vs.any λkv=>decide (kv.1=k))=true;·rw[if_pos e,if_pos e];exact r.IL k ry
 ·rw[if_neg e,if_neg e];exact Paired.snoc r ⟨rfl,ry⟩
theorem KV.drop(r:KV kvs vs)(k:κ):KV (gH kvs k) (without vs k):=by
 unfold gH without;induction r with
 |nil=>exact .nil
 |@cons p q ps qs h t ih=>
  obtain⟨h1,h2⟩:=h;rw[Wo,Wo];by_cases e:p.1=k;·grind
  ·have e':¬q.1=k:=λz=>e (h1.trans z);have a:decide (p.1≠k)=true:=by simp[e]
   have b:decide (q.1≠k)=true:=by simp[e']
   rw[if_pos a,if_pos b];exact .cons ⟨h1,h2⟩ ih
theorem KV.keys{kvs:List (κ×V)}{vs:List (κ×Value)}(r:KV kvs vs):kvs.map (·.1)=vs.map (·.1):=by
 induction r with
 |nil=>rfl
 |cons h t ih=>grind
theorem KV.length(r:KV kvs vs):kvs.length=vs.length:=Paired.length r
theorem OA(kvs:List (κ×V))(k:κ):(gH kvs k).length<=kvs.length:=Wi _ _
end
theorem lV(r:RelV (kV k) u):(dC P w).is k u=true:=by
 cases k with
 |inl i=>obtain⟨t,e⟩:=(show ∃t,u=Value.int i t from r);subst e;exact ZE P w i t
 |inr x=>obtain⟨t,e⟩:=(show ∃t,u=Value.str x t from r);subst e;exact ZF P w x t
theorem Nz:∀{ks:List Key} {us:List Value},Vals (ks.map kV) us->ItemsAre (dC P w) ks us
 |[],_,r=>by rw[List.map_nil] at r;cases r;exact .nil
 |k::ks,_,r=>by
  cases r with
  |cons h t=>exact .cons (lV h) (Nz t)
abbrev KT(H:Hp):List (List Key×V)->List (List Key×Addr×Value)->Prop:=Paired λp q=>p.1=q.1/\H q.2.1=some (.tup (p.1.map kV))/\RelV p.2 q.2.2
theorem KT.val{H:Hp}{kvs:List (List Key×V)}{xs:List (List Key×Addr×Value)}(r:KT H kvs xs)(k:List Key):fW (aS kvs k) ((atKey xs k).map (·.2)):=by
 induction r with
 |nil=>exact True.intro
 |@cons p q ps qs h t ih=>
  obtain⟨h1,_,h2⟩:=h;by_cases e:p.1=k
  ·have e':q.1=k:=h1.symm.trans e;have b:atKey (q::qs) k=some q.2:=by simp[atKey,e']
   rw[fO e,b];exact h2
  ·have e':¬q.1=k:=λz=>e (h1.trans z);have b:atKey (q::qs) k=atKey qs k:=by simp[atKey,e']
   rw[fq e,b];exact ih
theorem KT.IL(r:KT H kvs xs)(k:List Key)(ry:RelV y u):
  KT H (kvs.map λkv=>if kv.1=k then(kv.1,y) else kv) (xs.map (putAt k u)):=by
 induction r with
 |nil=>exact .nil
 |@cons p q ps qs h t ih=>
  refine .cons ?_ ih;unfold putAt
  grind
theorem KT.put(r:KT H kvs xs)(k:List Key)(hb:H b=some (.tup (k.map kV)))(ry:RelV y u):
  KT H (putK kvs k y) (storedH xs k b u):=by
 have e:(kvs.any λkv=>decide (kv.1=k))=(atKey xs k).isSome:=by
  rw[ug,(r.val k).t9,UZ]
 unfold putK storedH;rw[e];by_cases q:(atKey xs k).isSome=true;·rw[if_pos q,if_pos q];exact r.IL k ry
 ·rw[if_neg q,if_neg q];exact Paired.snoc r ⟨rfl,hb,ry⟩
theorem KT.keeps(r:KT H kvs xs)(ht:∀b ys,H b=some (.tup ys)->H' b=some (.tup ys)):KT H' kvs xs:=
 Paired.bp r λ_ _ z=>⟨z.1,ht _ _ z.2.1,z.2.2⟩
section
variable {P:Program}{w:World}{H:Hp}{h:Heap}{a:Addr}
theorem SO(ok:dq P w H h)(e:Rd H a u):cQ P w H h a u:=e.ok ok
theorem oM(ok:dq P w H h)(e:Rd H a (.dK kvs)):kvs.length<=sizeLine/\(a==sysModules)=false/\∃vs,KV kvs vs/\h.DictOf (dC P w) a vs:=
 show cQ P w H h a (.dK kvs) from SO ok e
theorem lW(ok:dq P w H h)(e:H a=some (.dK kvs)):kvs.length<=sizeLine/\(a==sysModules)=false/\∃vs,KV kvs vs/\h.DictOf (dC P w) a vs:=oM ok (.inl e)
theorem qh(ok:dq P w H h)(e:H a=some (.tup (ks.map kV))):(tupleKind (dC P w)).is h ks a:=by
 obtain⟨_,ai,r,o,h1,h2,n,h3,_⟩:=(show cQ P w H h a (.tup (ks.map kV)) from ok a _ e);exact⟨o,ai.toArray,n,h1,h2,h3,by simpa using Nz r⟩
theorem qm(ok:dq P w H h)(e:Rd H a (.dT kvs)):kvs.length<=sizeLine/\(a==sysModules)=false/\
  ∃xs,KT H kvs xs/\h.DictOfH (tupleKind (dC P w)) a xs:=by
 obtain⟨z,y,xs,r,o,es,ep,h1,h2,h3,h4,h5⟩:=(show cQ P w H h a (.dT kvs) from SO ok e);refine⟨z,y,xs,r,o,es,ep,h1,h2,h3,h4,λx hx=>?_,h5⟩;have all:∀{l:List (List Key×V)} {m:List (List Key×Addr×Value)},KT H l m->∀x∈m,(tupleKind (dC P w)).is h x.1 x.2.1:=by
  intro l m q;induction q with
  |nil=>grind
  |@cons p q ps qs hq t ih=>
   intro x hx;rcases Yt.mp hx with e|hx
   ·subst e;exact qh ok (by rw[←hq.1];exact hq.2.1)
   ·exact ih x hx
 grind
theorem SQ(ok:dq P w H h)(e:H a=some (.dT kvs)):kvs.length<=sizeLine/\(a==sysModules)=false/\
  ∃xs,KT H kvs xs/\h.DictOfH (tupleKind (dC P w)) a xs:=qm ok (.inl e)
end
def eC(H:Hp)(a:Addr)(y:V)(r:Option V):Prop:=
 (∃kvs k,Rd H a (.dK kvs)/\y=kV k/\r=aS kvs k)\/∃kvs k b,Rd H a (.dT kvs)/\y=.ref b/\H b=some (.tup (k.map kV))/\r=aS kvs k
def rY(H:Hp)(a:Addr)(y v:V)(H':Hp):Prop:=
 (∃kvs k,H a=some (.dK kvs)/\y=kV k/\kvs.length<sizeLine/\H'=upd H a (.dK (putK kvs k v)))\/
 ∃kvs k b,H a=some (.dT kvs)/\y=.ref b/\H b=some (.tup (k.map kV))/\kvs.length<sizeLine/\H'=upd H a (.dT (putK kvs k v))
theorem eC.k{H:Hp}{a:Addr}{kvs:List (Key×V)}{k:Key}(e:H a=some (.dK kvs)):eC H a (kV k) (aS kvs k):=.inl ⟨kvs,k,.inl e,rfl,rfl⟩
theorem eC.t{H:Hp}{a b:Addr}{kvs:List (List Key×V)}{k:List Key}(e:H a=some (.dT kvs))(eb:H b=some (.tup (k.map kV))):eC H a (.ref b) (aS kvs k):=.inr ⟨kvs,k,b,.inl e,rfl,eb,rfl⟩
theorem rY.k{H:Hp}{a:Addr}{kvs:List (Key×V)}{k:Key}{v:V}(e:H a=some (.dK kvs))(hl:kvs.length<sizeLine):rY H a (kV k) v (upd H a (.dK (putK kvs k v))):=.inl ⟨kvs,k,e,rfl,hl,rfl⟩
theorem rY.t{H:Hp}{a b:Addr}{kvs:List (List Key×V)}{k:List Key}{v:V}(e:H a=some (.dT kvs))(eb:H b=some (.tup (k.map kV)))(hl:kvs.length<sizeLine):
  rY H a (.ref b) v (upd H a (.dT (putK kvs k v))):=.inr ⟨kvs,k,b,e,rfl,eb,hl,rfl⟩
section
variable {X:Cx}{pins:List (Addr×Obj)}{σ:St}{H:Hp}{s:Shared}{a:Addr}{y v:V}{u r:Value}{o:Option V}{A:Around}{E:Value->Shared->Prop}
theorem Inv.big(I:Inv X pins σ H s):sysModules<s.heap.objs.size:=by
 exact Nat.lt_trans (by decide) ((I.mod.glob.keeps I.bk).lt)
theorem Zbl(hu:A.units+1<cLine)(I:Inv X pins σ H s)(g:eC H a y (some v))(ry:RelV y u)(h:∀w' s',Inv X pins σ H s'->RelV v w'->Q w' s'):
  wpAny (model X.prog X.w) A (getItem (.ref a) u) Q E s:=by
 rcases g with⟨kvs,k,e,ey,l⟩|⟨kvs,k,b,e,ey,eb,l⟩
 ·subst ey;obtain⟨z,hd,vs,rel,dd⟩:=oM I.av e;obtain⟨w',hw,f_⟩:=fW.some_of (v:=v) (o:=valueAt vs k) (by rw[l];exact rel.val k);exact wpAny_getItem_of (lV ry) dd.mapOf hw (h w' _ (I.tok _) f_)
 ·subst ey;cases(show u=Value.ref b from ry);obtain⟨z,hd,xs,rel,dd⟩:=qm I.av e;obtain⟨w',hw,f_⟩:=fW.some_of (v:=v) (o:=(atKey xs k).map (·.2)) (by rw[l];exact rel.val k);obtain⟨p,hp,dB⟩:=Option.map_eq_some_iff.mp hw;refine wpAny_getItem_heap (tupleKind_room_in1 hu) (qh I.av eb) dd hp ?_;rw[dB];exact h w' _ (I.tok _) f_
theorem ZgQ(hu:A.units+1<cLine)(I:Inv X pins σ H s)(g:eC H a y o)(ry:RelV y u)(h:∀s',Inv X pins σ H s'->Q (.bool o.isSome) s'):
  wpAny (model X.prog X.w) A (compareOp .In u (.ref a)) Q E s:=by
 rcases g with⟨kvs,k,e,ey,l⟩|⟨kvs,k,b,e,ey,eb,l⟩
 ·subst ey;obtain⟨z,hd,vs,rel,dd⟩:=oM I.av e;refine wpAny_in_of (lV ry) hd dd.mapOf ?_;rw[←(rel.val k).t9,←l];exact h _ (I.tok _)
 ·subst ey;cases(show u=Value.ref b from ry);obtain⟨z,hd,xs,rel,dd⟩:=qm I.av e;refine wpAny_in_heap (tupleKind_room_in1 hu) (qh I.av eb) hd dd ?_;have q:=(rel.val k).t9;rw[UZ] at q;rw[←q,←l];exact h _ (I.tok _)
theorem Zdo(hu:A.units+1<cLine)(I:Inv X pins σ H s)(g:eC H a y o)(ry:RelV y u)(h:∀s',Inv X pins σ H s'->Q (.bool (!o.isSome)) s'):
  wpAny (model X.prog X.w) A (compareOp .NotIn u (.ref a)) Q E s:=by
 rcases g with⟨kvs,k,e,ey,l⟩|⟨kvs,k,b,e,ey,eb,l⟩
 ·subst ey;obtain⟨z,hd,vs,rel,dd⟩:=oM I.av e;refine wpAny_notIn_of (lV ry) hd dd.mapOf ?_;rw[←(rel.val k).t9,←l];exact h _ (I.tok _)
 ·subst ey;cases(show u=Value.ref b from ry);obtain⟨z,hd,xs,rel,dd⟩:=qm I.av e;refine wpAny_notIn_heap (tupleKind_room_in1 hu) (qh I.av eb) hd dd ?_;have q:=(rel.val k).t9;rw[UZ] at q;rw[←q,←l];exact h _ (I.tok _)
theorem rf(I:Inv X pins σ H s)(mu:xn (H a))(hs:Heap.SameBut a s.heap h')(he:∃q,h'.get? a=some q)(new:cQ X.prog X.w (upd H a ob) h' a ob):
  Inv X pins σ (upd H a ob) {s with heap:=h',toks:=t'}:=
 I.write (x:=a) (e:=a) mu (.inl rfl) (λb q hb z=>(hs.2 b hb).trans z) he new
theorem wB(z:kvs.length<=sizeLine)(hd:(a==sysModules)=false)(rel:KV kvs vs)(dd:h'.DictOf (dC P w) a vs):
  cQ P w H' h' a (.dK kvs):=⟨z,hd,vs,rel,dd⟩
theorem NA(hu:A.units+1<cLine)(I:Inv X pins σ H s)(g:rY H a y v H')(ry:RelV y u)(rv:RelV v r)(h:∀s',Inv X pins σ H' s'->Q () s'):
  wpAny (model X.prog X.w) A (setItem (.ref a) u r) Q E s:=by
 rcases g with⟨kvs,k,e,ey,l,eH⟩|⟨kvs,k,b,e,ey,eb,l,eH⟩
 ·subst ey eH;obtain⟨z,hd,vs,rel,dd⟩:=lW I.av e;have hz:vs.length<=sizeLine:=by rw[←rel.length];exact z
  have hl:(putK kvs k v).length<=sizeLine:=by have:=yz kvs k v;omega
  refine wpAny_setItem_pairs (hsz:=hz) (lV ry) dd λh' iL hs=>h _ ?_;have he:∃q,h'.get? a=some q:=let⟨q,_,_,hq,_⟩:=iL;⟨q,hq⟩;exact rf I (by rw[e];exact True.intro) hs he (wB hl hd (rel.put k rv) iL)
 ·subst ey eH;cases(show u=Value.ref b from ry);obtain⟨z,hd,xs,rel,dd⟩:=SQ I.av e;have hz:xs.length<=sizeLine:=by rw[←Paired.length rel];exact z
  have hl:(putK kvs k v).length<=sizeLine:=by have:=yz kvs k v;omega
  refine wpAny_setItem_heap (hsz:=hz) (tupleKind_room_in1 hu) (qh I.av eb) dd λh' iL hs=>h _ ?_;obtain⟨q,es,ep,hq,h2,h3,h4,_,h5⟩:=iL;refine rf I (by rw[e];exact True.intro) hs ⟨q,hq⟩ ⟨hl,hd,_,(rel.put k eb rv).keeps λc ys ec=>?_,q,es,ep,hq,h2,h3,h4,h5⟩;rw[a9 (Su ec e (λz=>nomatch z))];exact ec
end
section
variable {X:Cx}{pins:List (Addr×Obj)}{σ:St}{H:Hp}{s:Shared}{a:Addr}{kvs:List (Key×V)}{k:Key}{u:Value}{A:Around}{E:Value->Shared->Prop}
theorem Zbm(I:Inv X pins σ H s)(e:H a=some (.dK kvs))(ry:RelV (kV k) u)(l:(aS kvs k).isSome=true)(h:∀s',Inv X pins σ (upd H a (.dK (gH kvs k))) s'->Q () s'):
  wpAny (model X.prog X.w) A (delItem (.ref a) u) Q E s:=by
 obtain⟨z,hd,vs,rel,dd⟩:=lW I.av e;refine wpAny_delItem_slot dd.typeIs (by decide) slot_dict_delitem
  (call_meetsIn slot_dict_delitem dd.typeIs PySem.F.entry_dict_delitem (PySem.F.args_dict_delitem_2 _ _) (meets_dict_delitem_pairs (dC X.prog X.w) a (lV ry)) ⟨vs,dd,by rw[←rel.length];exact z,by rw[←(rel.val k).t9];exact l,λh' iL hs=>h _ ?_⟩)
 have he:∃q,h'.get? a=some q:=let⟨q,_,_,hq,_⟩:=iL;⟨q,hq⟩;exact rf I (by rw[e];exact True.intro) hs he (wB (Y4 (OA kvs k) z) hd (rel.drop k) iL)
theorem Zf4(I:Inv X pins σ H s)(e:H a=some (.dK kvs))(ry:RelV (kV k) u)(l:aS kvs k=some v)(hm:more=[]\/∃x,more=[x])
  (h:∀w' s',Inv X pins σ (upd H a (.dK (gH kvs k))) s'->RelV v w'->Q w' s'):wpAny (model X.prog X.w) A (call (.builtin "dict.pop") (.ref a::u::more)) Q E s:=by
 obtain⟨z,hd,vs,rel,dd⟩:=lW I.av e;obtain⟨w',hw,f_⟩:=fW.some_of (v:=v) (o:=valueAt vs k) (by rw[←l];exact rel.val k);have hp:(keyPart u).isSome=true:=by
  cases k with
  |inl i=>obtain⟨t,q⟩:=(show ∃t,u=Value.int i t from ry);subst q;rfl
  |inr x=>obtain⟨t,q⟩:=(show ∃t,u=Value.str x t from ry);subst q;rfl
 have ha:argsOk "dict.pop" ⟨.ref a::u::more,[]⟩:=by
  rcases hm with q|⟨x,q⟩;·subst q;exact PySem.F.args_dict_pop_2 _ _
  ·subst q;exact PySem.F.args_dict_pop_3 _ _ _
 refine call_meetsIn slot_dict_pop dd.typeIs PySem.F.entry_dict_pop ha (meets_dict_pop_there (dC X.prog X.w) a (lV ry) more hm hp)
  ⟨vs,w',dd,by rw[←rel.length];exact z,hw,λh' iL hs=>h w' _ ?_ f_⟩
 have he:∃q,h'.get? a=some q:=let⟨q,_,_,hq,_⟩:=iL;⟨q,hq⟩;exact rf I (by rw[e];exact True.intro) hs he (wB (Y4 (OA kvs k) z) hd (rel.drop k) iL)
theorem Zf5(I:Inv X pins σ H s)(e:Rd H a (.dK kvs))(h:∀t s',Inv X pins σ H s'->Q (.int kvs.length t) s'):wpAny (model X.prog X.w) A (call (.builtin "len") [.ref a]) Q E s:=by
 obtain⟨z,hd,vs,rel,dd⟩:=oM I.av e;refine call_len_dict hd dd (by rw[←rel.length];rw[sizeLine_eq] at z;omega) ?_;rw[←rel.length];exact h _ _ (I.tok _)
end
def TN(i:Expr):Prop:=∀ov iv,subscripted i false ov iv=operate [ov,iv] (getItem ov iv)
theorem Zdp{prog:Program}{w:World}{A:Around}{E:Value->Shared->Prop}{s:Shared}{env:Env}{value slice:Expr}{pos:Pos}{T id:String}{Q:Value->Shared->Prop}
  (hl:typeLookup (.type T) "__getitem__"=pure (some (.builtin id)))(hs:TN slice)
  (h:wpAny (model prog w) A (eval value env) (λo bI=>wpAny (model prog w) A (eval slice env) (λi eB=>eB.TypeIs o T/\wpAny (model prog w) A (getItem o i) Q E eB) E bI) E s):
  wpAny (model prog w) A (eval (.Subscript value slice pos) env) Q E s:=by
 refine Subscript_ (wpAny_mono h (λo bI eR=>wpAny_mono eR (λi eB oU=>?_) λ_ _ x=>x) λ_ _ x=>x);obtain⟨hT,oU⟩:=oU;refine wpAny_bind (wpAny_bind (wpAny_specialOf hT hl ?_));have fin:wpAny (model prog w) A (subscripted slice false o i) (λr dY=>wpAny (model prog w) A (letTemporaryGo value o r>>=λ_=>pure r) Q E dY) E eB:=by
  rw[hs o i];exact wpAny_operating (wpAny_mono oU (λr dY uH=>wpAny_bind (wpAny_letTemporaryGo (wpAny_pure uH))) λ_ _ x=>x)
 first
  |exact wpAny_pure (wpAny_bind fin)
  |exact wpAny_bind (wpAny_pure (wpAny_bind fin))
  |exact wpAny_bind fin
theorem ZM(I:Inv X pins σ H s)(g:eC H a y o):s.TypeIs (.ref a) "dict":=by
 rcases g with⟨kvs,k,e,_,_⟩|⟨kvs,k,b,e,_,_,_⟩
 ·obtain⟨_,_,vs,_,dd⟩:=oM I.av e;exact dd.typeIs
 ·obtain⟨_,_,xs,_,dd⟩:=qm I.av e;exact dd.typeIs
inductive P5(Q:VK)(x:V)(y:V)(H2:Hp):Prop
 |mk (a v) (aB:x=.ref a) (aT:eC H2 a y (some v)) (bq:Q v H2):P5 Q x y H2
def Zf6(td ty:TE):TE:=λσ H Q=>td σ H λx H1=>ty σ H1 λy H2=>P5 Q x y H2
inductive RD(Q:VK)(y:V)(x:V)(H2:Hp):Prop
 |mk (a o) (aB:x=.ref a) (aT:eC H2 a y o) (bq:Q (.bl o.isSome) H2):RD Q y x H2
def ZgR(ty td:TE):TE:=λσ H Q=>ty σ H λy H1=>td σ H1 λx H2=>RD Q y x H2
inductive NB(Q:VK)(y:V)(x:V)(H2:Hp):Prop
 |mk (a o) (aB:x=.ref a) (aT:eC H2 a y o) (bq:Q (.bl (!o.isSome)) H2):NB Q y x H2
def Zdq(ty td:TE):TE:=λσ H Q=>ty σ H λy H1=>td σ H1 λx H2=>NB Q y x H2
section
variable {X:Cx}{o i e value:Expr}{pos pos' zV:Pos}{td ty tv:TE}
theorem dh(hu:X.A.units+1<cLine)(ho:PE X o td)(hi:PE X i ty)(hs:TN i):PE X (.Subscript o i pos) (Zf6 td ty):=by
 intro pins s σ H Q I h;refine Zdp PySem.F.slot_dict_getitem.lookup hs (az (ho pins s σ H _ I h) λu s1 zq=>?_);obtain⟨x,H1,I1,rx,q1⟩:=zq;refine az (hi pins s1 σ H1 _ I1 q1) λiv s2 zq=>?_;obtain⟨y,H2,I2,ry,a,v,ex,g,q2⟩:=zq;subst ex;obtain rfl:u=Value.ref a:=rx;exact⟨ZM I2 g,Zbl hu I2 g ry λw' s3 I3 f_=>⟨v,H2,I3,f_,q2⟩⟩
theorem zE(hu:X.A.units+1<cLine)(hi:PE X i ty)(ho:PE X o td):PC X .In i o (ZgR ty td):=by
 intro pins s σ H Q I h;refine az (hi pins s σ H _ I h) λiv s1 zq=>?_;obtain⟨y,H1,I1,ry,q1⟩:=zq;refine az (ho pins s1 σ H1 _ I1 q1) λu s2 zq=>?_;obtain⟨x,H2,I2,rx,a,ov,ex,g,q2⟩:=zq;subst ex;obtain rfl:u=Value.ref a:=rx;exact ZgQ hu I2 g ry λs3 I3=>⟨.bl ov.isSome,H2,I3,rfl,q2⟩
theorem mO(hu:X.A.units+1<cLine)(hi:PE X i ty)(ho:PE X o td):PC X .NotIn i o (Zdq ty td):=by
 intro pins s σ H Q I h;refine az (hi pins s σ H _ I h) λiv s1 zq=>?_;obtain⟨y,H1,I1,ry,q1⟩:=zq;refine az (ho pins s1 σ H1 _ I1 q1) λu s2 zq=>?_;obtain⟨x,H2,I2,rx,a,ov,ex,g,q2⟩:=zq;subst ex;obtain rfl:u=Value.ref a:=rx;exact Zdo hu I2 g ry λs3 I3=>⟨.bl (!ov.isSome),H2,I3,rfl,q2⟩
end
theorem OB(h:Heap)(hb:sysModules<h.objs.size):cQ P w H (h.push {cls:=.type "dict",data:=.dict #[]}) h.objs.size (.dK []):=
 ⟨Yw _,beq_eq_false_iff_ne.mpr (Ne.symm (Y1 hb)),[],.nil,Heap.DictOf.new h⟩
theorem Zb9(h:Heap)(hb:sysModules<h.objs.size):cQ P w H (h.push {cls:=.type "dict",data:=.dict #[]}) h.objs.size (.dT []):=
 ⟨Yw _,beq_eq_false_iff_ne.mpr (Ne.symm (Y1 hb)),[],.nil,_,#[],0,Ys _ rfl,⟨rfl,rfl,rfl⟩,rfl,rfl,Ws⟩
def ZeZ:TE:=λ_ H Q=>∀p,H p=none->Q (.ref p) (upd H p (.dK []))
def Ze0:TE:=λ_ H Q=>∀p,H p=none->Q (.ref p) (upd H p (.dT []))
section
variable {X:Cx}{pos:Pos}
theorem Zb_:PE X (.Dict [] [] pos) ZeZ:=λpins s σ H Q I h=>
 wpAny_Dict_empty ⟨.ref s.heap.objs.size,_,I.laid (a:=s.heap.objs.size) (o:=.dK []) (t':=s.toks) (λ_ _ q=>Yc _ q) (Yd _) (OB s.heap I.big),rfl,h _ (I.av.fresh (Yd _))⟩
theorem Zca:PE X (.Dict [] [] pos) Ze0:=λpins s σ H Q I h=>
 wpAny_Dict_empty ⟨.ref s.heap.objs.size,_,I.laid (a:=s.heap.objs.size) (o:=.dT []) (t':=s.toks) (λ_ _ q=>Yc _ q) (Yd _) (Zb9 s.heap I.big),rfl,h _ (I.av.fresh (Yd _))⟩
end
def G4:List (TE×TE)->St->Hp->(List (V×V)->Hp->Prop)->Prop
 |[],_,H,Q=>Q [] H
 |(tk,tv)::r,σ,H,Q=>tk σ H λx H1=>tv σ H1 λy H2=>G4 r σ H2 λps H3=>Q ((x,y)::ps) H3
abbrev VV:List (V×V)->List (Value×Value)->Prop:=Paired λp q=>RelV p.1 q.1/\RelV p.2 q.2
def Au(X:Cx)(pos:Pos)(keys:List (Option Expr))(values:List Expr)(sG:List (TE×TE)):Prop:=
 ∀(pins:List (Addr×Obj)) (s:Shared) (σ:St) (H:Hp) (Q:List (V×V)->Hp->Prop),Inv X pins σ H s->G4 sG σ H Q->
  wpAny (model X.prog X.w) X.A (evalPairs (pairTrees keys values X.env pos)) (λvs s'=>∃ps H',Inv X pins σ H' s'/\VV ps vs/\Q ps H') X.xe s
theorem zh:Au X pos [] [] []:=λpins s σ H Q I h=>pairTrees_nil_walk ⟨[],H,I,.nil,h⟩
theorem jK(hk:PE X k tk)(hv:PE X v tv)(hr:Au X pos ks vs sG):
  Au X pos (some k::ks) (v::vs) ((tk,tv)::sG):=λpins s σ H Q I h=>
 pairTrees_cons_walk (az (hk pins s σ H _ I h) λu s1 ⟨x,H1,I1,rx,q1⟩=>az (hv pins s1 σ H1 _ I1 q1) λw2 s2 ⟨y,H2,I2,ry,q2⟩=>
  az (hr pins s2 σ H2 _ I2 q2) λws s3 ⟨ps,H3,I3,rel,q3⟩=>⟨(x,y)::ps,H3,I3,.cons ⟨rx,ry⟩ rel,q3⟩)
def oG(kvs more:List (Key×V)):List (Key×V):=more.foldl (λacc kv=>putK acc kv.1 kv.2) kvs
theorem KV.merge:∀{more:List (Key×V)} {rs:List (Key×Value)} {kvs:List (Key×V)} {vs:List (Key×Value)},KV more rs->KV kvs vs->KV (oG kvs more) (merged vs rs):=by
 intro more rs kvs vs r;induction r generalizing kvs vs with
 |nil=>intro q;exact q
 |@cons p q ps qs h t ih=>
  intro r0;have e:KV (putK kvs p.1 p.2) (stored vs q.1 q.2):=by
   have:=r0.put p.1 h.2
   grind
  exact ih e
theorem Mp:∀(more kvs:List (Key×V)),(oG kvs more).length<=kvs.length+more.length
 |[],kvs=>by show kvs.length<=kvs.length+0;omega
 |p::r,kvs=>by
  have h1:=Mp r (putK kvs p.1 p.2);have h2:=yz kvs p.1 p.2;show(oG (putK kvs p.1 p.2) r).length<=_
  grind
theorem MV:∀{kvs:List (Key×V)} {ws:List (Value×Value)},VV (kvs.map λkv=>(kV kv.1,kv.2)) ws->∃rs,Carries (dC P w) ws rs/\KV kvs rs
 |[],_,r=>by rw[List.map_nil] at r;cases r;exact⟨[],True.intro,.nil⟩
 |p::kvs,_,r=>by
  cases r with
  |@cons a b as bs h t=>
   obtain⟨rs,c,q⟩:=MV t;obtain⟨b1,b2⟩:=b;exact⟨(p.1,b2)::rs,⟨lV h.1,rfl,c⟩,.cons ⟨rfl,h.2⟩ q⟩
def Zf7(sG:List (TE×TE)):TE:=λσ H Q=>∀p,H p=none->G4 sG σ (upd H p (.dK [])) λps H2=>H2 p=some (.dK [])/\∃kvs:List (Key×V),ps=kvs.map (λkv=>(kV kv.1,kv.2))/\kvs.length<=15/\Q (.ref p) (upd H2 p (.dK (oG [] kvs)))
theorem zk(h:Au X pos keys values sG)(IG:keys.all (·.isSome)=true)(hl:keys.length=values.length)(h0:keys≠[])
  (h15:keys.length<=15):PE X (.Dict keys values pos) (Zf7 sG):=by
 intro pins s σ H Q I q;refine wpAny_Dict_walk (knd:=dC X.prog X.w) IG hl h0 h15 (az (h pins _ σ _ _ (I.laid (λ_ _ q=>Yc _ q) (Yd _) (OB s.heap I.big)) (q _ (I.av.fresh (Yd s.heap.objs.size)))) λws s2 ⟨ps,H2,I2,rel,e,kvs,ep,lk,q2⟩=>?_);subst ep;obtain⟨rs,c,rk⟩:=MV rel;obtain⟨z,hd,vs0,r0,dd⟩:=lW I2.av e;cases r0;refine⟨rs,c,dd,λh' iL hs=>⟨.ref s.heap.objs.size,_,?_,rfl,q2⟩⟩;have hz:(oG [] kvs).length<=sizeLine:=by
  have h1:=Mp kvs [];rw[List.length_nil] at h1;rw[sizeLine_eq];omega
 exact rf I2 (by rw[e];exact True.intro) hs (let⟨q,_,_,hq,_⟩:=iL;⟨q,hq⟩) (wB hz hd (rk.merge .nil) iL)
structure M1(X:Cx)(o:Expr)(m:Str)(apos:Pos)(e:Expr)(cG:Pos):Prop where
 base:attributeBase o m X.env (eval o X.env)=eval o X.env
 iM:((backTo cG (starEach [e] X.env)).all (λx=>!x.1)&&(backToKw cG (keywordEach [] X.env)).all (λx=>x.1.isSome)
  &&decide (([e]:List Expr).length+([]:List Keyword).length+(if([]:List Keyword).isEmpty then 0 else 1)<30))=true
 line:(apos.endLine==cG.line)=true
 trees:backTo cG (starEach [e] X.env)=[(false,eval e X.env)]
structure M2(X:Cx)(o:Expr)(m:Str)(apos:Pos)(e f:Expr)(cG:Pos):Prop where
 base:attributeBase o m X.env (eval o X.env)=eval o X.env
 iM:((backTo cG (starEach [e,f] X.env)).all (λx=>!x.1)&&(backToKw cG (keywordEach [] X.env)).all (λx=>x.1.isSome)
  &&decide (([e,f]:List Expr).length+([]:List Keyword).length+(if([]:List Keyword).isEmpty then 0 else 1)<30))=true
 line:(apos.endLine==cG.line)=true
 trees:backTo cG (starEach [e,f] X.env)=[(false,eval e X.env),(false,eval f X.env)]
def xH(H:Hp)(a:Addr):Prop:=(∃kvs,Rd H a (.dK kvs))\/∃kvs,Rd H a (.dT kvs)
theorem uy(I:Inv X pins σ H s)(d:xH H a):
  s.TypeIs (.ref a) "dict"/\(∀b,Value.ref a=.ref b->∃ob,s.heap.get? b=some ob/\ob.dict=none)/\(a==sysModules)=false:=by
 rcases d with⟨kvs,e⟩|⟨kvs,e⟩
 ·obtain⟨_,hd,vs,_,dd⟩:=oM I.av e;refine⟨dd.typeIs,λb q=>?_,hd⟩;cases q;obtain⟨ob,_,_,h1,h2,_⟩:=dd;exact⟨ob,h1,h2.2.1⟩
 ·obtain⟨_,hd,xs,_,dd⟩:=qm I.av e;refine⟨dd.typeIs,λb q=>?_,hd⟩;cases q;obtain⟨ob,_,_,h1,h2,_⟩:=dd;exact⟨ob,h1,h2.2.1⟩
section
variable {X:Cx}{pins:List (Addr×Obj)}{σ:St}{H:Hp}{s:Shared}{a:Addr}{y d:V}{u r:Value}{o:Option V}{A:Around}{E:Value->Shared->Prop}
theorem Ze1(hu:A.units+1<cLine)(I:Inv X pins σ H s)(g:eC H a y o)(ry:RelV y u)(h:∀w' s',Inv X pins σ H s'->RelV (o.getD .ay) w'->Q w' s'):
  wpAny (model X.prog X.w) A (call (.builtin "dict.get") [.ref a,u]) Q E s:=by
 rcases g with⟨kvs,k,e,ey,l⟩|⟨kvs,k,b,e,ey,eb,l⟩
 ·subst ey;obtain⟨z,hd,vs,rel,dd⟩:=oM I.av e;refine call_meetsIn slot_dict_get dd.typeIs entry_dict_get (PySem.F.args_dict_get_2 _ _) (meets_dict_get (dC X.prog X.w) a (lV ry) hd) ⟨_,dd.mapOf,h _ _ (I.tok _) ?_⟩;rw[l];exact(rel.val k).getD rfl
 ·subst ey;cases(show u=Value.ref b from ry);obtain⟨z,hd,xs,rel,dd⟩:=qm I.av e;refine call_meetsIn slot_dict_get dd.typeIs entry_dict_get (PySem.F.args_dict_get_2 _ _) (meetsH_dict_get (tupleKind (dC X.prog X.w)) a b hd) ⟨tupleKind_room_in1 hu,k,xs,qh I.av eb,dd,h _ _ (I.tok _) ?_⟩;rw[l];exact(rel.val k).getD rfl
theorem Ze2(hu:A.units+1<cLine)(I:Inv X pins σ H s)(g:eC H a y o)(ry:RelV y u)(rd:RelV d r)(h:∀w' s',Inv X pins σ H s'->RelV (o.getD d) w'->Q w' s'):
  wpAny (model X.prog X.w) A (call (.builtin "dict.get") [.ref a,u,r]) Q E s:=by
 rcases g with⟨kvs,k,e,ey,l⟩|⟨kvs,k,b,e,ey,eb,l⟩
 ·subst ey;obtain⟨z,hd,vs,rel,dd⟩:=oM I.av e;refine call_meetsIn slot_dict_get dd.typeIs entry_dict_get (PySem.F.args_dict_get_3 _ _ _) (meets_dict_get_default (dC X.prog X.w) a (lV ry) hd r) ⟨_,dd.mapOf,h _ _ (I.tok _) ?_⟩;rw[l];exact(rel.val k).getD rd
 ·subst ey;cases(show u=Value.ref b from ry);obtain⟨z,hd,xs,rel,dd⟩:=qm I.av e;refine call_meetsIn slot_dict_get dd.typeIs entry_dict_get (PySem.F.args_dict_get_3 _ _ _) (meetsH_dict_get_default (tupleKind (dC X.prog X.w)) a b hd r) ⟨tupleKind_room_in1 hu,k,xs,qh I.av eb,dd,h _ _ (I.tok _) ?_⟩;rw[l];exact(rel.val k).getD rd
end
def Ze3(td ty:TE):TE:=λσ H Q=>td σ H λx H1=>∃a,x=.ref a/\xH H1 a/\ty σ H1 λy H2=>∃o,eC H2 a y o/\Q (o.getD .ay) H2
def Ze4(td ty tx:TE):TE:=λσ H Q=>td σ H λx H1=>∃a,x=.ref a/\xH H1 a/\ty σ H1 λy H2=>tx σ H2 λz H3=>∃o,eC H3 a y o/\Q (o.getD z) H3
section
variable {X:Cx}{o e f:Expr}{apos cG:Pos}{td ty tx:TE}
theorem Zcb(hu:X.A.units+1<cLine)(ho:PE X o td)(he:PE X e ty)(m:M1 X o "get" apos e cG):PE X (.Call (.Attribute o "get" apos) [e] [] cG) (Ze3 td ty):=by
 intro pins s σ H Q I h;refine wpAny_Call_method m.base m.iM m.line plainAttrs_dict slot_dict_get type_dict_get (az (ho pins s σ H _ I h) λu s1 zq=>?_);obtain⟨x,H1,I1,rx,a,ex,d,q1⟩:=zq;subst ex;obtain rfl:u=Value.ref a:=rx;obtain⟨t1,t2,_⟩:=uy I1 d;refine⟨t1,t2,?_⟩;rw[m.trees];exact Calls.callWith_builtin rfl (Calls.evalArgs_plain (Calls.spliced_cons (az (he pins s1 σ H1 _ I1 q1) λiv s2 ⟨y,H2,I2,ry,ov,g,q2⟩=>Calls.spliced_nil (Ze1 hu I2 g ry λw' s3 I3 f_=>⟨_,H2,I3,f_,q2⟩))))
theorem Zcc(hu:X.A.units+1<cLine)(ho:PE X o td)(he:PE X e ty)(hf:PE X f tx)(m:M2 X o "get" apos e f cG):PE X (.Call (.Attribute o "get" apos) [e,f] [] cG) (Ze4 td ty tx):=by
 intro pins s σ H Q I h;refine wpAny_Call_method m.base m.iM m.line plainAttrs_dict slot_dict_get type_dict_get (az (ho pins s σ H _ I h) λu s1 zq=>?_);obtain⟨x,H1,I1,rx,a,ex,d,q1⟩:=zq;subst ex;obtain rfl:u=Value.ref a:=rx;obtain⟨t1,t2,_⟩:=uy I1 d;refine⟨t1,t2,?_⟩;rw[m.trees];refine Calls.callWith_builtin rfl (Calls.evalArgs_plain (Calls.spliced_cons (az (he pins s1 σ H1 _ I1 q1) λiv s2 ⟨y,H2,I2,ry,q2⟩=>
  Calls.spliced_cons (az (hf pins s2 σ H2 _ I2 q2) λfv s3 ⟨z,H3,I3,rz,ov,g,q3⟩=>Calls.spliced_nil ?_))))
 exact Ze2 hu I3 g ry rz λw' s4 I4 f_=>⟨_,H3,I4,f_,q3⟩
end
section
variable {X:Cx}{pins:List (Addr×Obj)}{σ:St}{H:Hp}{s:Shared}{a:Addr}{kvs:List (Key×V)}{A:Around}{E:Value->Shared->Prop}
end
section
variable {X:Cx}{pins:List (Addr×Obj)}{σ:St}{H:Hp}{s:Shared}{a:Addr}{y:V}{u:Value}{A:Around}{E:Value->Shared->Prop}
end
def wO(P:Program)(w:World)(K:PySem.W.Frag)(mg:Str->Option Value)(base:Heap)(k:Nat)(x:Str)(C:Addr)(ps:List Str)(sp:Sp):Prop:=
 ∃f fd,Mk K C f/\aH P w K mg base aM k f fd ps sp/\Binds K fd ps []/\mg x=some (.ref C)
def cq(P:Program)(w:World)(K:PySem.W.Frag)(mg:Str->Option Value)(base:Heap)(k:Nat)(m:Str)(C:Addr)(ps:List Str)(sp:Sp):Prop:=
 ∃f fd,fZ K C/\Meth K C m f/\aH P w K mg base aM k f fd ps sp/\Binds K fd ps []
section
variable {X:Cx}{k j:Nat}{x m:Str}{C:Addr}{ps:List Str}{sp:Sp}{p pos apos:Pos}{o e:Expr}{es:List Expr}{t:TA}{ta:TE}
theorem Hv(h:wO X.prog X.w X.K X.mg X.base k x C ps sp)(hr:di j X.A)(hj:k+1<=j)(hg:Gl X x)(ha:PA X (e::es) t)(mw:(x==("__debug__":Str))=false:=by decide)
  (he:starEach (e::es) X.env=(false,eval e X.env)::starEach es X.env:=by rfl)(dt:(backTo pos (starEach es X.env)).any (·.1)=false:=by rfl):PE X (.Call (.Name x p) (e::es) [] pos) (SH C sp [] E0 t):=by
 obtain⟨f,fd,M,F,b,hm⟩:=h;exact Zdc M F (hr.mono hj) hg hm b .nil zN ha mw he dt
theorem cK(h:cq X.prog X.w X.K X.mg X.base k m C ps sp)(hr:di j X.A)(hj:k<=j)(ho:PE X o ta)(ha:PA X (e::es) t)
  (ib:starEach (e::es) X.env=(false,eval e X.env)::starEach es X.env:=by rfl)(dt:(backTo pos (starEach es X.env)).any (·.1)=false:=by rfl)
  (ht:eval (.Call (.Attribute o m apos) (e::es) [] pos) X.env=(do
   let ov←eval o X.env
   standAt apos.atName
   let(f,first)←holding [ov] (getMethod ov m pl)
   callWith pos f first (backTo pos (starEach (e::es) X.env)) (backToKw pos (keywordEach [] X.env))):=by rfl):
  PE X (.Call (.Attribute o m apos) (e::es) [] pos) (zM C m sp [] E0 ta t):=by
 obtain⟨f,fd,c,hm,F,b⟩:=h;exact Zdb ho c hm F (hr.mono hj) b .nil zN ha ib dt ht
end
theorem aV{X:Cx}{K:PySem.W.Frag}{e:Expr}{ta:TE}{f:Str}{pos:Pos}(h:X.K=K)(he:PE X e ta)(hb:attributeBase e f X.env (eval e X.env)=eval e X.env):PE X (.Attribute e f pos) (Tv K ta f):=h▸Zew he hb
section
open PySem.AutoSeq1 (wpAny_loadPart')
theorem Zbn(lo hi x:Int):(Builtin.Range.rangePlace? lo hi 1 x).isSome=decide (lo<=x/\x<hi):=by
 unfold Builtin.Range.rangePlace?
 grind
theorem Xv(p:Addr)(lo hi x:Int)(a b c t:Tok):
  Meets (Builtin.«range.__contains__» ⟨[.ref p,.int x t],[]⟩)
   (λ_ R s=>s.heap.get? p=some {cls:=.type "range",data:=.fields #[.int lo a,.int hi b,.int 1 c]}/\R (.ok (.ret (.bool (decide (lo<=x/\x<hi))))) s):=
 .of_wp λprog w A R s h=>by
  obtain⟨hp,g,d,tk,os⟩:=s;obtain⟨hl,h⟩:=h;rw[←Zbn] at h
  wp_walk using wpAny_loadPart' hl
  grind
end
def Ze5(neg:Bool):R2:=λx y H Q=>∃(i lo hi:Int) (p:Addr),x=.int i/\y=.ref p/\H p=some (.jy lo hi)/\Q (.bl (if neg=true then !decide (lo<=i/\i<hi) else decide (lo<=i/\i<hi))) H
theorem Y_:cL X (compareOp .NotIn) (Ze5 true):=by
 rintro pins s σ H x y v u Q I rx ry ⟨i,lo,hi,p,rfl,rfl,hp,q⟩;obtain⟨t,rfl⟩:=rx;cases ry;obtain⟨a,b,c,g⟩:=(show cQ X.prog X.w H s.heap p (.jy lo hi) from I.av p _ hp);exact SeqRoads2.notIn_meets ⟨_,g,rfl⟩ F.slot_range_contains F.entry_range_contains (F.args_range_contains_2 _ _) (Xv p lo hi i a b c t) ⟨g,_,rfl,.bl _,H,I,rfl,q⟩
theorem tR(p:Nat->Bool)(n:Nat):(List.range (n+1)).filter p=(List.range n).filter p++(if p n=true then[n] else[]):=by
 rw[Jk,Wh]
 grind
theorem hE{α β:Type}{F:α->β->Prop}:∀{xs:List α} {ys:List β} {x:α} {y:β},Paired F xs ys->F x y->Paired F (xs++[x]) (ys++[y]):=by
 intro xs ys x y h f;induction h with
 |nil=>exact .cons f .nil
 |cons r t ih=>exact .cons r ih
theorem DW:∀{xs:List α} {ys:List β},Paired F xs ys->xs.length=ys.length:=by
 intro xs ys h;induction h with
 |nil=>rfl
 |cons _ _ ih=>rw[Wq,Wq,ih]
theorem C3:∀{xs:List V} {ys:List β},Paired (λx y=>x=f y) xs ys->xs=ys.map f:=by
 intro xs ys h;induction h with
 |nil=>rfl
 |cons r t ih=>rw[Wl,←r,←ih]
theorem MW(n:Nat):(List.range n).filter (λ_=>true)=List.range n:=by simp
theorem YC(xs:List α)(f:Nat->β)(g:α->β)(h:∀(i:Nat) (v:α),xs[i]?=some v->f i=g v):(List.range xs.length).map f=xs.map g:=by
 refine Ww λi=>?_
 grind
def aw(D:Addr)(H H':Hp):Prop:=∀b o,H b=some o->b≠D->H' b=some o
theorem aw.of(g:ah H H'):aw D H H':=λb o e _=>g b o e
theorem aw.put(g:aw D H H'):aw D H (upd H' D o):=λb u e n=>by rw[a9 n];exact g b u e n
def uD(tt:TT)(te:TE)(fv:St)(D:Addr)(H:Hp)(v:V)(b:Bool)(Pe:V->Hp->Prop):Prop:=
 ∀H1,ah H H1->(∃ys,H1 D=some (.lst ys))->∀(Kt:VK) (Kf:Hp->Prop),(∀y H3,b=true->ah H1 H3->Pe y H3->Kt y H3)->(∀H3,b=false->ah H1 H3->Kf H3)->tt (some v::fv) H1 λc H2=>if c=true then te (some v::fv) H2 Kt else Kf H2
theorem yE{K:PySem.W.Frag}{a:Addr}{xs:List V}{tt:TT}{te:TE}{fv:St}{D:Addr}{H:Hp}{Q:VK}(hs:aj K H a xs)(hn:xs.length<=1000)(hD:H D=none)(p:Nat->Bool)(Pe:Nat->V->Hp->Prop)(mono:∀i y H1 H2,aw D H1 H2->Pe i y H1->Pe i y H2)
  (turn:∀(i:Nat) (v:V),xs[i]?=some v->uD tt te fv D H v (p i) (Pe i))(fin:∀ys H',ah H H'->H' D=some (.lst ys)->Paired (λy i=>Pe i y H') ys ((List.range xs.length).filter p)->Q (.ref D) H'):i6 (jz K a) tt te fv D H Q:=by
 refine Fb (λi ys H1=>i<=xs.length/\ah H H1/\H1 D=some (.lst ys)/\Paired (λy j=>Pe j y H1) ys ((List.range i).filter p)) ⟨Yw _,cy hD _,aZ,.nil⟩ (λi ys H1 _ ⟨_,g,_,_⟩=>g.seq hs) ?_ ?_
 ·rintro i v ys H1 hi ⟨_,g,h1,pr⟩;have dO:=(Yg.mp hi).1;have ll:=DW pr;have fl:=Wi p (List.range i);rw[Jw] at fl;refine turn i v hi H1 g ⟨_,h1⟩ _ _ (λy H3 pi g3 py=>⟨g3 _ _ h1,by rw[sizeLine_eq];omega,dO,?_,aZ,?_⟩) (λH3 pi g3=>⟨dO,g.trans g3,g3 _ _ h1,?_⟩)
  ·intro b o e;rw[a9 (bQ e hD)];exact g3 _ _ (g _ _ e)
  ·rw[tR,if_pos pi];exact hE (Paired.bp pr λz j q=>mono _ _ _ _ (aw.put (aw.of g3)) q) (mono _ _ _ _ (aw.put (aw.of (ah.refl _))) py)
  ·rw[tR,if_neg (by rw[pi];exact Ym),Y5];exact Paired.bp pr λz j q=>mono _ _ _ _ (aw.of g3) q
 ·grind
theorem Zam{K:PySem.W.Frag}{a:Addr}{xs:List V}{tt:TT}{te:TE}{fv:St}{D:Addr}{H:Hp}{Q:VK}(hs:aj K H a xs)(hn:xs.length<=1000)(hD:H D=none)(p:Nat->Bool)(f:Nat->V)
  (turn:∀(i:Nat) (v:V),xs[i]?=some v->uD tt te fv D H v (p i) (λy _=>y=f i))(fin:∀H',ah H H'->H' D=some (.lst (((List.range xs.length).filter p).map f))->Q (.ref D) H'):i6 (jz K a) tt te fv D H Q:=
 yE hs hn hD p (λi y _=>y=f i) (λ_ _ _ _ _ e=>e) turn λys H' g h1 pr=>fin H' g (by rw[←C3 pr];exact h1)
theorem Zan{K:PySem.W.Frag}{a:Addr}{xs:List V}{te:TE}{fv:St}{D:Addr}{H:Hp}{Q:VK}(hs:aj K H a xs)(hn:xs.length<=1000)(hD:H D=none)(f:V->V)
  (turn:∀(i:Nat) (v:V),xs[i]?=some v->∀H1,ah H H1->∀Kt:VK,(∀H3,ah H1 H3->Kt (f v) H3)->te (some v::fv) H1 Kt)(fin:∀H',ah H H'->H' D=some (.lst (xs.map f))->Q (.ref D) H'):i6 (jz K a) zY te fv D H Q:=by
 refine Zam hs hn hD (λ_=>true) (λi=>f (xs.getD i .ay)) (λi v hi H1 g _ Kt Kf kt _=>l_ (c8 ?_)) λH' g h1=>fin H' g ?_;·grind
 ·rw[h1,MW,YC xs (λi=>f (xs.getD i .ay)) f λi v hi=>by rw[Yn,hi];rfl]
theorem Zbo{K:PySem.W.Frag}{a:Addr}{xs:List V}{tt:TT}{te:TE}{fv:St}{D:Addr}{H:Hp}{Q:VK}(hs:aA K H a xs)(hn:xs.length<=1000)(hD:H D=none)(p:Nat->Bool)(Pe:Nat->V->Hp->Prop)(mono:∀i y H1 H2,aw D H1 H2->Pe i y H1->Pe i y H2)
  (turn:∀(i:Nat) (v:V),xs[i]?=some v->uD tt te fv D H v (p i) (Pe i))(fin:∀ys H',ah H H'->H' D=some (.lst ys)->Paired (λy i=>Pe i y H') ys ((List.range xs.length).filter p)->Q (.ref D) H'):i6 (uS K a) tt te fv D H Q:=by
 refine yY (λi ys H1=>i<=xs.length/\ah H H1/\H1 D=some (.lst ys)/\Paired (λy j=>Pe j y H1) ys ((List.range i).filter p)) ⟨Yw _,cy hD _,aZ,.nil⟩ (λi ys H1 _ ⟨_,g,_,_⟩=>g.jh hs) ?_ ?_
 ·rintro i v ys H1 hi ⟨_,g,h1,pr⟩;have dO:=(Yg.mp hi).1;have ll:=DW pr;have fl:=Wi p (List.range i);rw[Jw] at fl;refine turn i v hi H1 g ⟨_,h1⟩ _ _ (λy H3 pi g3 py=>⟨g3 _ _ h1,by rw[sizeLine_eq];omega,dO,?_,aZ,?_⟩) (λH3 pi g3=>⟨dO,g.trans g3,g3 _ _ h1,?_⟩)
  ·intro b o e;rw[a9 (bQ e hD)];exact g3 _ _ (g _ _ e)
  ·rw[tR,if_pos pi];exact hE (Paired.bp pr λz j q=>mono _ _ _ _ (aw.put (aw.of g3)) q) (mono _ _ _ _ (aw.put (aw.of (ah.refl _))) py)
  ·rw[tR,if_neg (by rw[pi];exact Ym),Y5];exact Paired.bp pr λz j q=>mono _ _ _ _ (aw.of g3) q
 ·grind
theorem Zbp{K:PySem.W.Frag}{a:Addr}{xs:List V}{tt:TT}{te:TE}{fv:St}{D:Addr}{H:Hp}{Q:VK}(hs:aA K H a xs)(hn:xs.length<=1000)(hD:H D=none)(p:Nat->Bool)(f:Nat->V)
  (turn:∀(i:Nat) (v:V),xs[i]?=some v->uD tt te fv D H v (p i) (λy _=>y=f i))(fin:∀H',ah H H'->H' D=some (.lst (((List.range xs.length).filter p).map f))->Q (.ref D) H'):i6 (uS K a) tt te fv D H Q:=
 Zbo hs hn hD p (λi y _=>y=f i) (λ_ _ _ _ _ e=>e) turn λys H' g h1 pr=>fin H' g (by rw[←C3 pr];exact h1)
theorem ZN{lo:Int}{n:Nat}{tt:TT}{te:TE}{fv:St}{D:Addr}{H:Hp}{Q:VK}(hn:n<=1000)(hD:H D=none)(p:Nat->Bool)(Pe:Nat->V->Hp->Prop)(mono:∀i y H1 H2,aw D H1 H2->Pe i y H1->Pe i y H2)
  (turn:∀i,i<n->uD tt te fv D H (.int (lo+i)) (p i) (Pe i))(fin:∀ys H',ah H H'->H' D=some (.lst ys)->Paired (λy i=>Pe i y H') ys ((List.range n).filter p)->Q (.ref D) H'):i6 (oY lo n) tt te fv D H Q:=by
 refine vY (λi ys H1=>i<=n/\ah H H1/\H1 D=some (.lst ys)/\Paired (λy j=>Pe j y H1) ys ((List.range i).filter p)) ⟨Yw _,cy hD _,aZ,.nil⟩ ?_ ?_
 ·rintro i ys H1 hi ⟨_,g,h1,pr⟩;have dO:=hi;have ll:=DW pr;have fl:=Wi p (List.range i);rw[Jw] at fl;refine turn i hi H1 g ⟨_,h1⟩ _ _ (λy H3 pi g3 py=>⟨g3 _ _ h1,by rw[sizeLine_eq];omega,dO,?_,aZ,?_⟩) (λH3 pi g3=>⟨dO,g.trans g3,g3 _ _ h1,?_⟩)
  ·intro b o e;rw[a9 (bQ e hD)];exact g3 _ _ (g _ _ e)
  ·rw[tR,if_pos pi];exact hE (Paired.bp pr λz j q=>mono _ _ _ _ (aw.put (aw.of g3)) q) (mono _ _ _ _ (aw.put (aw.of (ah.refl _))) py)
  ·rw[tR,if_neg (by rw[pi];exact Ym),Y5];exact Paired.bp pr λz j q=>mono _ _ _ _ (aw.of g3) q
 ·grind
theorem ZO{lo:Int}{n:Nat}{tt:TT}{te:TE}{fv:St}{D:Addr}{H:Hp}{Q:VK}(hn:n<=1000)(hD:H D=none)(p:Nat->Bool)(f:Nat->V)
  (turn:∀i,i<n->uD tt te fv D H (.int (lo+i)) (p i) (λy _=>y=f i))(fin:∀H',ah H H'->H' D=some (.lst (((List.range n).filter p).map f))->Q (.ref D) H'):i6 (oY lo n) tt te fv D H Q:=
 ZN hn hD p (λi y _=>y=f i) (λ_ _ _ _ _ e=>e) turn λys H' g h1 pr=>fin H' g (by rw[←C3 pr];exact h1)
abbrev Nw(H:Hp)(o:HO)(Q:VK):Prop:=∀(p:Addr) (H':Hp),H p=none->ah H H'->H' p=some o->Q (.ref p) H'
theorem Nw.at(h:Nw H o Q):∀p,H p=none->Q (.ref p) (upd H p o):=λp np=>h p _ np (cy np o) aZ
def wQ(t:TA):TE:=λσ H Q=>t σ H λxs H1=>xs.length<=sizeLine/\Nw H1 (.tup xs) Q
def SR(t:TA):TE:=λσ H Q=>t σ H λxs H1=>xs.length<=sizeLine/\Nw H1 (.lst xs) Q
section
variable {X:Cx}{es:List Expr}{t:TA}{pos:Pos}{K:PySem.W.Frag}
theorem dz{x1}(h:PA X es t):PE X (.Tuple es x1 pos) (wQ t):=by
 intro pins s σ H Q I hq;refine wpAny_Tuple_spliced (az (h pos pins s σ H _ I hq) λus s1 ⟨xs,H1,I1,r,z,q⟩=>⟨by rw[←r.length];exact z,⟨.ref s1.heap.objs.size,upd H1 s1.heap.objs.size (.tup xs),I1.laid (λb u e=>Yc _ e) (Yd _) ?_,rfl,q.at _ (I1.av.fresh (Yd _))⟩⟩);exact⟨z,us,r,⟨_,Ys _ rfl,rfl,_,rfl,rfl⟩⟩
theorem de(h:PA X es t):PE X (.List es pos) (SR t):=by
 intro pins s σ H Q I hq;refine wpAny_List_spliced (az (h pos pins s σ H _ I hq) λus s1 ⟨xs,H1,I1,r,z,q⟩=>⟨by rw[←r.length];exact z,⟨.ref s1.heap.objs.size,upd H1 s1.heap.objs.size (.lst xs),I1.laid (λb u e=>Yc _ e) (Yd _) ?_,rfl,q.at _ (I1.av.fresh (Yd _))⟩⟩);exact⟨z,us,0,r,Ys _ rfl⟩
theorem c6.mono(h:c6 X f r)(m:∀xs H Q,r' xs H Q->r xs H Q):c6 X f r':=λpins s σ H xs us Q I v q=>h pins s σ H xs us Q I v (m xs H Q q)
theorem cL.mono(h:cL X f r)(m:∀x y H Q,r' x y H Q->r x y H Q):cL X f r':=λpins s σ H x y v u Q I rx ry q=>h pins s σ H x y v u Q I rx ry (m x y H Q q)
theorem uU.mono(h:uU X r)(m:∀x lo hi H Q,r' x lo hi H Q->r x lo hi H Q):uU X r':=λpins s σ H x v vl vu lo hi sl Q I rx hs pl pu q=>h pins s σ H x v vl vu lo hi sl Q I rx hs pl pu (m x lo hi H Q q)
inductive MX(xs:List V)(H:Hp)(Q:VK):Prop
 |mk (j:Int) (aB:xs=[.int j]) (aT:Nw H (.jy 0 j) Q):MX xs H Q
def Zcd:List V->Hp->VK->Prop:=λxs H Q=>MX xs H Q
theorem Dr:c6 X (.type "range") Zcd:=yy.mono λ_ _ _ zq=>by obtain⟨j,e,q⟩:=zq;exact⟨j,e,q.at⟩
inductive MB(xs:List V)(H:Hp)(Q:VK):Prop
 |mk (p:Addr) (n:Nat) (aB:xs=[.ref p]) (aT:H p=some (.jy 0 (n:Int))) (bq:n<=1000) (bR:Nw H (.lst ((bF n).map V.int)) Q):MB xs H Q
def Zbq:List V->Hp->VK->Prop:=λxs H Q=>MB xs H Q
theorem X0(hc:X.calm=true):c6 X (.type "list") Zbq:=(C2 hc).mono λ_ _ _ zq=>by obtain⟨p,n,e,h,l,q⟩:=zq;exact⟨p,n,e,h,l,q.at⟩
inductive MY(xs:List V)(H:Hp)(Q:VK):Prop
 |mk (p:Addr) (n:Nat) (aB:xs=[.ref p]) (aT:H p=some (.jy 0 (n:Int))) (bq:n<=1000) (bR:Nw H (.tup ((bF n).map V.int)) Q):MY xs H Q
def Zce:List V->Hp->VK->Prop:=λxs H Q=>MY xs H Q
theorem XG(hc:X.calm=true):c6 X (.type "tuple") Zce:=(Mo hc).mono λ_ _ _ zq=>by obtain⟨p,n,e,h,l,q⟩:=zq;exact⟨p,n,e,h,l,q.at⟩
def Zcf(K:PySem.W.Frag):List V->Hp->VK->Prop:=λxs H Q=>∃(p:Addr) (ns:List Int),xs=[.ref p]/\(aj K H p (ns.map V.int)\/aA K H p (ns.map V.int))/\ns.length<64/\
  ∀df:List Int,df.Perm ns->df.Pairwise (·<=·)->Nw H (.lst (df.map V.int)) Q
theorem Zcg(h:X.K=K):c6 X (.builtin "sorted") (Zcf K):=h▸Mz.mono λ_ _ _ zq=>by obtain⟨p,ns,e,s,l,q⟩:=zq;exact⟨p,ns,e,s,l,λa df na pm so=>(q df pm so).at a na⟩
inductive P6(K:PySem.W.Frag)(x:V)(lo:Option Int)(hi:Option Int)(H:Hp)(Q:VK):Prop
 |mk (a xs) (aB:x=.ref a) (aT:aj K H a xs) (bq:Nw H (.lst (oS xs lo hi)) Q):P6 K x lo hi H Q
def Zf8(K:PySem.W.Frag):V->Option Int->Option Int->Hp->VK->Prop:=λx lo hi H Q=>P6 K x lo hi H Q
theorem OC(h:X.K=K):uU X (Zf8 K):=h▸Zdi.mono λ_ _ _ _ _ zq=>by obtain⟨a,xs,e,s,q⟩:=zq;exact⟨a,xs,e,s,q.at⟩
def Zf9:R2:=λx y H Q=>∃l b xs zs,x=.ref l/\y=.ref b/\H l=some (.lst xs)/\H b=some (.lst zs)/\xs.length+zs.length<=sizeLine/\Nw H (.lst (xs++zs)) Q
theorem wk:cL X (binaryOp .Add) Zf9:=ZeE.mono λ_ _ _ _ zq=>by obtain⟨l,b,xs,zs,e1,e2,h1,h2,z,q⟩:=zq;exact⟨l,b,xs,zs,e1,e2,h1,h2,z,q.at⟩
def Zdr:TE:=λ_ H Q=>Nw H (.dK []) Q
theorem pY:PE X (.Dict [] [] pos) Zdr:=λpins s σ H Q I q=>Zb_ pins s σ H Q I q.at
def Zds:TE:=λ_ H Q=>Nw H (.dT []) Q
theorem NC:PE X (.Dict [] [] pos) Zds:=λpins s σ H Q I q=>Zca pins s σ H Q I q.at
end
abbrev Ch(H:Hp)(a:Addr)(o:HO)(R:Hp->Prop):Prop:=∀H',aw a H H'->H' a=some o->R H'
theorem Ch.at(h:Ch H a o R):R (upd H a o):=h _ (aw.put (aw.of (ah.refl _))) aZ
section
variable {X:Cx}
theorem nJ.mono{id:String}{r r':V->List V->Hp->VK->Prop}(h:nJ X id r)(m:∀x xs H Q,r' x xs H Q->r x xs H Q):nJ X id r':=λpins s σ H x xs v us Q I rx rv q=>h pins s σ H x xs v us Q I rx rv (m x xs H Q q)
inductive MZ(x:V)(vs:List V)(H:Hp)(Q:VK):Prop
 |mk (l xs y) (aB:x=.ref l) (aT:vs=[y]) (bq:H l=some (.lst xs)) (bR:xs.length<sizeLine) (cM:Ch H l (.lst (xs++[y])) (Q .ay)):MZ x vs H Q
def OD:V->List V->Hp->VK->Prop:=λx vs H Q=>MZ x vs H Q
theorem iu:nJ X "list.append" OD:=v9.mono λ_ _ _ _ zq=>by obtain⟨l,xs,y,e1,e2,h,z,q⟩:=zq;exact⟨l,xs,y,e1,e2,h,z,q.at⟩
def Zch:V->List V->Hp->VK->Prop:=λx vs H Q=>∃l b xs zs,x=.ref l/\vs=[.ref b]/\H l=some (.lst xs)/\H b=some (.lst zs)/\xs.length+zs.length<=sizeLine/\Ch H l (.lst (xs++zs)) (Q .ay)
theorem Zao:nJ X "list.extend" Zch:=Zbg.mono λ_ _ _ _ zq=>by obtain⟨l,b,xs,zs,e1,e2,h1,h2,z,q⟩:=zq;exact⟨l,b,xs,zs,e1,e2,h1,h2,z,q.at⟩
def Zdt:V->List V->Hp->VK->Prop:=λx vs H Q=>∃l xs,x=.ref l/\vs=[]/\H l=some (.lst xs)/\Ch H l (.lst []) (Q .ay)
theorem Zbr:nJ X "list.clear" Zdt:=Zb3.mono λ_ _ _ _ zq=>by obtain⟨l,xs,e1,e2,h,q⟩:=zq;exact⟨l,xs,e1,e2,h,q.at⟩
theorem rT.mono(h:rT X t)(m:∀o i v H Q,t' o i v H Q->t o i v H Q):rT X t':=by
 intro pins s σ H o i x ov iv v Q I r1 r2 r3 q;exact h pins s σ H o i x ov iv v Q I r1 r2 r3 (m _ _ _ _ _ q)
def Ze6:V->V->V->Hp->(Hp->Prop)->Prop:=λo i v H Q=>∃p xs k j,o=.ref p/\i=.int k/\H p=some (.lst xs)/\jX xs.length k=some j/\Ch H p (.lst (xs.set j v)) Q
theorem ND:rT X Ze6:=set_list.mono λ_ _ _ _ _ zq=>by obtain⟨p,xs,k,j,e1,e2,h,z,q⟩:=zq;exact⟨p,xs,k,j,e1,e2,h,z,q.at⟩
variable {o i value:Expr}{td ty tv ta:TE}{pos pos':Pos}{f:Str}
inductive OE(D:Ends)(σ:St)(v:V)(x:V)(y:V)(H3:Hp):Prop
 |mk (a kvs k) (aB:x=.ref a) (aT:H3 a=some (.dK kvs)) (bq:y=kV k) (bR:kvs.length<sizeLine) (cM:Ch H3 a (.dK (putK kvs k v)) (D.nx σ)):OE D σ v x y H3
def Ze7(td ty tv:TE):TS:=λD σ H=>tv σ H λv H1=>td σ H1 λx H2=>ty σ H2 λy H3=>OE D σ v x y H3
inductive NF(D:Ends)(σ:St)(v:V)(x:V)(y:V)(H3:Hp):Prop
 |mk (a b kvs k) (aB:x=.ref a) (aT:H3 a=some (.dT kvs)) (bq:y=.ref b) (bR:H3 b=some (.tup (k.map kV))) (cM:kvs.length<sizeLine) (dZ:Ch H3 a (.dT (putK kvs k v)) (D.nx σ)):NF D σ v x y H3
def Zdu(td ty tv:TE):TS:=λD σ H=>tv σ H λv H1=>td σ H1 λx H2=>ty σ H2 λy H3=>NF D σ v x y H3
theorem ot(hu:X.A.units+1<cLine)(ho:PE X o td)(hi:PE X i ty)(hv:PE X value tv)(hs:swapsWith value (some (.Subscript o i pos')) pos.line X.env=pure false:=by rfl):
  PS X (.Assign [.Subscript o i pos'] value pos) (Ze7 td ty tv):=by
 intro pins s σ H D I h;refine wpAny_Assign_Subscript (az (hv pins s σ H _ I h) λr s1 zq=>?_) hs;obtain⟨v,H1,I1,rv,q1⟩:=zq;refine az (ho pins s1 σ H1 _ I1 q1) λu s2 zq=>?_;obtain⟨x,H2,I2,rx,q2⟩:=zq;refine az (hi pins s2 σ H2 _ I2 q2) λiv s3 zq=>?_;obtain⟨y,H3,I3,ry,a,kvs,k,ex,ha,ey,l,q3⟩:=zq;subst ex;subst ey;obtain rfl:u=Value.ref a:=rx;exact NA hu I3 (rY.k ha l) ry rv λs4 I4=>⟨σ,_,I4,q3.at⟩
theorem NG(hu:X.A.units+1<cLine)(ho:PE X o td)(hi:PE X i ty)(hv:PE X value tv)(hs:swapsWith value (some (.Subscript o i pos')) pos.line X.env=pure false:=by rfl):
  PS X (.Assign [.Subscript o i pos'] value pos) (Zdu td ty tv):=by
 intro pins s σ H D I h;refine wpAny_Assign_Subscript (az (hv pins s σ H _ I h) λr s1 zq=>?_) hs;obtain⟨v,H1,I1,rv,q1⟩:=zq;refine az (ho pins s1 σ H1 _ I1 q1) λu s2 zq=>?_;obtain⟨x,H2,I2,rx,q2⟩:=zq;refine az (hi pins s2 σ H2 _ I2 q2) λiv s3 zq=>?_;obtain⟨y,H3,I3,ry,a,b,kvs,k,ex,ha,ey,hb,l,q3⟩:=zq;subst ex;subst ey;obtain rfl:u=Value.ref a:=rx;exact NA hu I3 (rY.t ha hb l) ry rv λs4 I4=>⟨σ,_,I4,q3.at⟩
def Zf_(K:PySem.W.Frag)(ta tv:TE)(f:Str):TS:=λD σ H=>tv σ H λy H1=>ta σ H1 λx H2=>∃a C dx fs,x=.ref a/\H2 a=some (.ins C dx fs)/\fZ K C/\dJ K C f/\fs.length<1000/\Ch H2 a (.ins C dx (cR f y fs)) (D.nx σ)
theorem gv{K:PySem.W.Frag}(hK:X.K=K)(ha:PE X o ta)(hv:PE X value tv)(hs:swapsWith value (some (.Attribute o f pos')) pos.line X.env=pure false:=by rfl):PS X (.Assign [.Attribute o f pos'] value pos) (Zf_ K ta tv f):=by
 subst hK;intro pins s σ H D I h;refine plainObj_wpAny_Assign_Attribute (az (hv pins s σ H _ I h) λu s1 zq=>?_) hs;obtain⟨y,H1,I1,ry,q⟩:=zq;refine az (ha pins s1 σ H1 _ I1 q) λov s2 zq=>?_;obtain⟨x,H2,I2,rx,a,C,dx,fs,ex,ea,c,n,l,q2⟩:=zq;subst ex;obtain rfl:ov=Value.ref a:=rx;exact MP I2 ea c n l ry λs3 I3=>⟨σ,_,I3,q2.at⟩
end
def xI(x:Str):It:=⟨λi _=>i<x.length,λi H v H'=>H'=H/\∃c,x.cps[i]?=some c/\v=.str ⟨#[c]⟩,λi _=>x.length<=i⟩
theorem X1{P:Program}{w:World}{K:PySem.W.Frag}{tg:Expr}(it:Addr)(x:Str)(t:Tok):Turn P w K tg (xI x) [it] it (λi h=>h.IsStrIter it "str_ascii_iterator" x t i) where
 mem:=by simp
 obj:=λi h st b hb=>by
  have e:b=it:=by simpa using hb
  obtain⟨o,e,c,d⟩:=st
  grind
 keep:=λi h h' st k=>let⟨o,e,r⟩:=st;⟨o,k it (by simp) o e,r⟩
 item:=by
  intro X hP hw hK hc i pins s σ H E I hf st hg;obtain⟨f0,f1,f2,f3,f4,f5⟩:=hf it (by simp);have hx:=W9 hg;refine wpAny_pyNext_ascii_item st hx λh' aI sb=>?_;obtain⟨o,e,c,d⟩:=id aI;exact⟨_,rfl,rM e c d (by decide) ⟨.str ⟨#[x.cps[i]]⟩,H,(I.turned (λb o hb e=>(sb.2 b hb).trans e) f0 f1 f3 f4 f5),⟨_,rfl⟩,⟨rfl,_,hx,rfl⟩,aI,λb hb=>(hf b hb).1⟩⟩
 done:=by
  intro X hP hw hK hc i pins s σ H E I hf st hg;obtain⟨f0,f1,f2,f3,f4,f5⟩:=hf it (by simp);exact wpAny_pyNext_ascii_end (I.ok.hd hc) st (Ju hg) λh' eb=>⟨rfl,I.turned (λb o hb e=>eb b o hb e) f0 f1 f3 f4 f5⟩
 self:=λ_ _ _ _ _ st h=>wpAny_pyIter_striter_ascii st h
theorem YD{P:Program}{w:World}{K:PySem.W.Frag}{tg:Expr}(it:Addr)(x:Str)(t:Tok):Turn P w K tg (xI x) [it] it (λi h=>h.IsStrIter it "str_iterator" x t i) where
 mem:=by simp
 obj:=λi h st b hb=>by
  have e:b=it:=by simpa using hb
  obtain⟨o,e,c,d⟩:=st
  grind
 keep:=λi h h' st k=>let⟨o,e,r⟩:=st;⟨o,k it (by simp) o e,r⟩
 item:=by
  intro X hP hw hK hc i pins s σ H E I hf st hg;obtain⟨f0,f1,f2,f3,f4,f5⟩:=hf it (by simp);have hx:=W9 hg;refine wpAny_pyNext_wide_item st hx λh' aI sb=>?_;obtain⟨o,e,c,d⟩:=id aI;exact⟨_,rfl,rM e c d (by decide) ⟨.str ⟨#[x.cps[i]]⟩,H,(I.turned (λb o hb e=>(sb.2 b hb).trans e) f0 f1 f3 f4 f5),⟨_,rfl⟩,⟨rfl,_,hx,rfl⟩,aI,λb hb=>(hf b hb).1⟩⟩
 done:=by
  intro X hP hw hK hc i pins s σ H E I hf st hg;obtain⟨f0,f1,f2,f3,f4,f5⟩:=hf it (by simp);exact wpAny_pyNext_wide_end (I.ok.hd hc) st (Ju hg) λh' eb=>⟨rfl,I.turned (λb o hb e=>eb b o hb e) f0 f1 f3 f4 f5⟩
 self:=λ_ _ _ _ _ st h=>wpAny_pyIter_striter_wide st h
inductive RE(R:It->Hp->Prop)(v:V)(H1:Hp):Prop
 |mk (x) (aB:v=.str x) (aT:R (xI x) H1):RE R v H1
def ZgS(te:TE):TI:=λσ H R=>te σ H λv H1=>RE R v H1
theorem Ze8{X:Cx}{tg l:Expr}{tl:TE}(hl:PE X l tl):PI X tg l (ZgS tl):=by
 intro pins s σ H R I h;refine az (hl pins s σ H _ I h) λv s1 zq=>?_;obtain⟨x,H1,I1,r1,q1⟩:=zq;obtain⟨z,e,q⟩:=q1;subst e;obtain⟨t,rfl⟩:=r1;have fin:∀b∈[s1.heap.objs.size],iH X pins H1 b:=λb hb=>by
  have e:b=s1.heap.objs.size:=by simpa using hb
  subst e;exact I1.qr (Yd _) (I1.av.fresh (Yd _))
 cases ha:z.cps.all (·<128) with
 |true=>exact wpAny_pyIter_ascii ha ⟨s1.heap.objs.size,[s1.heap.objs.size],_,_,H1,rfl,I1.kept λb o e=>Yc _ e,X1 _ z t,⟨_,Ys _ rfl,rfl,rfl⟩,fin,q⟩
 |false=>exact wpAny_pyIter_wide ha ⟨s1.heap.objs.size,[s1.heap.objs.size],_,_,H1,rfl,I1.kept λb o e=>Yc _ e,YD _ z t,⟨_,Ys _ rfl,rfl,rfl⟩,fin,q⟩
abbrev sg(c:Nat):V:=.str ⟨#[c]⟩
theorem Zci(Pv:Nat->List V->Hp->Prop)(h0:Pv 0 [] (upd H D (.lst [])))
  (hs:∀(i c:Nat) (ys:List V) (H:Hp),x.cps[i]?=some c->Pv i ys H->tt (some (sg c)::fv) H λb H1=>if b=true then te (some (sg c)::fv) H1 λy H3=>H3 D=some (.lst ys)/\ys.length<sizeLine/\Pv (i+1) (ys++[y]) (upd H3 D (.lst (ys++[y]))) else Pv (i+1) ys H1)
  (hd:∀ys H,Pv x.length ys H->Q (.ref D) H):i6 (xI x) tt te fv D H Q:=by
 refine⟨λi m ys H=>m=x.length-i/\i<=x.length/\Pv i ys H,⟨x.length,by simp,Yw _,h0⟩,?_⟩;rintro i m ys H ⟨rfl,hi,p⟩;by_cases bX:i<x.length
 ·refine .inr ⟨bX,Pv (i+1),λgT H' p'=>⟨x.length-(i+1),by omega,rfl,bX,p'⟩,λv H' y=>?_⟩;obtain⟨e,c,hc,rfl⟩:=y
  grind
 ·have e:i=x.length:=by omega
  subst e;exact .inl ⟨Yd _,hd ys H p⟩
theorem Zbs(hn:x.length<=100000)(hD:H D=none)(f:Nat->V)
  (turn:∀(i c:Nat),x.cps[i]?=some c->∀H1,ah H H1->∀Kt:VK,(∀H3,ah H1 H3->Kt (f c) H3)->te (some (sg c)::fv) H1 Kt)(fin:∀H',ah H H'->H' D=some (.lst (x.cps.toList.map f))->Q (.ref D) H'):i6 (xI x) zY te fv D H Q:=by
 refine Zci (λi ys H1=>i<=x.length/\ah H H1/\H1 D=some (.lst ys)/\ys=(x.cps.toList.take i).map f) ⟨Yw _,cy hD _,aZ,rfl⟩ ?_ ?_
 ·rintro i c ys H1 hi ⟨_,g,h1,e⟩;have dO:i<x.length:=(Array.getElem?_eq_some_iff.mp hi).1;refine l_ (c8 (turn i c hi H1 g _ λH3 g3=>⟨g3 _ _ h1,?_,dO,?_,aZ,?_⟩))
  ·rw[e,Ya,Wd,sizeLine_eq];omega
  ·intro b o q;rw[a9 (bQ q hD)];exact g3 _ _ (g _ _ q)
  ·have iN:x.cps.toList[i]?=some c:=by rw[Jj];exact hi
   rw[e,Y0,iN,Yj];rfl
 ·rintro ys H1 ⟨_,g,h1,e⟩;refine fin H1 g ?_;rw[h1,e,Wu (by show x.cps.toList.length<=x.cps.size;simp)]
end L2
namespace L2
open PySem PySem.W PySem.Spec PyProof.Rows
def Ze9:List V->Hp->VK->Prop:=λxs H Q=>∃(p:Addr) (kvs:List (Key×V)),xs=[.ref p]/\H p=some (.dK kvs)/\Nw H (.lst (kvs.map λkv=>kV kv.1)) Q
theorem NH:∀{ks:List Key} {us:List Value},us.length=ks.length->(∀(j:Nat) (v:Value),us[j]?=some v->∃k,ks[j]?=some k/\(dC P w).is k v=true)->Vals (ks.map kV) us
 |[],[],_,_=>.nil
 |k::ks,u::us,hl,h=>by
  obtain⟨k',e,hk⟩:=h 0 u rfl;have e':k=k':=by simpa using e
  subst e';refine .cons ?_ (NH (by simpa using hl) λj v hj=>by simpa using h (j+1) v (by simpa using hj));rcases lL (show rL k u=true from hk) with⟨i,t,rfl,rfl⟩|⟨x,t,rfl,rfl⟩;·exact⟨t,rfl⟩
  ·exact⟨t,rfl⟩
 |[],_::_,hl,_=>by simp at hl
 |_::_,[],hl,_=>by simp at hl
theorem ZP(hc:X.calm=true):c6 X (.type "list") Ze9:=by
 rintro pins s σ H xs us Q I r ⟨p,kvs,rfl,hp,q⟩;obtain⟨u,rfl,ru⟩:=vals1 r;obtain rfl:u=Value.ref p:=ru;obtain⟨lim,z4,vs,kv,dd⟩:=lW I.av hp;obtain⟨ep,da⟩:=dd.dictAt;have kl:=kv.length;refine kdl_call (kdl_dict z4) (I.ok.hd hc) da (by omega) λh' tk acc c kp hD it=>?_;have vals:Vals (kvs.map λkv=>kV kv.1) acc.toList:=by
  have e:(kvs.map λkv=>kV kv.1)=(vs.map (·.1)).map kV:=by rw[←kv.keys,Wc];rfl
  rw[e];refine NH (P:=X.prog) (w:=X.w) (by rw[Wx,Ya];exact it.1) λj v hj=>?_;obtain⟨k,x,hx,hk⟩:=it.2 j v (by rw[←Jj];exact hj)
  grind
 exact⟨.ref s.heap.objs.size,_,(I.laid (o:=.lst (kvs.map λkv=>kV kv.1)) kp (Yd _) ⟨by rw[Ya];exact lim,acc.toList,c,vals,by rw[Array.toArray_toList];exact hD⟩),rfl,q.at _ (I.av.fresh (Yd _))⟩
end L2
namespace L2
open PySem PySem.Spec PyProof.Rows
abbrev zO(D:List (Str×Str)):List (Str×PyData):=D.map λp=>(p.1,PyData.str p.2)
def uI(K:PySem.W.Frag)(a:Addr)(D:List (Str×Str)):Prop:=KTD.tabLook KTD.flatLooks (λb=>K.lookup b) a (zO D)=true
theorem v_(f:δ->ε)(k:Str):∀D:List (Str×δ),KTD.datumAt k (D.map λp=>(p.1,f p.2))=(KTD.datumAt k D).map f
 |[]=>rfl
 |p::D=>by
  rw[Wl];unfold KTD.datumAt;by_cases e:k=p.1;·simp[e]
  ·simp only[e];exact v_ f k D
theorem uI.here{K:PySem.W.Frag}{a:Addr}{D:List (Str×Str)}{h:Heap}(t:uI K a D)(sr:K.In h):KTD.Here h h a ((zO D).map λp=>(p.1,KTD.Dat.flat p.2)):=
 ⟨KTD.TabOf.text (KTD.tab_of_look (λ_ _=>KTD.flat_of_looks) (λa o e=>sr a o e) t),λ_ _ e=>e⟩
def nB(D:List (Str×Str))(z:Str):Bool:=(KTD.datumAt z D).isSome
theorem keys_has(D:List (Str×Str))(z:Str):KTD.inKeys z ((zO D).map λp=>(p.1,KTD.Dat.flat p.2))=nB D z:=by
 rw[←KTD.isSome_datumAt,v_ KTD.Dat.flat,v_ PyData.str];unfold nB
 grind
def Ze_(K:PySem.W.Frag)(neg:Bool):R2:=λx y H Q=>∃(z:Str) (a:Addr) (D:List (Str×Str)),x=.str z/\y=.ref a/\uI K a D/\Q (.bl (if neg=true then !nB D z else nB D z)) H
theorem Zfa{X:Cx}{K:PySem.W.Frag}(hK:X.K=K):cL X (compareOp .In) (Ze_ K false):=by
 subst hK;rintro pins s σ H x y v u Q I rx ry ⟨z,a,D,rfl,rfl,t,q⟩;obtain⟨tk,rfl⟩:=rx;obtain rfl:u=Value.ref a:=ry;refine KTD.in_text (t.here I.dN) ?_;rw[keys_has];exact⟨.bl (nB D z),H,I.tok _,rfl,q⟩
def Zfb(K:PySem.W.Frag):R2:=λx y H Q=>∃(a:Addr) (z r:Str) (D:List (Str×Str)),x=.ref a/\y=.str z/\uI K a D/\KTD.datumAt z D=some r/\Q (.str r) H
theorem Zdv{X:Cx}{K:PySem.W.Frag}(hK:X.K=K):jY X (Zfb K):=by
 subst hK;intro value slice pins s σ H x y v u Q I rx ry h hs;obtain⟨a,z,r,D,rfl,rfl,t,e,q⟩:=h;obtain⟨tk,rfl⟩:=ry;obtain rfl:v=Value.ref a:=rx;have T:=t.here I.dN;refine tail_any T.typeIs slot_dict_getitem.lookup ?_ hs;unfold getItem;try with_reducible refine wpAny_holding ?_
 refine wpAny_bind (wpAny_sequenceKey T.typeIs (by decide) ?_);refine wpAny_bind (wpAny_callSpecial?_slot T.typeIs slot_dict_getitem
  (wpAny_call_entry slot_dict_getitem T.typeIs entry_dict_getitem ?_ (args_dict_getitem _ _)))
 show wpAny _ _ (dictGet a (.str z tk)>>=_) _ _ s;have ed:KTD.datumAt z ((zO D).map λp=>(p.1,KTD.Dat.flat p.2))=some (.flat (.str r)):=by rw[v_ KTD.Dat.flat,v_ PyData.str,e];rfl
 refine wpAny_bind (KTD.dictGet_text T (λd v ha hv=>wpAny_pure ⟨v,rfl,wpAny_pure ?_⟩) λhn=>by rw[ed] at hn;cases hn);rw[ed] at ha;cases ha;cases hv s.heap with
 |str x t'=>exact⟨.str r,H,I.tok _,⟨t',rfl⟩,q⟩
theorem qi(h:cq X.prog X.w X.K X.mg X.base k m C ps sp)(hr:di j X.A)(hj:k<=j)(ho:PE X o ta)
  (ht:eval (.Call (.Attribute o m apos) [] [] pos) X.env=(do
   let ov←eval o X.env
   standAt apos.atName
   let(f,first)←holding [ov] (getMethod ov m pl)
   callWith pos f first (backTo pos (starEach [] X.env)) (backToKw pos (keywordEach [] X.env))):=by rfl):
  PE X (.Call (.Attribute o m apos) [] [] pos) (zM C m sp [] E0 ta jR):=by
 obtain⟨f,fd,c,hm,F,b⟩:=h;exact ZbZ ho c hm F (hr.mono hj) b .nil zN ht
def z5(K:PySem.W.Frag)(neg:Bool):R2:=λx y H Q=>∃(p q:Addr) (xs:List V),x=.ref p/\y=.ref q/\aj K H p xs/\aj K H q []/\Q (.bl (if neg=true then !xs.isEmpty else xs.isEmpty)) H
theorem Zfc(hu:X.A.units<cLine):cL X (compareOp .Eq) (z5 X.K false):=by
 rintro pins s σ H x y v u Q I rx ry ⟨p,q,xs,rfl,rfl,h1,h2,k⟩;cases rx;cases ry;obtain⟨ai,r1,p1,z1⟩:=I.list h1;obtain⟨iI,r2,p2,z2⟩:=I.list h2;cases r2;have l1:=r1.length;cases xs with
 |nil=>
  cases r1;exact SeqAt.eq_listAt (e:=λ_=>true) p1.isList p2.isList rfl hu (λj h1 _=>absurd h1 (by simp)) (cJ I k (by simp))
 |cons a r=>exact SeqAt.eq_list_lengthsAt p1.isList p2.isList (by simp;intro z;subst z;simp at l1) hu (cJ I k (by simp))
theorem Zfd(hu:X.A.units<cLine):cL X (compareOp .NotEq) (z5 X.K true):=by
 rintro pins s σ H x y v u Q I rx ry ⟨p,q,xs,rfl,rfl,h1,h2,k⟩;cases rx;cases ry;obtain⟨ai,r1,p1,z1⟩:=I.list h1;obtain⟨iI,r2,p2,z2⟩:=I.list h2;cases r2;have l1:=r1.length;cases xs with
 |nil=>
  cases r1;exact SeqAt.RcNeAt.lists (e:=λ_=>true) p1.isList p2.isList rfl hu (λj h1 _=>absurd h1 (by simp)) _ _ _ _ (cJ I k (by simp))
 |cons a r=>exact SeqAt.RcNeAt.lists_lengths p1.isList p2.isList (by simp;intro z;subst z;simp at l1) hu _ _ _ _ (cJ I k (by simp))
theorem Zap:c6 X (.builtin "len") (λxs H Q=>∃p kvs,xs=[.ref p]/\H p=some (.dK kvs)/\Q (.int (kvs.length:Int)) H):=by
 rintro pins s σ H xs us Q I r ⟨p,kvs,rfl,hp,q⟩;obtain⟨u,rfl,ru⟩:=vals1 r;obtain rfl:u=Value.ref p:=ru;exact Zf5 I (.inl hp) λt s' I'=>⟨.int (kvs.length:Int),H,I',⟨t,rfl⟩,q⟩
theorem aw.trans(g:aw D H H')(g':aw D H' JY):aw D H JY:=λb o e n=>g' b o (g b o e n) n
def Out(fp:List Addr)(H H':Hp):Prop:=∀b o,H b=some o->b∉fp->H' b=some o
theorem Out.of(g:ah H H'):Out fp H H':=λb o e _=>g b o e
theorem Out.trans(g:Out fp H H')(g':Out fp H' JY):Out fp H JY:=λb o e n=>g' b o (g b o e n) n
theorem Out.bar(g:aw a H H')(m:a∈fp):Out fp H H':=λb o e n=>g b o e λz=>n (by rw[z];exact m)
theorem setC(h:u D (σ.set i (some v)) H):wX (wY (tC v) (wJ i)) u D σ H:=h
theorem bW(h:te σ H λx H1=>u D (σ.set i (some x)) H1):wX (wY te (wJ i)) u D σ H:=h
theorem c5(h:H a=some (.dK kvs))(e:aS kvs (.inr z)=o):eC H a (.str z) o:=.inl ⟨kvs,.inr z,.inl h,rfl,e.symm⟩
section
variable {X:Cx}{elt iter qF:Expr}{xs:List Str}{pos:Pos}{ifs:List Expr}{scope:Scope}{cl:List (Str×Addr)}{fr:List (Str×Nat)}{tg:TG}{tt:TT}{te:TE}{pins:List (Addr×Obj)}{σ:St}
def Zfe(n:Nat)(wi:TI)(fr:List (Str×Nat))(tg:TG)(tt:TT)(te:TE):TE:=λσ H Q=>wi σ H λJ H1=>∀D,H1 D=none->GZ n J tg tt te (gw σ fr) D H1 Q
theorem Zcj(hc:X.calm=true)(S:vX X scope cl xs fr)(hg:∀C s H fp,PG (cS X xs fr scope cl C s H fp) qF tg)(hi:PI X qF iter wi)
  (ht:∀C s H fp,uW (cS X xs fr scope cl C s H fp) ifs tt)(he:∀C s H fp,PE (cS X xs fr scope cl C s H fp) elt te)
  (hs:∀x,foldedSetIterable iter X.env x=pure x:=by intro _;rfl):PE X (.ListComp elt [⟨qF,iter,ifs,0⟩] scope pos) (Zfe xs.length wi fr tg tt te):=by
 intro pins s σ H Q I h;refine wpAny_comprehension_free rfl hs S.xc S.kind S.names (az (hi pins s σ H _ I h) λv s1 h1=>az h1 λuR s2 h2=>?_);obtain⟨it,fp,tn,J,H2,e,I2,T,fk,f2,hw⟩:=h2;subst e;refine MQ (RR:=λacc C=>compPost (model X.prog X.w) X.A X.xe none (EP X pins σ Q) acc C) hc S hg ht he I2 T fk f2 hw ?_;intro D C s1 H1 m I1 hn f0 f1 f3 f4 f5 q;exact⟨m,hn,λh' pB=>⟨.ref D,H1,I1.turned (λb o hb e=>pB.extBut b o hb e) f0 f1 (.inr f3) f4 f5,rfl,q⟩⟩
end
theorem Zaq{K:PySem.W.Frag}{a:Addr}{xs:List V}{n:Nat}{tg:TG}{tt:TT}{te:TE}{fv:St}{D:Addr}{H:Hp}{Q:VK}(Pv:Nat->List V->Hp->Prop)(h0:Pv 0 [] (upd H D (.lst [])))(hl:∀i ys H,i<=xs.length->Pv i ys H->aj K H a xs)
  (hs:∀i v ys H,xs[i]?=some v->Pv i ys H->∀os:St,os.length=n->tg v (os++fv) H λdA H2=>(∃jZ:St,jZ.length=n/\dA=jZ++fv)/\tt dA H2 λc H1=>if c=true then te dA H1 λy H3=>H3 D=some (.lst ys)/\ys.length<sizeLine/\Pv (i+1) (ys++[y]) (upd H3 D (.lst (ys++[y]))) else Pv (i+1) ys H1)
  (hd:∀ys H,Pv xs.length ys H->Q (.ref D) H):GZ n (jz K a) tg tt te fv D H Q:=by
 refine⟨λi m ys H=>m=xs.length-i/\i<=xs.length/\Pv i ys H,⟨xs.length,by simp,Yw _,h0⟩,?_⟩;rintro i m ys H ⟨rfl,hi,p⟩;have q:=hl i ys H hi p;by_cases bX:i<xs.length
 ·refine .inr ⟨⟨xs,xs[i],q,by simp[bX]⟩,Pv (i+1),λgT H' p'=>⟨xs.length-(i+1),by omega,rfl,bX,p'⟩,λx H' y=>?_⟩;obtain⟨e,y⟩:=y
  grind
 ·have e:i=xs.length:=by omega
  subst e;exact .inl ⟨⟨xs,q,Yd _⟩,hd ys H p⟩
abbrev jB(elt t1 i1 t2 i2:Expr)(scope:Scope)(pos:Pos):Expr:=.ListComp elt [⟨t1,i1,[],0⟩,⟨t2,i2,[],0⟩] scope pos
theorem ZhM(elt t1 i1 t2 i2:Expr)(scope:Scope)(pos:Pos)(it acc:Value)(env:Env):
  compTurn (jB elt t1 i1 t2 i2 scope pos) 0 it acc env=(do
   standAt i1.pos
   match←pyNext it with
   |none=>pure (.done .next)
   |some v=>
    letOwnedTupleGo t1 it v
    assign t1 env v
    let mut ok:=true
    for c in ([]:List Expr) do
     if ok then ok←isTrue c env (eval c env)
    if ok then
     let x←eval i2 env
     standAt i2.pos
     let x←foldedSetIterable i2 env x;let _←runOwn (.compStart (jB elt t1 i1 t2 i2 scope pos) 1 (←holding [x] (pyIter x)) acc env) env
    again (.compLoop (jB elt t1 i1 t2 i2 scope pos) 0 it acc env)):=by rfl
theorem ZhN(elt t1 i1 t2 i2:Expr)(scope:Scope)(pos:Pos)(it acc:Value)(env:Env):
  compTurn (jB elt t1 i1 t2 i2 scope pos) 1 it acc env=(do
   standAt i2.pos
   match←pyNext it with
   |none=>pure (.done .next)
   |some v=>
    letOwnedTupleGo t2 it v
    assign t2 env v
    let mut ok:=true
    for c in ([]:List Expr) do
     if ok then ok←isTrue c env (eval c env)
    if ok then
     (do let _←call (.builtin "list.append") [acc,←eval elt env])
    again (.compLoop (jB elt t1 i1 t2 i2 scope pos) 1 it acc env)):=by rfl
section
variable {prog:Program}{w:World}{A:Around}{R:Result->Shared->Prop}{s:Shared}{elt t1 i1 t2 i2:Expr}{scope:Scope}{pos:Pos}{it acc:Value}{env:Env}
theorem Zbt(I:Nat->Shared->Prop)
  (turn:∀n s,I n s->wpAny (model prog w) A (pyNext it) (λr bI=>match r with
   |none=>R (.ok .next) bI
   |some v=>wpAny (model prog w) A (letOwnedTupleGo t2 it v) (λ_ cZ=>wpAny (model prog w) A (assign t2 env v) (λ_ eB=>
     wpAny (model prog w) A (eval elt env) (λx jv=>
       wpAny (model prog w) A (call (.builtin "list.append") [acc,x]) (λ_ l6=>∃m,m<n/\I m l6) (notedBy (model prog w) A env λe s'=>R (.error e) s') jv) (notedBy (model prog w) A env λe s'=>R (.error e) s') eB) (notedBy (model prog w) A env λe s'=>R (.error e) s') cZ) (notedBy (model prog w) A env λe s'=>R (.error e) s') bI) (notedBy (model prog w) A env λe s'=>R (.error e) s') s)
  (n:Nat)(h:I n s):codeAny (model prog w) A (.compLoop (jB elt t1 i1 t2 i2 scope pos) 1 it acc env) R s:=by
 refine codeAny_loop rfl I (λn s hI=>wpAny_noted (wpAny_bind (wpAny_standAt (wpAny_bind (wpAny_mono (turn n s hI) (λr bI eR=>?_) λ_ _ h'=>h'))))) n h;cases r with
 |none=>exact wpAny_pure eR
 |some v=>
  exact wpAny_bind (wpAny_mono eR (λ_ cZ h₀=>wpAny_bind (wpAny_mono h₀ (λ_ eB oU=>wpAny_bind (wpAny_tests_nil (wpAny_bind (wpAny_bind (wpAny_mono oU (λx jv xf=>wpAny_bind (wpAny_mono xf (λ_ l6 xg=>wpAny_pure (wpAny_pure ⟨rfl,xg⟩)) λ_ _ h'=>h')) λ_ _ h'=>h'))))) λ_ _ h'=>h')) λ_ _ h'=>h')
theorem Zbu(hs:∀x,foldedSetIterable i2 env x=pure x)(I:Nat->Shared->Prop)
  (turn:∀n s,I n s->wpAny (model prog w) A (pyNext it) (λr bI=>match r with
   |none=>R (.ok .next) bI
   |some v=>wpAny (model prog w) A (letOwnedTupleGo t1 it v) (λ_ cZ=>wpAny (model prog w) A (assign t1 env v) (λ_ eB=>
     wpAny (model prog w) A (eval i2 env) (λx dY=>wpAny (model prog w) A (pyIter x) (λAv jv=>
      codeAny (model prog w) A (.compStart (jB elt t1 i1 t2 i2 scope pos) 1 Av acc env) (λr l6=>match r with|.ok _=>∃m,m<n/\I m l6|.error _=>False) jv)
      (notedBy (model prog w) A env λe s'=>R (.error e) s') dY) (notedBy (model prog w) A env λe s'=>R (.error e) s') eB) (notedBy (model prog w) A env λe s'=>R (.error e) s') cZ) (notedBy (model prog w) A env λe s'=>R (.error e) s') bI) (notedBy (model prog w) A env λe s'=>R (.error e) s') s)
  (n:Nat)(h:I n s):codeAny (model prog w) A (.compLoop (jB elt t1 i1 t2 i2 scope pos) 0 it acc env) R s:=by
 refine codeAny_loop rfl I (λn s hI=>wpAny_noted (wpAny_bind (wpAny_standAt (wpAny_bind (wpAny_mono (turn n s hI) (λr bI eR=>?_) λ_ _ h'=>h'))))) n h;cases r with
 |none=>exact wpAny_pure eR
 |some v=>
  refine wpAny_bind (wpAny_mono eR (λ_ cZ h₀=>wpAny_bind (wpAny_mono h₀ (λ_ eB oU=>wpAny_bind (wpAny_tests_nil (wpAny_bind (wpAny_mono oU (λx dY uH=>wpAny_bind (wpAny_standAt ?_)) λ_ _ h'=>h')))) λ_ _ h'=>h')) λ_ _ h'=>h');rw[hs];refine wpAny_bind (wpAny_pure (wpAny_bind (wpAny_holding (wpAny_mono uH (λAv jv xf=>wpAny_bind (wpAny_runOwn (codeAny_mono xf λr l6 xg=>?_))) λ_ _ h'=>h'))));cases r with
  |error e=>grind
  |ok f=>exact wpAny_pure ⟨rfl,xg⟩
theorem Za
  (h0:codeAny (model prog w) A (.compLoop (jB elt t1 i1 t2 i2 scope pos) 1 it acc env) R s)
  (h:wpAny (model prog w) A (pyIter it) (λJZ s'=>codeAny (model prog w) A (.compLoop (jB elt t1 i1 t2 i2 scope pos) 1 JZ acc env) R s') (notedBy (model prog w) A env λx s'=>R (.error x) s') s):
  codeAny (model prog w) A (.compStart (jB elt t1 i1 t2 i2 scope pos) 1 it acc env) R s:=by
 refine codeAny_of_tree (wpAny_notedAt (wpAny_bind (wpAny_askSetting (wpAny_ite ?_))));split
 ·first
   |exact wpAny_bind (wpAny_pure (wpAny_pure (And.intro rfl h0)))
   |exact wpAny_pure (And.intro rfl h0)
 ·first
   |exact wpAny_bind (wpAny_rule (wpAny_bind (wpAny_standAt (wpAny_bind (wpAny_mono h (λJZ s' h'=>wpAny_pure (And.intro rfl h')) λ_ _ x=>x)))))
   |(refine wpAny_bind (wpAny_rule ?_);show wpAny _ _ (standAt i2.pos>>=_) _ _ s;exact wpAny_bind (wpAny_standAt (wpAny_bind (wpAny_mono h (λJZ s' h'=>wpAny_pure (And.intro rfl h')) λ_ _ x=>x))))
end
def G5(n:Nat)(J:It)(j9:TG)(j_:TI)(mD:TG)(te:TE)(fv:St)(D:Addr)(H:Hp)(Q:VK):Prop:=
 ∃W:Nat->Nat->List V->Hp->Prop,(∃m,W 0 m [] (upd H D (.lst [])))/\∀i m ys H,W i m ys H->
  (J.stop i H/\Q (.ref D) H)\/(J.go i H/\∃N:List V->Hp->Prop,(∀gT H',N gT H'->∃m',m'<m/\W (i+1) m' gT H')/\
   ∀v H',J.qC i H v H'->∀os:St,os.length=n->j9 v (os++fv) H' λdA H2=>(∃jZ:St,jZ.length=n/\dA=jZ++fv)/\j_ dA H2 λJ2 H3=>
    ∃W2:Nat->Nat->List V->St->Hp->Prop,(∃m2,W2 0 m2 ys dA H3)/\∀i2 m2 gc cP H4,W2 i2 m2 gc cP H4->
     (J2.stop i2 H4/\(∃uX:St,uX.length=n/\cP=uX++fv)/\N gc H4)\/(J2.go i2 H4/\∃N2:List V->St->Hp->Prop,(∀gT aN H',N2 gT aN H'->∃m',m'<m2/\W2 (i2+1) m' gT aN H')/\
      ∀v2 H5,J2.qC i2 H4 v2 H5->mD v2 cP H5 λxJ H6=>te xJ H6 λy H7=>H7 D=some (.lst gc)/\gc.length<sizeLine/\N2 (gc++[y]) xJ (upd H7 D (.lst (gc++[y])))))
section
variable {X:Cx}{elt t1 i1 t2 i2:Expr}{xs:List Str}{pos:Pos}{scope:Scope}{cl:List (Str×Addr)}{fr:List (Str×Nat)}{j9 mD:TG}{j_:TI}{te:TE}{pins:List (Addr×Obj)}{σ:St}
theorem Zar{H2:Hp}{s2:Shared}{it:Addr}{fp:List Addr}{tn:Nat->Heap->Prop}{J:It}{Q:VK}{RR:Value->Addr->Result->Shared->Prop}{E:Value->Shared->Prop}
  (hc:X.calm=true)(S:vX X scope cl xs fr)(hg:∀C s H fp,PG (cS X xs fr scope cl C s H fp) t1 j9)(J_:∀C s H fp,PI (cS X xs fr scope cl C s H fp) t2 i2 j_)(Ka:∀C s H fp,PG (cS X xs fr scope cl C s H fp) t2 mD)(he:∀C s H fp,PE (cS X xs fr scope cl C s H fp) elt te)
  (uT:∀C x,foldedSetIterable i2 (compEnvC scope cl C X.env) x=pure x)
  (I2:Inv X pins σ H2 s2)(T:Turn X.prog X.w X.K t1 J fp it tn)(fk:tn 0 s2.heap)(f2:∀b∈fp,iH X pins H2 b)
  (hw:∀D,H2 D=none->G5 xs.length J j9 j_ mD te (gw σ fr) D H2 Q)
  (hR:∀D C s1 H1 m,Inv X pins σ H1 s1->s1.heap.Ns C m->H1 C=none->C≠X.env.locals->X.cZ.heap.objs.size<=C->(∀y c,X.env.cells.lookup y=some c->c≠C)->(∀p∈X.pn++pins,p.1≠C)->Q (.ref D) H1->RR (.ref D) C (.ok .next) s1):
  wpAny (model X.prog X.w) X.A (newList []) (λacc dY=>wpAny (model X.prog X.w) X.A (newFunctionEnv scope X.env.globals cl [] X.env.qual none .none (some X.env)) (λqt jv=>
   codeAny (model X.prog X.w) X.A (.compStart (jB elt t1 i1 t2 i2 scope pos) 0 (.ref it) acc {qt with scope:=relabel scope X.env}) (RR acc qt.locals) jv) E dY) E s2:=by
 refine wpAny_newObj_type (wpAny_newFunctionEnv S.wL (by intro y hy;simp at hy) (λeR rD rE=>?_) S.kind);dsimp only at rD rE⊢;have I3:Inv X pins σ (upd H2 s2.heap.objs.size (.lst [])) {s2 with heap:=s2.heap.push {cls:=.type "list",dict:=none,data:=.seq ([]:List Value).toArray}}:=
  I2.laid (t':=s2.toks) (λb u e=>Yc _ e) (Yd _) ⟨Yw _,[],0,.nil,Ys _ rfl⟩
 have JM:H2 s2.heap.objs.size=none:=I2.av.fresh (Yd _);obtain⟨W,⟨m0,w0⟩,turn⟩:=hw s2.heap.objs.size JM;have xh:∀b∈fp,b<s2.heap.objs.size:=λb hb=>by
  obtain⟨o,e,_⟩:=T.obj _ _ fk b hb;exact Yx e
 generalize xD:s2.heap.push {cls:=.type "list",dict:=none,data:=.seq ([]:List Value).toArray}=G2 at rD rE I3⊢;have hC:G2.objs.size=s2.heap.objs.size+1:=by rw[←xD,Jf]
 have old:∀b o,G2.get? b=some o->eR.get? b=some o:=λb o e=>rE.extBut b o (Y1 (Yx e)) (Yc _ e);have up:∀b o,s2.heap.get? b=some o->G2.get? b=some o:=λb o e=>xD▸Yc _ e;have f3:∀b∈fp,iH X pins (upd H2 s2.heap.objs.size (.lst [])) b:=λb hb=>by
  have:=xh b hb;exact⟨by rw[a9 (Y1 this)];exact(f2 b hb).1,(f2 b hb).2⟩
 have JN:∀b∈fp,b<G2.objs.size:=λb hb=>by
  rw[hC];exact Wv (xh b hb)
 have xE:tn 0 eR:=T.keep _ _ _ fk λb hb o e=>old b o (up b o e);have I4:Inv (cS X xs fr scope cl G2.objs.size {s2 with heap:=G2} (upd H2 s2.heap.objs.size (.lst [])) fp) [] (List.replicate xs.length none++gw σ fr) (upd H2 s2.heap.objs.size (.lst [])) {s2 with heap:=eR,toks:=s2.toks+([]:List (Str×Value)).length}:=
  Nv (tk:=s2.toks+([]:List (Str×Value)).length) S I3 rfl f3 JN old rD
 have loop:∀dY:Shared,dY={s2 with heap:=eR,toks:=s2.toks+([]:List (Str×Value)).length}->
   codeAny (model X.prog X.w) X.A (.compLoop (jB elt t1 i1 t2 i2 scope pos) 0 (.ref it) (.ref s2.heap.objs.size) (compEnvC scope cl G2.objs.size X.env)) (RR (.ref s2.heap.objs.size) G2.objs.size) dY:=by
  rintro dY rfl;refine Zbu (uT _) (λk s'=>∃i ys H' os,os.length=xs.length/\Inv (cS X xs fr scope cl G2.objs.size {s2 with heap:=G2} (upd H2 s2.heap.objs.size (.lst [])) fp) [] (os++gw σ fr) H' s'/\tn i s'.heap/\(∀b∈fp,H' b=none)/\W i k ys H') ?_ m0
   ⟨0,[],_,List.replicate xs.length none,W0,I4,xE,λb hb=>(f3 b hb).1,w0⟩
  rintro n s5 ⟨i,ys,H5,os,ph,I5,oZ,sy,w5⟩;have l5:∀{H':Hp},(∀b∈fp,H' b=none)->∀b∈fp,iH (cS X xs fr scope cl G2.objs.size {s2 with heap:=G2} (upd H2 s2.heap.objs.size (.lst [])) fp) [] H' b:=λ{H'} hn b hb=>
   ⟨hn b hb,(I5.ok.uN b hb).1,I5.ok.uG b hb,.inl hb,(I5.ok.uN b hb).2,λp hp=>absurd (show p∈([]:List (Addr×Obj)) from hp) (by simp)⟩
  rcases turn i n ys H5 w5 with⟨stop,qn⟩|⟨go,N,hN,step⟩
  ·refine az (T.done (cS X xs fr scope cl G2.objs.size {s2 with heap:=G2} (upd H2 s2.heap.objs.size (.lst [])) fp) rfl rfl rfl hc i [] s5 _ H5 _ I5 (l5 sy) oZ stop) λr s6 zq=>?_;obtain⟨hr,I6⟩:=zq;subst hr;obtain⟨m,JO,_⟩:=I6.loc;have I7:Inv X pins σ H5 s6:=I3.Sx (ch:=fp) I6.os I6.base I6.av I6.bare λb hb=>⟨(f2 b hb).2.2.2.1,(f2 b hb).2.1,(f2 b hb).2.2.2.2.1,(f2 b hb).2.2.2.2.2⟩;refine hR _ _ s6 H5 m I7 JO I6.free ?_ ?_ (λy c e z=>?_) (λp hp z=>?_) qn;·exact J9 I3.lt
   ·exact I3.sz
   ·obtain⟨v,q⟩:=I3.cell y c e;exact absurd q.lt (by rw[z];exact Wa _)
   ·exact absurd (Yx (I3.pin p hp).1) (by rw[z];exact Wa _)
  ·refine az (T.item (cS X xs fr scope cl G2.objs.size {s2 with heap:=G2} (upd H2 s2.heap.objs.size (.lst [])) fp) rfl rfl rfl hc i [] s5 _ H5 _ I5 (l5 sy) oZ go) λr s6 zq=>?_;obtain⟨u,hr,h6⟩:=zq;subst hr;refine az h6 λ_ s7 zq=>?_;obtain⟨v,H7,I7,r7,y7,sE,JP⟩:=zq;have JQ:=I7.pinned (l5 JP) (T.obj _ _ sE);refine wpAny_mono (hg _ _ _ _ _ s7 _ H7 v u _ JQ r7 (step v H7 y7 os ph)) (λ_ s8 zq=>?_) λ_ _ z=>False.elim z;obtain⟨σ8,H8,I8,⟨jZ,Tz,e8⟩,q8⟩:=zq;subst e8;have again:∀{pk:St} {H9:Hp} {s9:Shared} {pq:List V},pk.length=xs.length->Inv (cS X xs fr scope cl G2.objs.size {s2 with heap:=G2} (upd H2 s2.heap.objs.size (.lst [])) fp) ([]++qg fp s7.heap) (pk++gw σ fr) H9 s9->N pq H9->
     ∃m,m<n/\∃i ys H' os,os.length=xs.length/\Inv (cS X xs fr scope cl G2.objs.size {s2 with heap:=G2} (upd H2 s2.heap.objs.size (.lst [])) fp) [] (os++gw σ fr) H' s9/\tn i s9.heap/\(∀b∈fp,H' b=none)/\W i m ys H':=λ{pk H9 s9 pq} l1 I9 n9=>by
    obtain⟨m',hm,w9⟩:=hN pq H9 n9;refine⟨m',hm,i+1,pq,H9,pk,l1,I9.ue,T.keep _ _ _ sE λb hb o e=>(I9.pin (b,o) (Yq _ (Yq _ (pT hb e)))).1,λb hb=>?_,w9⟩;obtain⟨o,e,d⟩:=T.obj _ _ sE b hb;exact(I9.pin (b,o) (Yq _ (Yq _ (pT hb e)))).2.1
   refine wpAny_mono (J_ _ _ _ _ _ s8 _ H8 _ I8 q8) (λx s9 h9=>wpAny_mono h9 (λuR JR h10=>?_) λ_ _ z=>False.elim z) λ_ _ z=>False.elim z;obtain⟨Av,Kb,tn2,J2,mC,ka,JT,T2,TQ,Aw,W2,⟨m2,w2⟩,Zga⟩:=h10;subst ka;have Hw:∀{H':Hp},(∀b∈Kb,H' b=none)->∀b∈Kb,iH (cS X xs fr scope cl G2.objs.size {s2 with heap:=G2} (upd H2 s2.heap.objs.size (.lst [])) fp) ([]++qg fp s7.heap) H' b:=λhn b hb=>⟨hn b hb,(Aw b hb).2⟩;have SS:codeAny (model X.prog X.w) X.A (.compLoop (jB elt t1 i1 t2 i2 scope pos) 1 (.ref Av) (.ref s2.heap.objs.size) (compEnvC scope cl G2.objs.size X.env)) (λr l6=>match r with|.ok _=>∃m,m<n/\∃i ys H' os,os.length=xs.length/\Inv (cS X xs fr scope cl G2.objs.size {s2 with heap:=G2} (upd H2 s2.heap.objs.size (.lst [])) fp) [] (os++gw σ fr) H' l6/\tn i l6.heap/\(∀b∈fp,H' b=none)/\W i m ys H'|.error _=>False) JR:=by
    refine Zbt (λk s'=>∃j zs aN H',Inv (cS X xs fr scope cl G2.objs.size {s2 with heap:=G2} (upd H2 s2.heap.objs.size (.lst [])) fp) ([]++qg fp s7.heap) aN H' s'/\tn2 j s'.heap/\(∀b∈Kb,H' b=none)/\W2 j k zs aN H') ?_ m2 ⟨0,ys,_,mC,JT,TQ,λb hb=>(Aw b hb).1,w2⟩;rintro k JU ⟨j,zs,ZgT,xF,Ar,TR,TU,w11⟩;rcases Zga j k zs ZgT xF w11 with⟨stop,⟨uX,ZgU,e3⟩,qn⟩|⟨go,N2,hN2,Zgb⟩
    ·refine az (T2.done (cS X xs fr scope cl G2.objs.size {s2 with heap:=G2} (upd H2 s2.heap.objs.size (.lst [])) fp) rfl rfl rfl hc j _ JU _ xF _ Ar (Hw TU) TR stop) λr s12 zq=>?_;obtain⟨hr,I12⟩:=zq;subst hr;subst e3;exact again ZgU I12 qn
    ·refine az (T2.item (cS X xs fr scope cl G2.objs.size {s2 with heap:=G2} (upd H2 s2.heap.objs.size (.lst [])) fp) rfl rfl rfl hc j _ JU _ xF _ Ar (Hw TU) TR go) λr s12 zq=>?_;obtain⟨u2,hr,Ax⟩:=zq;subst hr;refine az Ax λ_ s13 zq=>?_;obtain⟨v2,Ay,I13,r13,y13,IM,ZgV⟩:=zq;have ZgW:=I13.pinned (Hw ZgV) (T2.obj _ _ IM);refine wpAny_mono (Ka _ _ _ _ _ s13 _ Ay v2 u2 _ ZgW r13 (Zgb v2 Ay y13)) (λ_ s14 zq=>?_) λ_ _ z=>False.elim z;obtain⟨ZgX,qH,I14,q14⟩:=zq;refine wpAny_mono (he _ _ _ _ _ s14 _ qH _ I14 q14) (λu1 s15 zq=>?_) λ_ _ z=>False.elim z;obtain⟨y,Kc,I15,r15,hD,hz,mE⟩:=zq;refine wpAny_mono (v9 (X:=cS X xs fr scope cl G2.objs.size {s2 with heap:=G2} (upd H2 s2.heap.objs.size (.lst [])) fp) _ s15 _ Kc (.ref s2.heap.objs.size) [y] _ [u1] (λ_ H'=>N2 (zs++[y]) ZgX H') I15 rfl (.cons r15 .nil) ⟨_,zs,y,rfl,rfl,hD,hz,mE⟩) (λ_ s16 zq=>?_) λ_ _ z=>False.elim z;obtain⟨_,U0,Kd,_,q16⟩:=zq;obtain⟨m',hm,w16⟩:=hN2 _ _ _ q16;refine⟨m',hm,j+1,_,_,U0,Kd.ue,T2.keep _ _ _ IM λb hb o e=>(Kd.pin (b,o) (Yq _ (Yq _ (pT hb e)))).1,λb hb=>?_,w16⟩;obtain⟨o,e,d⟩:=T2.obj _ _ IM b hb;exact(Kd.pin (b,o) (Yq _ (Yq _ (pT hb e)))).2.1
   exact Za SS (T2.self _ 0 _ _ _ TQ SS)
 exact codeAny_compStart_list (loop _ rfl) (T.self _ 0 _ _ _ xE (loop _ rfl))
def Zff(n:Nat)(wi:TI)(fr:List (Str×Nat))(j9:TG)(j_:TI)(mD:TG)(te:TE):TE:=λσ H Q=>wi σ H λJ H1=>∀D,H1 D=none->G5 n J j9 j_ mD te (gw σ fr) D H1 Q
theorem Zck(hc:X.calm=true)(S:vX X scope cl xs fr)(hg:∀C s H fp,PG (cS X xs fr scope cl C s H fp) t1 j9)(hi:PI X t1 i1 wi)(J_:∀C s H fp,PI (cS X xs fr scope cl C s H fp) t2 i2 j_)(Ka:∀C s H fp,PG (cS X xs fr scope cl C s H fp) t2 mD)
  (he:∀C s H fp,PE (cS X xs fr scope cl C s H fp) elt te)(hs:∀x,foldedSetIterable i1 X.env x=pure x:=by intro _;rfl)(uT:∀C x,foldedSetIterable i2 (compEnvC scope cl C X.env) x=pure x:=by intro _ _;rfl):
  PE X (.ListComp elt [⟨t1,i1,[],0⟩,⟨t2,i2,[],0⟩] scope pos) (Zff xs.length wi fr j9 j_ mD te):=by
 intro pins s σ H Q I h;refine wpAny_comprehension_free rfl hs S.xc S.kind S.names (az (hi pins s σ H _ I h) λv s1 h1=>az h1 λuR s2 h2=>?_);obtain⟨it,fp,tn,J,H2,e,I2,T,fk,f2,hw⟩:=h2;subst e;refine Zar (RR:=λacc C=>compPost (model X.prog X.w) X.A X.xe none (EP X pins σ Q) acc C) hc S hg J_ Ka he uT I2 T fk f2 hw ?_;intro D C s1 H1 m I1 hn f0 f1 f3 f4 f5 q;exact⟨m,hn,λh' pB=>⟨.ref D,H1,I1.turned (λb o hb e=>pB.extBut b o hb e) f0 f1 (.inr f3) f4 f5,rfl,q⟩⟩
end
theorem d_{X:Cx}{K:PySem.W.Frag}{tg l:Expr}{tl:TE}(h:X.K=K)(hl:PE X l tl):PI X tg l (SD K tl):=h▸PL hl
theorem iD{X:Cx}{K:PySem.W.Frag}{pos:Pos}{es:List Expr}{k:Nat}{t:nH}{n:Nat}(h:X.K=K)(hc:X.calm=true)(hg:xu X es t)
  (hn:(assignEach es X.env).length=n:=by rfl)(ib:(assignEach es X.env).findIdx? (·.1)=none:=by rfl):PG X (.Tuple es k pos) (Tq K n t):=h▸Zes hc hg hn ib
theorem Zdw{K:PySem.W.Frag}{a:Addr}{xs:List V}{n:Nat}{j9:TG}{j_:TI}{mD:TG}{te:TE}{fv:St}{D:Addr}{H:Hp}{Q:VK}(Pv:Nat->List V->Hp->Prop)(h0:Pv 0 [] (upd H D (.lst [])))(hl:∀i ys H,i<=xs.length->Pv i ys H->aj K H a xs)
  (hs:∀i v ys H,xs[i]?=some v->Pv i ys H->∀os:St,os.length=n->j9 v (os++fv) H λdA H2=>(∃jZ:St,jZ.length=n/\dA=jZ++fv)/\j_ dA H2 λJ2 H3=>∃(b:Addr) (zs:List V) (Pw:Nat->List V->St->Hp->Prop),J2=jz K b/\Pw 0 ys dA H3/\
   (∀k ys σ H,k<=zs.length->Pw k ys σ H->aj K H b zs)/\
   (∀k v2 ys σ H,zs[k]?=some v2->Pw k ys σ H->mD v2 σ H λxJ H6=>te xJ H6 λy H7=>H7 D=some (.lst ys)/\ys.length<sizeLine/\Pw (k+1) (ys++[y]) xJ (upd H7 D (.lst (ys++[y]))))/\
   ∀ys σ H,Pw zs.length ys σ H->(∃uX:St,uX.length=n/\σ=uX++fv)/\Pv (i+1) ys H)
  (hd:∀ys H,Pv xs.length ys H->Q (.ref D) H)(Zgc:∀σ H (R R':It->Hp->Prop),(∀J H,R J H->R' J H)->j_ σ H R->j_ σ H R')(Zgd:∀v σ H (R R':St->Hp->Prop),(∀σ H,R σ H->R' σ H)->j9 v σ H R->j9 v σ H R'):G5 n (jz K a) j9 j_ mD te fv D H Q:=by
 refine⟨λi m ys H=>m=xs.length-i/\i<=xs.length/\Pv i ys H,⟨xs.length,by simp,Yw _,h0⟩,?_⟩;rintro i m ys H ⟨rfl,hi,p⟩;have q:=hl i ys H hi p;by_cases bX:i<xs.length
 ·refine .inr ⟨⟨xs,xs[i],q,by simp[bX]⟩,Pv (i+1),λgT H' p'=>⟨xs.length-(i+1),by omega,rfl,bX,p'⟩,λx H' y os ph=>?_⟩;obtain⟨e,y⟩:=y;subst e;refine Zgd _ _ _ _ _ (λdA H2 ⟨h1,h2⟩=>⟨h1,Zgc _ _ _ _ (λJ2 H3 h3=>?_) h2⟩) (hs i x ys _ (y xs q) p os ph);obtain⟨b,zs,Pw,rfl,w0,wl,ws,wd⟩:=h3;refine⟨λk m2 gc cP H4=>m2=zs.length-k/\k<=zs.length/\Pw k gc cP H4,⟨zs.length,by simp,Yw _,w0⟩,?_⟩;rintro k m2 gc cP H4 ⟨rfl,hk,w⟩;have q2:=wl k gc cP H4 hk w;by_cases Az:k<zs.length
  ·refine .inr ⟨⟨zs,zs[k],q2,by simp[Az]⟩,Pw (k+1),λgT aN H' p'=>⟨zs.length-(k+1),by omega,rfl,Az,p'⟩,λv2 H5 y2=>?_⟩;obtain⟨e2,y2⟩:=y2;subst e2;exact ws k v2 gc cP _ (y2 zs q2) w
  ·have e:k=zs.length:=by omega
   subst e;exact .inl ⟨⟨zs,q2,Yd _⟩,(wd gc cP H4 w).1,(wd gc cP H4 w).2⟩
 ·have e:i=xs.length:=by omega
  subst e;exact .inl ⟨⟨xs,q,Yd _⟩,hd ys H p⟩
section
variable {prog:Program}{w:World}{κ:Type}[DecidableEq κ]{knd:PySem.KeyKind prog w κ}{A:Around}{E:Value->Shared->Prop}{s:Shared}
theorem Xg{d:Addr}{kvs:List (κ×Value)}{k:κ}{key dflt:Value}{Q:Value->Shared->Prop}(nj:knd.is k key=true)(hm:s.heap.DictOf knd d kvs)
  (Zfg:∀v,valueAt kvs k=some v->Q v {s with toks:=s.toks+1})
  (ZgY:valueAt kvs k=none->∀h',h'.DictOf knd d (stored kvs k dflt)->Heap.SameBut d s.heap h'->Q dflt {s with heap:=h',toks:=s.toks+1})
  (hsz:kvs.length<=sizeLine):wpAny (model prog w) A (dictSetDefault d key dflt) Q E s:=by
 obtain⟨o,es,ep,ho,hc,hd,hk,hp,hn⟩:=hm;have hes:es.size<=sizeLine:=by
  have e1:=hp.length
  grind
 have hf:∀x,findBy knd.is es x=valueAt kvs x:=λx=>by
  rw[←hp.find x];simp[findBy]
 unfold dictSetDefault;try with_reducible refine wpAny_holding ?_
 refine wpAny_bind (knd.pyHash nj (wpAny_bind (wpAny_dictFind_of nj ho hd hk ?_)));have Zh6:(es.findIdx? λe=>knd.is k e.key)=kvs.findIdx? λkv=>decide (kv.1=k):=by
  rw[←hp.findIdx k];obtain⟨l⟩:=es;simp
 cases hi:es.findIdx? λe=>knd.is k e.key with
 |some i=>
  have AA:valueAt kvs k=(es[i]?).map (·.val):=by rw[←hf k,findBy_of_findIdx?,hi]
  refine wpAny_bind (wpAny_dictEntries ho hd ?_);cases he:es[i]? with
  |none=>
   have:=Array.findIdx?_eq_some_iff_findIdx_eq.mp hi
   grind
  |some e=>
   rw[he] at AA;exact wpAny_bind (wpAny_rule (wpAny_pure (Zfg e.val AA)))
 |none=>
  have AA:valueAt kvs k=none:=by rw[←hf k,findBy_of_findIdx?,hi]
  have TV:¬(kvs.any λkv=>decide (kv.1=k))=true:=by
   grind
  refine wpAny_bind (wpAny_rule (wpAny_bind (wpAny_updateDictKeys ho hd (wpAny_pure (ZgY AA _ ⟨_,_,ep+1,Jz _ ho (Obj.isFreed_of_dict (Obj.data_mapDictKeys hd _)),
   hc.mapDictKeys _,Obj.data_mapDictKeys hd _,hk.push nj _,?_,?_⟩ (Heap.SameBut.update ..))))))
  ·rw[stored,if_neg TV];have:=hp.append nj (knd.hash k) dflt
   grind
  ·rw[stored,if_neg TV,Yj,Wg]
   grind
theorem Xw{d:Addr}{k:κ}{key:Value}(nj:knd.is k key=true)(hd:(d==sysModules)=false)(dflt:Value):
  MeetsIn prog w (Builtin.«dict.setdefault» ⟨[.ref d,key,dflt],[]⟩) (λ_ R s=>∃kvs,s.heap.DictOf knd d kvs/\kvs.length<=sizeLine/\
   (∀v,valueAt kvs k=some v->R (.ok (.ret v)) {s with toks:=s.toks+1})/\
   (valueAt kvs k=none->∀h',h'.DictOf knd d (stored kvs k dflt)->Heap.SameBut d s.heap h'->R (.ok (.ret dflt)) {s with heap:=h',toks:=s.toks+1})):=
 .of_wp λA R s ⟨kvs,hm,hz,h1,h2⟩=>by
  refine wpAny_bind (wpAny_bind (wpAny_notOrdered_dict hm.typeIs (wpAny_pure ?_)));show wpAny _ _ (if(d==sysModules)=true then _ else(dictSetDefault d key dflt>>=_)) _ _ s;rw[if_neg (by rw[hd];exact Ym)];exact wpAny_bind (Xg nj hm (λv hv=>wpAny_pure ⟨v,rfl,h1 v hv⟩) (λhn h' hm' pB=>wpAny_pure ⟨dflt,rfl,h2 hn h' hm' pB⟩) hz)
end
section
variable {X:Cx}{pins:List (Addr×Obj)}{σ:St}{H:Hp}{s:Shared}{a:Addr}{kvs:List (Key×V)}{k:Key}{z:V}{u r:Value}{A:Around}{E:Value->Shared->Prop}
theorem Zcl(I:Inv X pins σ H s)(e:H a=some (.dK kvs))(ry:RelV (kV k) u)(rz:RelV z r)(l:kvs.length<sizeLine)
  (h1:∀v w' s',aS kvs k=some v->Inv X pins σ H s'->RelV v w'->Q w' s')(h2:∀s',aS kvs k=none->Inv X pins σ (upd H a (.dK (putK kvs k z))) s'->Q r s'):
  wpAny (model X.prog X.w) A (call (.builtin "dict.setdefault") [.ref a,u,r]) Q E s:=by
 obtain⟨zz,hd,vs,rel,dd⟩:=lW I.av e;have hz:vs.length<=sizeLine:=by rw[←rel.length];exact zz
 have rv:=rel.val k;refine call_meetsIn PySem.F.slot_dict_setdefault dd.typeIs PySem.F.entry_dict_setdefault (PySem.F.args_dict_setdefault_3 _ _ _) (Xw (lV ry) hd r) ⟨vs,dd,hz,λv hv=>?_,λhn h' iL hs=>?_⟩
 ·cases ev:aS kvs k with
  |none=>rw[ev,hv] at rv;cases rv
  |some x=>
   rw[ev,hv] at rv;exact h1 x v _ ev (I.tok _) rv
 ·have ev:aS kvs k=none:=by
   cases ev:aS kvs k with
   |none=>rfl
   |some x=>rw[ev,hn] at rv;cases rv
  have hl:(putK kvs k z).length<=sizeLine:=by have:=yz kvs k z;omega
  exact h2 _ ev (rf I (by rw[e];exact True.intro) hs (let⟨q,_,_,hq,_⟩:=iL;⟨q,hq⟩) (wB hl hd (rel.put k rz) iL))
end
def FP(td ty tx:TE):TE:=λσ H Q=>td σ H λx H1=>∃a,x=.ref a/\xH H1 a/\ty σ H1 λy H2=>tx σ H2 λz H3=>∃kvs k,H3 a=some (.dK kvs)/\y=kV k/\kvs.length<sizeLine/\
 (∀v,aS kvs k=some v->Q v H3)/\(aS kvs k=none->Ch H3 a (.dK (kvs++[(k,z)])) (Q z))
def Zdx(td ty:TE):TE:=λσ H Q=>td σ H λx H1=>∃a,x=.ref a/\xH H1 a/\ty σ H1 λy H2=>∃kvs k v,H2 a=some (.dK kvs)/\y=kV k/\aS kvs k=some v/\Ch H2 a (.dK (gH kvs k)) (Q v)
section
variable {X:Cx}{o e f:Expr}{apos cG:Pos}{td ty tx:TE}
theorem Ey(ho:PE X o td)(he:PE X e ty)(hf:PE X f tx)(m:M2 X o "setdefault" apos e f cG):PE X (.Call (.Attribute o "setdefault" apos) [e,f] [] cG) (FP td ty tx):=by
 intro pins s σ H Q I h;refine wpAny_Call_method m.base m.iM m.line plainAttrs_dict PySem.F.slot_dict_setdefault PySem.F.type_dict_setdefault (az (ho pins s σ H _ I h) λu s1 zq=>?_);obtain⟨x,H1,I1,rx,a,ex,d,q1⟩:=zq;subst ex;obtain rfl:u=Value.ref a:=rx;obtain⟨t1,t2,_⟩:=uy I1 d;refine⟨t1,t2,?_⟩;rw[m.trees];refine Calls.callWith_builtin rfl (Calls.evalArgs_plain (Calls.spliced_cons (az (he pins s1 σ H1 _ I1 q1) λiv s2 ⟨y,H2,I2,ry,q2⟩=>
  Calls.spliced_cons (az (hf pins s2 σ H2 _ I2 q2) λfv s3 ⟨z,H3,I3,rz,kvs,k,ea,ey,lz,q3,q4⟩=>Calls.spliced_nil ?_))))
 subst ey;refine Zcl I3 ea ry rz lz (λv w' s4 ev I4 rv=>⟨v,H3,I4,rv,q3 v ev⟩) λs4 ev I4=>?_;rw[kJ _ ev] at I4;exact⟨z,_,I4,rz,(q4 ev).at⟩
theorem NI(ho:PE X o td)(he:PE X e ty)(m:M1 X o "pop" apos e cG):PE X (.Call (.Attribute o "pop" apos) [e] [] cG) (Zdx td ty):=by
 intro pins s σ H Q I h;refine wpAny_Call_method m.base m.iM m.line plainAttrs_dict slot_dict_pop PySem.F.type_dict_pop (az (ho pins s σ H _ I h) λu s1 zq=>?_);obtain⟨x,H1,I1,rx,a,ex,d,q1⟩:=zq;subst ex;obtain rfl:u=Value.ref a:=rx;obtain⟨t1,t2,_⟩:=uy I1 d;refine⟨t1,t2,?_⟩;rw[m.trees];refine Calls.callWith_builtin rfl (Calls.evalArgs_plain (Calls.spliced_cons (az (he pins s1 σ H1 _ I1 q1) λiv s2 ⟨y,H2,I2,ry,kvs,k,v,ea,ey,l,q2⟩=>Calls.spliced_nil ?_)));subst ey;exact Zf4 I2 ea ry l (.inl rfl) λw' s3 I3 f_=>⟨v,_,I3,f_,q2.at⟩
end
end L2
namespace L2
open PySem PySem.W PySem.Calls PySem.Spec PyProof.Rows
def eF{α:Type}(n:Nat)(P:α->Prop):KasT α->Prop
 |.ret a=>P a
 |.ask i j k=>i<n/\j<n/\∀b,eF n P (k b)
theorem eF.bind{α β:Type}{n:Nat}{P:α->Prop}{Q:β->Prop}{f:α->KasT β}(hf:∀a,P a->eF n Q (f a)):∀{t:KasT α},eF n P t->eF n Q (t.bind f)
 |.ret a,h=>hf a h
 |.ask _ _ _,h=>⟨h.1,h.2.1,λb=>eF.bind hf (h.2.2 b)⟩
def Good(n:Nat)(p:Array Nat):Prop:=0<n/\p.Perm (List.range n).toArray
theorem Good.get(g:Good n p)(m:Nat):p.getD m 0<n:=by
 by_cases h:m<p.size
 ·have e:p.getD m 0=p[m]:=by rw[Wb,W9 h];rfl
  rw[e];have:=g.2.mem_iff.mp (Array.getElem_mem h);simpa using this
 ·have e:p.getD m 0=0:=by rw[Wb,Ju (by omega)];rfl
  rw[e];exact g.1
theorem Good.rev(g:Good n p)(i j:Nat):Good n (kas_rev p i j):=⟨g.1,(mirror_perm p i j _).trans g.2⟩
theorem FQ(g:Good n p):∀f m,eF n (λ_=>True) (kas_asc p f m)
 |0,_=>trivial
 |f+1,m=>⟨g.get m,g.get (m-1),λb=>by
  cases b with
  |true=>(dsimp only;rw[if_pos rfl]);exact trivial
  |false=>(dsimp only;rw[if_neg Ym]);exact FQ g f (m+1)⟩
theorem yN:∀f (p:Array Nat) m q,Good n p->eF n (λr=>Good n r.1) (kas_desc f p m q)
 |0,_,_,_,g=>g
 |f+1,p,m,q,g=>⟨g.get m,g.get (m-1),λb=>by
  cases b with
  |true=>
   split;·exact yN f _ _ _ (g.rev _ _)
   ·exact yN f _ _ _ g
  |false=>
   refine⟨g.get (m-1),g.get m,λd=>?_⟩;cases d with
   |true=>(dsimp only;rw[if_pos rfl]);exact g
   |false=>(dsimp only;rw[if_neg Ym]);exact yN f _ _ _ g⟩
theorem M0{n m k:Nat}{p:Array Nat}(g:Good n p):eF n (λr=>Good n r.2) (kas_tail3 m k p):=by
 refine eF.bind (λa _=>?_) (FQ (g.rev 0 m) _ _);exact g.rev 0 m
theorem Mq{n m k:Nat}{p:Array Nat}(g:Good n p):eF n (λr=>Good n r.2) (kas_descPart m k p):=by
 refine eF.bind (λr hr=>?_) (yN _ p _ _ g);split;·exact M0 (Good.rev hr _ _)
 ·exact M0 hr
theorem M3{n k:Nat}{p:Array Nat}(g:Good n p):eF n (λr=>Good n r.2) (kas_count k p):=by
 refine eF.bind (λm _=>?_) (FQ g _ _);split;·exact g
 ·split
  ·refine⟨g.get _,g.get _,λb=>?_⟩;cases b with
   |true=>(dsimp only;rw[if_pos rfl]);exact g
   |false=>(dsimp only;rw[if_neg Ym]);exact Mq (g.rev _ _)
  ·exact Mq g
theorem Ez(g:Good n p):∀f l r,eF n (λ_=>True) (kas_place p k f l r)
 |0,_,_=>trivial
 |f+1,l,r=>by
  unfold kas_place;split;·exact trivial
  ·refine⟨g.get _,g.get _,λb=>?_⟩;cases b with
   |true=>(dsimp only;rw[if_pos rfl]);exact Ez g f _ _
   |false=>(dsimp only;rw[if_neg Ym]);exact Ez g f _ _
theorem OF{n:Nat}:∀f (p:Array Nat) k,Good n p->eF n (Good n) (kas_bin f p k)
 |0,_,_,g=>g
 |f+1,p,k,g=>eF.bind (λl _=>OF f _ _ ⟨g.1,(bubble_perm p k _).trans g.2⟩) (Ez g _ _ _)
theorem Zbv{n:Nat}(h:0<n):eF n (Good n) (kas_sort n):=by
 refine eF.bind (λr hr=>?_) (M3 ⟨h,Array.Perm.refl _⟩);split;·exact OF _ _ _ hr
 ·exact hr
theorem range_getD(vs:List α)(d:α):(List.range vs.length).map (λi=>vs.getD i d)=vs:=by
 refine Ww λi=>?_
 grind
section
variable {prog:Program}{w:World}{A:Around}{E:Value->Shared->Prop}{s:Shared}
end
def zF(h:Heap)(vs:List Value):Prop:=∀v∈vs,∃(a:Addr) (o:Obj) (n:Nat) (x y:Int) (t u:Tok),v=.ref a/\h.get? a=some o/\o.cls=.type "tuple"/\o.data=.seq #[.int x t,.int y u] n
theorem zF.U1:∀{vs:List Value},zF h vs->∃fs:List Value,KatTups h vs fs/\fs.length=vs.length/\∀v∈fs,∃x t,v=Value.int x t
 |[],_=>⟨[],KatTups.nil,rfl,λ_ h=>by cases h⟩
 |v::vs,hv=>by
  obtain⟨a,o,n,x,y,t,u,rfl,h1,h2,h3⟩:=hv v Yk;obtain⟨fs,k1,k2,k3⟩:=zF.U1 λz hz=>hv z (Yv _ hz);refine⟨.int x t::fs,KatTups.cons h1 h2 h3 rfl k1,by rw[Wq,Wq,k2],λv hv=>?_⟩
  grind
section
variable {prog:Program}{w:World}{A:Around}{E:Value->Shared->Prop}{s:Shared}
end
section
variable {prog:Program}{w:World}{A:Around}{E:Value->Shared->Prop}{s:Shared}
end
theorem NJ:∀{as:List Addr} {us:List Value},Vals (as.map V.ref) us->us=as.map Value.ref
 |[],_,.nil=>rfl
 |a::as,u::us,.cons r t=>by
  rw[r,NJ t,Wl]
theorem NK:∀as:List Addr,Vals (as.map V.ref) (as.map Value.ref)
 |[]=>.nil
 |_::as=>.cons rfl (NK as)
def Run{α:Type}(lt:Nat->Nat->Bool):KasT α->α
 |.ret a=>a
 |.ask i j k=>Run lt (k (lt i j))
theorem Run.bind:∀t:KasT α,Run lt (t.bind f)=Run lt (f (Run lt t))
 |.ret _=>rfl
 |.ask i j k=>Run.bind (k (lt i j))
theorem eF.run(hc:∀i j (C:Bool->Shared->Prop),i<n->j<n->C (lt i j) s->cmp i j C s):∀{t:KasT α},eF n P t->G (Run lt t) s->t.kasWp cmp G s
 |.ret _,_,hG=>hG
 |.ask i j k,h,hG=>hc i j _ h.1 h.2.1 (eF.run hc (h.2.2 _) hG)
structure ke(n:Nat)(lt:Nat->Nat->Bool):Prop where
 trans:∀i j k,i<n->j<n->k<n->lt i j=true->lt j k=true->lt i k=true
 AB:∀i j,i<n->j<n->i≠j->lt i j=false->lt j i=true
 ZgZ:∀i j,i<n->j<n->lt i j=true->lt j i=false
def Sd(lt:Nat->Nat->Bool)(p:Array Nat)(m:Nat):Prop:=∀i j,i<j->j<m->lt (p.getD i 0) (p.getD j 0)=true
def Ds(lt:Nat->Nat->Bool)(p:Array Nat)(m:Nat):Prop:=∀i j,i<j->j<m->lt (p.getD j 0) (p.getD i 0)=true
theorem Good.size(g:Good n p):p.size=n:=by
 have:=g.2.size_eq
 grind
theorem Good.ne(g:Good n p)(hi:i<n)(hj:j<n)(ne:i≠j):p.getD i 0≠p.getD j 0:=by
 have nd:p.toList.Nodup:=by
  have:=(Jo.mp g.2).nodup_iff.mpr (by simpa using List.nodup_range);exact this
 have sz:=g.size;have e:∀k (hk:k<n),p.getD k 0=p.toList[k]'(by rw[Wx];omega):=λk hk=>by
  simp_all
 have pw:=Wz.mp nd
 grind
section
variable {n:Nat}{lt:Nat->Nat->Bool}
theorem P7(L:ke n lt)(g:Good n p)(h1:1<=m)(sd:Sd lt p m)(h:lt (p.getD (m-1) 0) (p.getD m 0)=true):Sd lt p (m+1):=by
 intro i j kg hj;by_cases e:j=m
 ·subst e;by_cases e2:i=j-1;·rw[e2];exact h
  ·exact L.trans _ _ _ (g.get _) (g.get _) (g.get _) (sd i (j-1) (by omega) (by omega)) h
 ·exact sd i j kg (by omega)
theorem Zdy(L:ke n lt)(g:Good n p)(h1:1<=m)(ds:Ds lt p m)(h:lt (p.getD m 0) (p.getD (m-1) 0)=true):Ds lt p (m+1):=by
 intro i j kg hj;by_cases e:j=m
 ·subst e;by_cases e2:i=j-1;·rw[e2];exact h
  ·exact L.trans _ _ _ (g.get _) (g.get _) (g.get _) h (ds i (j-1) (by omega) (by omega))
 ·exact ds i j kg (by omega)
theorem zm(L:ke n lt)(g:Good n p):∀f m,1<=m->m+f<=n->Sd lt p m->Sd lt p (Run lt (kas_asc p f m))/\m<=Run lt (kas_asc p f m)/\Run lt (kas_asc p f m)<=m+f
 |0,m,_,_,sd=>⟨sd,Yd _,Yd _⟩
 |f+1,m,h1,h2,sd=>by
  have e:Run lt (kas_asc p (f+1) m)=Run lt (if lt (p.getD m 0) (p.getD (m-1) 0)=true then KasT.ret m else kas_asc p f (m+1)):=rfl;rw[e];by_cases c:lt (p.getD m 0) (p.getD (m-1) 0)=true
  ·rw[if_pos c];exact⟨sd,Yd _,by show m<=_;omega⟩
  ·rw[if_neg c];have c':lt (p.getD m 0) (p.getD (m-1) 0)=false:=by cases z:lt (p.getD m 0) (p.getD (m-1) 0) with|true=>exact absurd z c|false=>rfl
   obtain⟨a,b,d⟩:=zm L g f (m+1) (by omega) (by omega) (P7 L g h1 sd (L.AB _ _ (g.get _) (g.get _) (g.ne (by omega) (by omega) (by omega)) c'))
   grind
theorem OG(L:ke n lt)(g:Good n p):∀f m,1<=m->m+f<=n->Ds lt p m->∃m',Run lt (kas_desc f p m 0)=(p,m',0)/\Ds lt p m'/\m<=m'/\m'<=m+f
 |0,m,_,_,ds=>⟨m,rfl,ds,Yd _,Yd _⟩
 |f+1,m,h1,h2,ds=>by
  have e:Run lt (kas_desc (f+1) p m 0)=Run lt (if lt (p.getD m 0) (p.getD (m-1) 0)=true then(if 0>0 then kas_desc f (kas_rev p (m-(0+1)) m) (m+1) 0 else kas_desc f p (m+1) 0) else KasT.ask (p.getD (m-1) 0) (p.getD m 0) λd=>if d=true then KasT.ret (p,m,0) else kas_desc f p (m+1) (0+1)):=rfl;rw[e];by_cases c:lt (p.getD m 0) (p.getD (m-1) 0)=true
  ·rw[if_pos c,if_neg (by omega)];obtain⟨m',a,b,d,d'⟩:=OG L g f (m+1) (by omega) (by omega) (Zdy L g h1 ds c)
   grind
  ·rw[if_neg c];have c':lt (p.getD m 0) (p.getD (m-1) 0)=false:=by cases z:lt (p.getD m 0) (p.getD (m-1) 0) with|true=>exact absurd z c|false=>rfl
   have e2:Run lt (KasT.ask (p.getD (m-1) 0) (p.getD m 0) λd=>if d=true then KasT.ret (p,m,0) else kas_desc f p (m+1) (0+1))=Run lt (if lt (p.getD (m-1) 0) (p.getD m 0)=true then KasT.ret (p,m,0) else kas_desc f p (m+1) (0+1)):=rfl;rw[e2,if_pos (L.AB _ _ (g.get m) (g.get (m-1)) (g.ne (by omega) (by omega) (by omega)) c')];exact⟨m,rfl,ds,Yd _,by omega⟩
theorem P8(hm:m<=p.size)(hi:i<m):(kas_rev p 0 m).getD i 0=p.getD (m-1-i) 0:=by
 unfold kas_rev;rw[Wb,getElem?_mirror_all hm,if_pos ⟨Yw _,hi⟩,←Wb]
 congr 1
 omega
theorem Zbw(L:ke n lt)(g:Good n p)(h1:1<=m)(hm:m<=n)(ds:Ds lt p m):Good n (Run lt (kas_tail3 m n p)).2/\Sd lt (Run lt (kas_tail3 m n p)).2 (Run lt (kas_tail3 m n p)).1/\m<=(Run lt (kas_tail3 m n p)).1/\(Run lt (kas_tail3 m n p)).1<=n:=by
 have sd:Sd lt (kas_rev p 0 m) m:=λi j kg hj=>by
  rw[P8 (by rw[g.size];exact hm) (by omega),P8 (by rw[g.size];exact hm) hj];exact ds _ _ (by omega) (by omega)
 have e:Run lt (kas_tail3 m n p)=(Run lt (kas_asc (kas_rev p 0 m) (n-m) m),kas_rev p 0 m):=by
  unfold kas_tail3;rw[Run.bind];rfl
 obtain⟨a,b,c⟩:=zm L (g.rev 0 m) (n-m) m h1 (by omega) sd;rw[e];exact⟨g.rev 0 m,a,b,by show Run lt _<=n;omega⟩
theorem Zbx(L:ke n lt)(g:Good n p):Good n (Run lt (kas_count n p)).2/\Sd lt (Run lt (kas_count n p)).2 (Run lt (kas_count n p)).1/\1<=(Run lt (kas_count n p)).1/\(Run lt (kas_count n p)).1<=n:=by
 have n0:=g.1;obtain⟨sd,h1,h2⟩:=zm L g (n-1) 1 (Yd _) (by omega) (λi j kg hj=>by omega);have e:Run lt (kas_count n p)=Run lt (if(Run lt (kas_asc p (n-1) 1)==n)=true then KasT.ret (Run lt (kas_asc p (n-1) 1),p) else if Run lt (kas_asc p (n-1) 1)>1 then KasT.ask (p.getD 0 0) (p.getD (Run lt (kas_asc p (n-1) 1)-1) 0) λc=>if c=true then KasT.ret (Run lt (kas_asc p (n-1) 1),p) else kas_descPart (Run lt (kas_asc p (n-1) 1)) n (kas_rev p 0 (Run lt (kas_asc p (n-1) 1))) else kas_descPart (Run lt (kas_asc p (n-1) 1)) n p):=by
  unfold kas_count;rw[Run.bind]
 rw[e];generalize er:Run lt (kas_asc p (n-1) 1)=r at sd h1 h2;by_cases c1:(r==n)=true
 ·rw[if_pos c1];exact⟨g,sd,h1,by show r<=n;omega⟩
 ·rw[if_neg c1];have rn:r≠n:=λz=>c1 (beq_iff_eq.mpr z);by_cases c2:r>1
  ·rw[if_pos c2];have e2:Run lt (KasT.ask (p.getD 0 0) (p.getD (r-1) 0) λc=>if c=true then KasT.ret (r,p) else kas_descPart r n (kas_rev p 0 r))=Run lt (if lt (p.getD 0 0) (p.getD (r-1) 0)=true then KasT.ret (r,p) else kas_descPart r n (kas_rev p 0 r)):=rfl;rw[e2,if_pos (sd 0 (r-1) (by omega) (by omega))];exact⟨g,sd,h1,by show r<=n;omega⟩
  ·rw[if_neg c2];have r1:r=1:=by omega
   subst r1;have hd:lt (p.getD 1 0) (p.getD 0 0)=true:=by
    have:n-1=(n-2)+1:=by omega
    rw[this] at er;have e3:Run lt (kas_asc p (n-2+1) 1)=Run lt (if lt (p.getD 1 0) (p.getD (1-1) 0)=true then KasT.ret 1 else kas_asc p (n-2) (1+1)):=rfl;rw[e3] at er;by_cases c:lt (p.getD 1 0) (p.getD (1-1) 0)=true;·exact c
    ·rw[if_neg c] at er;have c':lt (p.getD 1 0) (p.getD (1-1) 0)=false:=by cases z:lt (p.getD 1 0) (p.getD (1-1) 0) with|true=>exact absurd z c|false=>rfl
     have Ke:Sd lt p 2:=P7 L g (m:=1) (Yd _) (λi j kg hj=>by omega) (L.AB _ _ (g.get _) (g.get _) (g.ne (by omega) (by omega) (by omega)) c');obtain⟨_,b,_⟩:=zm L g (n-2) 2 (by omega) (by omega) Ke;rw[show 1+1=2 from rfl] at er;omega
   have ds2:Ds lt p 2:=λi j kg hj=>by
    grind
   obtain⟨m',a,b,c,d⟩:=OG L g (n-(1+1)) (1+1) (by omega) (by omega) ds2;have e4:Run lt (kas_descPart 1 n p)=Run lt (kas_tail3 m' n p):=by
    unfold kas_descPart;rw[Run.bind,a];dsimp only;rw[if_neg (by omega)]
   rw[e4];obtain⟨x1,x2,x3,x4⟩:=Zbw L g (m:=m') (by omega) (by omega) b;exact⟨x1,x2,by omega,x4⟩
theorem P9(L:ke n lt)(g:Good n p)(sd:Sd lt p n):∀f m,1<=m->m+f<=n->Run lt (kas_asc p f m)=m+f
 |0,_,_,_=>rfl
 |f+1,m,h1,h2=>by
  have e:Run lt (kas_asc p (f+1) m)=Run lt (if lt (p.getD m 0) (p.getD (m-1) 0)=true then KasT.ret m else kas_asc p f (m+1)):=rfl;rw[e,if_neg (by rw[L.ZgZ _ _ (g.get _) (g.get _) (sd (m-1) m (by omega) (by omega))];exact Ym),P9 L g sd f (m+1) (by omega) (by omega)];omega
theorem Zby(L:ke n lt)(g:Good n p)(sd:Sd lt p n):Run lt (kas_count n p)=(n,p):=by
 have n0:=g.1;unfold kas_count;rw[Run.bind,(P9 L g sd (n-1) 1 (Yd _) (by omega)),if_pos (beq_iff_eq.mpr (by omega))];show(1+(n-1),p)=(n,p)
 grind
theorem Ff(L:ke n lt)(g:Good n p)(hk:k<n)(sd:Sd lt p k):∀f l r,l<=r->r<=k->r-l<=f->(∀i,i<l->lt (p.getD i 0) (p.getD k 0)=true)->(∀i,r<=i->i<k->lt (p.getD k 0) (p.getD i 0)=true)->
  Run lt (kas_place p k f l r)<=k/\(∀i,i<Run lt (kas_place p k f l r)->lt (p.getD i 0) (p.getD k 0)=true)/\∀i,Run lt (kas_place p k f l r)<=i->i<k->lt (p.getD k 0) (p.getD i 0)=true
 |0,l,r,h1,h2,h3,hl,hr=>⟨by show l<=k;omega,hl,λi (hi:l<=i) xK=>hr i (by omega) xK⟩
 |f+1,l,r,h1,h2,h3,hl,hr=>by
  rw[kas_place];by_cases c:l≥r
  ·rw[if_pos c];exact⟨by show l<=k;omega,hl,λi (hi:l<=i) xK=>hr i (by omega) xK⟩
  ·rw[if_neg c];have m1:l<=(l+r)/2:=by omega
   have m2:(l+r)/2<r:=by omega
   generalize(l+r)/2=m at m1 m2;have e2:Run lt (KasT.ask (p.getD k 0) (p.getD m 0) λc=>if c=true then kas_place p k f l m else kas_place p k f (m+1) r)=Run lt (if lt (p.getD k 0) (p.getD m 0)=true then kas_place p k f l m else kas_place p k f (m+1) r):=rfl;rw[e2];by_cases c2:lt (p.getD k 0) (p.getD m 0)=true
   ·rw[if_pos c2];refine Ff L g hk sd f l m m1 (by omega) (by omega) hl λi hi xK=>?_;by_cases e:i=m;·rw[e];exact c2
    ·exact L.trans _ _ _ (g.get _) (g.get _) (g.get _) c2 (sd m i (by omega) xK)
   ·rw[if_neg c2];have c':lt (p.getD k 0) (p.getD m 0)=false:=by cases z:lt (p.getD k 0) (p.getD m 0) with|true=>exact absurd z c2|false=>rfl
    have t:=L.AB _ _ (g.get k) (g.get m) (g.ne hk (by omega) (by omega)) c';refine Ff L g hk sd f (m+1) r (by omega) h2 (by omega) (λi hi=>?_) hr;by_cases e:i=m;·rw[e];exact t
    ·exact L.trans _ _ _ (g.get _) (g.get _) (g.get _) (sd i m (by omega) (by omega)) t
theorem P_(L:ke n lt):∀f (p:Array Nat) k,Good n p->k+f=n->Sd lt p k->Good n (Run lt (kas_bin f p k))/\Sd lt (Run lt (kas_bin f p k)) n
 |0,p,k,g,e,sd=>by
  have e':k=n:=by omega
  refine⟨g,?_⟩;rw[←e'];exact sd
 |f+1,p,k,g,e,sd=>by
  have hk:k<n:=by omega
  obtain⟨a,b,c⟩:=Ff L g hk sd k 0 k (Yw _) (Yd _) (by omega) (λi hi=>absurd hi (Wm _)) (λi h1 h2=>by omega);have e2:Run lt (kas_bin (f+1) p k)=Run lt (kas_bin f (bubble p k (k-Run lt (kas_place p k k 0 k))) (k+1)):=by
   rw[kas_bin,Run.bind]
  rw[e2];generalize Run lt (kas_place p k k 0 k)=l at a b c;have gb:Good n (bubble p k (k-l)):=⟨g.1,(bubble_perm p k _).trans g.2⟩;have sz:=g.size;have get:∀i,(bubble p k (k-l)).getD i 0=if i=l then p.getD k 0 else if l<i/\i<=k then p.getD (i-1) 0 else p.getD i 0:=λi=>by
   have h:=getElem?_bubble (xs:=p) (src:=k) (by omega) (k-l) (by omega) i;rw[show k-(k-l)=l by omega] at h;rw[Wb,h];by_cases z:i=l;·rw[if_pos z,if_pos z,←Wb]
   ·rw[if_neg z,if_neg z];by_cases z2:l<i/\i<=k;·rw[if_pos z2,if_pos z2,←Wb]
    ·rw[if_neg z2,if_neg z2,←Wb]
  refine P_ L f _ (k+1) gb (by omega) λi j kg hj=>?_;rw[get i,get j];by_cases i1:i=l
  ·rw[if_pos i1,if_neg (by omega),if_pos (by omega)];exact c (j-1) (by omega) (by omega)
  ·rw[if_neg i1];by_cases i2:l<i/\i<=k
   ·rw[if_pos i2,if_neg (by omega),if_pos (by omega)];exact sd (i-1) (j-1) (by omega) (by omega)
   ·rw[if_neg i2];have il:i<l:=by omega
    by_cases j1:j=l;·rw[if_pos j1];exact b i il
    ·rw[if_neg j1];by_cases j2:l<j/\j<=k
     ·rw[if_pos j2];exact sd i (j-1) (by omega) (by omega)
     ·rw[if_neg j2];exact sd i j kg (by omega)
theorem Zcm(L:ke n lt)(h:0<n):Good n (Run lt (kas_sort n))/\Sd lt (Run lt (kas_sort n)) n:=by
 obtain⟨a,b,c,d⟩:=Zbx L ⟨h,Array.Perm.refl _⟩;have e:Run lt (kas_sort n)=Run lt (if(Run lt (kas_count n (List.toArray (List.range n)))).1<n then kas_bin (n-max (Run lt (kas_count n (List.toArray (List.range n)))).1 1) (Run lt (kas_count n (List.toArray (List.range n)))).2 (max (Run lt (kas_count n (List.toArray (List.range n)))).1 1) else KasT.ret (Run lt (kas_count n (List.toArray (List.range n)))).2):=by
  unfold kas_sort;rw[Run.bind]
 rw[e];generalize Run lt (kas_count n (List.toArray (List.range n)))=r at a b c d;have mx:max r.1 1=r.1:=by omega
 by_cases z:r.1<n
 ·rw[if_pos z,mx];exact P_ L _ _ _ a (by omega) b
 ·rw[if_neg z];have:r.1=n:=by omega
  refine⟨a,?_⟩;rw[this] at b;exact b
end
def i8(p q:Int×Int):Prop:=p.1<q.1\/(p.1=q.1/\p.2<q.2)
def ltB(p q:Int×Int):Bool:=if p.1=q.1 then decide (p.2<q.2) else decide (p.1<q.1)
theorem ltB_iff:ltB p q=true↔i8 p q:=by
 unfold ltB i8
 grind
def kh(ps:List (Int×Int))(i j:Nat):Bool:=ltB (ps.getD i (0,0)) (ps.getD j (0,0))
theorem Zfh(nd:ps.Nodup):ke ps.length (kh ps):=by
 have fl:∀{p q:Int×Int},ltB p q=false->¬i8 p q:=λ{p q} h z=>by rw[ltB_iff.mpr z] at h;cases h
 refine⟨λi j k _ _ _ h1 h2=>?_,λi j hi hj ne h=>?_,λi j _ _ h=>?_⟩
 ·have a:=ltB_iff.mp h1;have b:=ltB_iff.mp h2;refine ltB_iff.mpr ?_;unfold i8 at*;omega
 ·refine ltB_iff.mpr ?_;have a:=fl h;have e:ps.getD i (0,0)≠ps.getD j (0,0):=by
   rw[Yn,Yn,Yb hi,Yb hj];have pw:=Wz.mp nd
   grind
  have e':¬((ps.getD i (0,0)).1=(ps.getD j (0,0)).1/\(ps.getD i (0,0)).2=(ps.getD j (0,0)).2):=λz=>e (Prod.ext z.1 z.2);unfold i8 at*;omega
 ·cases z:kh ps j i with
  |false=>rfl
  |true=>
   have a:=ltB_iff.mp h;have b:=ltB_iff.mp z;unfold i8 at a b;omega
def rN(h:Heap)(vs:List Value)(ps:List (Int×Int)):Prop:=Paired (λv (p:Int×Int)=>∃(a:Addr) (o:Obj) (n:Nat) (t u:Tok),v=.ref a/\h.get? a=some o/\o.cls=.type "tuple"/\o.data=.seq #[.int p.1 t,.int p.2 u] n) vs ps
theorem rN.kW(q:rN h vs ps):zF h vs:=by
 intro v hv;induction q with
 |nil=>cases hv
 |cons f _ ih=>grind
theorem DX{α β:Type}{F:α->β->Prop}{xs:List α}{ys:List β}(h:Paired F xs ys){i:Nat}(hi:i<xs.length)(x:α)(y:β):F (xs.getD i x) (ys.getD i y):=by
 obtain⟨b,e,f⟩:=fV h (Yb hi)
 grind
section
variable {prog:Program}{w:World}{A:Around}{E:Value->Shared->Prop}{s:Shared}
theorem Zcn{vs:List Value}{ps:List (Int×Int)}(tv:rN s.heap vs ps){i j:Nat}{C:Bool->Shared->Prop}(hi:i<vs.length)(hj:j<vs.length)(hC:C (kh ps i j) s):kas_ask prog w A (tuples' true) vs i j C s:=by
 unfold kas_ask;obtain⟨a,o,n,t,u,e1,h1,h2,h3⟩:=DX tv hi Value.none (0,0);obtain⟨a',o',n',t',u',sF,lC,lD,U2⟩:=DX tv hj Value.none (0,0);unfold kh at hC;rw[e1,sF];generalize ps.getD i (0,0)=p at hC h3;generalize ps.getD j (0,0)=q at hC U2;refine kat_lt h1 h3 lC U2 ?_;unfold ltB at hC;refine kat_cons (SeqAt.EqAt.int_int p.1 t q.1 t' prog w _ _ (kat_go (λb1=>kat_yes (kat_cons (SeqAt.EqAt.int_int p.2 u q.2 u' prog w _ _ (kat_go (λb2=>kat_yes (kat_nil ?_)) λb2=>kat_no ?_)))) λb1=>kat_no ?_));·grind
 ·rw[if_pos (beq_iff_eq.mp b1)] at hC;exact kat_one _ _ (lt_int hC)
 ·rw[if_neg (λz=>by rw[beq_iff_eq.mpr z] at b1;cases b1)] at hC;show wpAny _ _ (oneLt' true _ _) _ _ _;exact kat_lt_int hC
theorem Zfi
  (hQ:∀aI:SortSt,arrOf aI=(List.toArray (List.range 64)).map (kas_item it)->failedOf aI=none->Q () aI s)
  (h:(kas_count 64 (List.toArray (List.range 64))).kasWp (kas_cmp prog w A κ it) (λr s'=>r=(64,List.toArray (List.range 64))/\s'=s) s):kasC (model prog w) A E sortRuns' Q (kas_st κ it (List.toArray (List.range 64))) s:=by
 have TX:(List.toArray (List.range 64)).size=64:=rfl;have szA:(arrOf (kas_st κ it (List.toArray (List.range 64)))).size=64:=(Array.size_map (f:=kas_item it)).trans TX;have mr:minRun' 64 64 0=32:=by decide+kernel
 rw[sortRuns'_eq];refine kasC_bind (kasC_get ?_);(try dsimp only);simp only[szA,mr];refine kasC_bind (kasC_range ?_);show kasC _ _ _ (forIn (0::1::List.range' 2 62) _ _) _ _ _;refine kasC_cons ?_;(try dsimp only);rw[if_neg (show ¬(0:Nat)≥64 by omega)];simp only[Nat.sub_zero];refine kasC_bind (kas_count_ (show 1<=64 by omega) (Nat.le_of_eq TX.symm) (λm p' s' _ _ _ hg=>?_) h);obtain⟨e,rfl⟩:=hg;cases e;(try dsimp only);rw[if_neg (show ¬(64:Nat)<32 by omega)];refine kasC_bind (kasC_get ?_);rw[show(pendingOf (kas_st κ it (List.toArray (List.range 64)))).back?=none from rfl];(try dsimp only);refine kasC_bind (kasC_modify (kasC_pure ?_));show kasC _ _ _ (forIn (1::List.range' 2 62) _ _) _ _ _;refine kasC_cons ?_;(try dsimp only);rw[if_pos (show(0:Nat)+64≥64 by omega)];refine kasC_pure ?_;(try dsimp only);refine kasC_bind (kasC_range ?_);show kasC _ _ _ (forIn (0::1::List.range' 2 62) _ _) _ _ _;refine kasC_cons ?_;refine kasC_bind (kasC_get ?_);(try dsimp only);rw[if_pos (show(pendingOf (setPending (kas_st κ it (List.toArray (List.range 64))) ((pendingOf (kas_st κ it (List.toArray (List.range 64)))).push (0,64,0)))).size<=1 from Yd 1)];refine kasC_pure ?_;(try dsimp only);exact kasC_pure (hQ _ rfl rfl)
theorem YE{R:Array Nat->Prop}{a:Addr}{vs:List Value}{n:Nat}{P:PySem.Fin->Shared->Prop}(ho:s.heap.get? a=some (seqObj "list" vs.toArray n))(jg:vs.length<=64)
  (hk:2<=vs.length->∀h':Heap,(∀b o,b≠a->s.heap.get? b=some o->h'.get? b=some o)->∃κ:SortKind,(∀(Q:SortKind->Shared->Prop),Q κ {s with heap:=h'}->wpAny (model prog w) A (keyKind' vs.toArray) Q E {s with heap:=h'})/\
   ∀Q':SortSt->Shared->Prop,(∀(p:Array Nat) (aI:SortSt),p.size=vs.length->arrOf aI=p.map (kas_item (vs.toArray.zip vs.toArray))->failedOf aI=none->Good vs.length p->R p->Q' aI {s with heap:=h'})->wpAny (model prog w) A (sortRuns'.run (SortSt.mk' κ (vs.toArray.zip vs.toArray) #[] 7 none)) (λr s'=>Q' r.2 s') E {s with heap:=h'})
  (h:∀out:List Value,out.Perm vs->(2<=vs.length->∃p:Array Nat,Good vs.length p/\R p/\out=p.toList.map λi=>vs.getD i Value.none)->P (.done (.ret .none)) {s with heap:=sortedHeap s.heap a vs out.toArray}):
  wpAny (model prog w) A (Builtin.«list.sort» ⟨[.ref a],[]⟩) P E s:=by
 rw[list_sort_plain];have ha:a<s.heap.objs.size:=Yx ho;refine wpAny_bind (listItems_at ho rfl ?_);refine wpAny_bind (listUpdate_at ho rfl ?_);obtain⟨e1,pE⟩:∃e1,(s.heap.update a (Obj.mapSeq λ_=>#[])).get? a=some (seqObj "list" #[] e1):=⟨_,get?_update_seq ho (λ_=>#[])⟩;refine wpAny_bind (seqEpoch_at pE rfl ?_);refine wpAny_bind (wpAny_newTuple ?_);refine wpAny_bind (wpAny_newList ?_);refine wpAny_holding ?_;have AD:(((s.heap.update a (Obj.mapSeq λ_=>#[])).push (seqObj "tuple" vs.toArray 0)).push (seqObj "list" #[] 0)).get? a=some (seqObj "list" #[] e1):=by
  rw[Jv _ _ _ (by rw[size_push',Heap.size_update];exact Y1 (Wv ha)),Jv _ _ _ (by rw[Heap.size_update];exact Y1 ha)];exact pE
 have keep:∀b o,b≠a->s.heap.get? b=some o->(((s.heap.update a (Obj.mapSeq λ_=>#[])).push (seqObj "tuple" vs.toArray 0)).push (seqObj "list" #[] 0)).get? b=some o:=λb o nb e=>
  Yc _ (Yc _ (by rw[Heap.get?_update_ne _ _ _ _ nb];exact e))
 dsimp only;have hsz:vs.toArray.size=vs.length:=by simp
 by_cases h2:vs.toArray.size<2
 ·rw[if_pos h2,if_pos h2];refine wpAny_bind (wpAny_pure ?_);rw[StateT.run_pure];refine wpAny_bind (wpAny_pure ?_);dsimp only;refine wpAny_bind (seqEpoch_at AD rfl ?_);refine wpAny_bind (listUpdate_at AD rfl ?_ (hsz2:=by rw[Array.size_map];show(pairsOf vs).size<=_;rw[pairsOf_size,sizeLine_eq];omega));simp only[bne_self_eq_false,Bool.false_eq_true,if_false];have e:(arrOf (SortSt.mk' general' (vs.toArray.zip vs.toArray) #[] 7 none)).map (·.2)=vs.toArray:=by
   grind
  have:=h vs (List.Perm.refl _) (λz=>by omega);rw[←e] at this;exact wpAny_pure this
 ·rw[if_neg h2,if_neg h2];have lD:2<=vs.length:=by omega
  obtain⟨κ,kk,cmp⟩:=hk lD _ keep;refine wpAny_bind (kk _ ?_);refine wpAny_bind (wpAny_mono (cmp (λaI s'=>s'={s with heap:=((s.heap.update a (Obj.mapSeq λ_=>#[])).push (seqObj "tuple" vs.toArray 0)).push (seqObj "list" #[] 0)}/\∃p:Array Nat,p.size=vs.length/\arrOf aI=p.map (kas_item (vs.toArray.zip vs.toArray))/\failedOf aI=none/\R p/\Good vs.length p) λp aI a1 a2 a3 a4 a5=>⟨rfl,p,a1,a2,a3,a5,a4⟩) ?_ λ_ _ e=>e);rintro⟨⟨⟩,aI⟩ s' ⟨rfl,p,hp,har,hf,ep,g⟩;dsimp only;have TY:=kat_snds rfl har;have perm:(p.toList.map λi=>vs.getD i Value.none).Perm vs:=by
   have e1:p.toList.Perm (List.range vs.length):=by
    have:=Jo.mp g.2;simpa using this
   have e2:=e1.map λi=>vs.getD i Value.none;rw[range_getD] at e2;exact e2
  refine wpAny_bind (seqEpoch_at AD rfl ?_);refine wpAny_bind (listUpdate_at AD rfl ?_ (hsz2:=by rw[TY,Yu,perm.length_eq,sizeLine_eq];omega));rw[hf];simp only[bne_self_eq_false,Bool.false_eq_true,if_false];have:=h _ perm (λ_=>⟨p,g,ep,rfl⟩);rw[←TY] at this;exact wpAny_pure this
theorem Zco(h:ps.Pairwise i8):Sd (kh ps) (List.toArray (List.range ps.length)) ps.length:=λi j kg hj=>by
 have e:∀k,k<ps.length->(List.toArray (List.range ps.length)).getD k 0=k:=λk hk=>by
  simp_all
 rw[e i (by omega),e j hj];refine ltB_iff.mpr ?_;rw[Yn,Yn,Yb (by omega),Yb hj];exact Wz.mp h i j (by omega) hj kg
theorem Zge{κ:SortKind}{ai:List Value}{ps:List (Int×Int)}{Q':SortSt->Shared->Prop}(Kg:ai.length=64)(lp:ai.length=ps.length)(L:ke ai.length (kh ps))(pw:ps.Pairwise i8)(ask:∀i j (C:Bool->Shared->Prop),i<ai.length->j<ai.length->C (kh ps i j) s->kas_ask prog w A κ ai i j C s)
  (Kh:∀(p:Array Nat) (aI:SortSt),p.size=ai.length->arrOf aI=p.map (kas_item (ai.toArray.zip ai.toArray))->failedOf aI=none->Good ai.length p->Sd (kh ps) p ai.length->Q' aI s):wpAny (model prog w) A (sortRuns'.run (SortSt.mk' κ (ai.toArray.zip ai.toArray) #[] 7 none)) (λr s'=>Q' r.2 s') E s:=by
 have gR:Good ai.length (List.toArray (List.range ai.length)):=⟨by omega,Array.Perm.refl _⟩;have U3:Sd (kh ps) (List.toArray (List.range ai.length)) ai.length:=by rw[lp];exact Zco pw
 rw[kat_ask_eq (vs:=ai) rfl] at ask;have sz0:(ai.toArray.zip ai.toArray).size=ai.length:=by simp
 have Ki:SortSt.mk' κ (ai.toArray.zip ai.toArray) #[] 7 none=kas_st κ (ai.toArray.zip ai.toArray) (List.toArray (List.range ai.length)):=by
  unfold kas_st;rw[←sz0,kas_range]
 rw[Ki];have wp:=eF.run (G:=λr s'=>r=(ai.length,List.toArray (List.range ai.length))/\s'=s) ask (M3 gR) ⟨(Zby L gR U3),rfl⟩;have U4:=λaI a b=>Kh _ aI (by simp) a b gR U3;rw[Kg] at wp U4⊢;exact Zfi (Q:=λ_ aI s'=>Q' aI s') U4 wp
theorem Zb(ho:s.heap.get? l=some o)(hc:o.cls=.type "list")(hd:o.data=.seq ai.toArray n)(tv:rN s.heap ai ps)(nd:ps.Nodup)(jg:ai.length<64\/(ai.length=64/\ps.Pairwise i8))(hsz:ai.toArray.size<=sizeLine)
  (h:∀(h1 h':Heap) (out:List Value) (e:Nat),(∀b o,s.heap.get? b=some o->h1.get? b=some o)->(∀b o,h1.get? b=some o->h'.get? b=some o)->h'.get? h1.objs.size=some (seqObj "list" out.toArray e)->out.Perm ai->(2<=ai.length->∃p:Array Nat,Good ai.length p/\Sd (kh ps) p ai.length/\out=p.toList.map λi=>ai.getD i Value.none)->Q (.ref h1.objs.size) {s with heap:=h'}):
  wpAny (model prog w) A (call (.builtin "sorted") [.ref l]) Q E s:=by
 refine Calls.call_function_entry kind_sorted plain_sorted entry_sorted (args_sorted1 _) ?_;unfold Builtin.«sorted»;refine wpAny_bind (m:=checkCount "sorted" 1 1 _) (wpAny_pure ?_);refine wpAny_bind (wpAny_collect_seq l (.inl rfl) ho hc hd (λh1 kp=>?_) hsz);refine wpAny_bind (wpAny_newList ?_);have e1:ai.toArray.toList=ai:=by simp
 rw[e1];have oX:(h1.push (seqObj "list" ai.toArray 0)).get? h1.objs.size=some (seqObj "list" ai.toArray 0):=Ys _ rfl;refine wpAny_bind (wpAny_holding (wpAny_call_entry slot_list_sort ⟨_,oX,rfl⟩ entry_list_sort (YE (R:=λp=>Sd (kh ps) p ai.length) oX (by omega) (λh2 h' kp'=>?_) λout pm eo=>⟨_,rfl,?_⟩) (args_list_sort _)))
 ·have Kj:rN h' ai ps:=L2.Paired.bp tv λv p ⟨a,o,n,t,u,e,q1,q2,q3⟩=>by
   have U5:=kp _ _ q1;exact⟨a,o,n,t,u,e,kp' _ _ (Y1 (Yx U5)) (Yc _ U5),q2,q3⟩
  obtain⟨fs,k1,k2,k3⟩:=Kj.kW.U1;have lp:=cN Kj;have ask:∀(B:Around) i j (C:Bool->Shared->Prop),i<ai.length->j<ai.length->C (kh ps i j) {s with heap:=h'}->kas_ask prog w B (tuples' true) ai i j C {s with heap:=h'}:=λB i j C hi hj hC=>Zcn (s:={s with heap:=h'}) Kj hi hj hC;have L:=Zfh nd;rw[←lp] at L;refine⟨tuples' true,λQ hQ=>?_,λQ' Kh=>?_⟩
  rotate_left
  ·rcases jg with lt|⟨Kg,pw⟩
   ·obtain⟨g,sd⟩:=Zcm L (by omega);refine kat_run (ks:=ai) (vs:=ai) (G:=λp s'=>s'={s with heap:=h'}/\p=Run (kh ps) (kas_sort ai.length)) rfl h2 lt (λp aI s' a1 a2 a3 a4=>?_) (eF.run (ask _) (Zbv (by omega)) ⟨rfl,rfl⟩)
    grind
   ·exact Zge (s:={s with heap:=h'}) Kg lp L pw (ask _) Kh
  refine kat_kind (s:={s with heap:=h'}) (T:=.type "int") k1 (by omega) (λv hv=>?_) (by decide) hQ;obtain⟨x,t,rfl⟩:=k3 v hv;exact .now
 ·obtain⟨e,he⟩:=sortedHeap_at (out:=out.toArray) oX;exact wpAny_pure ⟨_,rfl,h h1 _ out e kp (λb ob hb=>by
   have bX:=Yx hb;rw[sortedHeap_old (Y1 bX) (by rw[size_push'];exact Wv bX),Jv _ _ _ (Y1 bX)];exact hb) he pm eo⟩
end
def Zcp(K:PySem.W.Frag):List V->Hp->VK->Prop:=λxs H Q=>∃(p:Addr) (as:List Addr) (bU:List (Int×Int)),xs=[.ref p]/\aj K H p (as.map V.ref)/\Paired (λa (p:Int×Int)=>H a=some (.tup [.int p.1,.int p.2])) as bU/\bU.Nodup/\(as.length<64\/(as.length=64/\bU.Pairwise i8))/\
 ∀(iO:List Addr) (mf:List (Int×Int)),Paired (λa (p:Int×Int)=>H a=some (.tup [.int p.1,.int p.2])) iO mf->mf.Perm bU->mf.Pairwise i8->Nw H (.lst (iO.map V.ref)) Q
theorem MC:∀{zs:List γ},(∀z∈zs,F (f z) (g z))->Paired F (zs.map f) (zs.map g)
 |[],_=>.nil
 |z::zs,h=>.cons (h z Yk) (MC λz hz=>h z (Yv _ hz))
theorem Zcq{X:Cx}{K:PySem.W.Frag}(hK:X.K=K):c6 X (.builtin "sorted") (Zcp K):=by
 subst hK;intro pins s σ H xs us Q I r h;obtain⟨p,as,bU,rfl,hq,ht,nd,jg,q⟩:=h;obtain⟨u,rfl,rx⟩:=vals1 r;cases rx;obtain⟨ai,r',pl,hz⟩:=I.list hq;obtain⟨o,n,ho,hc,_,hd⟩:=pl;have ei:=NJ r';subst ei;rw[Ya] at hz;have lp:=cN ht;have tq:rN s.heap (as.map Value.ref) bU:=by
  have aux:∀{as:List Addr} {bU:List (Int×Int)},Paired (λa (p:Int×Int)=>H a=some (.tup [.int p.1,.int p.2])) as bU->rN s.heap (as.map Value.ref) bU:=λ{as bU} h=>by
   induction h with
   |nil=>exact .nil
   |cons h1 _ ih=>
    refine .cons ?_ ih;obtain⟨iI,r2,⟨o2,g1,g2,n2,g3⟩,_⟩:=I.tuple (aA.of h1);obtain⟨u1,u2,rfl,⟨t1,rfl⟩,⟨t2,rfl⟩⟩:=vals2 r2
    grind
  exact aux ht
 refine Zb (ps:=bU) ho hc hd tq nd (by rw[Ya];exact jg) (by rw[Yu,Ya];exact hz) λh1 h' out e kp JV he pm eo=>?_;have I1:Inv X pins σ H {s with heap:=h1}:=I.kept (t':=s.toks) kp;obtain⟨iO,mf,Zg0,pa,pr,pw⟩:∃(iO:List Addr) (mf:List (Int×Int)),out=iO.map Value.ref/\Paired (λa (p:Int×Int)=>H a=some (.tup [.int p.1,.int p.2])) iO mf/\mf.Perm bU/\mf.Pairwise i8:=by
  by_cases z:2<=(as.map Value.ref).length
  ·have eo:=eo z;rw[Ya] at eo z;obtain⟨P,g,sd,eo⟩:=eo;rw[lp] at g sd;have e1:P.toList.Perm (List.range bU.length):=by
    have:=Jo.mp g.2;simpa using this
   have fD:∀i∈P.toList,i<bU.length:=λi hi=>Y7.mp (e1.subset hi);refine⟨P.toList.map λi=>as.getD i 0,P.toList.map λi=>bU.getD i (0,0),?_,MC λi hi=>DX ht (by rw[lp];exact fD i hi) 0 (0,0),?_,?_⟩
   ·rw[eo,Wc];refine Wn λi hi=>?_;have:=fD i hi;show(as.map Value.ref).getD i Value.none=Value.ref (as.getD i 0);rw[Yn,Yl,Yb (by omega),Yn,Yb (by omega)];rfl
   ·have:=e1.map λi=>bU.getD i (0,0);rw[range_getD] at this;exact this
   ·rw[W3,Wz];intro i j hi hj kg;have sz:=g.size;have gi:P.toList[i]=P.getD i 0:=by
     rw[Wx] at hi;simp_all
    have gj:P.toList[j]=P.getD j 0:=by
     rw[Wx] at hj;simp_all
    rw[gi,gj];rw[Wx] at hj;exact ltB_iff.mp (sd i j kg (by omega))
  ·rw[Ya] at z;have eq:out=as.map Value.ref:=by
    match as,out,z,pm with
    |[],out,_,pm=>exact List.Perm.eq_nil pm
    |[a],out,_,pm=>exact List.Perm.eq_singleton pm
    |_::_::_,_,z,_=>exact absurd (by simp) z
   refine⟨as,bU,eq,ht,List.Perm.refl _,?_⟩;match bU,lp with
   |[],_=>exact .nil
   |[a],_=>exact List.pairwise_singleton _ _
   |_::_::_,lp=>exact absurd lp (by simp;omega)
 refine⟨.ref h1.objs.size,_,I1.laid (t':=s.toks) (o:=.lst (iO.map V.ref)) JV (Yd _) ⟨?_,out,e,by rw[Zg0];exact NK iO,by simpa[seqObj] using he⟩,rfl,(q iO mf pa pr pw).at _ (I1.av.fresh (Yd _))⟩;rw[Ya,cN pa,pr.length_eq];exact Ji (jJ (by omega))
end L2
namespace L2
open PySem PySem.Spec PyProof.Rows
theorem hX{X:Cx}{K:PySem.W.Frag}{ex:Expr}{T:String}{r:V->List V->Hp->VK->Prop}{to:TE}{t:TA}(h:X.K=K)(p:PE X ex (xy X.K T r to t)):PE X ex (xy K T r to t):=h▸p
theorem Zdz{X:Cx}{K:PySem.W.Frag}{ex:Expr}{T:String}{r:V->List V->Hp->VK->Prop}{to:TE}(h:X.K=K)(p:PE X ex (IE X.K T r to)):PE X ex (IE K T r to):=h▸p
theorem NL{X:Cx}{K:PySem.W.Frag}{a:Expr}{ta:TE}(h:X.K=K)(p:PT X a (λσ H Q=>ta σ H λx H'=>∃k,zU X.K x H' k/\Q k H')):PT X a (λσ H Q=>ta σ H λx H'=>∃k,zU K x H' k/\Q k H'):=h▸p
theorem Qa{X:Cx}{K:PySem.W.Frag}{f:Value->Value->Sem Value}{b:Bool}(h:X.K=K)(p:cL X f (z5 X.K b)):cL X f (z5 K b):=h▸p
def oN(H0:Hp)(d:Addr):Prop:=(∀xs,H0 d≠some (.tup xs))/\(∀o u,H0 d≠some (.cE o u))/\∀ps,H0 d≠some (.qA ps)
section
variable {X:Cx}{pins:List (Addr×Obj)}{σ:St}{H:Hp}{s:Shared}{d:Addr}{kvs:List (Key×V)}
theorem Inv.SU(I:Inv X pins σ H s)(e:H d=some (.dK kvs)):oN X.kX d:=
 ⟨(λxs z=>by have:=I.base.kW d xs z;rw[e] at this;cases this),(λo u z=>by have:=I.base.lZ d o u z;rw[e] at this;cases this),(λps z=>by obtain⟨m,h⟩:=I.base.ng d ps z;rw[e] at h;cases h)⟩
theorem Inv.swap(I:Inv X pins σ H s)(e:H d=some o)(nf:oN X.kX d)(no:∀a,o≠.own a)(nt:∀xs,o≠.tup xs)(ok:cQ X.prog X.w H s.heap d o'):Inv X pins σ (upd H d o') s:=by
 have jQ:∀{a:Addr} {o1:HO},cQ X.prog X.w H s.heap a o1->cQ X.prog X.w (upd H d o') s.heap a o1:=λ{a o1} x=>x.jQ (λ_ _ _ z=>z)
  (λb z=>by rw[a9 (λq=>no a (Yp (e.symm.trans (by rw[←q];exact z))))];exact z)
  (λb xs z=>by rw[a9 (λq=>nt xs (Yp (e.symm.trans (by rw[←q];exact z))))];exact z)
 have ne:∀{b:Addr},H b=none->b≠d:=λ{b} hb z=>by rw[z,e] at hb;cases hb
 refine⟨I.ok,I.os,I.bare,⟨I.base.keep,I.base.slot,λb ob q n hx=>?_,I.base.there,λb xs q=>?_,λb ob u q=>?_,λb ps q=>?_⟩,I.loc,I.cell,?_,λx c ec=>?_,λp hp=>?_,λa o1 e1=>?_,I.len⟩
 ·have h:=I.base.free b ob q n hx;rw[a9 (ne h)];exact h
 ·rw[a9 (λz=>nf.1 xs (by rw[←z];exact q))];exact I.base.kW b xs q
 ·rw[a9 (λz=>nf.2.1 ob u (by rw[←z];exact q))];exact I.base.lZ b ob u q
 ·rw[a9 (λz=>nf.2.2 ps (by rw[←z];exact q))];exact I.base.ng b ps q
 ·rw[a9 (ne I.free)];exact I.free
 ·rw[a9 (ne (I.kP x c ec))];exact I.kP x c ec
 ·obtain⟨p1,p2,p3⟩:=I.pin p hp;exact⟨p1,by rw[a9 (ne p2)];exact p2,p3⟩
 ·by_cases z:a=d
  ·subst z;rw[aZ] at e1
   grind
  ·rw[a9 z] at e1;exact jQ (I.av a o1 e1)
end
theorem Zgf(h:(dC P w).is k u=true):RelV (kV k) u:=by
 rcases lL h with⟨i,t,rfl,rfl⟩|⟨x,t,rfl,rfl⟩;·exact⟨t,rfl⟩
 ·exact⟨t,rfl⟩
theorem RF:∀{kvs:List (Key×V)} {vs:List (Key×Value)} {i:Nat} {k:Key} {y:V},KV kvs vs->kvs[i]?=some (k,y)->∃v,vs[i]?=some (k,v)/\RelV y v:=λ{kvs vs i k y} r h=>by
 obtain⟨q,e,h1,h2⟩:=fV (F:=λ(p:Key×V) (q:Key×Value)=>p.1=q.1/\RelV p.2 q.2) r h
 grind
theorem zG(I:Inv X pins σ H s)(e:H d=some (.cE od (.dK kvs)))(jC:od.data=.dict es ep):∃vs,KV kvs vs/\s.heap.DictAt (dC X.prog X.w) d vs ep:=by
 obtain⟨g,_,_,vs,rel,o,Ak,Al,h1,h2,h3,h4⟩:=(show cQ X.prog X.w H s.heap d (.cE od (.dK kvs)) from I.av d _ e);rw[g] at h1;cases h1;rw[jC] at h3;cases h3;exact⟨vs,rel,od,es,g,h2,jC,h4⟩
theorem Inv.z6(I:Inv X pins σ H s)(nf:oN X.kX d)(e:H d=some (.cE od (.dK kvs))):Inv X pins σ (upd H d (.dK kvs)) s:=
 I.swap e nf (λa z=>by cases z) (λxs z=>by cases z) (show cQ X.prog X.w H s.heap d (.cE od (.dK kvs)) from I.av d _ e).2
def Kk(d:Addr)(od:Obj)(kvs:List (Key×V)):It:=⟨λi H=>H d=some (.cE od (.dK kvs))/\i<kvs.length,λi H v H'=>H'=H/\∃k y,kvs[i]?=some (k,y)/\v=kV k,λi H=>H d=some (.cE od (.dK kvs))/\kvs.length<=i⟩
theorem Zbz{P:Program}{w:World}{K:PySem.W.Frag}{tg:Expr}(it d:Addr)(od:Obj)(es:Array DictEntry)(ep:Nat)(jC:od.data=.dict es ep)(kvs:List (Key×V)):Turn P w K tg (Kk d od kvs) [it] it (λi h=>h.IsKeyIter it d i kvs.length ep) where
 mem:=by simp
 obj:=λi h st b hb=>by
  have e:b=it:=by simpa using hb
  obtain⟨o,e,c,dd⟩:=st
  grind
 keep:=λi h h' st k=>let⟨o,e,r⟩:=st;⟨o,k it (by simp) o e,r⟩
 item:=by
  intro X hP hw hK hc i pins s σ H E I hf st hg;subst hP hw hK;obtain⟨f0,f1,f2,f3,f4,f5⟩:=hf it (by simp);obtain⟨hz,bX⟩:=hg;obtain⟨vs,rel,da⟩:=zG I hz jC;have ll:=rel.length;obtain⟨k,y,hk⟩:∃k y,kvs[i]?=some (k,y):=⟨kvs[i].1,kvs[i].2,Yb bX⟩;obtain⟨v,hv,ry⟩:=RF rel hk;rw[ll] at st;refine wpAny_pyNext_dict_item st da hv λkey h' nj aI sb=>?_;obtain⟨o,e,c,dd⟩:=id aI;exact⟨_,rfl,rM e c dd (by decide) ⟨kV k,H,(I.turned (λb o hb e=>sb.extBut b o hb e) f0 f1 f3 f4 f5),Zgf nj,⟨rfl,k,y,hk,rfl⟩,by rw[ll];exact aI,λb hb=>(hf b hb).1⟩⟩
 done:=by
  intro X hP hw hK hc i pins s σ H E I hf st hg;subst hP hw hK;obtain⟨f0,f1,f2,f3,f4,f5⟩:=hf it (by simp);obtain⟨hz,hle⟩:=hg;obtain⟨vs,rel,da⟩:=zG I hz jC;have ll:=rel.length;rw[ll] at st;exact wpAny_pyNext_dict_end (I.ok.hd hc) st da (Y9 (by omega)) λh' eb=>⟨rfl,I.turned (λb o hb e=>eb b o hb e) f0 f1 f3 f4 f5⟩
 self:=λA i s Q E st h=>wpAny_pyIter_keyiter st h
def Hx(H0:Hp)(td:TE):TI:=λσ H R=>td σ H λx H1=>∃d kvs,x=.ref d/\H1 d=some (.dK kvs)/\∀od,oN H0 d->R (Kk d od kvs) (upd H1 d (.cE od (.dK kvs)))
theorem ZdA{X:Cx}{H0:Hp}{tg l:Expr}{td:TE}(h0:X.kX=H0)(hl:PE X l td):PI X tg l (Hx H0 td):=by
 subst h0;intro pins s σ H R I h;refine az (hl pins s σ H _ I h) λv s1 zq=>?_;obtain⟨x,H1,I1,r1,d,kvs,ex,hd,q⟩:=zq;subst ex;obtain rfl:v=Value.ref d:=r1;obtain⟨zz,xM,vs,rel,dd⟩:=lW I1.av hd;obtain⟨od,es,ep,sH,hx,jC,wN⟩:=id dd;have nf:=I1.SU hd;refine wpAny_pyIter_dict xM ⟨od,es,sH,hx,jC,wN⟩ ?_;have I2:Inv X pins σ H1 {s1 with heap:=s1.heap.push {cls:=.type "dict_keyiterator",data:=.fields #[.ref d,.int 0 0,.int vs.length 0,.int ep 0]},toks:=s1.toks}:=I1.kept λb o e=>Yc _ e;refine⟨s1.heap.objs.size,[s1.heap.objs.size],_,Kk d od kvs,_,rfl,(I2.swap (o':=.cE od (.dK kvs)) hd nf (λa z=>by cases z) (λxs z=>by cases z) ⟨Yc _ sH,(I2.av d _ hd)⟩),Zbz _ d od es ep jC kvs,⟨_,Ys _ rfl,rfl,by rw[rel.length];rfl⟩,λb hb=>?_,q od nf⟩;have e:b=s1.heap.objs.size:=by simpa using hb
 subst e;exact I1.qr (Yd _) (by rw[a9 (J9 (Yx sH))];exact I1.av.fresh (Yd _))
def SV(H0:Hp)(td:TE)(g:TG)(tb:TS):TS:=λD σ H=>Iz (Hx H0 td) g tb ⟨λaN H'=>∃d od kvs,oN H0 d/\H' d=some (.cE od (.dK kvs))/\D.nx aN (upd H' d (.dK kvs)),λv H'=>∃d od kvs,oN H0 d/\H' d=some (.cE od (.dK kvs))/\D.rt v (upd H' d (.dK kvs)),λ_ _=>False,λ_ _=>False⟩ σ H
theorem Zas(h0:X.kX=H0)(hp:PassesOwn (model X.prog X.w) X.A X.env X.xe)(hc:X.calm=true)(hi:PI X tg l (Hx H0 td))(hg:PG X tg g)(hb:ia X body tb)(hs:∀x,foldedSetIterable l X.env x=pure x:=by intro _;rfl):PS X (.For tg l body [] pos) (SV H0 td g tb):=by
 subst h0;intro pins s σ H D I h;refine az (eY hp hc hi hg hb hs pins s σ H _ I h) λf s1 q=>?_;cases f with
 |next=>obtain⟨aN,H',I',d,od,kvs,nf,e,q⟩:=q;exact⟨aN,_,I'.z6 nf e,q⟩
 |brk=>obtain⟨_,_,_,q⟩:=q;exact False.elim q
 |cont=>obtain⟨_,_,_,q⟩:=q;exact False.elim q
 |ret u=>obtain⟨v,aN,H',I',r,d,od,kvs,nf,e,q⟩:=q;exact⟨v,aN,_,I'.z6 nf e,r,q⟩
theorem Zcr(fE:∀R:VK,R (.ref d) H1->td σ H R)(hd:H1 d=some (.dK kvs))(Pv:Nat->St->Hp->Prop)
  (p0:∀od,Pv 0 σ (upd H1 d (.cE od (.dK kvs))))
  (hs:∀od i k y aN H' (N:St->Hp->Prop) (rt:VK) (bk:St->Hp->Prop),kvs[i]?=some (k,y)->Pv i aN H'->H' d=some (.cE od (.dK kvs))->(∀cP H3,Pv (i+1) cP H3->H3 d=some (.cE od (.dK kvs))->N cP H3)->g (kV k) aN H' λdA H2=>tb ⟨N,rt,bk,N⟩ dA H2)
  (IP:∀od aN H',Pv kvs.length aN H'->H' d=some (.cE od (.dK kvs))->D.nx aN (upd H' d (.dK kvs))):SV H0 td g tb D σ H:=by
 refine fE _ ⟨d,kvs,rfl,hd,λod nf=>⟨λi m aN H'=>m=kvs.length-i/\i<=kvs.length/\Pv i aN H'/\H' d=some (.cE od (.dK kvs)),⟨kvs.length,by omega,Yw _,p0 od,aZ⟩,?_⟩⟩;rintro i m aN H' ⟨rfl,hi,p,fz⟩;by_cases bX:i<kvs.length
 ·refine .inr ⟨⟨fz,bX⟩,λcP H3=>Pv (i+1) cP H3/\H3 d=some (.cE od (.dK kvs)),λcP H3 ⟨a,c⟩=>⟨kvs.length-(i+1),by omega,rfl,bX,a,c⟩,?_⟩;rintro x H4 ⟨rfl,k,y,hk,rfl⟩;exact hs od i k y aN H4 (λcP H3=>Pv (i+1) cP H3/\H3 d=some (.cE od (.dK kvs))) _ _ hk p fz λcP H3 p3 f3=>⟨p3,f3⟩
 ·have e:i=kvs.length:=by omega
  subst e;exact .inl ⟨⟨fz,Yd _⟩,d,od,kvs,nf,fz,IP od _ _ p fz⟩
section
variable {P:Program}{w:World}{A:Around}{E:Value->Shared->Prop}{s:Shared}{it d:Addr}{i n ep:Nat}{ok ov:Value}{o:Obj}{es:Array DictEntry}{e:DictEntry}
end
section
variable {P:Program}{w:World}{A:Around}{E:Value->Shared->Prop}{s:Shared}{d o:Addr}{knd:HeapKind P w (List Key)}{xs ms:List (List Key×Addr×Value)}
end
section
variable {X:Cx}
theorem ZdB{H:Hp}{kvs:List (List Key×V)}{xs:List (List Key×Addr×Value)}(r:KT H kvs xs):xs.map (·.1)=kvs.map (·.1):=by
 induction r with
 |nil=>rfl
 |cons f _ ih=>grind
end
section
variable {X:Cx}{pins:List (Addr×Obj)}{σ:St}{H:Hp}{s:Shared}{d:Addr}{kvs:List (List Key×V)}
end
theorem ZdC:bootBuiltins "dict"=some (.type "dict"):=by decide+kernel
def Kl(d:Addr)(od:Obj)(kvs:List (Key×V)):It:=⟨λi H=>H d=some (.cE od (.dK kvs))/\i<kvs.length,λi H v H'=>H'=H/\∃k,kvs[i]?=some (k,v),λi H=>H d=some (.cE od (.dK kvs))/\kvs.length<=i⟩
theorem ZbA{P:Program}{w:World}{K:PySem.W.Frag}{tg:Expr}(it d:Addr)(od:Obj)(es:Array DictEntry)(ep:Nat)(jC:od.data=.dict es ep)(kvs:List (Key×V)):Turn P w K tg (Kl d od kvs) [it] it (λi h=>h.IsValIter it d i kvs.length ep) where
 mem:=by simp
 obj:=λi h st b hb=>by
  have e:b=it:=by simpa using hb
  obtain⟨o,e,c,dd⟩:=st
  grind
 keep:=λi h h' st k=>let⟨o,e,r⟩:=st;⟨o,k it (by simp) o e,r⟩
 item:=by
  intro X hP hw hK hc i pins s σ H E I hf st hg;subst hP hw hK;obtain⟨f0,f1,f2,f3,f4,f5⟩:=hf it (by simp);obtain⟨hz,bX⟩:=hg;obtain⟨vs,rel,da⟩:=zG I hz jC;have ll:=rel.length;obtain⟨k,y,hk⟩:∃k y,kvs[i]?=some (k,y):=⟨kvs[i].1,kvs[i].2,Yb bX⟩;obtain⟨v,hv,ry⟩:=RF rel hk;rw[ll] at st;refine wpAny_pyNext_values_item st da hv λh' aI sb=>?_;obtain⟨o,e,c,dd⟩:=id aI;exact⟨_,rfl,rM e c dd (by decide) ⟨y,H,(I.turned (λb o hb e=>sb.extBut b o hb e) f0 f1 f3 f4 f5),ry,⟨rfl,k,hk⟩,by rw[ll];exact aI,λb hb=>(hf b hb).1⟩⟩
 done:=by
  intro X hP hw hK hc i pins s σ H E I hf st hg;subst hP hw hK;obtain⟨f0,f1,f2,f3,f4,f5⟩:=hf it (by simp);obtain⟨hz,hle⟩:=hg;obtain⟨vs,rel,da⟩:=zG I hz jC;have ll:=rel.length;rw[ll] at st;exact wpAny_pyNext_values_end (I.ok.hd hc) st da (Y9 (by omega)) λh' eb=>⟨rfl,I.turned (λb o hb e=>eb b o hb e) f0 f1 f3 f4 f5⟩
 self:=λA i s Q E st h=>wpAny_pyIter_valiter st h
def Hy(H0:Hp)(td:TE):TI:=λσ H R=>td σ H λx H1=>∃d kvs,x=.ref d/\H1 d=some (.dK kvs)/\∀od,oN H0 d->R (Kl d od kvs) (upd H1 d (.cE od (.dK kvs)))
theorem ZdD{X:Cx}{H0:Hp}{tg:Expr}{apos cG:Pos}{o:Expr}{td:TE}(h0:X.kX=H0)(ho:PE X o td)(oI:attributeBase o "values" X.env (eval o X.env)=eval o X.env:=by rfl)(oK:(apos.endLine==cG.line)=true:=by rfl):PI X tg (.Call (.Attribute o "values" apos) [] [] cG) (Hy H0 td):=by
 subst h0;intro pins s σ H R I h;refine wpAny_Call_method0_late oI oK (az (ho pins s σ H _ I h) λv s1 zq=>?_);obtain⟨x,H1,I1,r1,d,kvs,ex,hd,q⟩:=zq;subst ex;obtain rfl:v=Value.ref d:=r1;obtain⟨t1,t2,xM⟩:=uy I1 (.inl ⟨kvs,.inl hd⟩);refine⟨"dict","dict.values",plainAttrs_dict,slot_dict_values,PySem.F.type_dict_values,t1,t2,Calls.callWith_builtin rfl (PySem.evalArgs_none ?_)⟩;obtain⟨zz,_,vs,rel,dd⟩:=lW I1.av hd;refine call_meetsIn slot_dict_values dd.typeIs PySem.F.entry_dict_values (PySem.F.args_dict_values_1 _) (meets_dict_values (dC X.prog X.w) d xM) ⟨⟨vs,dd⟩,?_⟩;obtain⟨od,es,ep,sH,hx,jC,wN⟩:=id dd;have nf:=I1.SU hd;have up:∀b o,s1.heap.get? b=some o->(s1.heap.push {cls:=.type "dict_values",data:=.fields #[.ref d]}).get? b=some o:=λb o e=>Yc _ e;refine wpAny_pyIter_values (knd:=dC X.prog X.w) (d:=d) (kvs:=vs) (ep:=ep) ⟨_,Ys _ rfl,rfl,rfl⟩ ⟨od,es,up _ _ sH,hx,jC,wN⟩ ?_;generalize hG:s1.heap.push {cls:=.type "dict_values",data:=.fields #[.ref d]}=G at up⊢;have I2:Inv X pins σ H1 {s1 with heap:=G.push {cls:=.type "dict_valueiterator",data:=.fields #[.ref d,.int 0 0,.int vs.length 0,.int ep 0]},toks:=s1.toks}:=I1.kept (t':=s1.toks) λb o e=>Yc _ (up b o e);have hdk:cQ X.prog X.w H1 _ d (.dK kvs):=I2.av d _ hd;have I3:=I2.swap (o':=.cE od (.dK kvs)) hd nf (λa z=>by cases z) (λxs z=>by cases z) ⟨Yc _ (up _ _ sH),hdk⟩;have Km:s1.heap.objs.size<=G.objs.size:=by rw[←hG,Jf];omega
 refine⟨G.objs.size,[G.objs.size],_,Kl d od kvs,_,rfl,I3,ZbA _ d od es ep jC kvs,⟨_,Ys _ rfl,rfl,by rw[rel.length];rfl⟩,λb hb=>?_,q od nf⟩;have e:b=G.objs.size:=by simpa using hb
 subst e;have dlt:d<s1.heap.objs.size:=Yx sH;exact I1.qr Km (by rw[a9 (J9 (Y2 dlt Km))];exact I1.av.fresh Km)
def SW(H0:Hp)(td:TE)(g:TG)(tb:TS):TS:=λD σ H=>Iz (Hy H0 td) g tb ⟨λaN H'=>∃d od kvs,oN H0 d/\H' d=some (.cE od (.dK kvs))/\D.nx aN (upd H' d (.dK kvs)),λv H'=>∃d od kvs,oN H0 d/\H' d=some (.cE od (.dK kvs))/\D.rt v (upd H' d (.dK kvs)),λ_ _=>False,λ_ _=>False⟩ σ H
theorem Zat(h0:X.kX=H0)(hp:PassesOwn (model X.prog X.w) X.A X.env X.xe)(hc:X.calm=true)(hi:PI X tg (.Call (.Attribute o "values" apos) [] [] cG) (Hy H0 td))(hg:PG X tg g)(hb:ia X body tb):
  PS X (.For tg (.Call (.Attribute o "values" apos) [] [] cG) body [] pos) (SW H0 td g tb):=by
 subst h0;intro pins s σ H D I h;refine az (eY hp hc hi hg hb (λ_=>rfl) pins s σ H _ I h) λf s1 q=>?_;cases f with
 |next=>obtain⟨aN,H',I',d,od,kvs,nf,e,q⟩:=q;exact⟨aN,_,I'.z6 nf e,q⟩
 |brk=>obtain⟨_,_,_,q⟩:=q;exact False.elim q
 |cont=>obtain⟨_,_,_,q⟩:=q;exact False.elim q
 |ret u=>obtain⟨v,aN,H',I',r,d,od,kvs,nf,e,q⟩:=q;exact⟨v,aN,_,I'.z6 nf e,r,q⟩
theorem Zcs(fE:∀R:VK,R (.ref d) H1->td σ H R)(hd:H1 d=some (.dK kvs))(Pv:Nat->St->Hp->Prop)
  (p0:∀od,Pv 0 σ (upd H1 d (.cE od (.dK kvs))))
  (hs:∀od i k y aN H' (N:St->Hp->Prop) (rt:VK) (bk:St->Hp->Prop),kvs[i]?=some (k,y)->Pv i aN H'->H' d=some (.cE od (.dK kvs))->(∀cP H3,Pv (i+1) cP H3->H3 d=some (.cE od (.dK kvs))->N cP H3)->g y aN H' λdA H2=>tb ⟨N,rt,bk,N⟩ dA H2)
  (IP:∀od aN H',Pv kvs.length aN H'->H' d=some (.cE od (.dK kvs))->D.nx aN (upd H' d (.dK kvs))):SW H0 td g tb D σ H:=by
 refine fE _ ⟨d,kvs,rfl,hd,λod nf=>⟨λi m aN H'=>m=kvs.length-i/\i<=kvs.length/\Pv i aN H'/\H' d=some (.cE od (.dK kvs)),⟨kvs.length,by omega,Yw _,p0 od,aZ⟩,?_⟩⟩;rintro i m aN H' ⟨rfl,hi,p,fz⟩;by_cases bX:i<kvs.length
 ·refine .inr ⟨⟨fz,bX⟩,λcP H3=>Pv (i+1) cP H3/\H3 d=some (.cE od (.dK kvs)),λcP H3 ⟨a,c⟩=>⟨kvs.length-(i+1),by omega,rfl,bX,a,c⟩,?_⟩;rintro x H4 ⟨rfl,k,hk⟩;exact hs od i k x aN H4 (λcP H3=>Pv (i+1) cP H3/\H3 d=some (.cE od (.dK kvs))) _ _ hk p fz λcP H3 p3 f3=>⟨p3,f3⟩
 ·have e:i=kvs.length:=by omega
  subst e;exact .inl ⟨⟨fz,Yd _⟩,d,od,kvs,nf,fz,IP od _ _ p fz⟩
section
variable {X:Cx}{o i:Expr}{td ty:TE}{zV pos:Pos}
def Zfj(td ty:TE):TS:=λD σ H=>td σ H λx H1=>ty σ H1 λy H2=>∃a kvs k,x=.ref a/\H2 a=some (.dK kvs)/\y=kV k/\(aS kvs k).isSome=true/\Ch H2 a (.dK (gH kvs k)) (D.nx σ)
theorem Zct(ho:PE X o td)(hi:PE X i ty):PS X (.Delete [.Subscript o i zV] pos) (Zfj td ty):=by
 intro pins s σ H D I h;refine wpAny_Delete (wpAny_deleteEach_cons (wpAny_delete_Subscript (az (ho pins s σ H _ I h) λu s1 zq=>?_)));obtain⟨x,H1,I1,rx,q1⟩:=zq;refine az (hi pins s1 σ H1 _ I1 q1) λiv s2 zq=>?_;obtain⟨y,H2,I2,ry,a,kvs,k,ex,e,ey,l,q2⟩:=zq;subst ex ey;obtain rfl:u=Value.ref a:=rx;exact Zbm I2 e ry l λs3 I3=>wpAny_deleteEach_nil ⟨σ,_,I3,q2.at⟩
theorem OH[DecidableEq α]:∀{xs:List (α×β)} {j:Nat} {k:α} {p:β},(xs.map (·.1)).Nodup->xs[j]?=some (k,p)->xs.eraseIdx j=xs.filter λx=>decide (x.1≠k)
 |[],_,_,_,_,h=>rfl
 |x::xs,0,k,p,nd,h=>by
  have e:x=(k,p):=by simpa using h
  subst e;rw[List.eraseIdx_cons_zero,List.filter_cons_of_neg (by simp)];refine(List.filter_eq_self.mpr λy hy=>?_).symm
  grind
 |x::xs,j+1,k,p,nd,h=>by
  obtain⟨n1,n2⟩:=Yy.mp (show(x.1::xs.map (·.1)).Nodup from nd);have h':xs[j]?=some (k,p):=by simpa using h
  rw[List.eraseIdx_cons_succ,OH n2 h',Jr (by simpa using(λz=>n1 (by rw[z];exact Yf.mpr ⟨_,Yh h',rfl⟩)))]
theorem OI(f:α->β):∀(xs:List α) (j:Nat),(xs.map f).eraseIdx j=(xs.eraseIdx j).map f
 |[],_=>rfl
 |_::_,0=>rfl
 |x::xs,j+1=>by
  show f x::(xs.map f).eraseIdx j=f x::(xs.eraseIdx j).map f;rw[OI f xs j]
theorem ZdE(k:List Key)(r:KT H kvs xs):KT H (gH kvs k) (xs.filter λx=>decide (x.1≠k)):=by
 unfold gH;induction r with
 |nil=>exact .nil
 |@cons p x ps xs f t ih=>
  by_cases e:p.1=k;·grind
  ·rw[Jr (by simpa using e),Jr (by rw[←f.1];simpa using e)];exact .cons f ih
theorem Zcu{P:Program}{w:World}{A:Around}{E:Value->Shared->Prop}{s:Shared}{d a:Addr}{knd:HeapKind P w (List Key)}{xs:List (List Key×Addr×Value)}{k:List Key}{Q:Option DictEntry->Shared->Prop}(room:knd.room A)(is:knd.is s.heap k a)(D:s.heap.DictOfH knd d xs)(there:k∈xs.map (·.1))(hz:xs.length<=sizeLine)
  (hQ:∀e h' t',h'.DictOfH knd d (xs.filter λx=>decide (x.1≠k))->Heap.SameBut d s.heap h'->Q (some e) {s with heap:=h',toks:=t'}):wpAny (model P w) A (Builtin.Dict.takeOut d (.ref a)) Q E s:=by
 obtain⟨ob,es,ep,g,ex,hd,he,U6,nd⟩:=D;refine wpAny_holding (wpAny_bind (knd.pyHash room is (wpAny_bind (wpAny_dictFind_heap room is g hd he U6 nd (λno=>?_) λj p e=>?_))))
 ·obtain⟨x,hx,e⟩:=Yf.mp there;obtain⟨j,hj,ej⟩:=Wp.mp hx;exact absurd (show xs[j]?=some (k,x.2) by rw[Yb hj,ej,←e]) (no j x.2)
 ·have sz:es.size=xs.length:=by rw[←Wx,he,Ya]
  refine wpAny_bind (wpAny_dictEntries g hd ?_);rw[entry_at he j,e];have sb:=Heap.SameBut.update s.heap d (Obj.mapDictKeys λx=>x.eraseIdxIfInBounds j);refine wpAny_bind (wpAny_updateDictKeys g hd (wpAny_pure (hQ _ _ _ ⟨_,_,ep+1,Jz _ g (Obj.isFreed_of_dict (Obj.data_mapDictKeys hd _)),ex.mapDictKeys _,Obj.data_mapDictKeys hd _,?_,λx hx=>?_,?_⟩ sb)) (by rw[sz];exact hz))
  ·have hj:j<xs.length:=(Yg.mp e).1;rw[←OH nd e];have e1:(es.eraseIdxIfInBounds j).toList=es.toList.eraseIdx j:=by
    simp_all
   rw[e1,he,OI]
  ·exact knd.keeps (U6 x (Yz.mp hx).1) g hd sb
  ·grind
theorem Zau{pins:List (Addr×Obj)}{σ:St}{H:Hp}{s:Shared}{a b:Addr}{kvs:List (List Key×V)}{k:List Key}{A:Around}{E:Value->Shared->Prop}{Q:Unit->Shared->Prop}(hu:A.units+1<cLine)(I:Inv X pins σ H s)(e:H a=some (.dT kvs))(eb:H b=some (.tup (k.map kV)))(l:(aS kvs k).isSome=true)(h:∀s',Inv X pins σ (upd H a (.dT (gH kvs k))) s'->Q () s'):
  wpAny (model X.prog X.w) A (delItem (.ref a) (.ref b)) Q E s:=by
 obtain⟨z,sm,xs,rel,dd⟩:=SQ I.av e;have l1:kvs.length=xs.length:=Paired.length rel;have there:k∈xs.map (·.1):=by
  rw[ZdB rel];cases ev:aS kvs k with
  |none=>rw[ev] at l;cases l
  |some v=>
   unfold aS at ev;cases ef:kvs.find? λkv=>decide (kv.1=k) with
   |none=>rw[ef] at ev;cases ev
   |some p=>exact Yf.mpr ⟨p,List.mem_of_find?_eq_some ef,of_decide_eq_true (by simpa using List.find?_some ef)⟩
 refine wpAny_delItem_slot dd.typeIs (by decide) slot_dict_delitem (wpAny_call_entry slot_dict_delitem dd.typeIs PySem.F.entry_dict_delitem ?_ (PySem.F.args_dict_delitem_2 _ _));unfold Builtin.«dict.__delitem__»;refine wpAny_bind ?_;unfold Builtin.Dict.dictSlotArgs;refine wpAny_bind (wpAny_notOrdered_dict dd.typeIs ?_);show wpAny _ _ (pure (Value.ref a,Value.ref b)) _ _ s;refine wpAny_pure ?_;show wpAny _ _ (Builtin.Dict.takeOut a (.ref b)>>=_) _ _ s;refine wpAny_bind (Zcu (tupleKind_room_in1 hu) (qh I.av eb) dd there (by omega) λen h' t' d' sb=>?_);refine wpAny_bind (wpAny_letGo (wpAny_pure ⟨.none,rfl,?_⟩));obtain⟨q',es,ep,hq,h2,h3,h4,_,h5⟩:=d';refine h _ (rf (t':=t') (ob:=.dT (gH kvs k)) I (by rw[e];exact True.intro) sb ⟨q',hq⟩ ⟨Y4 (Wi _ _) z,sm,_,(ZdE k rel).keeps λc ys ec=>by
   rw[a9 (Su ec e (λz=>nomatch z))];exact ec,q',es,ep,hq,h2,h3,h4,h5⟩)
def Zfk(td ty:TE):TS:=λD σ H=>td σ H λx H1=>ty σ H1 λy H2=>∃a b kvs k,x=.ref a/\H2 a=some (.dT kvs)/\y=.ref b/\H2 b=some (.tup (k.map kV))/\(aS kvs k).isSome=true/\Ch H2 a (.dT (gH kvs k)) (D.nx σ)
theorem OJ(hu:X.A.units+1<cLine)(ho:PE X o td)(hi:PE X i ty):PS X (.Delete [.Subscript o i zV] pos) (Zfk td ty):=by
 intro pins s σ H D I h;refine wpAny_Delete (wpAny_deleteEach_cons (wpAny_delete_Subscript (az (ho pins s σ H _ I h) λu s1 zq=>?_)));obtain⟨x,H1,I1,rx,q1⟩:=zq;refine az (hi pins s1 σ H1 _ I1 q1) λiv s2 zq=>?_;obtain⟨y,H2,I2,ry,a,b,kvs,k,ex,e,ey,eb,l,q2⟩:=zq;subst ex ey;obtain rfl:u=Value.ref a:=rx;obtain rfl:iv=Value.ref b:=ry;exact Zau hu I2 e eb l λs3 I3=>wpAny_deleteEach_nil ⟨σ,_,I3,q2.at⟩
end
end L2
namespace L2
open PySem PySem.W PySem.Spec PyProof.Rows
def ZdF:List V->Hp->VK->Prop:=λxs H Q=>∃(p:Addr) (kvs:List (Key×V)),xs=[.ref p]/\H p=some (.dK kvs)/\Nw H (.dK kvs) Q
theorem ZQ:c6 X (.type "dict") ZdF:=by
 rintro pins s σ H xs us Q I r ⟨p,kvs,rfl,hp,q⟩;obtain⟨u,rfl,ru⟩:=vals1 r;obtain rfl:u=Value.ref p:=ru;obtain⟨lim,z4,vs,kv,dd⟩:=lW I.av hp;have kl:=kv.length;exact PySem.kt_call_dict z4 dd (by omega) λh' d' sb=>⟨.ref s.heap.objs.size,_,I.laid (o:=.dK kvs) (λb o e=>(sb.2 b (Y1 (Yx e))).trans (Yc _ e)) (Yd _) ⟨lim,beq_eq_false_iff_ne.mpr (Ne.symm (Y1 I.big)),vs,kv,d'⟩,rfl,q.at _ (I.av.fresh (Yd _))⟩
theorem Zav(val:Nat->Str)(xk:∀i v,P i v->∃t,v=.str (val i) t):CmpOf prog w A .Lt P (λi j=>decide ((val i).cps.toList<(val j).cps.toList)):=λi j vi vj s Q E hi hj h=>by
 obtain⟨t,rfl⟩:=xk i vi hi;obtain⟨u,rfl⟩:=xk j vj hj;exact richCompare_gives (op:=.Lt) (typeIs_str s _ t) (typeIs_str s _ u) F.slot_str_lt F.entry_str_lt (F.args_str_lt_2 _ _) (gives_str_lt _ _ t u) (λx=>nomatch x) h
theorem Zaw(val:Nat->Str)(xk:∀i v,P i v->∃t,v=.str (val i) t):CmpOf prog w A .Gt P (λi j=>decide ((val j).cps.toList<(val i).cps.toList)):=λi j vi vj s Q E hi hj h=>by
 obtain⟨t,rfl⟩:=xk i vi hi;obtain⟨u,rfl⟩:=xk j vj hj;exact richCompare_gives (op:=.Gt) (typeIs_str s _ t) (typeIs_str s _ u) F.slot_str_gt F.entry_str_gt (F.args_str_gt_2 _ _) (gives_str_gt _ _ t u) (λx=>nomatch x) h
def qu(a b:Str):Str:=if b.cps.toList<a.cps.toList then b else a
def qv(a b:Str):Str:=if a.cps.toList<b.cps.toList then b else a
theorem Zfl{a b:Value}{s:Shared}:(s.heap.push {cls:=.type "tuple",data:=.seq #[a,b]}).IsTuple s.heap.objs.size #[a,b]:=⟨_,Ys _ rfl,rfl,0,rfl⟩
section
variable {prog:Program}{w:World}{A:Around}{E:Value->Shared->Prop}{s:Shared}
theorem Qb(i:Nat)(v:Value)(h:(#[Value.str a t,Value.str b u]:Array Value)[i]?=some v):∃t',v=.str (([a,b]:List Str).getD i "") t':=by
 match i,h with
 |0,h=>grind
 |1,h=>grind
 |i+2,h=>simp at h
theorem OK{a b:Str}{t u:Tok}{Q:Value->Shared->Prop}{op:CmpOp}(f:Str->Str->Bool)(hh:A.handled=none)
  (cmp:CmpOf prog w A.in1 op (λi v=>(#[Value.str a t,Value.str b u]:Array Value)[i]?=some v) λi j=>f (([a,b]:List Str).getD i "") (([a,b]:List Str).getD j ""))
  (h:∀h' tk t',(∀c o,s.heap.get? c=some o->h'.get? c=some o)->Q (.str (if f b a=true then b else a) t') {s with heap:=h',toks:=tk}):
  wpAny (model prog w) A.in1 (pyIter (.ref s.heap.objs.size)) (λit eB=>∃I fp wr n P St bt,it=.ref I/\Walks prog w A.in1 I fp wr n P St/\St 0 eB.heap/\(∀b∈fp,b<eB.heap.objs.size)/\0<n/\CmpOf prog w A.in1 op P bt/\
   ∀v h' tk,P (argBest bt (n-1)) v->(∀b o,b∉wr->eB.heap.get? b=some o->h'.get? b=some o)->Q v {eB with heap:=h',toks:=tk}) E
   {s with heap:=s.heap.push {cls:=.type "tuple",data:=.seq #[.str a t,.str b u]}}:=by
 have hT:=Zfl (a:=.str a t) (b:=.str b u) (s:=s);refine wpAny_pyIter_tuple hT ?_;have hsz:(s.heap.push {cls:=.type "tuple",data:=.seq #[.str a t,.str b u]}).objs.size=s.heap.objs.size+1:=Jf ..;refine⟨_,[_,s.heap.objs.size],[_],_,_,_,_,rfl,Walks.tuple (A:=A.in1) hh _ s.heap.objs.size (by rw[hsz];exact Y1 (Je _)) #[.str a t,.str b u],
  ⟨⟨_,Ys _ rfl,rfl,rfl⟩,hT.push _⟩,λc hc=>?_,by simp,cmp,λv h' tk hP hk=>?_⟩
 ·show c<((s.heap.push _).push _).objs.size;rw[Jf,hsz];rcases Yt.mp hc with rfl|hc;·rw[hsz];exact Je _
  ·rw[Ye.mp hc];exact Wv (Je _)
 ·have hold:∀c o,s.heap.get? c=some o->h'.get? c=some o:=λc o e=>by
   refine hk c o (λhm=>?_) (Yc _ (Yc _ e));have:=Yx e;rw[Ye.mp hm,hsz] at this;exact Wa _ (Nat.lt_of_succ_lt this)
  have lq:(#[Value.str a t,Value.str b u]:Array Value)[if f b a=true then 1 else 0]?=some v:=hP;obtain⟨t',ev⟩:∃t',v=.str (if f b a=true then b else a) t':=by
   by_cases c:f b a=true
   ·rw[if_pos c] at lq⊢;exact⟨u,by simpa using lq.symm⟩
   ·rw[if_neg c] at lq⊢;exact⟨t,by simpa using lq.symm⟩
  subst ev;exact h h' tk t' hold
end
theorem Zax(hc:X.calm=true):c6 X (.builtin "min") (λxs H Q=>∃i j:Str,xs=[.str i,.str j]/\Q (.str (qu i j)) H):=by
 intro pins s σ H xs us Q I r h;obtain⟨i,j,rfl,q⟩:=h;obtain⟨u,w',rfl,⟨t,rfl⟩,⟨t',rfl⟩⟩:=vals2 r;exact call_min_two (OK (λx y=>decide (x.cps.toList<y.cps.toList)) (I.ok.hd hc) (Zav _ λi v=>Qb i v) λh' tk t2 k=>⟨.str (qu i j),H,I.kept k,⟨t2,by unfold qu;simp only[decide_eq_true_eq]⟩,q⟩)
theorem Zay(hc:X.calm=true):c6 X (.builtin "max") (λxs H Q=>∃i j:Str,xs=[.str i,.str j]/\Q (.str (qv i j)) H):=by
 intro pins s σ H xs us Q I r h;obtain⟨i,j,rfl,q⟩:=h;obtain⟨u,w',rfl,⟨t,rfl⟩,⟨t',rfl⟩⟩:=vals2 r;exact call_max_two (OK (λx y=>decide (y.cps.toList<x.cps.toList)) (I.ok.hd hc) (Zaw _ λi v=>Qb i v) λh' tk t2 k=>⟨.str (qv i j),H,I.kept k,⟨t2,by unfold qv;simp only[decide_eq_true_eq]⟩,q⟩)
theorem Zfm:bootBuiltins "max"=some (.builtin "max"):=by decide+kernel
theorem Qc:cL X (binaryOp .Mult) (λx y H Q=>∃(z:Str) (n:Nat),x=.str z/\y=.int (n:Int)/\z.length<=100/\n<=100/\Q (.str (Txt.mul z (n:Int))) H):=by
 intro pins s σ H x y v u Q I rx ry h;obtain⟨z,n,rfl,rfl,lz,ln,q⟩:=h;obtain⟨t,rfl⟩:=rx;obtain⟨t',rfl⟩:=ry;have lm:z.length*n<=10000:=Y4 (Jy lz ln) (by omega);refine PySem.SB.mul ⟨?_,λh1 _=>?_,λ_ _=>?_⟩ λt2 k=>⟨.str (Txt.mul z (n:Int)),H,I.tok k,⟨t2,rfl⟩,q⟩;·rw[decide_eq_false (by omega),decide_eq_false (by omega)];rfl
 ·have hn:(1:Int)<=(n:Int):=by omega
  intro hgt;have h3:((2:Int)^63-1)/(n:Int)≥(2^63-1)/100:=by
   refine Int.le_ediv_of_mul_le (by omega) ?_
   grind
  have h4:((2:Int)^63-1)/100>100:=by decide
  omega
 ·rw[Y8];exact decide_eq_false (by rw[sizeLine_eq];omega)
def nL:V->Bool
 |.int _=>true
 |.str _=>true
 |_=>false
theorem Qd(h:nL x=true):i4 x=true:=by cases x<;>first|rfl|cases h
theorem Zfn(hx:nL x=true)(hy:nL y=true):jA x y=decide (x=y):=by
 cases x with
 |int a=>
  cases y with
  |int b=>
   show(a==b)=_
   grind
  |str b=>rfl
  |_=>cases hy
 |str a=>
  cases y with
  |int b=>rfl
  |str b=>
   show(a==b)=_
   grind
  |_=>cases hy
 |_=>cases hx
theorem NM:∀{xs ys:List V},xs.length=ys.length->xs.all nL=true->ys.all nL=true->((List.range xs.length).all λj=>jA (xs.getD j .ay) (ys.getD j .ay))=decide (xs=ys)
 |[],[],_,_,_=>rfl
 |[],_::_,h,_,_=>by simp at h
 |_::_,[],h,_,_=>by simp at h
 |x::xs,y::ys,h,fx,fy=>by
  rw[Jd,Wk] at fx fy;rw[Wq,List.range_succ_eq_map,Jd,Kn];have e:((λj=>jA ((x::xs).getD j .ay) ((y::ys).getD j .ay))∘Nat.succ)=λj=>jA (xs.getD j .ay) (ys.getD j .ay):=rfl;rw[e,(NM (by simpa using h) fx.2 fy.2)];show(jA x y&&_)=_;rw[Zfn fx.1 fy.1,Wf,Wk,decide_eq_true_iff,decide_eq_true_iff,decide_eq_true_iff,List.cons.injEq]
def Zg1(K:PySem.W.Frag)(neg:Bool):R2:=λx y H Q=>∃(p q:Addr) (xs ys:List V),x=.ref p/\y=.ref q/\aA K H p xs/\aA K H q ys/\xs.all nL=true/\ys.all nL=true/\Q (.bl (if neg=true then !decide (xs=ys) else decide (xs=ys))) H
theorem Qe(r:Vals xs us):∀{j:Nat} (h:j<us.length),RelV (xs.getD j .ay) us[j]:=by
 induction r with
 |nil=>grind
 |cons f _ ih=>grind
theorem Qf{xs:List V}{j:Nat}(f:xs.all nL=true)(h:j<xs.length):nL (xs.getD j .ay)=true:=by
 grind
theorem Zfo{X:Cx}{K:PySem.W.Frag}(hK:X.K=K)(hu:X.A.units<cLine):cL X (compareOp .NotEq) (Zg1 K true):=by
 subst hK;intro pins s σ H x y v u Q I rx ry h;obtain⟨p,q,xs,ys,rfl,rfl,h1,h2,f1,f2,k⟩:=h;cases rx;cases ry;obtain⟨ai,r1,p1,z1⟩:=I.tuple h1;obtain⟨iI,r2,p2,z2⟩:=I.tuple h2;have l1:=r1.length;have l2:=r2.length;show wpAny _ _ (richCompare .NotEq _ _) _ _ _;refine SeqAt.RcNeAt.tuples (e:=λj=>jA (xs.getD j .ay) (ys.getD j .ay)) p1 p2 hu (λj h1 h2=>?_) _ _ _ _ (cJ I k ?_)
 ·have j1:j<ai.length:=by simpa using h1
  have j2:j<iI.length:=by simpa using h2
  have e1:=Qe r1 j1;have e2:=Qe r2 j2;have a1:ai.toArray[j]=ai[j]:=by simp
  have a2:iI.toArray[j]=iI[j]:=by simp
  rw[a1,a2];exact Rn e1 e2 (Qd (Qf f1 (by omega))) (Qd (Qf f2 (by omega)))
 ·rw[if_pos rfl,Yu,Yu,←l1,←l2];by_cases hl:xs.length=ys.length
  ·rw[←hl,Nat.min_self,NM hl f1 f2];simp
  ·grind
section
variable {X:Cx}
end
def AE(g:Nat->Value):Nat->Nat->List Value
 |0,_=>[]
 |n+1,i=>g i::AE g n (i+1)
theorem RG(g:Nat->Value):∀(us:List Value) (i:Nat),(∀k,us[k]?=some (g (i+k))\/us.length<=k)->us=AE g us.length i
 |[],_,_=>rfl
 |a::r,i,h=>by
  have e:a=g i:=by
   rcases h 0 with z|z;·grind
   ·cases z
  refine congr (congrArg _ e) (RG g r (i+1) λk=>?_);have:=h (k+1)
  grind
inductive aG(K:PySem.W.Frag)(x:Str)(st:Stmt)(f:Addr):Prop
 |mk {od an:Option Addr} {sl:Array (Option Value)} {oc kV dc pm cd ct:Value} (a:nsIn K mainGlobals x=some (some (.ref f))) (l:K.lookup f=some ⟨oc,od,.func (fnOf x x (oA st) (lP st) (aJ st) .none kV dc pm an cd ct),sl⟩) (c:codeIn K cd x=true) (k:keepIn K (.ref f)=true):aG K x st f
inductive bo(K:PySem.W.Frag)(C:Addr)(x q:Str)(st:Stmt)(f:Addr):Prop
 |mk {od an:Option Addr} {sl:Array (Option Value)} {oc kV dc pm cd ct:Value} (a:PySem.W.findIn K (.ref C) x=some (some (.ref f))) (b:isFn K (.ref f)=true) (l:K.lookup f=some ⟨oc,od,.func (fnOf x q (oA st) (lP st) (aJ st) .none kV dc pm an cd ct),sl⟩) (c:codeIn K cd q=true) (k:keepIn K (.ref f)=true):bo K C x q st f
inductive nM(P:Program)(w:World)(K:PySem.W.Frag)(mg:Str->Option Value)(base:Heap):Prop
 |mk {h:Heap} (X:K.In h) (G:h.Ns mainGlobals mg):nM P w K mg base
abbrev pF(x q:Str)(st:Stmt)(ps:List Str):Prop:=∀(kV doc pm:Value) (an:Option Addr) (aC ct:Value) (g:Nat->Value),bindArgs (fnOf x q (oA st) (lP st) (aJ st) .none kV doc pm an aC ct) ⟨AE g ps.length 0,[]⟩=pure (ps.zip (AE g ps.length 0))
theorem pF.at{x q:Str}{st:Stmt}{ps:List Str}(b:pF x q st ps)(kV doc pm:Value)(an:Option Addr)(aC ct:Value)(us:List Value)(hl:us.length=ps.length):bindArgs (fnOf x q (oA st) (lP st) (aJ st) .none kV doc pm an aC ct) ⟨us,[]⟩=pure (ps.zip us):=by
 have e:=RG (λk=>us.getD k .none) us 0 λk=>by
  grind
 grind
section
variable {P:Program}{w:World}{K:PySem.W.Frag}{mg:Str->Option Value}{base:Heap}{C f:Addr}{x q:Str}{st:Stmt}{ps:List Str}{n:Nat}{sp:Sp}
theorem nM.p(D:nM P w K mg base)(p:aG K x st f)(b:pF x x st ps:=by intro _ _ _ _ _ _ _;rfl):∃fd,aK K x x st f fd/\Binds K fd ps []/\keepIn K (.ref f)=true/\mg x=some (.ref f):=by
 obtain⟨X,G⟩:=D;obtain⟨a,l,c,k⟩:=p;exact⟨_,wz l c k,(wz l c k).binds (pF.at b),k,mg_of X G a⟩
theorem nM.d(D:nM P w K mg base)(p:aG K x st f)(o:∀fd,aK K x x st f fd->aH P w K mg base aM n f fd ps sp)(b:pF x x st ps:=by intro _ _ _ _ _ _ _;rfl):HasFn P w K mg base n x ps sp:=by
 obtain⟨fd,F,b,k,m⟩:=D.p p b;exact⟨f,fd,o _ F,b,k,m⟩
theorem bo.p(p:bo K C x q st f)(b:pF x q st ps):∃fd,aK K x q st f fd/\Binds K fd ps []/\Meth K C x f/\PySem.W.findIn K (.ref C) x=some (some (.ref f))/\isFn K (.ref f)=true:=by
 obtain⟨a,e,l,c,k⟩:=p;exact⟨_,wz l c k,(wz l c k).binds (pF.at b),⟨a,e,k⟩,a,e⟩
theorem nM.m(_:nM P w K mg base)(kc:fZ K C)(p:bo K C x q st f)(o:∀fd,aK K x q st f fd->aH P w K mg base aM n f fd ps sp)(b:pF x q st ps:=by intro _ _ _ _ _ _ _;rfl):cq P w K mg base n x C ps sp:=by
 obtain⟨fd,F,b,m,_,_⟩:=p.p b;exact⟨f,fd,kc,m,o _ F,b⟩
theorem nM.i(_:nM P w K mg base){y:Str}(m:mg y=some (.ref C))(cb:makesIn K C=true)(cc:keepIn K (.ref C)=true)(p:bo K C "__init__" q st f)(o:∀fd,aK K "__init__" q st f fd->aH P w K mg base aM n f fd ps sp)(b:pF "__init__" q st ps:=by intro _ _ _ _ _ _ _;rfl):wO P w K mg base n y C ps sp:=by
 obtain⟨fd,F,b,_,a,e⟩:=p.p b;exact⟨f,fd,⟨cb,a,e,cc⟩,o _ F,b,m⟩
end
def AF(v d:Addr):HO:=.ext λh=>h.IsValuesView v d
def Zgg(td:TE):TE:=λσ H Q=>td σ H λx H1=>∃d kvs,x=.ref d/\H1 d=some (.dK kvs)/\∀v,H1 v=none->Q (.ref v) (upd H1 v (AF v d))
theorem ZdG{X:Cx}{apos cG:Pos}{o:Expr}{td:TE}(ho:PE X o td)(oI:attributeBase o "values" X.env (eval o X.env)=eval o X.env:=by rfl)(oK:(apos.endLine==cG.line)=true:=by rfl):PE X (.Call (.Attribute o "values" apos) [] [] cG) (Zgg td):=by
 intro pins s σ H R I h;refine wpAny_Call_method0_late oI oK (az (ho pins s σ H _ I h) λv s1 zq=>?_);obtain⟨x,H1,I1,r1,d,kvs,ex,hd,q⟩:=zq;subst ex;obtain rfl:v=Value.ref d:=r1;obtain⟨t1,t2,xM⟩:=uy I1 (.inl ⟨kvs,.inl hd⟩);refine⟨"dict","dict.values",plainAttrs_dict,slot_dict_values,PySem.F.type_dict_values,t1,t2,Calls.callWith_builtin rfl (PySem.evalArgs_none ?_)⟩;obtain⟨zz,_,vs,rel,dd⟩:=lW I1.av hd;refine call_meetsIn slot_dict_values dd.typeIs PySem.F.entry_dict_values (PySem.F.args_dict_values_1 _) (meets_dict_values (dC X.prog X.w) d xM) ⟨⟨vs,dd⟩,?_⟩;exact⟨.ref s1.heap.objs.size,_,I1.laid (o:=AF s1.heap.objs.size d) (t':=s1.toks) (λb o e=>Yc _ e) (Yd _) ⟨⟨_,Ys _ rfl,rfl,rfl⟩,⟨_,Ys _ rfl⟩,λh1 h2 ⟨o,e,z⟩ k=>⟨o,k _ e,z⟩⟩,rfl,q _ (I1.av.fresh (Yd _))⟩
def Zfp:List V->Hp->VK->Prop:=λxs H Q=>∃(v d:Addr) (kvs:List (Key×V)),xs=[.ref v]/\H v=some (AF v d)/\H d=some (.dK kvs)/\Nw H (.lst (kvs.map (·.2))) Q
theorem OL{R:Key×V->Key×Value->Prop}(f:∀a b,R a b->RelV a.2 b.2):∀{xs:List (Key×V)} {ys:List (Key×Value)},Paired R xs ys->Vals (xs.map (·.2)) (ys.map (·.2))
 |_,_,.nil=>.nil
 |_,_,.cons r t=>.cons (f _ _ r) (OL f t)
theorem ZR{X:Cx}(hc:X.calm=true):c6 X (.type "list") Zfp:=by
 rintro pins s σ H xs us Q I r ⟨v,d,kvs,rfl,hv,hd,q⟩;obtain⟨u,rfl,ru⟩:=vals1 r;obtain rfl:u=Value.ref v:=ru;obtain⟨vw,_,_⟩:=(show cQ X.prog X.w H s.heap v (AF v d) from I.av v _ hv);obtain⟨lim,z4,vs,kv,dd⟩:=lW I.av hd;obtain⟨ep,da⟩:=dd.dictAt;have kl:=kv.length;refine kdl_call (kdl_values (knd:=dC X.prog X.w) (kvs:=vs) (ep:=ep)) (I.ok.hd hc) ⟨vw,da⟩ (by omega) λh' tk acc c kp hD it=>?_;have ea:acc.toList=vs.map (·.2):=kdl_vals_eq acc.toList (by rw[Wx];exact it.1) λj v hj=>it.2 j v (by rw[←Jj];exact hj);have vals:Vals (kvs.map (·.2)) acc.toList:=by
  rw[ea];exact OL (λ_ _ h=>h.2) kv
 exact⟨.ref s.heap.objs.size,_,(I.laid (o:=.lst (kvs.map (·.2))) kp (Yd _) ⟨by rw[Ya];exact lim,acc.toList,c,vals,by rw[Array.toArray_toList];exact hD⟩),rfl,q.at _ (I.av.fresh (Yd _))⟩
end L2
namespace Ko
open PySem L2
variable {P:Program}{w:World}{K:PySem.W.Frag}{mg:Str->Option Value}{base:Heap}{f C CL CJ:Addr}{fd:FuncData}
def top(i:Nat):Stmt:=PySem.Challenge.pw_kinhearth_k33_groups_and_settled_ones.main.body.getD i (.Pass ⟨0,0,0,0⟩)
abbrev Fg:Stmt:=top 19
abbrev Gx:Stmt:=top 20
abbrev FR:Stmt:=top 21
abbrev G6:Stmt:=top 23
abbrev Du:Stmt:=top 25
abbrev Dv:Stmt:=top 77
abbrev B_:Stmt:=top 78
abbrev Fh:Stmt:=top 79
abbrev EA:Stmt:=top 22
abbrev C4:Stmt:=top 24
abbrev EB:Stmt:=top 2
abbrev FT:Stmt:=top 34
abbrev EC:Stmt:=top 35
abbrev ED:Stmt:=top 38
abbrev DY:Stmt:=top 39
abbrev DZ:Stmt:=top 40
abbrev Fi:Stmt:=top 47
abbrev Cz:Stmt:=top 48
abbrev D0:Stmt:=top 49
abbrev D1:Stmt:=top 50
abbrev CA:Stmt:=top 51
abbrev CB:Stmt:=top 52
abbrev CC:Stmt:=top 53
abbrev Ca:Stmt:=top 54
abbrev D2:Stmt:=top 72
abbrev Fj:Stmt:=top 56
abbrev FU:Stmt:=top 57
abbrev Fm:Stmt:=top 58
abbrev M4:Stmt:=top 81
abbrev MD:Stmt:=top 82
abbrev M5:Stmt:=top 83
abbrev Fn:Stmt:=top 84
abbrev C5:Stmt:=top 85
abbrev D3:Stmt:=top 86
abbrev D4:Stmt:=top 87
abbrev yF:Stmt:=top 88
abbrev EE:Stmt:=top 89
abbrev C6:Stmt:=top 90
abbrev EF:Stmt:=top 91
abbrev EG:Stmt:=top 92
abbrev FV:Stmt:=top 93
abbrev EH:Stmt:=top 94
abbrev D5:Stmt:=top 95
abbrev EI:Stmt:=top 96
abbrev EJ:Stmt:=top 97
abbrev EK:Stmt:=top 98
abbrev Fo:Stmt:=top 99
abbrev EL:Stmt:=top 100
abbrev EM:Stmt:=top 101
abbrev D6:Stmt:=top 102
abbrev rO:Stmt:=top 103
abbrev D7:Stmt:=inClass (top 76) 0
abbrev D8:Stmt:=inClass (top 76) 1
abbrev Dw:Stmt:=inClass (top 60) 0
abbrev D9:Stmt:=inClass (top 60) 1
abbrev D_:Stmt:=inClass (top 60) 2
abbrev Ea:Stmt:=inClass (top 60) 3
abbrev Cb:Stmt:=inClass (top 60) 4
abbrev Dx:Stmt:=inClass (top 60) 5
abbrev BV:Stmt:=inClass (top 60) 6
abbrev C7:Stmt:=inClass (top 60) 8
abbrev CD:Stmt:=inClass (top 60) 12
abbrev Bv:Stmt:=inClass (top 60) 13
abbrev Dy:Stmt:=inClass (top 60) 14
abbrev Cc:Stmt:=inClass (top 60) 7
abbrev C8:Stmt:=inClass (top 71) 0
abbrev Cd:Stmt:=inClass (top 71) 1
abbrev Dz:Stmt:=inClass (top 71) 2
abbrev DA:Stmt:=inClass (top 71) 3
abbrev C9:Stmt:=inClass (top 71) 4
abbrev C_:Stmt:=inClass (top 71) 5
abbrev Ce:Stmt:=inClass (top 71) 10
abbrev BW:Stmt:=inClass (top 71) 11
abbrev YF:Stmt:=inClass (top 71) 12
abbrev DB:Stmt:=inClass (top 71) 13
abbrev BC:Stmt:=inClass (top 71) 17
abbrev By:Stmt:=inClass (top 71) 18
abbrev CF:Stmt:=inClass (top 71) 19
abbrev BX:Stmt:=inClass (top 71) 20
abbrev CG:Stmt:=inClass (top 71) 21
abbrev Cf:Stmt:=inClass (top 71) 22
abbrev BD:Stmt:=inClass (top 71) 23
abbrev BM:Stmt:=inClass (top 71) 24
abbrev BN:Stmt:=inClass (top 71) 16
abbrev SX:Stmt:=M4
abbrev RH:Stmt:=MD
abbrev SY:Stmt:=M5
section
theorem Zfq:aR ["_law_script","_law_k"] ["_law_script","_law_k"] (aJ SX):=⟨rfl,rfl,rfl,by decide+kernel,rfl,by decide+kernel,by decide+kernel⟩
theorem ZdH(F:aK K "_law_cell" "_law_cell" SX f fd)(ml:mg "len"=none):aH P w K mg base aM 1 f fd ["_law_script","_law_k"] (Rx K):=by
 refine F.ok Zfq (λvs H Q E h=>?_) (λaC A outer s H vs Q E hr h=>?_)
 ·obtain⟨a,ns,k,rfl,_⟩:=h;rfl
 obtain⟨a,ns,k,rfl,hS,h0,q⟩:=h;refine⟨_,ak (aQ (aU lU (pv 1) (bL Ms rfl ml cT (aa (pv 0) ae)) (aP _)) (au (aF (bg Gu (pv 0) (pv 1) (λ_ _=>rfl)))) aY)
  (au (aF aL)),?_⟩
 refine⟨_,rfl,_,rfl,a,_,rfl,.inl hS,_,_,rfl,rfl,_,rfl,?_⟩;refine bB (λc=>?_) (λc=>?_)
 ·have c':k<(((ns.map V.int).length:Nat):Int):=of_decide_eq_true c;rw[(Ya _)] at c';exact⟨_,rfl,_,rfl,a,_,_,_,rfl,rfl,hS,m6 h0 c',q _⟩
 ·exact q _
theorem oB:aR ["_law_cell_here","_law_parts","_law_one","_law_two","_law_six","_law_found","_law_part"] ["_law_cell_here","_law_parts"] (aJ RH):=⟨rfl,rfl,rfl,by decide+kernel,rfl,by decide+kernel,by decide+kernel⟩
theorem Zcv(F:aK K "_law_draws" "_law_draws" RH f fd)(ma:mg "abs"=none):aH P w K mg base aM 1 f fd ["_law_cell_here","_law_parts"] (Gw K):=by
 refine F.ok oB (λvs H Q E h=>?_) (λaC A outer s H vs Q E hr h=>?_)
 ·obtain⟨c,a,ps,rfl,_⟩:=h;rfl
 obtain⟨c,a,ps,rfl,hS,hps,hlen,q⟩:=h;refine⟨_,ak (aQ (aU lU (bL Om rfl ma Ru (aa (pv 0) ae)) (bj Rg aL aL) (aP _))
   (ak (a_ (i:=2) oB.nd rfl (Or.inl rfl) (bj eO (bj iY (bj oE (pv 0) aL) aL) aL))
   (ak (a_ (i:=3) oB.nd rfl (Or.inl rfl) (bj eO (bj iY (bj iY (bj oE (pv 2) (pv 2)) (bj oE aL (pv 2))) (pv 0)) aL))
   (ak (a_ (i:=4) oB.nd rfl (Or.inl rfl) (bj eO (bj iY (bj oE (pv 3) aL) (pv 2)) aL))
   (au (a_ (i:=0) oB.nd rfl (Or.inl rfl) (bj iY (pv 3) (bj oE aL (bj iY (pv 4) (bj oE aL (pv 2))))))))))
   (au (a_ (i:=0) oB.nd rfl (Or.inl rfl) (bj zB (bL Om rfl ma Ru (aa (pv 0) ae)) (bj Rg aL aL)))))
  (ak (a_ (i:=5) oB.nd rfl (Or.inl rfl) (wx ae))
  (ak (eY PassesOwn.never rfl (PL (pv 1)) (a8 (i:=6) oB.nd rfl (Or.inl rfl))
   (ak (bY (fQ plainAttrs_list PySem.F.slot_list_append PySem.F.type_list_append v9 (pv 5) (aa (bj eO (pv 0) (pv 6)) ae)))
   (au (a_ (i:=0) oB.nd rfl (Or.inl rfl) (bj zd (pv 0) (pv 6))))))
  (au (aF (pv 5))))),?_⟩
 refine fw (λσ H'=>H'=H/\∃c' o2 o3 o4,σ=[some (.int c'),some (.ref a),o2,o3,o4,none,none]) (λnx k=>?_) ?_
 ·refine⟨_,rfl,c,rfl,_,_,rfl,rfl,⟨by decide,by decide,by decide⟩,_,_,rfl,rfl,_,rfl,?_⟩;refine bB (λ_=>?_) (λ_=>?_)
  ·refine⟨_,rfl,_,_,rfl,rfl,.inr ⟨by decide,by decide⟩,_,_,rfl,rfl,_,_,rfl,rfl,(by show(0:Int)<2147483647;decide),?_⟩;refine⟨_,rfl,_,rfl,_,_,rfl,rfl,.inl (ZeG _ (by decide) (by decide)),_,rfl,_,_,rfl,rfl,.inl ⟨by decide,by decide⟩,_,_,rfl,rfl,_,rfl,_,_,rfl,rfl,_,_,rfl,rfl,(by show(0:Int)<2147483399;decide),?_⟩;refine⟨_,rfl,_,_,rfl,rfl,.inr ⟨by decide,by decide⟩,_,rfl,_,_,rfl,rfl,_,_,rfl,rfl,(by show(0:Int)<1000000007;decide),?_⟩;refine⟨_,rfl,_,rfl,_,rfl,_,_,rfl,rfl,.inl ⟨by decide,by decide⟩,_,_,rfl,rfl,_,_,rfl,rfl,.inl ⟨by decide,by decide⟩,_,_,rfl,rfl,k _ _ ⟨rfl,_,_,_,_,rfl⟩⟩
  ·exact⟨_,rfl,c,rfl,_,_,rfl,rfl,⟨by decide,by decide,by decide⟩,_,_,rfl,rfl,k _ _ ⟨rfl,_,_,_,_,rfl⟩⟩
 ·rintro σ H0 ⟨rfl,c',o2,o3,o4,rfl⟩;refine⟨(by show 0<=sizeLine;decide),λl hl=>?_⟩;have s1:ah H0 (upd H0 l (.lst [])):=cy hl _;refine⟨_,rfl,a,rfl,⟨_,s1.seq hS⟩,hJ (K:=K) (a:=a) (xs:=ps.map V.int) (λi σ H2=>∃c o2 o3 o4 o6 ds,σ=[some (.int c),some (.ref a),o2,o3,o4,some (.ref l),o6]/\ah H0 H2/\H2 l=some (.lst (ds.map V.int))/\Paired Bd ds (ps.take i))
   ⟨c',o2,o3,o4,none,[],rfl,s1,aZ,by rw[List.take_zero];exact .nil⟩ (λi σ H2 _ ⟨_,_,_,_,_,_,_,s2,_⟩=>s2.seq hS) ?_ ?_⟩
  ·rintro i y σ H2 hi ⟨c,o2,o3,o4,o6,ds,rfl,s2,h2,b2⟩;obtain⟨p,rfl,hp⟩:=mU hi;have dO:i<ps.length:=(Yg.mp hp).1;obtain⟨p0,p1⟩:=hps p (Yh hp);have dl:=b2.length;rw[Wd] at dl;refine⟨_,rfl,.inl ⟨rfl,_,aj.of h2⟩,_,rfl,_,rfl,_,_,rfl,rfl,p0,l,_,_,rfl,rfl,h2,(by rw[Ya];exact jJ (by omega)),?_⟩;refine⟨_,rfl,_,rfl,_,_,rfl,rfl,⟨p0,p1⟩,?_⟩;refine⟨_,o2,o3,o4,_,ds++[c % p],rfl,λb o e=>?_,?_,?_⟩
   ·rw[a9 (bQ e hl)];exact s2 b o e
   ·rw[aZ,Ou]
   ·rw[Y0,hp];exact b2.snoc ⟨Jc _ (JW p0),W1 _ p0⟩
  ·rintro σ H2 ⟨c,o2,o3,o4,o6,ds,rfl,s2,h2,b2⟩;rw[Ya,We] at b2;exact⟨_,rfl,q l ds H2 hl s2 h2 b2⟩
theorem wC:aR ["_law_code","_law_size","_law_free","_law_found","_law_k"] ["_law_code","_law_size"] (aJ SY):=⟨rfl,rfl,rfl,by decide+kernel,rfl,by decide+kernel,by decide+kernel⟩
theorem ZdI(F:aK K "_law_turn" "_law_turn" SY f fd)(mL:mg "list"=none)(mR:mg "range"=none)(mT:mg "tuple"=none):aH P w K mg base aM 1 f fd ["_law_code","_law_size"] Ry:=by
 refine F.ok wC (λvs H Q E h=>?_) (λaC A outer s H vs Q E hr h=>?_)
 ·obtain⟨c,n,rfl,_⟩:=h;rfl
 obtain⟨c,n,rfl,hn,q⟩:=h;refine⟨_,ak (a_ (i:=2) wC.nd rfl (Or.inl rfl) (eN (C2 rfl) rfl mL ra (aa (eN yy rfl mR uf (aa (pv 1) ae)) ae)))
  (ak (a_ (i:=3) wC.nd rfl (Or.inl rfl) (wx ae))
  (ak (eY PassesOwn.never rfl (pW rfl mR (aa (pv 1) ae)) (a8 (i:=4) wC.nd rfl (Or.inl rfl))
   (ak (bY (fQ plainAttrs_list PySem.F.slot_list_append PySem.F.type_list_append v9 (pv 3) (aa (fQ plainAttrs_list PySem.F.slot_list_pop PySem.F.type_list_pop Zb2 (pv 2) (aa (bj eO (pv 0) (bj zB (pv 1) (pv 4))) ae)) ae)))
   (au (a_ (i:=0) wC.nd rfl (Or.inl rfl) (bj zd (pv 0) (bj zB (pv 1) (pv 4)))))))
  (au (aF (eN tK rfl mT mQ (aa (pv 3) ae)))))),?_⟩
 refine⟨_,rfl,_,rfl,λr uY=>?_⟩;refine⟨r,n,rfl,aZ,by omega,λu hu=>?_⟩;refine⟨(by show 0<=sizeLine;decide),λl hl=>?_⟩;have g1:ah H (upd H r (.jy 0 (n:Int))):=cy uY _;have g2:=g1.trans (cy hu (.lst ((bF n).map V.int)));have g3:=g2.trans (cy hl (.lst []));have Kp:u≠l:=bQ aZ hl;refine⟨_,rfl,(n:Int),rfl,by omega,by omega,E9 (lo:=0) (n:=n) (λi σ H2=>∃c o4 ds fs,σ=[some (.int c),some (.int (n:Int)),some (.ref u),some (.ref l),o4]/\ah H H2/\H2 u=some (.lst (fs.map V.int))/\H2 l=some (.lst (ds.map V.int))/\(ds++fs).Perm (bF n)/\ds.length=i)
  ⟨c,none,[],bF n,rfl,g3,by rw[a9 Kp];exact aZ,aZ,by rw[U7],rfl⟩ ?_ ?_⟩
 ·rintro i σ H2 hi ⟨c,o4,ds,fs,rfl,s2,Kq,uV,pm,dl⟩;have pl:=pm.length_eq;rw[Yi,eX,dl] at pl;have z7:(0:Int)<(n:Int)-(0+(i:Int)):=by omega
  have m0:=Jc c (JW z7);have m1:=W1 c z7;have hk:(c % ((n:Int)-(0+(i:Int)))).toNat<fs.length:=by omega
  refine⟨_,rfl,.inl ⟨rfl,_,aj.of uV⟩,_,rfl,.inl ⟨rfl,_,aj.of Kq⟩,_,rfl,_,rfl,_,rfl,_,_,rfl,rfl,_,_,rfl,rfl,z7,u,_,_,_,.int fs[(c % ((n:Int)-(0+(i:Int)))).toNat],rfl,rfl,Kq,by omega,by omega,((Gr (G0 m0 (by rw[Ya];omega))).1),by rw[Yl,Yb hk];rfl,?_⟩;refine⟨l,_,_,rfl,rfl,by rw[a9 Kp.symm];exact uV,(by rw[Ya];exact jJ (by omega)),?_⟩;refine⟨_,rfl,_,rfl,_,rfl,_,_,rfl,rfl,_,_,rfl,rfl,⟨z7,by omega⟩,?_⟩;refine⟨_,_,ds++[fs[(c % ((n:Int)-(0+(i:Int)))).toNat]],fs.eraseIdx (c % ((n:Int)-(0+(i:Int)))).toNat,rfl,λb o e=>?_,?_,?_,?_,?_⟩
  ·have nl:b≠l:=bQ (g2 b o e) hl;have nu:b≠u:=bQ (g1 b o e) hu;rw[a9 nl,a9 nu];exact s2 b o e
  ·rw[a9 Kp,aZ,Nx]
  ·rw[aZ,Ou]
  ·refine List.Perm.trans ?_ pm;rw[W4];refine List.Perm.append_left ds ?_;exact(MT fs _ hk).symm
  ·rw[Yi,List.length_singleton,dl]
 ·rintro σ H2 ⟨c,o4,ds,fs,rfl,s2,Kq,uV,pm,dl⟩;have pl:=pm.length_eq;rw[Yi,eX,dl] at pl;have e:fs=[]:=List.eq_nil_of_length_eq_zero (by omega);rw[e,Y5] at pm;refine⟨_,rfl,l,_,rfl,.inl ⟨aj.of uV,λt ht=>?_⟩⟩;exact q t ds _ (s2.free ht) (s2.trans (cy ht _)) aZ pm
end
theorem ZdJ{ds:List Int}{a b c d e:Int}(h:Paired Bd ds [a,b,c,d,e]):∃v w x y z,ds=[v,w,x,y,z]/\Bd v a/\Bd w b/\Bd x c/\Bd y d/\Bd z e:=by
 cases h with|cons h1 h=>cases h with|cons h2 h=>cases h with|cons h3 h=>cases h with|cons h4 h=>cases h with|cons h5 h=>
  cases h
  grind
theorem bc{q:St->Hp->Prop}{i:Nat}{x:V}{σ:St}{H:Hp}(h:q (σ.set i (some x)) H):wJ i x σ H q:=h
theorem RI{K:PySem.W.Frag}{H:Hp}{p:Addr}{xs:List V}{i:Nat}{x:V}{Q:VK}(hp:aj K H p xs\/aA K H p xs)(h:xs[i]?=some x)(q:Q x H):JH K (.ref p) (.int (0+(i:Int))) H Q:=by
 rcases hp with hp|hp;·exact .inl ⟨p,_,_,_,rfl,rfl,hp,Oy h,q⟩
 ·exact .inr (.inl ⟨p,_,_,_,rfl,rfl,hp,Oy h,q⟩)
theorem yZ(v:V):decide (v=v)=true:=decide_eq_true rfl
theorem all_true(n:Nat):(List.replicate n true).all id=true:=by
 induction n with
 |zero=>rfl
 |succ n ih=>rw[List.replicate_succ,Jd,ih];rfl
inductive OM(m:Nat)(vs:List V)(H:Hp)(Q:VK):Prop
 |mk (x y:V) (d:Dt) (k:Nat) (aB:vs=[x,y]) (aT:m=k+1) (bq:At H k x d) (bR:At H k y d) (cM:∀H',ah H H'->Q (.bl true) H'):OM m vs H Q
def rG(m:Nat):Sp:=λvs H Q _=>OM m vs H Q
section
theorem ZS:aR ["_law_found","_law_due"] ["_law_found","_law_due"] (aJ yF):=⟨rfl,rfl,rfl,by decide+kernel,rfl,by decide+kernel,by decide+kernel⟩
theorem Zcw{n:Nat}(F:aK K "_law_same" "_law_same" yF f fd)(pU:HasFn P w K mg base n "_law_same" ["_law_found","_law_due"] (rG n))(bl:Bl mg):aH P w K mg base aM (n+1) f fd ["_law_found","_law_due"] (rG (n+1)):=by
 refine F.ok ZS (λvs H Q E h=>?_) (λaC A outer s H vs Q E hr h=>?_)
 ·obtain⟨x,y,d,k,rfl,_⟩:=h;rfl
 obtain⟨x,y,d,k,rfl,ek,hx,hy,q⟩:=h;obtain rfl:k=n:=by omega
 have hu:=hr.uw;refine⟨_,(ak (aQ (aU GX (pv 1) lQ (aP _)) (au (aF (dQ GX (pv 0) lQ (aP _)))) aY) (ak (aQ (fC (bL (kL (K:=K) rfl) rfl bl.kI kH (aa (pv 1) (aa (kT rfl bl.zD zg) ae)))) (au (aF (oC (bL (kL (K:=K) rfl) rfl bl.kI kH (aa (pv 0) (aa (kT rfl bl.zD zg) ae))) (lR (dQ cg (pv 0) (pv 1) (aP _)))))) aY) (ak (aQ (fC (bL (kL (K:=K) rfl) rfl bl.kI kH (aa (pv 1) (aa (kT rfl bl.SM Rw) ae)))) (au (aF (oC (bL (kL (K:=K) rfl) rfl bl.kI kH (aa (pv 0) (aa (kT rfl bl.SM Rw) ae))) (oC (Zeq (bL (kL (K:=K) rfl) rfl bl.kI kH (aa (pv 0) (aa (kT rfl bl.zD zg) ae)))) (lR (dQ cg (pv 0) (pv 1) (aP _))))))) aY) (ak (aQ (fC (bL (kL (K:=K) rfl) rfl bl.kI kH (aa (pv 1) (aa (kT rfl bl.wM wA) ae)))) (au (aF (oC (bL (kL (K:=K) rfl) rfl bl.kI kH (aa (pv 0) (aa (kT rfl bl.wM wA) ae))) (lR (dQ cg (pv 0) (pv 1) (aP _)))))) aY) (ak (aQ (PW.pt (pw_or (aU kR (bL (kL (K:=K) rfl) rfl bl.kI kH (aa (pv 1) (aa (kT rfl bl.rF ra) ae))) (bL (kL (K:=K) rfl) rfl bl.kI kH (aa (pv 0) (aa (kT rfl bl.rF ra) ae))) (aP _)) (pw_or1 (aU kR (bL (kL (K:=K) rfl) rfl bl.kI kH (aa (pv 1) (aa (kT rfl bl.mV mQ) ae))) (bL (kL (K:=K) rfl) rfl bl.kI kH (aa (pv 0) (aa (kT rfl bl.mV mQ) ae))) (aP _))))) (au (aF kQ)) aY) (ak (aQ (aU kR (bL (c9 (K:=K) rfl) rfl bl.cU cT (aa (pv 0) ae)) (bL (c9 (K:=K) rfl) rfl bl.cU cT (aa (pv 1) ae)) (aP _)) (au (aF kQ)) aY) (au (aF (bL (TM (K:=K) rfl rfl) rfl bl.SK Rv (aa (iW (x:="_law_k") (fr:=[("_law_found",0),("_law_due",1)]) (cl:=[("_law_found",s.heap.objs.size+1),("_law_due",s.heap.objs.size+1+1)]) rfl ⟨by with_unfolding_all rfl,⟨rfl,⟨rfl,trivial⟩⟩,rfl,by decide+kernel,rfl,by decide+kernel,rfl,⟨⟨rfl,.inl rfl,.inl rfl,rfl⟩,⟨⟨rfl,.inl rfl,.inl rfl,rfl⟩,trivial⟩⟩,by decide+kernel⟩ (pW rfl bl.jM (aa (bL (c9 (K:=K) rfl) rfl bl.cU cT (aa (pv 1) ae)) ae)) (λ_ _ _ _=>mS) (λ_ _ _ _=>(aW pU hr (by omega) rfl (aa (bg (P4 (K:=K) rfl) (pv 1) (pv 0) (λ_ _=>rfl)) (aa (bg (P4 (K:=K) rfl) (pv 2) (pv 0) (λ_ _=>rfl)) ae))))) ae)))))))))),?_⟩;have sq:(∃(p r:Addr) (xs ys:List V) (ds:List Dt) (t:Value) (b1 b2:Bool) (m:Nat),x=.ref p/\y=.ref r/\jb K H (.ref p) t/\jb K H (.ref r) t/\kitOne K t (.type "bool")=some false/\kitOne K t (.type "int")=some false/\kitOne K t (.type "str")=some false/\
   kitOne K t (.type "list")=some b1/\kitOne K t (.type "tuple")=some b2/\(aj K H p xs\/aA K H p xs)/\(aj K H r ys\/aA K H r ys)/\ds.length<=1000/\Paired (At H m) xs ds/\Paired (At H m) ys ds/\k=m+1)\/
   (x=.ay/\y=.ay)\/(∃b,x=.bl b/\y=.bl b)\/(∃i,x=.int i/\y=.int i)\/∃z,x=.str z/\y=.str z:=by
  cases d with
  |ay=>unfold At at hx hy;exact .inr (.inl ⟨hx,hy⟩)
  |bl b=>unfold At at hx hy;exact .inr (.inr (.inl ⟨b,hx,hy⟩))
  |int i=>unfold At at hx hy;exact .inr (.inr (.inr (.inl ⟨i,hx,hy⟩)))
  |str z=>unfold At at hx hy;exact .inr (.inr (.inr (.inr ⟨z,hx,hy⟩)))
  |lst ds=>
   cases k with
   |zero=>unfold At at hx;exact hx.elim
   |succ m=>
    unfold At at hx hy;obtain⟨a,xs,e0,e1,lz,p1⟩:=hx;obtain⟨b,ys,Kr,e2,_,p2⟩:=hy;exact .inl ⟨a,b,xs,ys,ds,.type "list",true,false,m,e0,Kr,.lst e1,.lst e2,ZeM,ZeN,ZeO,ZeP,ZeQ,.inl (aj.of e1),.inl (aj.of e2),lz,p1,p2,rfl⟩
  |tup ds=>
   cases k with
   |zero=>unfold At at hx;exact hx.elim
   |succ m=>
    unfold At at hx hy;obtain⟨a,xs,e0,e1,lz,p1⟩:=hx;obtain⟨b,ys,Kr,e2,_,p2⟩:=hy;exact .inl ⟨a,b,xs,ys,ds,.type "tuple",false,true,m,e0,Kr,.tup e1,.tup e2,ZeR,ZeS,ZeT,ZeU,ZeV,.inr (aA.of e1),.inr (aA.of e2),lz,p1,p2,rfl⟩
 clear hx hy;rcases sq with⟨p,r,xs,ys,ds,t,b1,b2,m,rfl,rfl,T1,T2,kb,ki,ksr,kl,kt,hp,hq,hz,p1,p2,ek⟩|⟨rfl,rfl⟩|⟨b,rfl,rfl⟩|⟨i,rfl,rfl⟩|⟨z,rfl,rfl⟩
 ·have l1:=cN p1;have l2:=cN p2;refine⟨_,rfl,rfl,_,rfl,?_⟩;refine bB (λc=>absurd (of_decide_eq_true c) (λz=>nomatch z)) (λ_=>aX ?_);refine⟨_,rfl,_,_,_,false,rfl,T2,kb,_,rfl,cz (aX ?_)⟩;refine⟨_,rfl,_,_,_,false,rfl,T2,ki,_,rfl,cz (aX ?_)⟩;refine⟨_,rfl,_,_,_,false,rfl,T2,ksr,_,rfl,cz (aX ?_)⟩;refine⟨_,rfl,_,_,_,b1,rfl,T2,kl,_,rfl,_,_,_,b1,rfl,T1,kl,rfl,_,rfl,uC rfl ?_⟩;refine⟨_,rfl,_,_,_,b2,rfl,T2,kt,_,rfl,_,_,_,b2,rfl,T1,kt,rfl,_,rfl,uC rfl (aX ?_)⟩;refine⟨_,rfl,p,_,rfl,hp,_,rfl,r,_,rfl,hq,rfl,_,rfl,uC (by rw[l1,l2]) (aX ?_)⟩;refine⟨_,rfl,r,_,rfl,hq,_,rfl,by omega,by omega,λD hD=>vY (lo:=0) (n:=((ys.length:Nat):Int).toNat)
   (λi zs H1=>ah H H1/\H1 D=some (.lst zs)/\zs=(List.replicate i true).map V.bl) ⟨cy hD _,aZ,rfl⟩ ?_ ?_⟩
  ·rintro i zs H1 hi ⟨g,h1,rfl⟩;rw[Y8] at hi;have sq:∀{a:Addr} {us:List V},(aj K H a us\/aA K H a us)->(aj K H1 a us\/aA K H1 a us):=λ{a us} z=>by
    rcases z with z|z;·exact .inl (g.seq z)
    ·exact .inr (g.jh z)
   have gx:xs[i]?=some xs[i]:=Yb (by omega);have gy:ys[i]?=some ys[i]:=Yb (by omega);obtain⟨d1,e1,a1⟩:=fV p1 gx;obtain⟨d2,e2,a2⟩:=fV p2 gy;rw[e1] at e2;cases e2;refine l_ (c8 ?_);refine⟨_,rfl,_,rfl,RI (sq hp) gx ?_⟩;refine⟨_,rfl,_,rfl,RI (sq hq) gy ?_⟩;refine⟨_,_,d1,m,rfl,ek,a1.same g,a2.same g,λH2 g2=>?_⟩;refine⟨g2 _ _ h1,by rw[Ya,W0];exact jJ (by omega),λb o e=>?_,aZ,?_⟩
   ·rw[a9 (bQ e hD)];exact g2 b o (g b o e)
   ·rw[List.replicate_succ',Yj];rfl
  ·rintro zs H1 ⟨g,h1,e⟩;refine⟨D,_,rfl,aj.of (by rw[h1,e]),?_⟩;rw[all_true];exact q H1 g
 ·refine⟨_,rfl,rfl,_,rfl,?_⟩;refine bB (λc=>?_) (λc=>absurd (yZ _) c);exact⟨_,rfl,rfl,q H (ah.refl H)⟩
 ·refine⟨_,rfl,rfl,_,rfl,?_⟩;refine bB (λc=>absurd (of_decide_eq_true c) (λz=>nomatch z)) (λ_=>aX ?_);refine⟨_,rfl,_,_,_,true,rfl,.bl b,RA,_,rfl,c8 ?_⟩;refine⟨_,rfl,_,_,_,true,rfl,.bl b,RA,_,rfl,c8 ?_⟩;refine⟨_,rfl,_,rfl,rfl,?_⟩;rw[yZ];exact q H (ah.refl H)
 ·refine⟨_,rfl,rfl,_,rfl,?_⟩;refine bB (λc=>absurd (of_decide_eq_true c) (λz=>nomatch z)) (λ_=>aX ?_);refine⟨_,rfl,_,_,_,false,rfl,.int i,G1,_,rfl,cz (aX ?_)⟩;refine⟨_,rfl,_,_,_,true,rfl,.int i,Rz,_,rfl,c8 ?_⟩;refine⟨_,rfl,_,_,_,true,rfl,.int i,Rz,_,rfl,c8 ?_⟩;refine⟨_,rfl,_,_,_,false,rfl,.int i,G1,_,rfl,_,rfl,c8 ?_⟩;refine⟨_,rfl,_,rfl,rfl,?_⟩;rw[yZ];exact q H (ah.refl H)
 ·refine⟨_,rfl,rfl,_,rfl,?_⟩;refine bB (λc=>absurd (of_decide_eq_true c) (λz=>nomatch z)) (λ_=>aX ?_);refine⟨_,rfl,_,_,_,false,rfl,.str z,ZeK,_,rfl,cz (aX ?_)⟩;refine⟨_,rfl,_,_,_,false,rfl,.str z,ZeL,_,rfl,cz (aX ?_)⟩;refine⟨_,rfl,_,_,_,true,rfl,.str z,RB,_,rfl,c8 ?_⟩;refine⟨_,rfl,_,_,_,true,rfl,.str z,RB,_,rfl,c8 ?_⟩;refine⟨_,rfl,_,rfl,rfl,?_⟩;rw[yZ];exact q H (ah.refl H)
theorem same_none:aH P w K mg base aM 0 f fd ["_law_found","_law_due"] (rG 0):=by
 have no:∀vs H Q E,¬rG 0 vs H Q E:=λvs H Q E h=>by
  obtain⟨_,_,_,_,_,z,_⟩:=h;omega
 exact⟨λvs H Q E h=>absurd h (no vs H Q E),λA outer s H args us vs Q E _ _ _ _ h=>absurd h (no vs H Q E)⟩
theorem Qg(F:aK K "_law_same" "_law_same" yF f fd)(bS:Binds K fd ["_law_found","_law_due"] [])(kS:keepIn K (.ref f)=true)(m:mg "_law_same"=some (.ref f))(bl:Bl mg):
  ∀n:Nat,aH P w K mg base aM n f fd ["_law_found","_law_due"] (rG n)
 |0=>same_none
 |n+1=>Zcw F ⟨f,fd,Qg F bS kS m bl n,bS,kS,m⟩ bl
end
inductive RJ(K:PySem.W.Frag)(vs:List V)(H:Hp)(Q:VK):Prop
 |mk (p:Addr) (ns:List Int) (aB:vs=[.ref p]) (aT:Row K H p ns) (bq:ns.length<64) (bR:∀H',ah H H'->Q (.bl (full ns)) H'):RJ K vs H Q
def IQ(K:PySem.W.Frag):Sp:=λvs H Q _=>RJ K vs H Q
def bJ(ys xs:List Int):List Int:=xs.map λx=>ys.getD x.toNat 0
theorem qc{ys:List Int}(h:full ys=true){x:Int}(hx:x∈ys):0<=x/\x<ys.length:=by
 have hm:=(pX h).subset hx;unfold bF at hm;obtain⟨i,hi,rfl⟩:=Yf.mp hm;have:=Y7.mp hi;omega
section
variable {c:Addr}
theorem Zaz:aR ["row"] ["row"] (aJ Fg):=⟨rfl,rfl,rfl,by decide+kernel,rfl,by decide+kernel,by decide+kernel⟩
theorem ZaA(F:aK K "is_turn" "is_turn" Fg f fd)(bl:Bl mg):aH P w K mg base aM 1 f fd ["row"] (IQ K):=by
 refine F.ok Zaz (λvs H Q E h=>?_) (λaC A outer s H vs Q E hr h=>?_)
 ·obtain⟨p,ns,rfl,_⟩:=h;rfl
 obtain⟨p,ns,rfl,hR,jg,q⟩:=h;have hu:=hr.uw;refine⟨_,(ak (aQ (fC (bL (ZgP (K:=K) rfl rfl) rfl bl.Zf0 ZeH (aa (iW (x:="number") (fr:=[]) (cl:=[]) rfl ⟨by with_unfolding_all rfl,trivial,rfl,by decide+kernel,rfl,by decide+kernel,rfl,trivial,by decide+kernel⟩ (ZeF (pv 0)) (λ_ _ _ _=>mS) (λ_ _ _ _=>(bL (kL (K:=K) rfl) rfl bl.kI kH (aa (pv 0) (aa (kT rfl bl.zD zg) ae))))) ae))) (au (aF kQ)) aY) (au (aF (dQ (Rt hu) (bL (sortedK (K:=K) rfl) rfl bl.FO Fd (aa (pv 0) ae)) (eN (C2 rfl) rfl bl.rF ra (aa (eN yy rfl bl.jM uf (aa (bL (c9 (K:=K) rfl) rfl bl.cU cT (aa (pv 0) ae)) ae)) ae)) (aP _))))),?_⟩;have hl:(ns.map V.int).length=ns.length:=Ya _;have rest:∀(D:Addr) (H1:Hp),ah H H1->H1 D=some (.lst ((List.replicate ns.length false).map V.bl))->
   ∃(U8:Addr) (bs:List Bool),[V.ref D]=[V.ref U8]/\aj K H1 U8 (bs.map V.bl)/\tB (tC (V.bl (bs.any id))) [] H1 (λc H2=>if c=true then Q (.bl false) H2 else
    (SN K false (hZ 0)) [some (.ref p)] H2 Q):=λD H1 g1 h1=>by
  refine⟨D,_,rfl,aj.of h1,_,rfl,?_⟩;rw[any_false];refine cz ?_;exact Zb7 rfl (Row.same g1 hR) jg λH' g=>q H' (g1.trans g)
 have turn:∀(D:Addr),H D=none->∀(i:Nat) (v:V) (ys:List V) (H1:Hp),(ns.map V.int)[i]?=some v->(ah H H1/\H1 D=some (.lst ys)/\ys=(List.replicate i false).map V.bl)->
   qE (IJ K) (iZ (hZ 0) (iZ (tC (V.ty "bool")) jR)) [some v] H1 λy H3=>H3 D=some (.lst ys)/\ys.length<sizeLine/\
    (ah H (upd H3 D (.lst (ys++[y])))/\upd H3 D (.lst (ys++[y])) D=some (.lst (ys++[y]))/\ys++[y]=(List.replicate (i+1) false).map V.bl):=λD hD i v ys H1 hi ⟨g,h1,e⟩=>by
  obtain⟨z,rfl,hz⟩:=mU hi;have dO:i<ns.length:=(Yg.mp hz).1;refine⟨_,rfl,_,_,_,false,rfl,.int z,G1,h1,?_,λb o q=>?_,aZ,?_⟩
  ·rw[e,Ya,W0];exact jJ (by omega)
  ·rw[a9 (bQ q hD)];exact g b o q
  ·rw[e,List.replicate_succ',Yj];rfl
 refine⟨_,rfl,p,rfl,?_⟩;rcases hR with xN|xN
 ·refine .inl ⟨⟨_,xN⟩,λD hD=>Fb (xs:=ns.map V.int) (λi ys H1=>ah H H1/\H1 D=some (.lst ys)/\ys=(List.replicate i false).map V.bl) ⟨cy hD _,aZ,rfl⟩ (λi ys H1 _ ⟨g,_,_⟩=>g.seq xN) (λi v ys H1 hi h=>l_ (c8 (turn D hD i v ys H1 hi h))) ?_⟩;rintro ys H1 ⟨g,h1,e⟩;exact rest D H1 g (by rw[h1,e,hl])
 ·refine .inr ⟨⟨_,xN⟩,λD hD=>yY (xs:=ns.map V.int) (λi ys H1=>ah H H1/\H1 D=some (.lst ys)/\ys=(List.replicate i false).map V.bl) ⟨cy hD _,aZ,rfl⟩ (λi ys H1 _ ⟨g,_,_⟩=>g.jh xN) (λi v ys H1 hi h=>l_ (c8 (turn D hD i v ys H1 hi h))) ?_⟩;rintro ys H1 ⟨g,h1,e⟩;exact rest D H1 g (by rw[h1,e,hl])
end
inductive Qh(K:PySem.W.Frag)(vs:List V)(H:Hp)(Q:VK):Prop
 |mk (a b:Addr) (xs ys:List Int) (aB:vs=[.ref a,.ref b]) (aT:aA K H a (xs.map V.int)) (bq:aA K H b (ys.map V.int)) (bR:(∀x∈xs,0<=x/\x<ys.length)) (cM:xs.length<64) (dZ:∀(t:Addr) (H':Hp),H t=none->ah H H'->H' t=some (.tup ((bJ ys xs).map V.int))->Q (.ref t) H'):Qh K vs H Q
def Hz(K:PySem.W.Frag):Sp:=λvs H Q _=>Qh K vs H Q
section
theorem ZT:aR ["first","then"] ["first","then"] (aJ EA):=⟨rfl,rfl,rfl,by decide+kernel,rfl,by decide+kernel,by decide+kernel⟩
theorem ZU(F:aK K "followed" "followed" EA f fd)(bl:Bl mg):aH P w K mg base aM 1 f fd ["first","then"] (Hz K):=by
 refine F.ok ZT (λvs H Q E h=>?_) (λaC A outer s H vs Q E hr h=>?_)
 ·obtain⟨a,b,xs,ys,rfl,_⟩:=h;rfl
 obtain⟨a,b,xs,ys,rfl,hA,hB,qI,hl,q⟩:=h;have al:(bJ ys xs).length=xs.length:=by unfold bJ;rw[Ya]
 refine⟨_,(au (aF (eN (tK) rfl bl.mV mQ (aa (iW (x:="section") (fr:=[("then",1)]) (cl:=[("then",s.heap.objs.size+1)]) rfl ⟨by with_unfolding_all rfl,⟨rfl,trivial⟩,rfl,by decide+kernel,rfl,by decide+kernel,rfl,⟨⟨rfl,.inl rfl,.inl rfl,rfl⟩,trivial⟩,by decide+kernel⟩ (GW (pv 0)) (λ_ _ _ _=>mS) (λ_ _ _ _=>(bg (gu (K:=K) rfl) (pv 1) (pv 0) (λ_ _=>rfl)))) ae)))),?_⟩;refine⟨_,rfl,a,rfl,⟨_,hA⟩,λD hD=>yY (xs:=xs.map V.int) (λi zs H3=>ah H H3/\H3 D=some (.lst zs)/\zs=((bJ ys xs).take i).map V.int) ⟨cy hD _,aZ,rfl⟩ (λi zs H3 _ ⟨g3,_,_⟩=>g3.jh hA) ?_ ?_⟩
 ·rintro i v zs H3 hi ⟨g3,h3,e3⟩;obtain⟨z,rfl,hz⟩:=mU hi;have bz:=qI z (Yh hz);refine l_ (c8 ⟨_,rfl,_,rfl,b,_,_,_,rfl,rfl,g3.jh hB,m6 bz.1 bz.2,h3,?_,λd o qd=>?_,aZ,?_⟩)
  ·rw[e3,Ya,Wd,al];exact jJ (by omega)
  ·rw[a9 (bQ qd hD)];exact g3 d o qd
  ·rw[e3,Y0,Fe];unfold bJ;rw[Yl,hz];rfl
 ·rintro zs H3 ⟨g3,h3,e3⟩;refine⟨D,_,rfl,.inl ⟨aj.of h3,λt ht=>q t _ (g3.free ht) (g3.trans (cy ht _)) ?_⟩⟩;show upd H3 t (.tup zs) t=_;rw[aZ,e3,Ya,Wu (by rw[al];omega)]
end
def jS(x:Int):List Int->Nat
 |[]=>0
 |y::r=>if y=x then 0 else jS x r+1
theorem y6{x:Int}:∀{l:List Int},x∈l->l[jS x l]?=some x/\∀m,m<jS x l->l[m]?≠some x
 |[],h=>by cases h
 |y::r,h=>by
  unfold jS;by_cases e:y=x;·grind
  ·rw[if_neg e];obtain⟨h1,h2⟩:=y6 ((Yt.mp h).resolve_left λz=>e z.symm);refine⟨by rw[List.getElem?_cons_succ];exact h1,λm hm=>?_⟩;cases m with
   |zero=>grind
   |succ m=>grind
theorem yO{l:List Int}(nd:l.Nodup){k:Nat}{x:Int}(h:l[k]?=some x):jS x l=k:=by
 obtain⟨h1,h2⟩:=y6 (Yh h);exact(List.getElem?_inj (by rcases Yg.mp h1 with⟨z,_⟩;exact z) nd).mp (h1.trans h.symm)
def inv(xs:List Int):List Int:=(bF xs.length).map λi=>(jS i xs:Int)
theorem fM(xs:List Int):(inv xs).length=xs.length:=by unfold inv;rw[Ya,eX]
theorem zo{xs:List Int}{i:Nat}(h:i<xs.length):(inv xs)[i]?=some (jS (i:Int) xs:Int):=by
 unfold inv;rw[Yl,lO h];rfl
theorem yG{xs:List Int}(h:full xs=true):xs.Nodup:=(pX h).nodup_iff.mpr (As.Ex _)
theorem ON{xs:List Int}(h:full xs=true){i:Nat}(hi:i<xs.length):(i:Int)∈xs:=(pX h).symm.subset (Yh (lO hi))
theorem jL{xs:List Int}(h:full xs=true):full (inv xs)=true:=by
 have p:(xs.map λi=>(jS i xs:Int)).Perm (inv xs):=(pX h).map _;have e:xs.map (λi=>(jS i xs:Int))=bF xs.length:=by
  refine Ww λi=>?_;rw[Yl];by_cases hi:i<xs.length
  ·rw[lO hi,Yb hi];show some (jS xs[i] xs:Int)=some (i:Int);rw[yO (yG h) (Yb hi)]
  ·rw[Y9 (by omega),Y9 (by rw[eX];omega)];rfl
 rw[e] at p;exact rb p.symm
theorem inv_inv{xs:List Int}(h:full xs=true):inv (inv xs)=xs:=by
 refine Ww λi=>?_;by_cases hi:i<xs.length
 ·rw[zo (by rw[fM];exact hi),Yb hi];have b:=qc h (Jp hi);have hk:(xs[i]).toNat<xs.length:=by omega
  have e:((xs[i].toNat:Nat):Int)=xs[i]:=by omega
  have g:(inv xs)[(xs[i]).toNat]?=some (i:Int):=by rw[zo hk,e,yO (yG h) (Yb hi)]
  rw[yO (yG (jL h)) g,e]
 ·rw[Y9 (by rw[fM,fM];omega),Y9 (by omega)]
theorem OO{xs:List Int}{i:Nat}(hi:i<xs.length):(inv xs).take (i+1)=(inv xs).take i++[(jS (i:Int) xs:Int)]:=by
 rw[Y0,zo hi];rfl
inductive RK(vs:List V)(H:Hp)(Q:VK):Prop
 |mk (a:Addr) (xs:List Int) (aB:vs=[.ref a]) (aT:H a=some (.tup (xs.map V.int))) (bq:xs.length<64) (bR:full xs=true) (cM:∀(t:Addr) (H':Hp),H t=none->ah H H'->H' t=some (.tup ((inv xs).map V.int))->Q (.ref t) H'):RK vs H Q
def z8:Sp:=λvs H Q _=>RK vs H Q
section
theorem X2:aR ["turn"] ["turn"] (aJ C4):=⟨rfl,rfl,rfl,by decide+kernel,rfl,by decide+kernel,by decide+kernel⟩
theorem X3(F:aK K "turned_back" "turned_back" C4 f fd)(bl:Bl mg):aH P w K mg base aM 1 f fd ["turn"] z8:=by
 refine F.ok X2 (λvs H Q E h=>?_) (λaC A outer s H1 vs Q E hr h=>?_)
 ·obtain⟨a,xs,rfl,_⟩:=h;rfl
 obtain⟨a,xs,rfl,hA,lx,fx,q⟩:=h;refine⟨_,(au (aF (eN (tK) rfl bl.mV mQ (aa (iW (x:="section") (fr:=[("turn",0)]) (cl:=[("turn",s.heap.objs.size+1)]) rfl ⟨by with_unfolding_all rfl,⟨rfl,trivial⟩,rfl,by decide+kernel,rfl,by decide+kernel,rfl,⟨⟨rfl,.inl rfl,.inl rfl,rfl⟩,trivial⟩,by decide+kernel⟩ (pW rfl bl.jM (aa (bL (c9 (K:=K) rfl) rfl bl.cU cT (aa (pv 0) ae)) ae)) (λ_ _ _ _=>mS) (λ_ _ _ _=>(MA (pv 1) (aa (pv 0) ae)))) ae)))),?_⟩;have el:(xs.map V.int).length=xs.length:=Ya _;refine⟨_,rfl,a,_,rfl,.inr (aA.of hA),_,rfl,by rw[el];omega,by rw[el];omega,λD hD=>vY (lo:=0) (n:=(((xs.map V.int).length:Nat):Int).toNat)
   (λi zs H2=>ah H1 H2/\H2 D=some (.lst zs)/\zs=((inv xs).take i).map V.int) ⟨cy hD _,aZ,rfl⟩ ?_ ?_⟩
 ·rintro i zs H2 hi ⟨g2,h2,e2⟩;rw[Y8,el] at hi;rw[AG];have hx:=y6 (ON fx hi);have xO:=g2 _ _ hA;refine l_ (c8 ⟨_,rfl,a,xs,rfl,xO,_,rfl,(i:Int),jS (i:Int) xs,rfl,xO,hx.1,hx.2,h2,?_,λd o qd=>?_,aZ,?_⟩)
  ·rw[e2,Ya,Wd,fM];exact jJ (by omega)
  ·rw[a9 (bQ qd hD)];exact g2 d o qd
  ·rw[e2,OO hi,Yj];rfl
 ·rintro zs H2 ⟨g2,h2,e2⟩;refine⟨D,_,rfl,.inl ⟨aj.of h2,λt ht=>q t _ (g2.free ht) (g2.trans (cy ht _)) ?_⟩⟩;rw[aZ,e2,Y8,el,Wu (by rw[fM];omega)]
end
inductive NN(vs:List V)(H:Hp)(Q:VK):Prop
 |mk (n:Nat) (aB:vs=[.int (n:Int)]) (aT:n<=1000) (bq:∀(t:Addr) (H':Hp),H t=none->ah H H'->H' t=some (.tup ((bF n).map V.int))->Q (.ref t) H'):NN vs H Q
def Gy:Sp:=λvs H Q _=>NN vs H Q
section
variable {c:Addr}
theorem Zcx:aR ["size"] ["size"] (aJ Gx):=⟨rfl,rfl,rfl,by decide+kernel,rfl,by decide+kernel,by decide+kernel⟩
theorem Zcy(F:aK K "still" "still" Gx f fd)(bl:Bl mg):aH P w K mg base aM 1 f fd ["size"] Gy:=by
 refine F.ok Zcx (λvs H Q E h=>?_) (λaC A outer s H vs Q E hr h=>?_)
 ·obtain⟨n,rfl,_⟩:=h;rfl
 obtain⟨n,rfl,hn,q⟩:=h;refine⟨_,(au (aF (eN (Mo rfl) rfl bl.mV mQ (aa (eN yy rfl bl.jM uf (aa (pv 0) ae)) ae)))),?_⟩;exact⟨_,rfl,_,rfl,λr uY=>⟨r,n,rfl,aZ,hn,λt ht=>q t _ ((cy uY _).free ht) ((cy uY _).trans (cy ht _)) aZ⟩⟩
end
inductive Qi(K:PySem.W.Frag)(vs:List V)(H:Hp)(Q:VK):Prop
 |mk (p:Addr) (ns:List Int) (aB:vs=[.ref p]) (aT:aA K H p (ns.map V.int)) (bq:ns.length<64) (bR:full ns=true) (cM:∀H',ah H H'->Q .ay H'):Qi K vs H Q
def HY(K:PySem.W.Frag):Sp:=λvs H Q _=>Qi K vs H Q
inductive RL(K:PySem.W.Frag)(vs:List V)(H:Hp)(Q:VK):Prop
 |mk (a b:Addr) (xs ys:List Int) (aB:vs=[.ref a,.ref b]) (aT:aA K H a (xs.map V.int)) (bq:aA K H b (ys.map V.int)) (bR:xs.length<64) (cM:full xs=true) (dZ:full ys=true) (ie:xs.length=ys.length) (ji:∀(t:Addr) (H':Hp),H t=none->ah H H'->H' t=some (.tup ((bJ ys xs).map V.int))->Q (.ref t) H'):RL K vs H Q
def IS(K:PySem.W.Frag):Sp:=λvs H Q _=>RL K vs H Q
inductive RM(vs:List V)(H:Hp)(Q:VK):Prop
 |mk (a:Addr) (xs:List Int) (aB:vs=[.ref a]) (aT:H a=some (.tup (xs.map V.int))) (bq:xs.length<64) (bR:full xs=true) (cM:∀(t:Addr) (H':Hp),H t=none->ah H H'->H' t=some (.tup ((inv xs).map V.int))->Q (.ref t) H'):RM vs H Q
def TZ:Sp:=λvs H Q _=>RM vs H Q
inductive OP(K:PySem.W.Frag)(vs:List V)(H:Hp)(Q:VK):Prop
 |mk (l a0:Addr) (as:List Addr) (n:Nat) (aB:vs=[.ref l]) (aT:aj K H l ((a0::as).map V.ref)) (bq:2<=n) (bR:n<=8) (cM:(∀a∈a0::as,∃xs:List Int,aA K H a (xs.map V.int)/\xs.length=n/\full xs=true)) (dZ:∀H',ah H H'->Q .ay H'):OP K vs H Q
def G7(K:PySem.W.Frag):Sp:=λvs H Q _=>OP K vs H Q
inductive ME(K:PySem.W.Frag)(vs:List V)(H:Hp)(Q:VK):Prop
 |mk (m f w:Addr) (xs ys:List Int) (aB:vs=[.ref m,.ref f,.ref w]) (aT:aA K H m (xs.map V.int)) (bq:aA K H f ((bJ xs ys).map V.int)) (bR:aA K H w (ys.map V.int)) (cM:full xs=true) (dZ:full ys=true) (ie:xs.length=ys.length) (ji:xs.length<=8) (qG:∀H',ah H H'->Q .ay H'):ME K vs H Q
def NO(K:PySem.W.Frag):Sp:=λvs H Q _=>ME K vs H Q
theorem q5(xs ys:List Int):(bJ xs ys).length=ys.length:=by unfold bJ;rw[Ya]
theorem FW{xs ys:List Int}(fx:full xs=true)(fy:full ys=true)(e:xs.length=ys.length):full (bJ xs ys)=true:=by
 have p1:(bJ xs ys).Perm ((bF ys.length).map λx=>xs.getD x.toNat 0):=(pX fy).map _;have e2:((bF ys.length).map λx=>xs.getD x.toNat 0)=xs:=by
  refine Ww λi=>?_;rw[Yl];by_cases hi:i<ys.length
  ·rw[lO hi]
   grind
  ·rw[Y9 (by rw[eX];omega),Y9 (by omega)];rfl
 rw[e2] at p1;exact rb (p1.trans (pX fx))
abbrev Zgh(n:Nat)(m f w d:Addr):List (Str×V):=[("size",.int (n:Int)),("mother",.ref m),("father",.ref f),("wife",.ref w),("steps",.ref d)]
abbrev wD(m f w im jf iw st:Addr):List (Key×V):=[(.inr "c",.ref m),(.inr "k",.ref f),(.inr "w",.ref w),(.inr "m",.ref im),(.inr "f",.ref jf),(.inr "h",.ref iw),(.inr "s",.ref st)]
def bV(H:Hp)(a:Addr)(ns:List Int):Prop:=H a=some (.tup (ns.map V.int))
inductive OQ(H:Hp)(C L:Addr)(xs ys:List Int):Prop
 |mk (dx d m f w im jf iw st:Addr) (aB:H L=some (.ins C dx (Zgh xs.length m f w d))) (aT:H d=some (.dK (wD m f w im jf iw st))) (bq:bV H m xs) (bR:bV H f (bJ xs ys)) (cM:bV H w ys) (dZ:bV H im (inv xs)) (ie:bV H jf (inv (bJ xs ys))) (ji:bV H iw (inv ys)) (qG:bV H st (bF xs.length)):OQ H C L xs ys
def iE(H:Hp)(C L:Addr)(xs ys:List Int):Prop:=OQ H C L xs ys
theorem iE.same{H H':Hp}{C L:Addr}{xs ys:List Int}(g:ah H H')(h:iE H C L xs ys):iE H' C L xs ys:=by
 obtain⟨dx,d,m,f,w,im,jf,iw,st,h1,h2,h3,h4,h5,h6,h7,h8,h9⟩:=h;exact⟨dx,d,m,f,w,im,jf,iw,st,g _ _ h1,g _ _ h2,g _ _ h3,g _ _ h4,g _ _ h5,g _ _ h6,g _ _ h7,g _ _ h8,g _ _ h9⟩
inductive OR(C:Addr)(vs:List V)(H:Hp)(Q:VK):Prop
 |mk (x dx m f w:Addr) (xs ys:List Int) (aB:vs=[.ref x,.ref m,.ref f,.ref w]) (aT:H x=some (.ins C dx [])) (bq:bV H m xs) (bR:bV H f (bJ xs ys)) (cM:bV H w ys) (dZ:full xs=true) (ie:full ys=true) (ji:xs.length=ys.length) (qG:2<=xs.length) (xG:xs.length<=8) (IT:∀H',(∀b o,H b=some o->b≠x->H' b=some o)->iE H' C x xs ys->Q .ay H'):OR C vs H Q
def RN(C:Addr):Sp:=λvs H Q _=>OR C vs H Q
inductive M6(C:Addr)(vs:List V)(H:Hp)(Q:VK):Prop
 |mk (m w:Addr) (xs ys:List Int) (aB:vs=[.ref m,.ref w]) (aT:bV H m xs) (bq:bV H w ys) (bR:full xs=true) (cM:full ys=true) (dZ:xs.length=ys.length) (ie:2<=xs.length) (ji:xs.length<=8) (qG:∀(L:Addr) (H':Hp),ah H H'->iE H' C L xs ys->Q (.ref L) H'):M6 C vs H Q
def OS(C:Addr):Sp:=λvs H Q _=>M6 C vs H Q
structure uE(K:PySem.W.Frag)(C:Addr):Prop where
 cls:fZ K C
 rH:dJ K C "size"
 Zcz:dJ K C "mother"
 ZcA:dJ K C "father"
 Zfr:dJ K C "wife"
 Gz:dJ K C "steps"
section
variable {c:Addr}
theorem YG:aR ["row"] ["row"] (aJ Du):=⟨rfl,rfl,rfl,by decide+kernel,rfl,by decide+kernel,by decide+kernel⟩
theorem Zfs(F:aK K "check_turn" "check_turn" Du f fd)(t_:HasFn P w K mg base 1 "is_turn" ["row"] (IQ K)):aH P w K mg base aM 2 f fd ["row"] (HY K):=by
 refine F.ok YG (λvs H Q E h=>?_) (λaC A outer s H vs Q E hr h=>?_)
 ·obtain⟨p,ns,rfl,_⟩:=h;rfl
 obtain⟨p,ns,rfl,hT,jg,fl,q⟩:=h;refine⟨_,(au (aQ (jO (fC (aW t_ hr (by omega) rfl (aa (pv 0) ae)))) fN aY)),?_⟩;refine⟨_,rfl,p,ns,rfl,.inr hT,jg,λH1 g=>⟨_,rfl,?_⟩⟩;rw[fl];exact cz (q H1 g)
theorem ZbB:aR ["first","then"] ["first","then"] (aJ FR):=⟨rfl,rfl,rfl,by decide+kernel,rfl,by decide+kernel,by decide+kernel⟩
theorem Zgi(F:aK K "behind" "behind" FR f fd)(qY:HasFn P w K mg base 2 "check_turn" ["row"] (HY K))(pV:HasFn P w K mg base 1 "followed" ["first","then"] (Hz K))(bl:Bl mg):aH P w K mg base aM 3 f fd ["first","then"] (IS K):=by
 refine F.ok ZbB (λvs H Q E h=>?_) (λaC A outer s H vs Q E hr h=>?_)
 ·obtain⟨a,b,xs,ys,rfl,_⟩:=h;rfl
 obtain⟨a,b,xs,ys,rfl,hA,hB,lx,fx,fy,eq,q⟩:=h;refine⟨_,(ak (bY (aW qY hr (by omega) rfl (aa (pv 0) ae))) (ak (bY (aW qY hr (by omega) rfl (aa (pv 1) ae))) (ak (aQ (aU kR (bL (c9 (K:=K) rfl) rfl bl.cU cT (aa (pv 0) ae)) (bL (c9 (K:=K) rfl) rfl bl.cU cT (aa (pv 1) ae)) (aP _)) fN aY) (au (aF (aW pV hr (by omega) rfl (aa (pv 0) (aa (pv 1) ae)))))))),?_⟩;refine⟨_,rfl,a,xs,rfl,hA,lx,fx,λH1 g1=>?_⟩;refine⟨_,rfl,b,ys,rfl,g1.jh hB,by omega,fy,λH2 g2=>?_⟩;have g:=g1.trans g2;have U9:=g.jh hA;have U_:=g.jh hB;have el:∀zs:List Int,(zs.map V.int).length=zs.length:=λzs=>Ya _;refine⟨_,rfl,a,_,rfl,.inr U9,_,rfl,b,_,rfl,.inr U_,rfl,_,rfl,uC (by rw[el,el,eq]) (aX ?_)⟩;exact⟨_,rfl,_,rfl,a,b,xs,ys,rfl,U9,U_,λz hz=>by rw[←eq];exact qc fx hz,lx,λt H3 nt g3 ht=>q t H3 (g.free nt) (g.trans g3) ht⟩
theorem ZdK:aR ["turn"] ["turn"] (aJ G6):=⟨rfl,rfl,rfl,by decide+kernel,rfl,by decide+kernel,by decide+kernel⟩
theorem Zgj(F:aK K "back" "back" G6 f fd)(qY:HasFn P w K mg base 2 "check_turn" ["row"] (HY K))(oh:HasFn P w K mg base 1 "turned_back" ["turn"] z8)(bl:Bl mg):aH P w K mg base aM 3 f fd ["turn"] TZ:=by
 refine F.ok ZdK (λvs H Q E h=>?_) (λaC A outer s H vs Q E hr h=>?_)
 ·obtain⟨a,xs,rfl,_⟩:=h;rfl
 obtain⟨a,xs,rfl,hA,lx,fx,q⟩:=h;refine⟨_,(ak (bY (aW qY hr (by omega) rfl (aa (pv 0) ae))) (au (aF (aW oh hr (by omega) rfl (aa (pv 0) ae))))),?_⟩;refine⟨_,rfl,a,xs,rfl,aA.of hA,lx,fx,λH1 g1=>?_⟩;exact⟨_,rfl,a,xs,rfl,g1 _ _ hA,lx,fx,λt H2 nt g2 ht=>q t H2 (g1.free nt) (g1.trans g2) ht⟩
theorem Dc:aR ["rows","size","row"] ["rows"] (aJ Dv):=⟨rfl,rfl,rfl,by decide+kernel,rfl,by decide+kernel,by decide+kernel⟩
theorem ZdL(F:aK K "check_rows" "check_rows" Dv f fd)(t_:HasFn P w K mg base 1 "is_turn" ["row"] (IQ K)){t1 t2:Tok}(DC:mg "LEAST_SIZE"=some (.int 2 t1))(Eb:mg "MOST_SIZE"=some (.int 8 t2))(bl:Bl mg):aH P w K mg base aM 2 f fd ["rows"] (G7 K):=by
 refine F.ok Dc (λvs H Q E h=>?_) (λaC A outer s H vs Q E hr h=>?_)
 ·obtain⟨l,a0,as,n,rfl,_⟩:=h;rfl
 obtain⟨l,a0,as,n,rfl,hL,n2,n8,rows,q⟩:=h;refine⟨_,(ak (a_ (i:=1) Dc.nd rfl (Or.inl rfl) (bL (c9 (K:=K) rfl) rfl bl.cU cT (aa (bg (cA (K:=K) rfl) (pv 0) aL (λ_ _=>rfl)) ae))) (ak (aQ (PW.pt (pw_or (aU lU (pv 1) (dD (v:=.int (2)) rfl DC ⟨_,rfl⟩) (aP _)) (pw_or1 (aU Hu (pv 1) (dD (v:=.int (8)) rfl Eb ⟨_,rfl⟩) (aP _))))) fN aY) (au (eY PassesOwn.never rfl (d_ (K:=K) rfl (pv 0)) (a8 (i:=2) Dc.nd rfl (Or.inl rfl)) (au (aQ (PW.pt (pw_or (aU kR (bL (c9 (K:=K) rfl) rfl bl.cU cT (aa (pv 2) ae)) (pv 1) (aP _)) (pw_or1 (jO (fC (aW t_ hr (by omega) rfl (aa (pv 2) ae))))))) fN aY)))))),?_⟩;have el:∀zs:List Int,(zs.map V.int).length=zs.length:=λzs=>Ya _;obtain⟨x0,h0,l0,f0⟩:=rows a0 Yk;refine⟨_,rfl,l,_,0,.ref a0,rfl,rfl,hL,hV (j:=0) rfl,a0,_,rfl,.inr h0,?_⟩;rw[el,l0];refine⟨_,rfl,_,_,rfl,rfl,_,rfl,bB (λcc=>absurd (of_decide_eq_true cc) (by omega)) (λ_=>?_)⟩;refine⟨_,rfl,_,_,rfl,rfl,_,rfl,bB (λcc=>absurd (of_decide_eq_true cc) (by omega)) (λ_=>aX ?_)⟩;refine⟨_,rfl,l,rfl,⟨_,hL⟩,hJ (xs:=(a0::as).map V.ref) (λi σ H1=>ah H H1/\∃o2:Option V,σ=[some (.ref l),some (.int (n:Int)),o2]) ⟨ah.refl _,none,rfl⟩ (λi σ H1 _ ⟨g,_⟩=>g.seq hL) ?_ ?_⟩
 ·rintro i v σ H1 hi ⟨g,o2,rfl⟩;rw[Yl] at hi;obtain⟨a,ha,rfl⟩:∃a,a∈a0::as/\V.ref a=v:=by
   cases e:(a0::as)[i]? with
   |none=>rw[e] at hi;cases hi
   |some a=>grind
  obtain⟨xs,hx,lx,fx⟩:=rows a ha;refine⟨_,rfl,a,_,rfl,.inr (g.jh hx),_,rfl,rfl,_,rfl,uC (by rw[el,lx]) ?_⟩;refine⟨_,rfl,a,xs,rfl,.inr (g.jh hx),by omega,λH2 g2=>⟨_,rfl,?_⟩⟩;rw[fx];exact cz (aX ⟨g.trans g2,_,rfl⟩)
 ·rintro σ H1 ⟨g,o2,rfl⟩;exact q H1 g
theorem BY:aR ["mother","father","wife","by_mothers","section"] ["mother","father","wife"] (aJ B_):=⟨rfl,rfl,rfl,by decide+kernel,rfl,by decide+kernel,by decide+kernel⟩
theorem ZaB(F:aK K "check_parents" "check_parents" B_ f fd)(uh:HasFn P w K mg base 3 "behind" ["first","then"] (IS K))(bl:Bl mg):aH P w K mg base aM 4 f fd ["mother","father","wife"] (NO K):=by
 refine F.ok BY (λvs H Q E h=>?_) (λaC A outer s H vs Q E hr h=>?_)
 ·obtain⟨m,fa,wi,xs,ys,rfl,_⟩:=h;rfl
 obtain⟨m,fa,wi,xs,ys,rfl,hM,hF,hW,fx,fy,eq,l8,q⟩:=h;refine⟨_,(ak (a_ (i:=3) BY.nd rfl (Or.inl rfl) (aW uh hr (by omega) rfl (aa (pv 2) (aa (pv 0) ae)))) (au (eY PassesOwn.never rfl (pW rfl bl.jM (aa (bL (c9 (K:=K) rfl) rfl bl.cU cT (aa (pv 1) ae)) ae)) (a8 (i:=4) BY.nd rfl (Or.inl rfl)) (au (aQ (aU kR (bg (gu (K:=K) rfl) (pv 3) (pv 4) (λ_ _=>rfl)) (bg (gu (K:=K) rfl) (pv 1) (pv 4) (λ_ _=>rfl)) (aP _)) fN aY))))),?_⟩;have el:∀zs:List Int,(zs.map V.int).length=zs.length:=λzs=>Ya _;refine⟨_,rfl,_,rfl,wi,m,ys,xs,rfl,hW,hM,by omega,fy,fx,eq.symm,λt H1 nt g ht=>?_⟩;have al:=q5 xs ys;refine⟨_,rfl,fa,_,rfl,.inr (g.jh hF),_,rfl,by rw[el];omega,by rw[el];omega,E9 (lo:=0) (n:=((((bJ xs ys).map V.int).length:Nat):Int).toNat)
  (λi σ H2=>H2=H1/\∃o4:Option V,σ=[some (.ref m),some (.ref fa),some (.ref wi),some (.ref t),o4]) ⟨rfl,none,rfl⟩ ?_ ?_⟩
 ·rintro i σ H2 hi ⟨rfl,o4,rfl⟩;rw[Y8,el] at hi;have at_:dv ((bJ xs ys).map V.int) (0+(i:Int))=some (.int ((bJ xs ys).getD (0+(i:Int)).toNat 0)):=m6 (by omega) (by omega);refine⟨_,rfl,_,rfl,t,_,_,_,rfl,rfl,aA.of ht,at_,_,rfl,_,rfl,fa,_,_,_,rfl,rfl,g.jh hF,at_,rfl,_,rfl,uC rfl (aX ⟨rfl,_,rfl⟩)⟩
 ·rintro σ H2 ⟨rfl,o4,rfl⟩;exact q _ g
end
theorem uZ{f:Str}{y:V}{fs:List (Str×V)}{n:Nat}(h:fs.length<=n):(cR f y fs).length<=n+1:=Y4 (DU f y fs) (Nat.succ_le_succ h)
theorem fs4(a b c d:V):cR "wife" d (cR "father" c (cR "mother" b (cR "size" a [])))=([("size",a),("mother",b),("father",c),("wife",d)]:List (Str×V)):=rfl
theorem fs5(a b c d e:V):cR "steps" e [("size",a),("mother",b),("father",c),("wife",d)]=([("size",a),("mother",b),("father",c),("wife",d),("steps",e)]:List (Str×V)):=rfl
theorem ds7(a b c d e f g:V):oG [] [(.inr "c",a),(.inr "k",b),(.inr "w",c),(.inr "m",d),(.inr "f",e),(.inr "h",f),(.inr "s",g)]=[(.inr "c",a),(.inr "k",b),(.inr "w",c),(.inr "m",d),(.inr "f",e),(.inr "h",f),(.inr "s",g)]:=rfl
section
variable {c:Addr}
theorem Zc:aR ["self","mother","father","wife"] ["self","mother","father","wife"] (aJ D7):=⟨rfl,rfl,rfl,by decide+kernel,rfl,by decide+kernel,by decide+kernel⟩
theorem ZdM(F:aK K "__init__" "Land.__init__" D7 f fd)(lc:uE K C)(tN:HasFn P w K mg base 2 "check_rows" ["rows"] (G7 K))(Cg:HasFn P w K mg base 4 "check_parents" ["mother","father","wife"] (NO K))
  (wF:HasFn P w K mg base 3 "back" ["turn"] TZ)(uq:HasFn P w K mg base 1 "still" ["size"] Gy)(bl:Bl mg):aH P w K mg base aM 5 f fd ["self","mother","father","wife"] (RN C):=by
 refine F.ok Zc (λvs H Q E h=>?_) (λaC A outer s H vs Q E hr h=>?_)
 ·obtain⟨x,dx,m,fa,wi,xs,ys,rfl,_⟩:=h;rfl
 obtain⟨x,dx,m,fa,wi,xs,ys,rfl,hx,hM,hF,hW,fx,fy,eq,l2,l8,q⟩:=h;refine⟨_,(ak (bY (aW tN hr (by omega) rfl (aa (wx (aa (pv 1) (aa (pv 2) (aa (pv 3) ae)))) ae))) (ak (bY (aW Cg hr (by omega) rfl (aa (pv 1) (aa (pv 2) (aa (pv 3) ae))))) (ak (wu (pv 0) (bL (c9 (K:=K) rfl) rfl bl.cU cT (aa (pv 1) ae)) rfl) (ak (wu (pv 0) (pv 1) rfl) (ak (wu (pv 0) (pv 2) rfl) (ak (wu (pv 0) (pv 3) rfl) (au (wu (pv 0) (zk (jK bC (pv 1) (jK bC (pv 2) (jK bC (pv 3) (jK bC (aW wF hr (by omega) rfl (aa (pv 1) ae)) (jK bC (aW wF hr (by omega) rfl (aa (pv 2) ae)) (jK bC (aW wF hr (by omega) rfl (aa (pv 3) ae)) (jK bC (aW uq hr (by omega) rfl (aa (bL (c9 (K:=K) rfl) rfl bl.cU cT (aa (pv 1) ae)) ae)) zh))))))) rfl rfl (λz=>nomatch z) (Jl rfl)) rfl)))))))),?_⟩;have el:∀zs:List Int,(zs.map V.int).length=zs.length:=λzs=>Ya _;have Va:=FW fx fy eq;have al:=q5 xs ys;refine⟨_,rfl,_,rfl,_,rfl,by show 3<=sizeLine;decide,λl nl=>?_⟩;have g1:=cy nl (.lst [.ref m,.ref fa,.ref wi]);refine⟨l,m,[fa,wi],xs.length,rfl,aj.of aZ,l2,l8,λa ha=>?_,λH2 g2=>?_⟩
 ·rcases Yt.mp ha with rfl|ha;·exact⟨xs,aA.of (g1 _ _ hM),rfl,fx⟩
  ·rcases Yt.mp ha with rfl|ha;·exact⟨bJ xs ys,aA.of (g1 _ _ hF),by rw[al,eq],Va⟩
   ·rw[Ye] at ha;subst ha;exact⟨ys,aA.of (g1 _ _ hW),eq.symm,fy⟩
 have AH:=g1.trans g2;refine⟨_,rfl,_,rfl,_,rfl,m,fa,wi,xs,ys,rfl,aA.of (AH _ _ hM),aA.of (AH _ _ hF),aA.of (AH _ _ hW),fx,fy,eq,l8,λH3 g3=>?_⟩;have g:=AH.trans g3;have AI:=g _ _ hx;have AJ:=g _ _ hM;have Ks:=g _ _ hF;have Ku:=g _ _ hW;have nm:m≠x:=λe=>by rw[e,AI] at AJ;cases AJ
 have nf:fa≠x:=λe=>by rw[e,AI] at Ks;cases Ks
 have nw:wi≠x:=λe=>by rw[e,AI] at Ku;cases Ku
 refine⟨_,rfl,m,_,rfl,.inr (aA.of AJ),_,rfl,x,C,dx,_,rfl,AI,lc.cls,lc.rH,by decide,?_⟩;refine⟨_,rfl,_,rfl,x,C,dx,_,rfl,aZ,lc.cls,lc.Zcz,W8 (uZ (Yd 0)) (by decide),?_⟩;refine⟨_,rfl,_,rfl,x,C,dx,_,rfl,aZ,lc.cls,lc.ZcA,W8 (uZ (uZ (Yd 0))) (by decide),?_⟩;refine⟨_,rfl,_,rfl,x,C,dx,_,rfl,aZ,lc.cls,lc.Zfr,W8 (uZ (uZ (uZ (Yd 0)))) (by decide),?_⟩;rw[Gn,Gn,Gn,el,fs4];have Kv:upd H3 x (.ins C dx [("size",.int (xs.length:Int)),("mother",.ref m),("father",.ref fa),("wife",.ref wi)]) x=some (.ins C dx [("size",.int (xs.length:Int)),("mother",.ref m),("father",.ref fa),("wife",.ref wi)]):=aZ;have o4:∀b o,H3 b=some o->b≠x->upd H3 x (.ins C dx [("size",.int (xs.length:Int)),("mother",.ref m),("father",.ref fa),("wife",.ref wi)]) b=some o:=λb o e n=>by rw[a9 n];exact e
 generalize upd H3 x (.ins C dx [("size",.int (xs.length:Int)),("mother",.ref m),("father",.ref fa),("wife",.ref wi)])=H4 at Kv o4⊢;have Kw:=o4 _ _ AJ nm;have Vb:=o4 _ _ Ks nf;have Vc:=o4 _ _ Ku nw;intro d nd;have g5:=cy nd (.dK []);have Kx:upd H4 d (.dK []) d=some (.dK []):=aZ;generalize upd H4 d (.dK [])=H5 at g5 Kx⊢;refine⟨_,rfl,_,rfl,_,rfl,?_⟩;refine⟨_,rfl,m,xs,rfl,g5 _ _ Kw,by omega,fx,λim H6 nim g6 Ky=>?_⟩;refine⟨_,rfl,fa,bJ xs ys,rfl,g6 _ _ (g5 _ _ Vb),by omega,Va,λjf H7 njf g7 Kz=>?_⟩;refine⟨_,rfl,wi,ys,rfl,g7 _ _ (g6 _ _ (g5 _ _ Vc)),by omega,fy,λiw H8 niw g8 hiw=>?_⟩;have Vd:=(g6.trans g7).trans g8;refine⟨_,rfl,m,_,rfl,.inr (aA.of (Vd _ _ (g5 _ _ Kw))),xs.length,by rw[el];rfl,by omega,λst H9 AK g9 ib=>?_⟩;have sI:=Vd.trans g9;refine⟨sI _ _ Kx,wD m fa wi im jf iw st,rfl,by show 7<=15;decide,?_⟩;have jj:d≠x:=bQ Kv nd |>.symm;have Ve:=sI _ _ (g5 _ _ Kv);refine⟨_,rfl,x,C,dx,_,rfl,by rw[a9 jj.symm];exact Ve,lc.cls,lc.Gz,by show 4<1000;decide,?_⟩;rw[fs5,ds7];have key:∀{b:Addr} {o:HO},H9 b=some o->b≠d->b≠x->upd (upd H9 d (.dK (wD m fa wi im jf iw st))) x (.ins C dx [("size",.int (xs.length:Int)),("mother",.ref m),("father",.ref fa),("wife",.ref wi),("steps",.ref d)]) b=some o:=λ{b o} e n1 n2=>by
  rw[a9 n2,a9 n1];exact e
 have rZ:∀{b:Addr} {zs:List Int},H9 b=some (.tup (zs.map V.int))->bV (upd (upd H9 d (.dK (wD m fa wi im jf iw st))) x (.ins C dx [("size",.int (xs.length:Int)),("mother",.ref m),("father",.ref fa),("wife",.ref wi),("steps",.ref d)])) b zs:=λ{b zs} e=>
  key e (λz=>by rw[z,sI _ _ Kx] at e;cases e) (λz=>by rw[z,Ve] at e;cases e)
 refine q _ (λb o e n=>?_) ⟨dx,d,m,fa,wi,im,jf,iw,st,aZ,by rw[a9 jj];exact aZ,rZ (sI _ _ (g5 _ _ Kw)),rZ (sI _ _ (g5 _ _ Vb)),rZ (sI _ _ (g5 _ _ Vc)),rZ (g9 _ _ (g8 _ _ (g7 _ _ Ky))),rZ (g9 _ _ (g8 _ _ Kz)),rZ (g9 _ _ hiw),rZ ib⟩;have e4:=o4 _ _ (g _ _ e) n;refine key (sI _ _ (g5 _ _ e4)) (bQ e4 nd) n
theorem ZaC:aR ["mother","wife"] ["mother","wife"] (aJ Fh):=⟨rfl,rfl,rfl,by decide+kernel,rfl,by decide+kernel,by decide+kernel⟩
theorem ZaD(F:aK K "land_of" "land_of" Fh f fd)(tN:HasFn P w K mg base 2 "check_rows" ["rows"] (G7 K))(uh:HasFn P w K mg base 3 "behind" ["first","then"] (IS K))
  (G8:wO P w K mg base 5 "Land" C ["self","mother","father","wife"] (RN C)):aH P w K mg base aM 7 f fd ["mother","wife"] (OS C):=by
 refine F.ok ZaC (λvs H Q E h=>?_) (λaC A outer s H vs Q E hr h=>?_)
 ·obtain⟨m,wi,xs,ys,rfl,_⟩:=h;rfl
 obtain⟨m,wi,xs,ys,rfl,hM,hW,fx,fy,eq,l2,l8,q⟩:=h;refine⟨_,(ak (bY (aW tN hr (by omega) rfl (aa (wx (aa (pv 0) (aa (pv 1) ae))) ae))) (au (aF (Hv G8 hr (by omega) rfl (aa (pv 0) (aa (aW uh hr (by omega) rfl (aa (pv 1) (aa (pv 0) ae))) (aa (pv 1) ae))))))),?_⟩;refine⟨_,rfl,_,rfl,by show 2<=sizeLine;decide,λl nl=>?_⟩;have g1:=cy nl (.lst [.ref m,.ref wi]);refine⟨l,m,[wi],xs.length,rfl,aj.of aZ,l2,l8,λa ha=>?_,λH2 g2=>?_⟩
 ·rcases Yt.mp ha with rfl|ha;·exact⟨xs,aA.of (g1 _ _ hM),rfl,fx⟩
  ·rw[Ye] at ha;subst ha;exact⟨ys,aA.of (g1 _ _ hW),eq.symm,fy⟩
 have g:=g1.trans g2;refine⟨_,rfl,_,rfl,_,rfl,wi,m,ys,xs,rfl,aA.of (g _ _ hW),aA.of (g _ _ hM),by omega,fy,fx,eq.symm,λfa H3 Vf g3 cV=>?_⟩;have dw:=g.trans g3;refine⟨_,rfl,λx dx nx xP ne=>?_⟩;have xQ:upd H3 dx (.own x) x=none:=by rw[a9 (λz=>ne z.symm)];exact nx
 have g4:ah H3 (upd (upd H3 dx (.own x)) x (.ins C dx [])):=(cy xP _).trans (cy xQ _);refine⟨x,dx,m,fa,wi,xs,ys,rfl,aZ,g4 _ _ (dw _ _ hM),g4 _ _ cV,g4 _ _ (dw _ _ hW),fx,fy,eq,l2,l8,λH5 k5 la=>⟨rfl,q x H5 (λb o e=>?_) la⟩⟩;have e3:=dw _ _ e;exact k5 b o (g4 _ _ e3) (bQ e3 nx)
end
abbrev zH(xs ys:List Int):List (Str×List Int):=[("c",xs),("k",bJ xs ys),("w",ys),("m",inv xs),("f",inv (bJ xs ys)),("h",inv ys),("s",bF xs.length)]
inductive OT(C:Addr)(vs:List V)(H:Hp)(Q:VK):Prop
 |mk (L:Addr) (z:Str) (xs ys ns:List Int) (aB:vs=[.ref L,.str z]) (aT:iE H C L xs ys) (bq:(z,ns)∈zH xs ys) (bR:∀t:Addr,bV H t ns->Q (.ref t) H):OT C vs H Q
def RO(C:Addr):Sp:=λvs H Q _=>OT C vs H Q
theorem step_at{H:Hp}{xs ys ns:List Int}{z:Str}{m f w im jf iw st:Addr}(h:(z,ns)∈zH xs ys)(h3:bV H m xs)(h4:bV H f (bJ xs ys))(h5:bV H w ys)(h6:bV H im (inv xs))(h7:bV H jf (inv (bJ xs ys)))(h8:bV H iw (inv ys))(h9:bV H st (bF xs.length)):
  ∃t,aS (wD m f w im jf iw st) (.inr z)=some (.ref t)/\bV H t ns:=by
 simp only[Yt,Y3,or_false] at h;rcases h with⟨rfl,rfl⟩|⟨rfl,rfl⟩|⟨rfl,rfl⟩|⟨rfl,rfl⟩|⟨rfl,rfl⟩|⟨rfl,rfl⟩|⟨rfl,rfl⟩;·exact⟨m,rfl,h3⟩
 ·exact⟨f,rfl,h4⟩
 ·exact⟨w,rfl,h5⟩
 ·exact⟨im,rfl,h6⟩
 ·exact⟨jf,rfl,h7⟩
 ·exact⟨iw,rfl,h8⟩
 ·exact⟨st,rfl,h9⟩
section
theorem Zd:aR ["self","letter"] ["self","letter"] (aJ D8):=⟨rfl,rfl,rfl,by decide+kernel,rfl,by decide+kernel,by decide+kernel⟩
theorem ZdN(F:aK K "step" "Land.step" D8 f fd)(lc:uE K C):aH P w K mg base aM 1 f fd ["self","letter"] (RO C):=by
 refine F.ok Zd (λvs H Q E h=>?_) (λaC A outer s H vs Q E hr h=>?_)
 ·obtain⟨L,z,xs,ys,ns,rfl,_⟩:=h;rfl
 obtain⟨L,z,xs,ys,ns,rfl,la,hz,q⟩:=h;refine⟨_,(ak (aQ (jN (mO (bH hr) (pv 1) (aV (K:=K) rfl (pv 0) rfl)) (by with_unfolding_all rfl)) fN aY) (au (aF (dh (bH hr) (aV (K:=K) rfl (pv 0) rfl) (pv 1) (λ_ _=>rfl))))),?_⟩;obtain⟨dx,d,m,fa,wi,im,jf,iw,st,h1,h2,h3,h4,h5,h6,h7,h8,h9⟩:=la;obtain⟨t,hv,ht⟩:=step_at hz h3 h4 h5 h6 h7 h8 h9;have dg:=hv▸eC.k h2;exact⟨_,rfl,_,rfl,L,C,dx,_,.ref d,rfl,h1,lc.cls,lc.Gz,rfl,d,_,rfl,dg,_,rfl,cz (aX ⟨_,rfl,L,C,dx,_,.ref d,rfl,h1,lc.cls,lc.Gz,rfl,_,rfl,d,_,rfl,dg,q t ht⟩)⟩
end
structure JS where
 hd:List Nat
 ld:List (List Int)
 mem:List (Nat×List Nat)
 fr:List (Nat×List Int)
structure JL where
 J:Addr
 ha:Addr
 la:Addr
 md:Addr
 fd:Addr
 eU:List Addr
 fR:List Addr
 ck:List Addr
def JL.fp(l:JL):List Addr:=l.J::l.ha::l.la::l.md::l.fd::l.fR
abbrev JF(n:Nat)(ha la md fd:Addr):List (Str×V):=[("size",.int (n:Int)),("heads",.ref ha),("leads",.ref la),("members",.ref md),("free",.ref fd)]
theorem jf5(a b c d e:V):cR "free" e (cR "members" d (cR "leads" c (cR "heads" b (cR "size" a []))))=([("size",a),("heads",b),("leads",c),("members",d),("free",e)]:List (Str×V)):=rfl
abbrev dP(is:List Nat):List V:=is.map λi:Nat=>V.int (i:Int)
def bh(ks:List Nat)(as:List Addr):List (Key×V):=(ks.zip as).map λp=>(.inl (p.1:Int),.ref p.2)
structure cI(H:Hp)(C:Addr)(n:Nat)(l:JL)(st:JS):Prop where
 obj:∃dx,H l.J=some (.ins C dx (JF n l.ha l.la l.md l.fd))
 heads:H l.ha=some (.lst (dP st.hd))
 iG:H l.la=some (.lst (l.eU.map V.ref))
 lead:Paired (λa xs=>H a=some (.tup (xs.map V.int))) l.eU st.ld
 jw:H l.md=some (.dK (bh (st.mem.map (·.1)) l.fR))
 mem:Paired (λa p=>H a=some (.lst (dP p.2))) l.fR st.mem
 frees:H l.fd=some (.dK (bh (st.fr.map (·.1)) l.ck))
 free:Paired (λa p=>H a=some (.lst (p.2.map V.int))) l.ck st.fr
 nd:l.fp.Nodup
 out:∀a∈l.ck,a∉l.fp
theorem cI.same{H H':Hp}{C:Addr}{n:Nat}{l:JL}{st:JS}(g:ah H H')(a:cI H C n l st):cI H' C n l st:=
 ⟨let⟨dx,h⟩:=a.obj;⟨dx,g _ _ h⟩,g _ _ a.heads,g _ _ a.iG,L2.Paired.bp a.lead λ_ _ h=>g _ _ h,g _ _ a.jw,L2.Paired.bp a.mem λ_ _ h=>g _ _ h,g _ _ a.frees,L2.Paired.bp a.free λ_ _ h=>g _ _ h,a.nd,a.out⟩
theorem vZ{α β:Type}{F:α->β->Prop}:∀{xs:List α} {ys:List β} {x:α},Paired F xs ys->x∈xs->∃y,F x y:=by
 intro xs ys x p;induction p with
 |nil=>grind
 |cons f t ih=>grind
theorem cI.ne{H:Hp}{C p:Addr}{n:Nat}{l:JL}{st:JS}(a:cI H C n l st)(h:H p=none):p∉l.fp:=by
 intro z;unfold JL.fp at z;simp only[Yt] at z;rcases z with rfl|rfl|rfl|rfl|rfl|z
 ·obtain⟨dx,e⟩:=a.obj
  grind
 ·rw[a.heads] at h;cases h
 ·rw[a.iG] at h;cases h
 ·rw[a.jw] at h;cases h
 ·rw[a.frees] at h;cases h
 ·obtain⟨y,e⟩:=vZ a.mem z
  grind
theorem lN{α:Type}{H:Hp}{f:α->HO}:∀{as:List Addr} {ps:List (Nat×α)} {k:Nat} {v:α},Paired (λa p=>H a=some (f p.2)) as ps->ps.lookup k=some v->∃a,a∈as/\aS (bh (ps.map (·.1)) as) (.inl (k:Int))=some (.ref a)/\H a=some (f v):=by
 intro as ps k v pr;induction pr with
 |nil=>grind
 |@cons a p as ps e t ih=>
  intro h;have e0:bh ((p::ps).map (·.1)) (a::as)=(Sum.inl (p.1:Int),V.ref a)::bh (ps.map (·.1)) as:=rfl;rw[Wt] at h;by_cases ek:k=p.1
  ·have eb:(k==p.1)=true:=beq_iff_eq.mpr ek;rw[eb] at h;exact⟨a,Yk,fO (p:=((Sum.inl (p.1:Int):Key),V.ref a)) (by rw[ek]),by rw[←(Yp h)];exact e⟩
  ·have eb:(k==p.1)=false:=beq_eq_false_iff_ne.mpr ek;rw[eb] at h;obtain⟨b,hb,q,w⟩:=ih h;refine⟨b,Yv _ hb,?_,w⟩;rw[e0,fq (p:=((Sum.inl (p.1:Int):Key),V.ref a)) (λz=>ek (by have:=J7 z;omega))];exact q
theorem ZcB{q k:Nat}{ks:List Nat}{v:V}(z:((Sum.inl (q:Int):Key),v).1=.inl (k:Int)):k∈q::ks:=by
 grind
theorem yP:∀{as:List Addr} {ks:List Nat} {k:Nat},k∉ks->aS (bh ks as) (.inl (k:Int))=none
 |[],ks,k,_=>by unfold bh;rw[List.zip_nil_right];rfl
 |a::as,[],k,_=>rfl
 |a::as,q::ks,k,h=>by
  have e0:bh (q::ks) (a::as)=(Sum.inl (q:Int),V.ref a)::bh ks as:=rfl;rw[e0,fq (p:=((Sum.inl (q:Int):Key),V.ref a)) (λz=>h (ZcB z))];exact yP λz=>h (Yv _ z)
theorem v8:∀{ks:List Nat} {as:List Addr} (k:Nat) (a:Addr),ks.length=as.length->bh ks as++[(.inl (k:Int),.ref a)]=bh (ks++[k]) (as++[a])
 |[],[],_,_,_=>rfl
 |q::ks,b::as,k,a,h=>by
  have e0:bh (q::ks) (b::as)=(Sum.inl (q:Int),V.ref b)::bh ks as:=rfl;rw[e0,UY,(v8 (ks:=ks) (as:=as) k a (by simpa using h))];rfl
 |[],_::_,_,_,h=>by simp at h
 |_::_,[],_,_,h=>by simp at h
structure lS(K:PySem.W.Frag)(C:Addr):Prop where
 cls:fZ K C
 rH:dJ K C "size"
 jt:dJ K C "heads"
 mW:dJ K C "leads"
 ua:dJ K C "members"
 rJ:dJ K C "free"
def JS.more(n:Nat)(st:JS):JS:=⟨st.hd++[st.hd.length],st.ld++[bF n],st.mem++[(st.hd.length,[st.hd.length])],st.fr++[(st.hd.length,bF n)]⟩
inductive OU(C:Addr)(vs:List V)(H:Hp)(Q:VK):Prop
 |mk (x dx:Addr) (n:Nat) (aB:vs=[.ref x,.int (n:Int)]) (aT:H x=some (.ins C dx [])) (bq:∀(l:JL) (H':Hp),l.J=x->l.fR=[]->(∀b∈l.fp,b≠x->H b=none)->aw x H H'->cI H' C n l ⟨[],[],[],[]⟩->Q .ay H'):OU C vs H Q
def Qj(C:Addr):Sp:=λvs H Q _=>OU C vs H Q
inductive MF(C:Addr)(vs:List V)(H:Hp)(Q:VK):Prop
 |mk (l:JL) (st:JS) (n i j a b:Nat) (aB:vs=[.ref l.J,.int (i:Int),.int (j:Int)]) (aT:cI H C n l st) (bq:st.hd[i]?=some a) (bR:st.hd[j]?=some b) (cM:Q (.bl (decide (a=b))) H):MF C vs H Q
def EN(C:Addr):Sp:=λvs H Q _=>MF C vs H Q
inductive NP(C:Addr)(vs:List V)(H:Hp)(Q:VK):Prop
 |mk (l:JL) (st:JS) (n i h:Nat) (t secs:List Int) (aB:vs=[.ref l.J,.int (i:Int)]) (aT:cI H C n l st) (bq:st.hd[i]?=some h) (bR:st.ld[i]?=some t) (cM:st.fr.lookup h=some secs) (dZ:(∀z∈secs,0<=z/\z<t.length)) (ie:secs.length<64) (ji:∀(p:Addr) (ns:List Int) (H':Hp),H p=none->ah H H'->ns.Perm (secs.map λz=>t.getD z.toNat 0)->ns.Pairwise (·<=·)->H' p=some (.lst (ns.map V.int))->Q (.ref p) H'):NP C vs H Q
def we(C:Addr):Sp:=λvs H Q _=>NP C vs H Q
inductive RP(C:Addr)(vs:List V)(H:Hp)(Q:VK):Prop
 |mk (l:JL) (st:JS) (n:Nat) (aB:vs=[.ref l.J]) (aT:cI H C n l st) (bq:n<=1000) (bR:st.hd.length<1000) (cM:st.mem.length<=st.hd.length) (dZ:st.fr.length<=st.hd.length) (ie:st.ld.length=st.hd.length) (ji:st.hd.length∉st.mem.map (·.1)) (qG:st.hd.length∉st.fr.map (·.1)) (xG:∀(l':JL) (H':Hp),l'.J=l.J->Out l.fp H H'->(∀b∈l'.fp,b∈l.fp\/H b=none)->cI H' C n l' (st.more n)->Q (.int (st.hd.length:Int)) H'):RP C vs H Q
def H_(C:Addr):Sp:=λvs H Q _=>RP C vs H Q
theorem mX{is:List Nat}{i h:Nat}(e:is[i]?=some h):dv (dP is) (i:Int)=some (.int (h:Int)):=hV (by rw[Yl,e];rfl)
section
theorem YH:aR ["self","size"] ["self","size"] (aJ Dw):=⟨rfl,rfl,rfl,by decide+kernel,rfl,by decide+kernel,by decide+kernel⟩
theorem ZcC(F:aK K "__init__" "Joins.__init__" Dw f fd)(jc:lS K C)(bl:Bl mg):aH P w K mg base aM 1 f fd ["self","size"] (Qj C):=by
 refine F.ok YH (λvs H Q E h=>?_) (λaC A outer s H vs Q E hr h=>?_)
 ·obtain⟨x,dx,n,rfl,_⟩:=h;rfl
 obtain⟨x,dx,n,rfl,hx,q⟩:=h;refine⟨_,(ak (gv (K:=K) rfl (pv 0) (pv 1)) (ak (gv (K:=K) rfl (pv 0) (de ae)) (ak (gv (K:=K) rfl (pv 0) (de ae)) (ak (gv (K:=K) rfl (pv 0) pY) (au (gv (K:=K) rfl (pv 0) pY)))))),?_⟩;refine⟨_,rfl,_,rfl,x,C,dx,[],rfl,hx,jc.cls,jc.rH,by show 0<1000;omega,λH1 b1 h1=>?_⟩;refine⟨by show 0<=sizeLine;exact Yw _,λha H2 n2 g2 e2=>⟨_,rfl,x,C,dx,_,rfl,g2 _ _ h1,jc.cls,jc.jt,by show 1<1000;omega,λH3 b3 h3=>?_⟩⟩;refine⟨by show 0<=sizeLine;exact Yw _,λla H4 n4 g4 e4=>⟨_,rfl,x,C,dx,_,rfl,g4 _ _ h3,jc.cls,jc.mW,by show 2<1000;omega,λH5 b5 h5=>?_⟩⟩;refine λmd H6 n6 g6 e6=>⟨_,rfl,x,C,dx,_,rfl,g6 _ _ h5,jc.cls,jc.ua,by show 3<1000;omega,λH7 b7 h7=>?_⟩;refine λfe H8 n8 g8 e8=>⟨_,rfl,x,C,dx,_,rfl,g8 _ _ h7,jc.cls,jc.rJ,by show 4<1000;omega,λH9 b9 h9=>?_⟩;rw[jf5] at h9;have k8:aw x H8 H9:=b9;have k6:aw x H6 H9:=b7.trans ((aw.of g8).trans k8);have k4:aw x H4 H9:=b5.trans ((aw.of g6).trans k6);have k2:aw x H2 H9:=b3.trans ((aw.of g4).trans k4);have k0:aw x H H9:=b1.trans ((aw.of g2).trans k2);have d2:ha≠x:=λz=>by rw[z,h1] at n2;cases n2
 have d4:la≠x:=λz=>by rw[z,h3] at n4;cases n4
 have d6:md≠x:=λz=>by rw[z,h5] at n6;cases n6
 have d8:fe≠x:=λz=>by rw[z,h7] at n8;cases n8
 have i3:=b3 _ _ e2 d2;have i5:=b5 _ _ (g4 _ _ i3) d2;have i7:=b7 _ _ (g6 _ _ i5) d2;have j5:=b5 _ _ e4 d4;have j7:=b7 _ _ (g6 _ _ j5) d4;have l7:=b7 _ _ e6 d6;have a1:ha≠la:=λz=>by rw[←z,i3] at n4;cases n4
 have a2:ha≠md:=λz=>by rw[←z,i5] at n6;cases n6
 have a3:ha≠fe:=λz=>by rw[←z,i7] at n8;cases n8
 have a4:la≠md:=λz=>by rw[←z,j5] at n6;cases n6
 have a5:la≠fe:=λz=>by rw[←z,j7] at n8;cases n8
 have a6:md≠fe:=λz=>by rw[←z,l7] at n8;cases n8
 have AL:∀{b:Addr} {H':Hp},aw x H H'->b≠x->H' b=none->H b=none:=λ{b H'} k d n=>by
  cases e:H b with
  |none=>rfl
  |some o=>rw[k b o e d] at n;cases n
 have t3:aw x H H3:=b1.trans ((aw.of g2).trans b3);have t5:aw x H H5:=t3.trans ((aw.of g4).trans b5);have t7:aw x H H7:=t5.trans ((aw.of g6).trans b7);refine q ⟨x,ha,la,md,fe,[],[],[]⟩ H9 rfl rfl (λb hb nb=>?_) k0 ⟨⟨dx,h9⟩,k2 _ _ e2 d2,k4 _ _ e4 d4,.nil,k6 _ _ e6 d6,.nil,k8 _ _ e8 d8,.nil,?_,λa qJ=>by cases qJ⟩
 ·simp only[JL.fp,Yt,Y3,or_false] at hb;rcases hb with rfl|rfl|rfl|rfl|rfl;·exact absurd rfl nb
  ·exact AL b1 d2 n2
  ·exact AL t3 d4 n4
  ·exact AL t5 d6 n6
  ·exact AL t7 d8 n8
 ·simp only[JL.fp,Yy,Yt,Y3,or_false,not_or,not_false_eq_true,Ws,and_true];exact⟨⟨λz=>d2 z.symm,λz=>d4 z.symm,λz=>d6 z.symm,λz=>d8 z.symm⟩,⟨a1,a2,a3⟩,⟨a4,a5⟩,a6⟩
theorem Xp:aR ["self","one","other"] ["self","one","other"] (aJ BV):=⟨rfl,rfl,rfl,by decide+kernel,rfl,by decide+kernel,by decide+kernel⟩
theorem ZV(F:aK K "together" "Joins.together" BV f fd)(jc:lS K C)(bl:Bl mg):aH P w K mg base aM 1 f fd ["self","one","other"] (EN C):=by
 refine F.ok Xp (λvs H Q E h=>?_) (λaC A outer s H vs Q E hr h=>?_)
 ·obtain⟨l,st,n,i,j,a,b,rfl,_⟩:=h;rfl
 obtain⟨l,st,n,i,j,a,b,rfl,ja,hi,hj,q⟩:=h;refine⟨_,(au (aF (dQ cg (bg (cA (K:=K) rfl) (aV (K:=K) rfl (pv 0) rfl) (pv 1) (λ_ _=>rfl)) (bg (cA (K:=K) rfl) (aV (K:=K) rfl (pv 0) rfl) (pv 2) (λ_ _=>rfl)) (aP _)))),?_⟩;obtain⟨dx,ho⟩:=ja.obj;have q':Q (.bl (decide (V.int (a:Int)=V.int (b:Int)))) H:=by
  have e:decide (V.int (a:Int)=V.int (b:Int))=decide (a=b):=by
   rw[Wf,decide_eq_true_iff,decide_eq_true_iff];exact⟨λz=>by have:=V.int.inj z;omega,λz=>by rw[z]⟩
  rw[e];exact q
 exact⟨_,rfl,l.J,C,dx,_,_,rfl,ho,jc.cls,jc.jt,rfl,_,rfl,l.ha,_,_,_,rfl,rfl,aj.of ja.heads,mX hi,_,rfl,l.J,C,dx,_,_,rfl,ho,jc.cls,jc.jt,rfl,_,rfl,l.ha,_,_,_,rfl,rfl,aj.of ja.heads,mX hj,rfl,q'⟩
end
theorem dE{H:Hp}{a b:Addr}{o o':HO}(h:H a=some o)(h':H b=some o')(ne:o≠o'):a≠b:=λz=>by
 grind
theorem ZcD(is:List Nat)(k:Nat):dP (is++[k])=dP is++[.int (k:Int)]:=Yj
theorem qZ{H:Hp}{a b:Addr}{o:HO}(h:H a=some o)(h':H b=none):b≠a:=λz=>by
 grind
theorem hE{α β:Type}{F:α->β->Prop}{x:α}{y:β}(f:F x y){xs:List α}{ys:List β}(h:Paired F xs ys):Paired F (xs++[x]) (ys++[y]):=by
 induction h with
 |nil=>exact .cons f .nil
 |cons r t ih=>exact .cons r ih
theorem ub{α β:Type}{F:α->β->Prop}:∀{xs:List α} {ys:List β},Paired F xs ys->Paired (λa b=>F a b/\a∈xs) xs ys
 |_,_,.nil=>.nil
 |_,_,.cons g t=>.cons ⟨g,Yk⟩ (L2.Paired.bp (ub t) λ_ _ h=>⟨h.1,Yv _ h.2⟩)
theorem qj{H:Hp}{a:Addr}{kvs:List (Key×V)}{k:Nat}{o:Option V}(h:H a=some (.dK kvs))(e:aS kvs (.inl (k:Int))=o):eC H a (.int (k:Int)) o:=.inl ⟨kvs,.inl (k:Int),.inl h,rfl,e.symm⟩
section
theorem Ml:aR ["self","one","lead"] ["self","one"] (aJ Cb):=⟨rfl,rfl,rfl,by decide+kernel,rfl,by decide+kernel,by decide+kernel⟩
theorem ZaE(F:aK K "open_at" "Joins.open_at" Cb f fd)(jc:lS K C)(bl:Bl mg):aH P w K mg base aM 2 f fd ["self","one"] (we C):=by
 refine F.ok Ml (λvs H Q E h=>?_) (λaC A outer s H vs Q E hr h=>?_)
 ·obtain⟨l,st,n,i,h,t,secs,rfl,_⟩:=h;rfl
 obtain⟨l,st,n,i,h,t,secs,rfl,ja,hi,ht,hf,qI,jg,q⟩:=h;refine⟨_,(ak (a_ (i:=2) Ml.nd rfl (Or.inr rfl) (bg (cA (K:=K) rfl) (aV (K:=K) rfl (pv 0) rfl) (pv 1) (λ_ _=>rfl))) (au (aF (bL (Zcg (K:=K) rfl) rfl bl.FO Fd (aa (iW (x:="section") (fr:=[("lead",2)]) (cl:=[("lead",s.heap.objs.size+1)]) rfl ⟨by with_unfolding_all rfl,⟨rfl,trivial⟩,rfl,by decide+kernel,rfl,by decide+kernel,rfl,⟨⟨rfl,.inl rfl,.inl rfl,rfl⟩,trivial⟩,by decide+kernel⟩ (d_ (K:=K) rfl (dh (bH hr) (aV (K:=K) rfl (pv 0) rfl) (bg (cA (K:=K) rfl) (aV (K:=K) rfl (pv 0) rfl) (pv 1) (λ_ _=>rfl)) (λ_ _=>rfl))) (λ_ _ _ _=>mS) (λ_ _ _ _=>(bg (gu (K:=K) rfl) (pv 1) (pv 0) (λ_ _=>rfl)))) ae))))),?_⟩;obtain⟨dx,ho⟩:=ja.obj;obtain⟨fa,Vg,vf,cV⟩:=lN (f:=λv:List Int=>HO.lst (v.map V.int)) ja.free hf;obtain⟨ta,eta,KA⟩:∃ta,l.eU[i]?=some ta/\H ta=some (.tup (t.map V.int)):=by
  have hl:=cN ja.lead;have dO:i<l.eU.length:=by rw[hl];exact(Yg.mp ht).1
  obtain⟨y,ey,hy⟩:=fV ja.lead (Yb dO)
  grind
 have KC:dv (l.eU.map V.ref) (i:Int)=some (.ref ta):=hV (by rw[Yl,eta];rfl);refine bW ?_;refine⟨_,rfl,l.J,C,dx,_,_,rfl,ho,jc.cls,jc.mW,rfl,_,rfl,l.la,_,_,_,rfl,rfl,aj.of ja.iG,KC,?_⟩;refine⟨_,rfl,l.J,C,dx,_,_,rfl,ho,jc.cls,jc.rJ,rfl,_,rfl,l.J,C,dx,_,_,rfl,ho,jc.cls,jc.jt,rfl,_,rfl,l.ha,_,_,_,rfl,rfl,aj.of ja.heads,mX hi,l.fd,_,rfl,qj ja.frees vf,fa,rfl,⟨_,aj.of cV⟩,λD hD=>Zan (xs:=secs.map V.int) (aj.of cV) (by rw[Ya];omega) hD (λv=>match v with|.int z=>.int (t.getD z.toNat 0)|_=>.ay) (λj v hj H1 g1 Kt k=>?_) λH1 g1 h1=>?_⟩
 ·obtain⟨z,rfl,hz⟩:=mU hj;have bz:=qI z (Yh hz);exact⟨_,rfl,_,rfl,ta,_,_,_,rfl,rfl,aA.of (g1 _ _ KA),m6 bz.1 bz.2,k H1 (ah.refl _)⟩
 ·have hy:H1 D=some (.lst ((secs.map λz=>t.getD z.toNat 0).map V.int)):=by
   rw[h1,Wc,Wc];rfl
  exact⟨D,_,rfl,.inl (aj.of hy),by rw[Ya];exact jg,λdf pm so p H2 np g2 h2=>q p df H2 (g1.free np) (g1.trans g2) pm so h2⟩
theorem Mt:aR ["self","number"] ["self"] (aJ D9):=⟨rfl,rfl,rfl,by decide+kernel,rfl,by decide+kernel,by decide+kernel⟩
theorem Zft(F:aK K "add" "Joins.add" D9 f fd)(jc:lS K C)(uq:HasFn P w K mg base 1 "still" ["size"] Gy)(bl:Bl mg):aH P w K mg base aM 2 f fd ["self"] (H_ C):=by
 refine F.ok Mt (λvs H Q E h=>?_) (λaC A outer s H vs Q E hr h=>?_)
 ·obtain⟨l,st,n,rfl,_⟩:=h;rfl
 obtain⟨l,st,n,rfl,ja,hn,lh,lm,lf,ll,nm,nf,q⟩:=h;refine⟨_,(ak (a_ (i:=1) Mt.nd rfl (Or.inl rfl) (bL (c9 (K:=K) rfl) rfl bl.cU cT (aa (aV (K:=K) rfl (pv 0) rfl) ae))) (ak (bY (hX (K:=K) rfl (fQ plainAttrs_list PySem.F.slot_list_append PySem.F.type_list_append iu (aV (K:=K) rfl (pv 0) rfl) (aa (pv 1) ae)))) (ak (bY (hX (K:=K) rfl (fQ plainAttrs_list PySem.F.slot_list_append PySem.F.type_list_append iu (aV (K:=K) rfl (pv 0) rfl) (aa (aW uq hr (by omega) rfl (aa (aV (K:=K) rfl (pv 0) rfl) ae)) ae)))) (ak (ot (bH hr) (aV (K:=K) rfl (pv 0) rfl) (pv 1) (de (aa (pv 1) ae))) (ak (ot (bH hr) (aV (K:=K) rfl (pv 0) rfl) (pv 1) (eN (X0 rfl) rfl bl.rF ra (aa (eN Dr rfl bl.jM uf (aa (aV (K:=K) rfl (pv 0) rfl) ae)) ae))) (au (aF (pv 1)))))))),?_⟩;have sz:(10000:Nat)<=sizeLine:=by rw[sizeLine_eq];omega
 obtain⟨dx,ho⟩:=ja.obj;have hl:(dP st.hd).length=st.hd.length:=Ya _;have pl1:=cN ja.lead;have KD:=cN ja.mem;have AM:=cN ja.free;have nd:=ja.nd;simp only[JL.fp,Yy,Yt,not_or] at nd;obtain⟨⟨x1,x2,x3,x4,x5⟩,⟨y1,y2,y3,y4⟩,⟨z1,z2,z3⟩,⟨w1,w2⟩,v1,v2⟩:=nd;have dl:∀{ks:List Nat} {as:List Addr},(bh ks as).length<=as.length:=λ{ks as}=>by unfold bh;rw[Ya,W6];exact Nat.min_le_right _ _
 refine bW ?_;refine⟨_,rfl,l.J,C,dx,_,_,rfl,ho,jc.cls,jc.jt,rfl,l.ha,_,rfl,.inl (aj.of ja.heads),?_⟩;rw[hl];refine⟨_,rfl,l.J,C,dx,_,_,rfl,ho,jc.cls,jc.jt,rfl,.inl ⟨rfl,_,aj.of ja.heads⟩,_,rfl,l.ha,_,_,rfl,rfl,ja.heads,by rw[hl];omega,λH1 b1 e1=>?_⟩;have o1:=b1 _ _ ho x1;have l1:=b1 _ _ ja.iG (λz=>y1 z.symm);refine⟨_,rfl,l.J,C,dx,_,_,rfl,o1,jc.cls,jc.mW,rfl,.inl ⟨rfl,_,aj.of l1⟩,_,rfl,l.J,C,dx,_,_,rfl,o1,jc.cls,jc.rH,rfl,n,rfl,hn,λt H2 nt g2 ht=>?_⟩;refine⟨l.la,_,_,rfl,rfl,g2 _ _ l1,by rw[Ya];omega,λH3 b3 e3=>?_⟩;have o3:=b3 _ _ (g2 _ _ o1) x2;have m3:=b3 _ _ (g2 _ _ (b1 _ _ ja.jw (λz=>y2 z.symm))) (λz=>z1 z.symm);refine⟨_,rfl,by show 1<=sizeLine;omega,λm H4 u3 g4 em=>?_⟩;have o4:=g4 _ _ o3;refine⟨_,rfl,l.J,C,dx,_,_,rfl,o4,jc.cls,jc.ua,rfl,_,rfl,l.md,_,.inl (st.hd.length:Int),rfl,g4 _ _ m3,rfl,?_,λH5 b5 e5=>?_⟩
 ·have:=dl (ks:=st.mem.map (·.1)) (as:=l.fR);omega
 have o5:=b5 _ _ o4 x3;refine⟨_,rfl,l.J,C,dx,_,_,rfl,o5,jc.cls,jc.rH,rfl,(n:Int),rfl,λr H6 nr g6 er=>⟨r,n,rfl,er,hn,λfa H7 Vf g7 ef=>?_⟩⟩;have AN:=g6.trans g7;have f5:=b5 _ _ (g4 _ _ (b3 _ _ (g2 _ _ (b1 _ _ ja.frees (λz=>y3 z.symm))) (λz=>z2 z.symm))) (λz=>w1 z.symm);refine⟨_,rfl,l.J,C,dx,_,_,rfl,AN _ _ o5,jc.cls,jc.rJ,rfl,_,rfl,l.fd,_,.inl (st.hd.length:Int),rfl,AN _ _ f5,rfl,?_,λH8 b8 e8=>?_⟩
 ·have:=dl (ks:=st.fr.map (·.1)) (as:=l.ck);omega
 have keep:∀b o,H b=some o->b≠l.ha->b≠l.la->b≠l.md->b≠l.fd->H8 b=some o:=λb o e n1 n2 n3 n4=>b8 _ _ (AN _ _ (b5 _ _ (g4 _ _ (b3 _ _ (g2 _ _ (b1 _ _ e n1)) n2)) n3)) n4;rw[kJ _ (yP nm),v8 _ _ (by rw[Ya];omega)] at e5;rw[kJ _ (yP nf),v8 _ _ (by rw[Ya];omega)] at e8;have KG:H m=none:=by
  cases e:H m with
  |none=>rfl
  |some o=>
   have hm1:m≠l.ha:=λz=>by rw[z,b3 _ _ (g2 _ _ e1) y1] at u3;cases u3
   have hm2:m≠l.la:=λz=>by rw[z,e3] at u3;cases u3
   rw[b3 _ _ (g2 _ _ (b1 _ _ e hm1)) hm2] at u3;cases u3
 have en:=ja.ne KG;have KH:fa∉l.fp/\fa≠m:=by
  have e6:H6 fa=none:=Vf;have h5:∀b o,H b=some o->b≠l.ha->b≠l.la->b≠l.md->H6 b=some o:=λb o e n1 n2 n3=>g6 _ _ (b5 _ _ (g4 _ _ (b3 _ _ (g2 _ _ (b1 _ _ e n1)) n2)) n3);have f1:H6 l.ha=some _:=g6 _ _ (b5 _ _ (g4 _ _ (b3 _ _ (g2 _ _ e1) y1)) y2);have f2:H6 l.la=some _:=g6 _ _ (b5 _ _ (g4 _ _ e3) z1);have f3:H6 l.md=some _:=g6 _ _ e5;have f4:H6 m=some _:=g6 _ _ (b5 _ _ em (λz=>en (by rw[z];simp[JL.fp])));have f5':H6 l.fd=some _:=g6 _ _ f5;have f6:H6 l.J=some _:=g6 _ _ o5;refine⟨λz=>?_,qZ f4 e6⟩;simp only[JL.fp,Yt] at z;rcases z with z|z|z|z|z|z;·exact qZ f6 e6 z
  ·exact qZ f1 e6 z
  ·exact qZ f2 e6 z
  ·exact qZ f3 e6 z
  ·exact qZ f5' e6 z
  ·obtain⟨y,ey⟩:=vZ ja.mem z;refine qZ (h5 _ _ ey ?_ ?_ ?_) e6 rfl;·exact λq=>y4 (by rw[←q];exact z)
   ·exact λq=>z3 (by rw[←q];exact z)
   ·exact λq=>w2 (by rw[←q];exact z)
 have kt:∀a∈l.eU,∀xs:List Int,H a=some (.tup (xs.map V.int))->H8 a=some (.tup (xs.map V.int)):=λa _ xs e=>keep a _ e (dE e ja.heads (λz=>by cases z)) (dE e ja.iG (λz=>by cases z)) (dE e ja.jw (λz=>by cases z)) (dE e ja.frees (λz=>by cases z));have k8:∀b o,H5 b=some o->b≠l.fd->H8 b=some o:=λb o e n=>b8 _ _ (AN _ _ e) n;have nmd:m≠l.md:=λz=>en (by rw[z];simp[JL.fp]);have nmf:m≠l.fd:=λz=>en (by rw[z];simp[JL.fp]);have ntf:t≠l.fd:=λz=>by
  have:=b1 _ _ ja.frees (λz=>y3 z.symm);rw[←z,nt] at this;cases this
 have KI:t≠l.la:=λz=>by rw[←z,nt] at l1;cases l1
 have Vh:t≠l.md:=λz=>by
  have:=b1 _ _ ja.jw (λz=>y2 z.symm);rw[←z,nt] at this;cases this
 refine⟨_,rfl,q ⟨l.J,l.ha,l.la,l.md,l.fd,l.eU++[t],l.fR++[m],l.ck++[fa]⟩ H8 rfl (λb o e nb=>?_) (λb hb=>?_) ⟨⟨dx,k8 _ _ o5 x4⟩,?_,?_,?_,?_,?_,?_,?_,?_,?_⟩⟩
 ·simp only[JL.fp,Yt,not_or] at nb;exact keep b o e nb.2.1 nb.2.2.1 nb.2.2.2.1 nb.2.2.2.2.1
 ·simp only[JL.fp,Yt,Yr,Y3,or_false] at hb⊢;rcases hb with h|h|h|h|h|h|h;·exact .inl (.inl h)
  ·exact .inl (.inr (.inl h))
  ·exact .inl (.inr (.inr (.inl h)))
  ·exact .inl (.inr (.inr (.inr (.inl h))))
  ·exact .inl (.inr (.inr (.inr (.inr (.inl h)))))
  ·exact .inl (.inr (.inr (.inr (.inr (.inr h)))))
  ·rw[h];exact .inr KG
 ·show H8 l.ha=some (.lst (dP (st.hd++[st.hd.length])));rw[k8 _ _ (b5 _ _ (g4 _ _ (b3 _ _ (g2 _ _ e1) y1)) y2) y3,ZcD]
 ·show H8 l.la=some (.lst ((l.eU++[t]).map V.ref));rw[k8 _ _ (b5 _ _ (g4 _ _ e3) z1) z2,Yj];rfl
 ·exact hE (F:=λa (xs:List Int)=>H8 a=some (.tup (xs.map V.int))) (k8 _ _ (b5 _ _ (g4 _ _ (b3 _ _ ht KI)) Vh) ntf) (L2.Paired.bp (ub ja.lead) λa xs h=>kt a h.2 xs h.1)
 ·show H8 l.md=some (.dK (bh ((st.mem++[(st.hd.length,[st.hd.length])]).map (·.1)) (l.fR++[m])));rw[k8 _ _ e5 w1,Yj];rfl
 ·refine hE (F:=λa (p:Nat×List Nat)=>H8 a=some (.lst (dP p.2))) (k8 _ _ (b5 _ _ em nmd) nmf) (L2.Paired.bp (ub ja.mem) λa p h=>keep a _ h.1 ?_ ?_ ?_ ?_);·exact λz=>y4 (by rw[←z];exact h.2)
  ·exact λz=>z3 (by rw[←z];exact h.2)
  ·exact λz=>w2 (by rw[←z];exact h.2)
  ·exact λz=>v1 (by rw[←z];exact h.2)
 ·show H8 l.fd=some (.dK (bh ((st.fr++[(st.hd.length,bF n)]).map (·.1)) (l.ck++[fa])));rw[e8,Yj];rfl
 ·have nfd:fa≠l.fd:=λz=>KH.1 (by rw[z];simp[JL.fp]);refine hE (F:=λa (p:Nat×List Int)=>H8 a=some (.lst (p.2.map V.int))) (b8 _ _ ef nfd) (L2.Paired.bp (ub ja.free) λa p h=>?_);have no:=ja.out a h.2;simp only[JL.fp,Yt,not_or] at no;exact keep a _ h.1 no.2.1 no.2.2.1 no.2.2.2.1 no.2.2.2.2.1
 ·have nd:=ja.nd;have e0:JL.fp ⟨l.J,l.ha,l.la,l.md,l.fd,l.eU++[t],l.fR++[m],l.ck++[fa]⟩=l.fp++[m]:=rfl;rw[e0,Wg];refine⟨nd,by simp,λa ha b hb=>?_⟩;have eb:b=m:=by simpa using hb
  intro z;rw[z,eb] at ha;exact en ha
 ·intro a ha;have e0:JL.fp ⟨l.J,l.ha,l.la,l.md,l.fd,l.eU++[t],l.fR++[m],l.ck++[fa]⟩=l.fp++[m]:=rfl;rw[e0,Yr];have qJ:a∈l.ck++[fa]:=ha;rcases Yr.mp qJ with h|h
  ·rintro(z|z);·exact ja.out a h z
   ·have e:a=m:=by simpa using z
    obtain⟨y,ey⟩:=vZ ja.free h;rw[e,KG] at ey;cases ey
  ·have e:a=fa:=by simpa using h
   rw[e];rintro(z|z);·exact KH.1 z
   ·exact KH.2 (by simpa using z)
end
theorem ZaF{K:PySem.W.Frag}{a:Addr}{ns:List Int}{tt:TT}{te:TE}{fv:St}{D:Addr}{H:Hp}{Q:VK}(hs:aj K H a (ns.map V.int))(hn:ns.length<=1000)(hD:H D=none)(p:Int->Bool)(g:Int->V)
  (turn:∀z∈ns,∀H1,ah H H1->∀(Kt:VK) (Kf:Hp->Prop),(p z=true->∀H3,ah H1 H3->Kt (g z) H3)->(p z=false->∀H3,ah H1 H3->Kf H3)->tt (some (.int z)::fv) H1 λc H2=>if c=true then te (some (.int z)::fv) H2 Kt else Kf H2)
  (fin:∀H',ah H H'->H' D=some (.lst ((ns.filter p).map g))->Q (.ref D) H'):i6 (jz K a) tt te fv D H Q:=by
 refine Fb (λi ys H1=>i<=ns.length/\ah H H1/\H1 D=some (.lst ys)/\ys=((ns.take i).filter p).map g) ⟨Yw _,cy hD _,aZ,rfl⟩ (λi ys H1 _ ⟨_,g1,_,_⟩=>g1.seq hs) ?_ ?_
 ·rintro i v ys H1 hi ⟨_,g1,h1,e⟩;obtain⟨z,rfl,hz⟩:=mU hi;have dO:=(Yg.mp hz).1;have yl:ys.length<sizeLine:=by
   have:=Wi p (ns.take i);rw[Wd] at this;rw[e,Ya,sizeLine_eq];omega
  refine turn z (Yh hz) H1 g1 _ _ (λpz H3 g3=>⟨g3 _ _ h1,yl,dO,λb o q=>?_,aZ,?_⟩) (λpz H3 g3=>⟨dO,g1.trans g3,g3 _ _ h1,?_⟩)
  ·rw[a9 (bQ q hD)];exact g3 _ _ (g1 _ _ q)
  ·rw[e,Y0,hz,Wh,Yj]
   grind
  ·rw[e,Y0,hz,Wh,Yj]
   grind
 ·grind
theorem zp(x:Int):∀ss:List Int,dI (.int x) (ss.map V.int)=decide (x∈ss)
 |[]=>rfl
 |s::ss=>by
  have ih:=zp x ss;unfold dI at ih⊢;rw[Wl,Jm,ih];show((s==x)||decide (x∈ss))=_
  grind
theorem FX(ss:List Int):(ss.map V.int).all i4=true:=by
 rw[Kn,Wr];intro p _;rfl
def jd(ks:List Nat)(as:List Addr)(h:Nat)(a':Addr):List Addr:=(ks.zip as).map λp=>if p.1=h then a' else p.2
theorem NQ(h:Nat)(a':Addr):∀{ks:List Nat} {as:List Addr},ks.length=as.length->(bh ks as).map (λkv=>if kv.1=(.inl (h:Int):Key) then(kv.1,V.ref a') else kv)=bh ks (jd ks as h a')
 |[],[],_=>rfl
 |k::ks,a::as,e=>by
  have ih:=NQ h a' (by simpa using e);have e0:bh (k::ks) (a::as)=(Sum.inl (k:Int),V.ref a)::bh ks as:=rfl;have e1:jd (k::ks) (a::as) h a'=(if k=h then a' else a)::jd ks as h a':=rfl;have e2:bh (k::ks) ((if k=h then a' else a)::jd ks as h a')=(Sum.inl (k:Int),V.ref (if k=h then a' else a))::bh ks (jd ks as h a'):=rfl
  grind
 |[],_::_,e=>rfl
 |_::_,[],e=>rfl
theorem ZcE{ks:List Nat}{as:List Addr}{h:Nat}{a a':Addr}(e:ks.length=as.length)(hv:aS (bh ks as) (.inl (h:Int))=some (.ref a)):putK (bh ks as) (.inl (h:Int)) (.ref a')=bh ks (jd ks as h a'):=by
 unfold putK;rw[if_pos (by rw[ug,hv];rfl)];exact NQ h a' e
def cX{α:Type}(h:Nat)(v:α)(ps:List (Nat×α)):List (Nat×α):=ps.map λp=>if p.1=h then(p.1,v) else p
theorem oj{α:Type}(h:Nat)(v:α):∀ps:List (Nat×α),(cX h v ps).map (·.1)=ps.map (·.1)
 |[]=>rfl
 |p::ps=>by
  have ih:=oj h v ps;show(if p.1=h then(p.1,v) else p).1::(cX h v ps).map (·.1)=_
  grind
theorem ZaG{α:Type}{F G:Addr->Nat×α->Prop}{h:Nat}{a':Addr}{v:α}(new:∀k,G a' (k,v)):∀{as:List Addr} {ps:List (Nat×α)},Paired F as ps->(∀a p,F a p->a∈as->G a p)->Paired G (jd (ps.map (·.1)) as h a') (cX h v ps):=by
 intro as ps pr;induction pr with
 |nil=>intro _;exact .nil
 |@cons a p as ps f t ih=>
  intro k;have e1:jd ((p::ps).map (·.1)) (a::as) h a'=(if p.1=h then a' else a)::jd (ps.map (·.1)) as h a':=rfl;have e2:cX h v (p::ps)=(if p.1=h then(p.1,v) else p)::cX h v ps:=rfl;refine .cons ?_ (ih λb q fb hb=>k b q fb (Yv _ hb))
  grind
theorem OV{h:Nat}{a' b:Addr}:∀{ks:List Nat} {as:List Addr},b∈jd ks as h a'->b=a'\/b∈as
 |[],_,m=>by unfold jd at m;simp at m
 |_::_,[],m=>by unfold jd at m;simp at m
 |k::ks,a::as,m=>by
  have e1:jd (k::ks) (a::as) h a'=(if k=h then a' else a)::jd ks as h a':=rfl;rcases Yt.mp m with z|z;·grind
  ·rcases OV z with w|w;·exact .inl w
   ·grind
def JS.kU(st:JS)(h:Nat)(v:List Int):JS:={st with fr:=cX h v st.fr}
structure r6(st:JS)(i h:Nat)(t secs:List Int):Prop where
 hd:st.hd[i]?=some h
 ld:st.ld[i]?=some t
 fr:st.fr.lookup h=some secs
 fD:∀z∈secs,0<=z/\z<t.length
 iM:secs.length<64
 dist:(secs.map λz=>t.getD z.toNat 0).Nodup
inductive NR(K:PySem.W.Frag)(C:Addr)(vs:List V)(H:Hp)(Q:VK):Prop
 |mk (l:JL) (st:JS) (n i h:Nat) (t secs ss:List Int) (sl:Addr) (aB:vs=[.ref l.J,.int (i:Int),.ref sl]) (aT:cI H C n l st) (bq:r6 st i h t secs) (bR:st.fr.length<1000) (cM:aj K H sl (ss.map V.int)) (dZ:∀(l':JL) (H':Hp),l'.J=l.J->l'.fp=l.fp->Out l.fp H H'->cI H' C n l' (st.kU h (secs.filter λz=>decide (t.getD z.toNat 0∈ss)))->Q .ay H'):NR K C vs H Q
def FY(K:PySem.W.Frag)(C:Addr):Sp:=λvs H Q _=>NR K C vs H Q
section
theorem Ci:aR ["self","one","sections","lead","head"] ["self","one","sections"] (aJ CD):=⟨rfl,rfl,rfl,by decide+kernel,rfl,by decide+kernel,by decide+kernel⟩
theorem ZbC(F:aK K "narrow" "Joins.narrow" CD f fd)(jc:lS K C)(bl:Bl mg):aH P w K mg base aM 2 f fd ["self","one","sections"] (FY K C):=by
 refine F.ok Ci (λvs H Q E h=>?_) (λaC A outer s H vs Q E hr h=>?_)
 ·obtain⟨l,st,n,i,h,t,secs,ss,sl,rfl,_⟩:=h;rfl
 obtain⟨l,st,n,i,h,t,secs,ss,sl,rfl,ja,one,lf,hss,q⟩:=h;refine⟨_,(ak (a_ (i:=3) Ci.nd rfl (Or.inr rfl) (bg (cA (K:=K) rfl) (aV (K:=K) rfl (pv 0) rfl) (pv 1) (λ_ _=>rfl))) (ak (a_ (i:=4) Ci.nd rfl (Or.inl rfl) (bg (cA (K:=K) rfl) (aV (K:=K) rfl (pv 0) rfl) (pv 1) (λ_ _=>rfl))) (au (ot (bH hr) (aV (K:=K) rfl (pv 0) rfl) (pv 4) (iW (x:="section") (fr:=[("sections",2),("lead",3)]) (cl:=[("sections",s.heap.objs.size+1),("lead",s.heap.objs.size+1+1)]) rfl ⟨by with_unfolding_all rfl,⟨rfl,⟨rfl,trivial⟩⟩,rfl,by decide+kernel,rfl,by decide+kernel,rfl,⟨⟨rfl,.inl rfl,.inl rfl,rfl⟩,⟨⟨rfl,.inl rfl,.inl rfl,rfl⟩,trivial⟩⟩,by decide+kernel⟩ (d_ (K:=K) rfl (dh (bH hr) (aV (K:=K) rfl (pv 0) rfl) (pv 4) (λ_ _=>rfl))) (λ_ _ _ _=>uo (aU (lu (K:=K) rfl) (bg (gu (K:=K) rfl) (pv 2) (pv 0) (λ_ _=>rfl)) (pv 1) (by with_unfolding_all rfl))) (λ_ _ _ _=>(pv 0))))))),?_⟩;have sz:(10000:Nat)<=sizeLine:=by rw[sizeLine_eq];omega
 obtain⟨dx,ho⟩:=ja.obj;obtain⟨fa,Vg,vf,cV⟩:=lN (f:=λv:List Int=>HO.lst (v.map V.int)) ja.free one.fr;obtain⟨ta,eta,KA⟩:∃ta,l.eU[i]?=some ta/\H ta=some (.tup (t.map V.int)):=by
  have hl:=cN ja.lead;have dO:i<l.eU.length:=by rw[hl];exact(Yg.mp one.ld).1
  obtain⟨y,ey,hy⟩:=fV ja.lead (Yb dO);rw[one.ld] at ey;cases ey;exact⟨_,Yb dO,hy⟩
 have KC:dv (l.eU.map V.ref) (i:Int)=some (.ref ta):=hV (by rw[Yl,eta];rfl);have AM:=cN ja.free;refine bW ?_;refine⟨_,rfl,l.J,C,dx,_,_,rfl,ho,jc.cls,jc.mW,rfl,_,rfl,l.la,_,_,_,rfl,rfl,aj.of ja.iG,KC,?_⟩;refine bW ?_;refine⟨_,rfl,l.J,C,dx,_,_,rfl,ho,jc.cls,jc.jt,rfl,_,rfl,l.ha,_,_,_,rfl,rfl,aj.of ja.heads,mX one.hd,?_⟩;refine⟨_,rfl,l.J,C,dx,_,_,rfl,ho,jc.cls,jc.rJ,rfl,_,rfl,l.fd,_,rfl,qj ja.frees vf,fa,rfl,⟨_,aj.of cV⟩,λD hD=>ZaF (ns:=secs) (aj.of cV) (by have:=one.iM;omega) hD (λz=>decide (t.getD z.toNat 0∈ss)) V.int (λz hz H1 g1 Kt Kf kt kf=>?_) λH1 g1 h1=>?_⟩
 ·have bz:=one.fD z hz;refine⟨_,rfl,_,rfl,ta,_,_,_,rfl,rfl,aA.of (g1 _ _ KA),m6 bz.1 bz.2,_,rfl,sl,_,rfl,.inl (g1.seq hss),rfl,FX ss,_,rfl,?_⟩;rw[if_neg Ym,zp];refine bB (λc=>?_) (λc=>?_);·exact⟨_,rfl,kt c H1 (ah.refl _)⟩
  ·exact kf (by cases e:decide (t.getD z.toNat 0∈ss) with|true=>exact absurd e c|false=>rfl) H1 (ah.refl _)
 ·refine⟨_,rfl,l.J,C,dx,_,_,rfl,g1 _ _ ho,jc.cls,jc.rJ,rfl,_,rfl,l.fd,_,.inl (h:Int),rfl,g1 _ _ ja.frees,rfl,?_,λH2 b2 e2=>?_⟩
  ·unfold bh;rw[Ya,W6,Ya];omega
  rw[ZcE (by rw[Ya];exact AM.symm) vf] at e2;have nd:=ja.nd;have AO:l.fd∈l.fp:=by simp[JL.fp]
  simp only[JL.fp,Yy,Yt,not_or] at nd;obtain⟨⟨x1,x2,x3,x4,x5⟩,⟨y1,y2,y3,y4⟩,⟨z1,z2,z3⟩,⟨w1,w2⟩,v1,v2⟩:=nd;have keep:∀b o,H b=some o->b≠l.fd->H2 b=some o:=λb o e nb=>b2 _ _ (g1 _ _ e) nb;have nD:D∉l.fp:=ja.ne hD;have nDf:D≠l.fd:=λz=>nD (by rw[z];exact AO);refine q ⟨l.J,l.ha,l.la,l.md,l.fd,l.eU,l.fR,jd (st.fr.map (·.1)) l.ck h D⟩ H2 rfl rfl ((Out.of g1).trans (Out.bar b2 AO)) ⟨⟨dx,keep _ _ ho x4⟩,keep _ _ ja.heads y3,keep _ _ ja.iG z2,L2.Paired.bp ja.lead λa xs e=>keep a _ e (dE e ja.frees (λz=>by cases z)),keep _ _ ja.jw w1,L2.Paired.bp (ub ja.mem) λa p e=>keep a _ e.1 (λz=>v1 (by rw[←z];exact e.2)),?_,?_,ja.nd,λa ha=>?_⟩
  ·show H2 l.fd=some (.dK (bh ((cX h _ st.fr).map (·.1)) _));rw[oj];exact e2
  ·exact ZaG (λk=>b2 _ _ h1 nDf) ja.free λa p e ma=>keep a _ e (λz=>ja.out a ma (by rw[z];exact AO))
  ·rcases OV ha with rfl|z;·exact nD
   ·exact ja.out a z
end
inductive RQ(C:Addr)(vs:List V)(H:Hp)(Q:VK):Prop
 |mk (l:JL) (st:JS) (n i h:Nat) (t secs:List Int) (a:Int) (aB:vs=[.ref l.J,.int (i:Int),.int a]) (aT:cI H C n l st) (bq:r6 st i h t secs) (bR:st.fr.length<1000) (cM:(a∈secs.map (λz=>t.getD z.toNat 0)->∀(l':JL) (H':Hp),l'.J=l.J->l'.fp=l.fp->Out l.fp H H'->cI H' C n l' (st.kU h (secs.filter λz=>decide (t.getD z.toNat 0∈[a])))->Q (.bl true) H')) (dZ:(a∉secs.map (λz=>t.getD z.toNat 0)->∀H',ah H H'->Q (.bl false) H')):RQ C vs H Q
def S0(C:Addr):Sp:=λvs H Q _=>RQ C vs H Q
section
theorem Ze:aR ["self","one","section"] ["self","one","section"] (aJ Ea):=⟨rfl,rfl,rfl,by decide+kernel,rfl,by decide+kernel,by decide+kernel⟩
theorem Zfu(F:aK K "say" "Joins.say" Ea f fd)(jI:cq P w K mg base 2 "open_at" C ["self","one"] (we C))(tJ:cq P w K mg base 2 "narrow" C ["self","one","sections"] (FY K C))(bl:Bl mg):aH P w K mg base aM 3 f fd ["self","one","section"] (S0 C):=by
 refine F.ok Ze (λvs H Q E h=>?_) (λaC A outer s H vs Q E hr h=>?_)
 ·obtain⟨l,st,n,i,h,t,secs,a,rfl,_⟩:=h;rfl
 obtain⟨l,st,n,i,h,t,secs,a,rfl,ja,one,lf,q1,q2⟩:=h;refine⟨_,(ak (aQ (aU (ux (K:=K) rfl) (pv 2) (cK jI hr (by omega) (pv 0) (aa (pv 1) ae)) (by with_unfolding_all rfl)) (au (aF kQ)) aY) (ak (bY (cK tJ hr (by omega) (pv 0) (aa (pv 1) (aa (de (aa (pv 2) ae)) ae)))) (au (aF kQ)))),?_⟩;obtain⟨dx,ho⟩:=ja.obj;refine⟨_,rfl,_,rfl,l.J,dx,_,rfl,ho,rfl,_,rfl,l,st,n,i,h,t,secs,rfl,ja,one.hd,one.ld,one.fr,one.fD,one.iM,λp ns H1 np g1 pm so hp=>⟨p,_,rfl,.inl (aj.of hp),rfl,FX ns,_,rfl,?_⟩⟩;rw[if_pos rfl,zp];refine bB (λc=>?_) (λc=>aX ?_)
 ·refine q2 (λz=>?_) H1 g1;rw[decide_eq_true (pm.symm.subset z)] at c;cases c
 ·have qI:a∈ns:=by
   by_cases z:a∈ns;·exact z
   ·rw[decide_eq_false z] at c;exact absurd rfl c
  refine⟨_,rfl,l.J,dx,_,rfl,g1 _ _ ho,rfl,_,rfl,_,rfl,by show 1<=sizeLine;rw[sizeLine_eq];omega,λsl H2 n2 g2 e2=>?_⟩;exact⟨l,st,n,i,h,t,secs,[a],sl,rfl,(ja.same g1).same g2,one,lf,aj.of e2,λl' H3 k1 k2 o3 j3=>q1 (pm.subset qI) l' H3 k1 k2 ((Out.of (g1.trans g2)).trans o3) j3⟩
end
def dU(ks:List Nat)(as:List Addr)(h:Nat):List Addr:=((ks.zip as).filter λp=>decide (p.1≠h)).map (·.2)
def cW{α:Type}(h:Nat)(ps:List (Nat×α)):List (Nat×α):=ps.filter λp=>decide (p.1≠h)
theorem yH(h:Nat):∀{ks:List Nat} {as:List Addr},ks.length=as.length->gH (bh ks as) (.inl (h:Int))=bh (ks.filter λk=>decide (k≠h)) (dU ks as h)
 |[],[],_=>rfl
 |k::ks,a::as,e=>by
  have ih:=yH h (by simpa using e);have e0:bh (k::ks) (a::as)=(Sum.inl (k:Int),V.ref a)::bh ks as:=rfl;unfold gH at ih⊢;rw[e0,Wo,Wo];have e1:dU (k::ks) (a::as) h=(if decide (k≠h)=true then(a::dU ks as h) else dU ks as h):=by
   unfold dU;rw[Vi,Wo];split<;>rfl
  rw[e1,ih];by_cases z:k=h;·grind
  ·have z':¬((Sum.inl (k:Int):Key)=.inl (h:Int)):=λw=>z (by have:=J7 w;omega);rw[if_pos (by simp[z']),if_pos (by simp[z]),if_pos (by simp[z])];rfl
 |[],_::_,e=>rfl
 |_::_,[],e=>by simp at e
theorem ou{α:Type}(h:Nat):∀ps:List (Nat×α),(cW h ps).map (·.1)=(ps.map (·.1)).filter λk=>decide (k≠h)
 |[]=>rfl
 |p::ps=>by
  have ih:=ou h ps;unfold cW at ih⊢
  grind
theorem EO{α:Type}{F G:Addr->Nat×α->Prop}{h:Nat}:∀{as:List Addr} {ps:List (Nat×α)},Paired F as ps->(∀a p,F a p->a∈as->p.1≠h->G a p)->Paired G (dU (ps.map (·.1)) as h) (cW h ps):=by
 intro as ps pr;induction pr with
 |nil=>intro _;exact .nil
 |@cons a p as ps f t ih=>
  intro k;have e1:dU ((p::ps).map (·.1)) (a::as) h=(if decide (p.1≠h)=true then(a::dU (ps.map (·.1)) as h) else dU (ps.map (·.1)) as h):=by
   unfold dU;rw[Wl,Vi,Wo];split<;>rfl
  have e2:cW h (p::ps)=(if decide (p.1≠h)=true then(p::cW h ps) else cW h ps):=by
   unfold cW
   grind
  rw[e1,e2];by_cases z:p.1=h;·grind
  ·rw[if_pos (by simp[z]),if_pos (by simp[z])];exact .cons (k a p f Yk z) (ih λb q fb hb nq=>k b q fb (Yv _ hb) nq)
theorem y8{h:Nat}:∀{ks:List Nat} {as:List Addr},(dU ks as h).Sublist as
 |[],as=>by
  unfold dU;simp_all
 |_::_,[]=>by
  unfold dU;simp_all
 |k::ks,a::as=>by
  have ih:=y8 (h:=h) (ks:=ks) (as:=as);have e1:dU (k::ks) (a::as) h=(if decide (k≠h)=true then(a::dU ks as h) else dU ks as h):=by
   unfold dU;rw[Vi,Wo];split<;>rfl
  grind
theorem tY{α:Type}{h k:Nat}(ne:k≠h):∀{ps:List (Nat×α)},(cW h ps).lookup k=ps.lookup k
 |[]=>rfl
 |p::ps=>by
  have ih:=tY ne (ps:=ps);have e2:cW h (p::ps)=(if decide (p.1≠h)=true then(p::cW h ps) else cW h ps):=by
   unfold cW
   grind
  grind
theorem M7{α:Type}{F G:Addr->Nat×α->Prop}{h:Nat}{m:Addr}{v:α}(new:∀k,G m (k,v)):∀{as:List Addr} {ps:List (Nat×α)},Paired F as ps->as.Nodup->(ps.map (·.1)).Nodup->aS (bh (ps.map (·.1)) as) (.inl (h:Int))=some (.ref m)->(∀a p,F a p->a∈as->a≠m->G a p)->Paired G as (cX h v ps):=by
 intro as ps pr;induction pr with
 |nil=>intro _ _ e _;cases e
 |@cons a p as ps f t ih=>
  intro n1 n2 e k;have e0:bh ((p::ps).map (·.1)) (a::as)=(Sum.inl (p.1:Int),V.ref a)::bh (ps.map (·.1)) as:=rfl;have e2:cX h v (p::ps)=(if p.1=h then(p.1,v) else p)::cX h v ps:=rfl;rw[Yy] at n1;rw[Wl,Yy] at n2;rw[e2];by_cases z:p.1=h
  ·rw[e0,fO (p:=((Sum.inl (p.1:Int):Key),V.ref a)) (by rw[z])] at e;have ea:a=m:=V.ref.inj (Yp e);have same:cX h v ps=ps:=by
    unfold cX;refine(Wn λq hq=>?_).trans (List.map_id _);rw[if_neg λw=>n2.1 (by rw[z,←w];exact Yf.mpr ⟨q,hq,rfl⟩)];rfl
   rw[if_pos z,same,ea];refine .cons (new p.1) (L2.Paired.bp (ub t) λb q hb=>k b q hb.1 (Yv _ hb.2) λw=>n1.1 (by rw[ea,←w];exact hb.2))
  ·rw[e0,fq (p:=((Sum.inl (p.1:Int):Key),V.ref a)) (λw=>z (by have:=J7 w;omega))] at e;rw[if_neg z];have am:a≠m:=λw=>by
    have:∀{ks:List Nat} {bs:List Addr},aS (bh ks bs) (.inl (h:Int))=some (.ref m)->m∈bs:=λ{ks}=>by
     induction ks with
     |nil=>intro bs q;unfold bh at q;rw[List.zip_nil_left] at q;cases q
     |cons x xs ih=>
      intro bs q;cases bs with
      |nil=>unfold bh at q;rw[List.zip_nil_right] at q;cases q
      |cons b bs=>
       have e0:bh (x::xs) (b::bs)=(Sum.inl (x:Int),V.ref b)::bh xs bs:=rfl;rw[e0] at q;by_cases y:x=h
       ·rw[fO (p:=((Sum.inl (x:Int):Key),V.ref b)) (by rw[y])] at q;have eb:b=m:=V.ref.inj (Yp q);rw[eb];exact Yk
       ·rw[fq (p:=((Sum.inl (x:Int):Key),V.ref b)) (λw=>y (by have:=J7 w;omega))] at q;exact Yv _ (ih q)
    exact n1.1 (by rw[w];exact this e)
   exact .cons (k a p f Yk am) (ih n1.2 n2.2 e λb q fb hb nb=>k b q fb (Yv _ hb) nb)
def pG(bb:List Int)(ld:List (List Int))(i:Nat):List (List Int):=ld.set i (bJ (ld.getD i []) bb)
theorem iX(xs ys:List Int):(bJ xs ys).length=ys.length:=by unfold bJ;rw[Ya]
theorem Zfv{xs ys:List Int}{n:Nat}(hx:∀x∈xs,0<=x/\x<n)(hy:∀y∈ys,0<=y/\y<xs.length):∀z∈bJ xs ys,0<=z/\z<n:=λz hz=>by
 obtain⟨y,my,rfl⟩:=Yf.mp hz;obtain⟨y0,y1⟩:=hy y my;have hl:y.toNat<xs.length:=by omega
 have e:xs.getD y.toNat 0=xs[y.toNat]:=by rw[Yn,Yb hl];rfl
 simp_all
def jP(hb:Nat)(mv:List Nat)(hd:List Nat):List Nat:=mv.foldl (λacc i=>acc.set i hb) hd
def gK(bb:List Int)(mv:List Nat)(ld:List (List Int)):List (List Int):=mv.foldl (pG bb) ld
def JS.mv(st:JS)(hb hm:Nat)(mb mv:List Nat)(bb:List Int):JS:=⟨jP hb mv st.hd,gK bb mv st.ld,cX hb (mb++mv) (cW hm st.mem),cW hm st.fr⟩
inductive Qk(C:Addr)(vs:List V)(H:Hp)(Q:VK):Prop
 |mk (l:JL) (st:JS) (n a b ha hb:Nat) (ta tb tn fm:List Int) (tu:Addr) (ma mb:List Nat) (aB:vs=[.ref l.J,.int (a:Int),.int (b:Int),.ref tu]) (aT:cI H C n l st) (bq:H tu=some (.tup (tn.map V.int))) (bR:n<=8) (cM:tn.length=n) (dZ:full tn=true) (ie:st.hd[a]?=some ha) (ji:st.hd[b]?=some hb) (qG:st.ld[a]?=some ta) (xG:st.ld[b]?=some tb) (IT:(∀t∈st.ld,full t=true/\t.length=n)) (T3:st.ld.length=st.hd.length) (Zh7:st.mem.lookup ha=some ma) (Zh8:st.mem.lookup hb=some mb) (Zh9:st.fr.lookup ha=some fm) (Zh_:ha≠hb) (Zia:(∀i∈ma,i<st.hd.length)) (Zib:ma.length+mb.length<=1000) (Zic:(st.mem.map (·.1)).Nodup) (Zid:∀(l':JL) (H':Hp),l'.J=l.J->(∀c∈l'.fp,c∈l.fp)->Out l.fp H H'->cI H' C n l' (st.mv hb ha mb ma (bJ (inv ta) (bJ tn tb)))->Q .ay H'):Qk C vs H Q
def RS(C:Addr):Sp:=λvs H Q _=>Qk C vs H Q
theorem vQ{α β:Type}{g:List α->β->List α}(hg:∀acc i,(g acc i).length=acc.length):∀(is:List β) (xs:List α),(is.foldl g xs).length=xs.length
 |[],_=>rfl
 |i::is,xs=>by
  rw[List.foldl_cons,vQ hg is,hg]
theorem M8{α β:Type}{g:List α->β->List α}{is:List β}{j:Nat}{i:β}(h:is[j]?=some i)(xs:List α):(is.take (j+1)).foldl g xs=g ((is.take j).foldl g xs) i:=by
 rw[Y0,h,List.foldl_append];rfl
theorem ZdO(is:List Nat)(i k:Nat):(dP is).set i (.int (k:Int))=dP (is.set i k):=by
 simp_all
theorem M9{α β:Type}{F:α->β->Prop}{x:α}{y:β}(f:F x y):∀{xs:List α} {ys:List β} (i:Nat),Paired F xs ys->Paired F (xs.set i x) (ys.set i y)
 |_,_,_,.nil=>.nil
 |_,_,0,.cons _ t=>.cons f t
 |_,_,i+1,.cons g t=>.cons g (M9 f i t)
theorem p_{xs ys:List Int}(fx:full xs=true)(fy:full ys=true)(e:xs.length=ys.length):full (bJ xs ys)=true:=by
 have p1:(bJ xs ys).Perm ((bF ys.length).map λx=>xs.getD x.toNat 0):=(pX fy).map _;have e2:((bF ys.length).map λx=>xs.getD x.toNat 0)=xs:=by
  refine Ww λi=>?_;rw[Yl];by_cases hi:i<ys.length
  ·rw[lO hi]
   grind
  ·rw[Y9 (by rw[eX];omega),Y9 (by omega)];rfl
 rw[e2] at p1;exact rb (p1.trans (pX fx))
inductive Ia(H5:Hp)(l:JL)(hd:List Nat)(ld:List (List Int))(n:Nat)(sg:Option V->St)(σ:St)(H6:Hp):Prop
 |mk (h_:List Addr) (o9:Option V) (k1:H6 l.ha=some (.lst (dP hd))) (k2:H6 l.la=some (.lst (h_.map V.ref))) (k3:Paired (λa (xs:List Int)=>H6 a=some (.tup (xs.map V.int))) h_ ld) (k4:∀t∈ld,full t=true/\t.length=n) (kp:∀c o,H5 c=some o->c≠l.ha->c≠l.la->H6 c=some o) (e:σ=sg o9):Ia H5 l hd ld n sg σ H6
def T4(l:JL)(a b hb ha:Int)(tu tm to mo:Addr)(o9:Option V):St:=[some (.ref l.J),some (.int a),some (.int b),some (.ref tu),some (.int hb),some (.int ha),some (.ref tm),some (.ref to),some (.ref mo),o9]
section
theorem qW:aR ["self","mover","stayer","turn","head","old_head","to_mover","to_old_head","moved","number"] ["self","mover","stayer","turn"] (aJ Dy):=⟨rfl,rfl,rfl,by decide+kernel,rfl,by decide+kernel,by decide+kernel⟩
theorem ZdP(F:aK K "move" "Joins.move" Dy f fd)(jc:lS K C)(pV:HasFn P w K mg base 1 "followed" ["first","then"] (Hz K))(oh:HasFn P w K mg base 1 "turned_back" ["turn"] z8)(bl:Bl mg):aH P w K mg base aM 2 f fd ["self","mover","stayer","turn"] (RS C):=by
 refine F.ok qW (λvs H Q E h=>?_) (λaC A outer s H vs Q E hr h=>?_)
 ·obtain⟨l,st,n,a,b,ha,hb,ta,tb,tn,fm,tu,ma,mb,rfl,_⟩:=h;rfl
 obtain⟨l,st,n,a,b,ha,hb,ta,tb,tn,fm,tu,ma,mb,rfl,ja,hu,n8,tl,ft,hA,hB,lA,lB,fl,ll,mA,mB,fA,neq,min,lm,ndk,q⟩:=h;refine⟨_,(ak (a_ (i:=4) qW.nd rfl (Or.inl rfl) (bg (cA (K:=K) rfl) (aV (K:=K) rfl (pv 0) rfl) (pv 2) (λ_ _=>rfl))) (ak (a_ (i:=5) qW.nd rfl (Or.inl rfl) (bg (cA (K:=K) rfl) (aV (K:=K) rfl (pv 0) rfl) (pv 1) (λ_ _=>rfl))) (ak (a_ (i:=6) qW.nd rfl (Or.inl rfl) (aW pV hr (by omega) rfl (aa (bg (cA (K:=K) rfl) (aV (K:=K) rfl (pv 0) rfl) (pv 2) (λ_ _=>rfl)) (aa (pv 3) ae)))) (ak (a_ (i:=7) qW.nd rfl (Or.inl rfl) (aW pV hr (by omega) rfl (aa (pv 6) (aa (aW oh hr (by omega) rfl (aa (bg (cA (K:=K) rfl) (aV (K:=K) rfl (pv 0) rfl) (pv 1) (λ_ _=>rfl)) ae)) ae)))) (ak (a_ (i:=8) qW.nd rfl (Or.inl rfl) (NI (aV (K:=K) rfl (pv 0) rfl) (pv 5) ⟨rfl,rfl,rfl,rfl⟩)) (ak (bY (NI (aV (K:=K) rfl (pv 0) rfl) (pv 5) ⟨rfl,rfl,rfl,rfl⟩)) (ak (eY PassesOwn.never rfl (d_ (K:=K) rfl (pv 8)) (a8 (i:=9) qW.nd rfl (Or.inl rfl)) (ak (P2 (aV (K:=K) rfl (pv 0) rfl) (pv 9) ND (pv 4)) (au (P2 (aV (K:=K) rfl (pv 0) rfl) (pv 9) ND (aW pV hr (by omega) rfl (aa (pv 7) (aa (bg (cA (K:=K) rfl) (aV (K:=K) rfl (pv 0) rfl) (pv 9) (λ_ _=>rfl)) ae))))))) (au (bY (hX (K:=K) rfl (fQ plainAttrs_list PySem.F.slot_list_extend PySem.F.type_list_extend Zao (dh (bH hr) (aV (K:=K) rfl (pv 0) rfl) (pv 4) (λ_ _=>rfl)) (aa (pv 8) ae)))))))))))),?_⟩;have sz:(10000:Nat)<=sizeLine:=by rw[sizeLine_eq];omega
 obtain⟨dx,ho⟩:=ja.obj;have wR:∀{i:Nat} {t:List Int},st.ld[i]?=some t->∃x,l.eU[i]?=some x/\H x=some (.tup (t.map V.int)):=λ{i t} ht=>by
  have hl:=cN ja.lead;have dO:i<l.eU.length:=by rw[hl];exact(Yg.mp ht).1
  obtain⟨y,ey,hy⟩:=fV ja.lead (Yb dO);rw[ht] at ey;cases ey;exact⟨_,Yb dO,hy⟩
 obtain⟨xa,exa,KJ⟩:=wR lA;obtain⟨xb,exb,KL⟩:=wR lB;have ata:dv (l.eU.map V.ref) (a:Int)=some (.ref xa):=hV (by rw[Yl,exa];rfl);have atb:dv (l.eU.map V.ref) (b:Int)=some (.ref xb):=hV (by rw[Yl,exb];rfl);obtain⟨Vj,lta⟩:=fl ta (Yh lA);obtain⟨KN,KO⟩:=fl tb (Yh lB);obtain⟨mo,xR,vmo,Vk⟩:=lN (f:=λv:List Nat=>HO.lst (dP v)) ja.mem mA;obtain⟨ms,mms,vms,hms⟩:=lN (f:=λv:List Nat=>HO.lst (dP v)) ja.mem mB;obtain⟨fo,mfo,vfo,hfo⟩:=lN (f:=λv:List Int=>HO.lst (v.map V.int)) ja.free fA;have KD:=cN ja.mem;have AM:=cN ja.free;have nd:=ja.nd;have AO:∀{x:Addr},x∈l.fR->x∈l.fp:=λ{x} h=>by simp[JL.fp,h]
 simp only[JL.fp,Yy,Yt,not_or] at nd;obtain⟨⟨x1,x2,x3,x4,x5⟩,⟨y1,y2,y3,y4⟩,⟨z1,z2,z3⟩,⟨w1,w2⟩,v1,v2⟩:=nd;refine bW ?_;refine⟨_,rfl,l.J,C,dx,_,_,rfl,ho,jc.cls,jc.jt,rfl,_,rfl,l.ha,_,_,_,rfl,rfl,aj.of ja.heads,mX hB,?_⟩;refine bW ?_;refine⟨_,rfl,l.J,C,dx,_,_,rfl,ho,jc.cls,jc.jt,rfl,_,rfl,l.ha,_,_,_,rfl,rfl,aj.of ja.heads,mX hA,?_⟩;refine bW ?_;refine⟨_,rfl,l.J,C,dx,_,_,rfl,ho,jc.cls,jc.mW,rfl,_,rfl,l.la,_,_,_,rfl,rfl,aj.of ja.iG,atb,_,rfl,xb,tu,tb,tn,rfl,aA.of KL,aA.of hu,λx hx=>by rw[tl,←KO];exact qc KN hx,by omega,λtm H1 Vh g1 htm=>?_⟩;refine bW ?_;refine⟨_,rfl,_,rfl,l.J,C,dx,_,_,rfl,g1 _ _ ho,jc.cls,jc.mW,rfl,_,rfl,l.la,_,_,_,rfl,rfl,aj.of (g1 _ _ ja.iG),ata,xa,ta,rfl,g1 _ _ KJ,by omega,Vj,λti H2 nti g2 AQ=>?_⟩;refine⟨tm,ti,bJ tn tb,inv ta,rfl,aA.of (g2 _ _ htm),aA.of AQ,?_,by rw[iX];omega,λto H3 AR g3 Vl=>?_⟩
 ·rw[fM,lta];exact Zfv (n:=n) (λx hx=>by rw[←tl];exact qc ft hx) (λy hy=>by rw[tl,←KO];exact qc KN hy)
 have jD:=(g1.trans g2).trans g3;generalize Zg2:bJ (inv ta) (bJ tn tb)=bb at Vl q;have uJ:full bb=true/\bb.length=n:=by
  rw[←Zg2];refine⟨p_ (jL Vj) (p_ ft KN (by omega)) (by rw[fM,iX];omega),by rw[iX,iX];exact KO⟩
 refine bW ?_;refine⟨_,rfl,l.J,C,dx,_,_,rfl,jD _ _ ho,jc.cls,jc.ua,rfl,l.md,rfl,.inl ⟨_,.inl (jD _ _ ja.jw)⟩,_,rfl,_,.inl (ha:Int),.ref mo,jD _ _ ja.jw,rfl,vmo,λH4 b4 e4=>?_⟩;rw[yH ha (by rw[Ya];exact KD.symm)] at e4;have o4:=b4 _ _ (jD _ _ ho) x3;have f4:=b4 _ _ (jD _ _ ja.frees) (λz=>w1 z.symm);refine⟨_,rfl,l.J,C,dx,_,_,rfl,o4,jc.cls,jc.rJ,rfl,l.fd,rfl,.inl ⟨_,.inl f4⟩,_,rfl,_,.inl (ha:Int),.ref fo,f4,rfl,vfo,λH5 b5 e5=>?_⟩;rw[yH ha (by rw[Ya];exact AM.symm)] at e5;have lX:∀c o,H c=some o->c≠l.md->c≠l.fd->H5 c=some o:=λc o e n1 n2=>b5 _ _ (b4 _ _ (jD _ _ e) n1) n2;have e45:H5 l.md=some _:=b5 _ _ e4 w1;have qw:∀{x:Addr},x∈l.fR->x≠l.ha/\x≠l.la/\x≠l.md/\x≠l.fd:=λ{x} hx=>⟨λz=>y4 (by rw[←z];exact hx),λz=>z3 (by rw[←z];exact hx),λz=>w2 (by rw[←z];exact hx),λz=>v1 (by rw[←z];exact hx)⟩;have Vm:=lX _ _ Vk (qw xR).2.2.1 (qw xR).2.2.2;have u4:H5 to=some (.tup (bb.map V.int)):=by
  have n1:to≠l.md:=λz=>by rw[z,g1.trans g2 _ _ ja.jw] at AR;cases AR
  have n2:to≠l.fd:=λz=>by rw[z,g1.trans g2 _ _ ja.frees] at AR;cases AR
  exact b5 _ _ (b4 _ _ Vl n1) n2
 dsimp only;have KP:(dP ma).length=ma.length:=Ya _;have hlen:∀is:List Nat,(jP hb is st.hd).length=st.hd.length:=λis=>vQ (λ_ _=>Jb) is st.hd;have Zg3:∀is:List Nat,(gK bb is st.ld).length=st.ld.length:=λis=>vQ (λ_ _=>by unfold pG;exact Jb) is st.ld;refine fw (Ia H5 l (jP hb ma st.hd) (gK bb ma st.ld) n (T4 l a b hb ha tu tm to mo)) (λlE d5=>?_) ?_
 ·refine⟨_,rfl,mo,rfl,⟨_,aj.of Vm⟩,hJ (K:=K) (a:=mo) (xs:=dP ma) (λj=>Ia H5 l (jP hb (ma.take j) st.hd) (gK bb (ma.take j) st.ld) n (T4 l a b hb ha tu tm to mo))
   ⟨l.eU,none,lX _ _ ja.heads y2 y3,lX _ _ ja.iG z1 z2,L2.Paired.bp ja.lead λc xs e=>lX c _ e (dE e ja.jw (λz=>by cases z)) (dE e ja.frees (λz=>by cases z)),fl,λc o e _ _=>e,rfl⟩
   (λj σ H6 _ ⟨_,_,_,_,_,_,kp,_⟩=>aj.of (kp _ _ Vm (qw xR).1 (qw xR).2.1)) ?_ ?_⟩
  ·rintro j v σ H6 hj ⟨h_,o9,k1,k2,k3,k4,kp,rfl⟩;rw[Yl] at hj;obtain⟨i,mi,rfl⟩:∃i,ma[j]?=some i/\V.int (i:Int)=v:=by
    cases e:ma[j]? with
    |none=>rw[e] at hj;cases hj
    |some i=>rw[e] at hj;exact⟨i,rfl,Yp hj⟩
   have hi:=min i (Yh mi);have il:i<(gK bb (ma.take j) st.ld).length:=by rw[Zg3];omega
   have ZhY:=cN k3;obtain⟨t,et,AQ⟩:=fV k3 (Yb (show i<h_.length by omega));obtain⟨ftt,Vn⟩:=k4 t (Yh et);have oJ:=kp _ _ (lX _ _ ho x3 x4) x1 x2;have ixh:jX (dP (jP hb (ma.take j) st.hd)).length (i:Int)=some i:=by
    rw[G0 (by omega) (by rw[Ya,hlen];omega),Y8]
   have ixl:jX (h_.map V.ref).length (i:Int)=some i:=by
    rw[G0 (by omega) (by rw[Ya];omega),Y8]
   refine bc ?_;refine⟨_,rfl,_,rfl,l.J,C,dx,_,_,rfl,oJ,jc.cls,jc.jt,rfl,_,rfl,l.ha,_,_,i,rfl,rfl,k1,ixh,λH7 b7 e7=>?_⟩;have Vo:=b7 _ _ oJ x1;have xS:=b7 _ _ k2 (λz=>y1 z.symm);have to7:H7 to=some (.tup (bb.map V.int)):=b7 _ _ (kp _ _ u4 (dE u4 (lX _ _ ja.heads y2 y3) (λz=>by cases z)) (dE u4 (lX _ _ ja.iG z1 z2) (λz=>by cases z))) (dE (kp _ _ u4 (dE u4 (lX _ _ ja.heads y2 y3) (λz=>by cases z)) (dE u4 (lX _ _ ja.iG z1 z2) (λz=>by cases z))) k1 (λz=>by cases z));have x7:H7 h_[i]=some (.tup (t.map V.int)):=b7 _ _ AQ (dE AQ k1 (λz=>by cases z));have atx:dv (h_.map V.ref) (i:Int)=some (.ref h_[i]):=hV (by rw[Yl,Yb (show i<h_.length by omega)];rfl);refine⟨_,rfl,_,rfl,l.J,C,dx,_,_,rfl,Vo,jc.cls,jc.mW,rfl,_,rfl,l.la,_,_,_,rfl,rfl,aj.of xS,atx,to,h_[i],bb,t,rfl,aA.of to7,aA.of x7,λx hx=>by rw[Vn,←uJ.2];exact qc uJ.1 hx,by have:=uJ.2;omega,λtt H8 Vp g8 htt=>?_⟩;refine⟨_,rfl,l.J,C,dx,_,_,rfl,g8 _ _ Vo,jc.cls,jc.mW,rfl,_,rfl,l.la,_,_,i,rfl,rfl,g8 _ _ xS,ixl,λH9 b9 e9=>?_⟩;have gt:(gK bb (ma.take j) st.ld).getD i []=t:=by rw[Yn,et];rfl
   have eh:jP hb (ma.take (j+1)) st.hd=(jP hb (ma.take j) st.hd).set i hb:=M8 mi st.hd;have el:gK bb (ma.take (j+1)) st.ld=(gK bb (ma.take j) st.ld).set i (bJ t bb):=by
    have e1:gK bb (ma.take (j+1)) st.ld=pG bb (gK bb (ma.take j) st.ld) i:=M8 mi st.ld;rw[e1,←gt];rfl
   have KI:tt≠l.la:=λz=>by rw[z,xS] at Vp;cases Vp
   have h9:∀c o,H6 c=some o->c≠l.ha->c≠l.la->H9 c=some o:=λc o e n1 n2=>b9 _ _ (g8 _ _ (b7 _ _ e n1)) n2;refine⟨h_.set i tt,_,?_,?_,?_,?_,λc o e n1 n2=>h9 c o (kp c o e n1 n2) n1 n2,rfl⟩
   ·rw[eh,←ZdO];exact b9 _ _ (g8 _ _ e7) y1
   ·rw[e9,List.map_set]
   ·rw[el];exact M9 (F:=λa (xs:List Int)=>H9 a=some (.tup (xs.map V.int))) (b9 _ _ htt KI) i (L2.Paired.bp k3 λc xs e=>h9 c _ e (dE e k1 (λz=>by cases z)) (dE e k2 (λz=>by cases z)))
   ·intro u xT;rw[el] at xT;rcases List.mem_or_eq_of_mem_set xT with z|z;·exact k4 u z
    ·rw[z];exact⟨p_ ftt uJ.1 (by rw[Vn,uJ.2]),by rw[iX];exact uJ.2⟩
  ·rintro σ H6 ⟨h_,o9,k1,k2,k3,k4,kp,rfl⟩;rw[KP,We] at k1 k3 k4;exact d5 _ _ ⟨h_,o9,k1,k2,k3,k4,kp,rfl⟩
 rintro σ H6 ⟨h_,o9,k1,k2,k3,k4,kp,rfl⟩;have oJ:=kp _ _ (lX _ _ ho x3 x4) x1 x2;have Vq:=kp _ _ e45 (λz=>y2 z.symm) (λz=>z1 z.symm);have fd6:=kp _ _ e5 (λz=>y3 z.symm) (λz=>z2 z.symm);have AS:=qw mms;have AU:=qw xR;have wU:∀c o,H c=some o->c≠l.ha->c≠l.la->c≠l.md->c≠l.fd->H6 c=some o:=λc o e n1 n2 n3 n4=>kp _ _ (lX _ _ e n3 n4) n1 n2;have ms6:=wU _ _ hms AS.1 AS.2.1 AS.2.2.1 AS.2.2.2;have mo6:=wU _ _ Vk AU.1 AU.2.1 AU.2.2.1 AU.2.2.2;have Vr:Paired (λc (p:Nat×List Nat)=>H6 c=some (.lst (dP p.2))/\c∈l.fR) (dU (st.mem.map (·.1)) l.fR ha) (cW ha st.mem):=EO ja.mem λc p e mc _=>by
  obtain⟨q1,q2,q3,q4⟩:=qw mc;exact⟨wU _ _ e q1 q2 q3 q4,mc⟩
 have lkB:(cW ha st.mem).lookup hb=some mb:=by rw[tY (λz=>neq z.symm)];exact mB
 obtain⟨u5,Zg4,IU,IV⟩:=lN (f:=λv:List Nat=>HO.lst (dP v)) (L2.Paired.bp Vr λ_ _ h=>h.1) lkB;rw[ou] at IU;have zP:u5∈l.fR:=y8.subset Zg4;refine⟨_,rfl,l.J,C,dx,_,_,rfl,oJ,jc.cls,jc.ua,rfl,_,rfl,l.md,.ref u5,rfl,qj Vq IU,.inl ⟨rfl,_,aj.of IV⟩,_,rfl,u5,mo,_,_,rfl,rfl,IV,mo6,by rw[KP,Ya];omega,λH7 b7 e7=>?_⟩;obtain⟨r1,r2,r3,r4⟩:=qw zP;have sub:=y8 (h:=ha) (ks:=st.mem.map (·.1)) (as:=l.fR);have Zg5:=y8 (h:=ha) (ks:=st.fr.map (·.1)) (as:=l.ck);have Vs:∀c∈JL.fp ⟨l.J,l.ha,l.la,l.md,l.fd,h_,dU (st.mem.map (·.1)) l.fR ha,dU (st.fr.map (·.1)) l.ck ha⟩,c∈l.fp:=λc hc=>by
  simp only[JL.fp,Yt] at hc⊢;rcases hc with h|h|h|h|h|h;·exact .inl h
  ·exact .inr (.inl h)
  ·exact .inr (.inr (.inl h))
  ·exact .inr (.inr (.inr (.inl h)))
  ·exact .inr (.inr (.inr (.inr (.inl h))))
  ·exact .inr (.inr (.inr (.inr (.inr (sub.subset h)))))
 have h7:∀c o,H6 c=some o->c≠u5->H7 c=some o:=λc o e n1=>b7 _ _ e n1;refine q ⟨l.J,l.ha,l.la,l.md,l.fd,h_,dU (st.mem.map (·.1)) l.fR ha,dU (st.fr.map (·.1)) l.ck ha⟩ H7 rfl Vs (λc o e nc=>?_) ⟨⟨dx,h7 _ _ oJ (λz=>x5 (by rw[z];exact zP))⟩,h7 _ _ k1 (λz=>r1 z.symm),h7 _ _ k2 (λz=>r2 z.symm),L2.Paired.bp k3 λc xs e=>h7 c _ e (dE e IV (λz=>by cases z)),?_,?_,?_,?_,?_,λc hc z=>?_⟩
 ·simp only[JL.fp,Yt,not_or] at nc;exact h7 _ _ (wU _ _ e nc.2.1 nc.2.2.1 nc.2.2.2.1 nc.2.2.2.2.1) (λz=>nc.2.2.2.2.2 (by rw[z];exact zP))
 ·show H7 l.md=some (.dK (bh ((cX hb (mb++ma) (cW ha st.mem)).map (·.1)) _));rw[oj,ou];exact h7 _ _ Vq (λz=>r3 z.symm)
 ·refine M7 (F:=λc (p:Nat×List Nat)=>H6 c=some (.lst (dP p.2))/\c∈l.fR) (m:=u5) (λk=>?_) Vr (sub.nodup v2) ?_ (by rw[ou];exact IU) λc p e _ nc=>h7 _ _ e.1 nc
  ·show H7 u5=some (.lst (dP (mb++ma)));rw[e7,dP,dP,dP,Yj]
  ·rw[ou];exact ndk.filter _
 ·show H7 l.fd=some (.dK (bh ((cW ha st.fr).map (·.1)) _));rw[ou];exact h7 _ _ fd6 (λz=>r4 z.symm)
 ·refine EO ja.free λc p e mc _=>?_;have no:=ja.out c mc;simp only[JL.fp,Yt,not_or] at no;exact h7 _ _ (wU _ _ e no.2.1 no.2.2.1 no.2.2.2.1 no.2.2.2.2.1) (λz=>no.2.2.2.2.2 (by rw[z];exact zP))
 ·have e0:(JL.fp ⟨l.J,l.ha,l.la,l.md,l.fd,h_,dU (st.mem.map (·.1)) l.fR ha,dU (st.fr.map (·.1)) l.ck ha⟩).Sublist l.fp:=(((((sub.cons₂ l.fd).cons₂ l.md).cons₂ l.la).cons₂ l.ha).cons₂ l.J);exact e0.nodup ja.nd
 ·exact ja.out c (Zg5.subset hc) (Vs c z)
end
structure T5(st:JS)(n a b ha hb:Nat)(ta tb fma u6:List Int)(ma mb:List Nat):Prop where
 hA:st.hd[a]?=some ha
 hB:st.hd[b]?=some hb
 lA:st.ld[a]?=some ta
 lB:st.ld[b]?=some tb
 fl:∀t∈st.ld,full t=true/\t.length=n
 ll:st.ld.length=st.hd.length
 mA:st.mem.lookup ha=some ma
 mB:st.mem.lookup hb=some mb
 fA:st.fr.lookup ha=some fma
 fB:st.fr.lookup hb=some u6
 ne:ha≠hb
 iA:∀i∈ma,i<st.hd.length
 iB:∀i∈mb,i<st.hd.length
 lm:ma.length+mb.length<=1000
 nd:(st.mem.map (·.1)).Nodup
inductive OW(C:Addr)(vs:List V)(H:Hp)(Q:VK):Prop
 |mk (l:JL) (st:JS) (n a b ha hb:Nat) (ta tb tn fma u6:List Int) (tu:Addr) (ma mb:List Nat) (aB:vs=[.ref l.J,.int (a:Int),.int (b:Int),.ref tu]) (aT:cI H C n l st) (bq:H tu=some (.tup (tn.map V.int))) (bR:n<=8) (cM:tn.length=n) (dZ:full tn=true) (ie:T5 st n a b ha hb ta tb fma u6 ma mb) (ji:∀(l':JL) (aI:JS) (H':Hp),l'.J=l.J->(∀c∈l'.fp,c∈l.fp)->Out l.fp H H'->cI H' C n l' aI->(aI=st.mv hb ha mb ma (bJ (inv ta) (bJ (inv tn) tb))\/aI=st.mv ha hb ma mb (bJ (inv tb) (bJ tn ta)))->Q .ay H'):OW C vs H Q
def Ql(C:Addr):Sp:=λvs H Q _=>OW C vs H Q
section
theorem Xe:aR ["self","one","other","turn"] ["self","one","other","turn"] (aJ Bv):=⟨rfl,rfl,rfl,by decide+kernel,rfl,by decide+kernel,by decide+kernel⟩
theorem ZcF(F:aK K "bring_together" "Joins.bring_together" Bv f fd)(jc:lS K C)(oh:HasFn P w K mg base 1 "turned_back" ["turn"] z8)(yx:cq P w K mg base 2 "move" C ["self","mover","stayer","turn"] (RS C))(bl:Bl mg):aH P w K mg base aM 3 f fd ["self","one","other","turn"] (Ql C):=by
 refine F.ok Xe (λvs H Q E h=>?_) (λaC A outer s H vs Q E hr h=>?_)
 ·obtain⟨l,st,n,a,b,ha,hb,ta,tb,tn,fma,u6,tu,ma,mb,rfl,_⟩:=h;rfl
 obtain⟨l,st,n,a,b,ha,hb,ta,tb,tn,fma,u6,tu,ma,mb,rfl,ja,hu,n8,tl,ft,two,q⟩:=h;refine⟨_,(au (aQ (aU lU (bL (c9 (K:=K) rfl) rfl bl.cU cT (aa (dh (bH hr) (aV (K:=K) rfl (pv 0) rfl) (bg (cA (K:=K) rfl) (aV (K:=K) rfl (pv 0) rfl) (pv 1) (λ_ _=>rfl)) (λ_ _=>rfl)) ae)) (bL (c9 (K:=K) rfl) rfl bl.cU cT (aa (dh (bH hr) (aV (K:=K) rfl (pv 0) rfl) (bg (cA (K:=K) rfl) (aV (K:=K) rfl (pv 0) rfl) (pv 2) (λ_ _=>rfl)) (λ_ _=>rfl)) ae)) (aP _)) (au (bY (cK yx hr (by omega) (pv 0) (aa (pv 1) (aa (pv 2) (aa (aW oh hr (by omega) rfl (aa (pv 3) ae)) ae)))))) (au (bY (cK yx hr (by omega) (pv 0) (aa (pv 2) (aa (pv 1) (aa (pv 3) ae)))))))),?_⟩;obtain⟨dx,ho⟩:=ja.obj;obtain⟨xa,mxa,vxa,KJ⟩:=lN (f:=λv:List Nat=>HO.lst (dP v)) ja.mem two.mA;obtain⟨xb,mxb,vxb,KL⟩:=lN (f:=λv:List Nat=>HO.lst (dP v)) ja.mem two.mB;refine⟨_,rfl,l.J,C,dx,_,_,rfl,ho,jc.cls,jc.ua,rfl,_,rfl,l.J,C,dx,_,_,rfl,ho,jc.cls,jc.jt,rfl,_,rfl,l.ha,_,_,_,rfl,rfl,aj.of ja.heads,mX two.hA,l.md,.ref xa,rfl,qj ja.jw vxa,xa,_,rfl,.inl (aj.of KJ),?_⟩;refine⟨_,rfl,l.J,C,dx,_,_,rfl,ho,jc.cls,jc.ua,rfl,_,rfl,l.J,C,dx,_,_,rfl,ho,jc.cls,jc.jt,rfl,_,rfl,l.ha,_,_,_,rfl,rfl,aj.of ja.heads,mX two.hB,l.md,.ref xb,rfl,qj ja.jw vxb,xb,_,rfl,.inl (aj.of KL),_,_,rfl,rfl,_,rfl,bB (λ_=>?_) (λ_=>?_)⟩
 ·refine⟨_,rfl,l.J,dx,_,rfl,ho,rfl,_,rfl,_,rfl,_,rfl,tu,tn,rfl,hu,by omega,ft,λtv H1 ntv g1 htv=>?_⟩;refine⟨l,st,n,a,b,ha,hb,ta,tb,inv tn,fma,tv,ma,mb,rfl,ja.same g1,htv,n8,by rw[fM];exact tl,jL ft,two.hA,two.hB,two.lA,two.lB,two.fl,two.ll,two.mA,two.mB,two.fA,two.ne,two.iA,two.lm,two.nd,λl' H2 k1 k2 o2 j2=>q l' _ H2 k1 k2 ((Out.of g1).trans o2) j2 (.inl rfl)⟩
 ·refine⟨_,rfl,l.J,dx,_,rfl,ho,rfl,_,rfl,_,rfl,_,rfl,?_⟩;exact⟨l,st,n,b,a,hb,ha,tb,ta,tn,u6,tu,mb,ma,rfl,ja,hu,n8,tl,ft,two.hB,two.hA,two.lB,two.lA,two.fl,two.ll,two.mB,two.mA,two.fB,(λz=>two.ne z.symm),two.iB,by have:=two.lm;omega,two.nd,λl' H2 k1 k2 o2 j2=>q l' _ H2 k1 k2 o2 j2 (.inr rfl)⟩
end
def S1(H:Hp)(as:List Addr)(bU:List (Int×Int)):Prop:=Paired (λa (p:Int×Int)=>H a=some (.tup [.int p.1,.int p.2])) as bU
def i_(hi hj:Nat)(ti tj si sj:List Int):List (Int×Int):=if hi=hj then si.map λz=>(ti.getD z.toNat 0,tj.getD z.toNat 0) else(si.map λz=>ti.getD z.toNat 0).flatMap λx=>sj.map λz=>(x,tj.getD z.toNat 0)
inductive OX(C:Addr)(vs:List V)(H:Hp)(Q:VK):Prop
 |mk (l:JL) (st:JS) (n i j hi hj:Nat) (ti tj si sj:List Int) (aB:vs=[.ref l.J,.int (i:Int),.int (j:Int)]) (aT:cI H C n l st) (bq:r6 st i hi ti si) (bR:r6 st j hj tj sj) (cM:∀(p:Addr) (as:List Addr) (bU:List (Int×Int)) (H':Hp),H p=none->ah H H'->H' p=some (.lst (as.map V.ref))->S1 H' as bU->bU.Perm (i_ hi hj ti tj si sj)->bU.Pairwise i8->Q (.ref p) H'):OX C vs H Q
def Qm(C:Addr):Sp:=λvs H Q _=>OX C vs H Q
inductive Qn(C:Addr)(vs:List V)(H:Hp)(Q:VK):Prop
 |mk (l:JL) (st:JS) (n i j hi hj:Nat) (ti tj si sj tn:List Int) (tu:Addr) (aB:vs=[.ref l.J,.int (i:Int),.int (j:Int),.ref tu]) (aT:cI H C n l st) (bq:r6 st i hi ti si) (bR:r6 st j hj tj sj) (cM:H tu=some (.tup (tn.map V.int))) (dZ:(∀q∈i_ hi hj ti tj si sj,0<=q.1/\q.1<tn.length)) (ie:(i_ hi hj ti tj si sj).length<=1000) (ji:∀(p:Addr) (ns:List Int) (H':Hp),H p=none->ah H H'->H' p=some (.lst (ns.map V.int))->ns.Perm (((i_ hi hj ti tj si sj).filter λq=>decide (tn.getD q.1.toNat 0=q.2)).map (·.1))->ns.Pairwise (·<·)->Q (.ref p) H'):Qn C vs H Q
def G9(C:Addr):Sp:=λvs H Q _=>Qn C vs H Q
section
theorem YI:aR ["self","one","other","turn"] ["self","one","other","turn"] (aJ Dx):=⟨rfl,rfl,rfl,by decide+kernel,rfl,by decide+kernel,by decide+kernel⟩
theorem ZdQ(F:aK K "left" "Joins.left" Dx f fd)(Dd:cq P w K mg base 3 "pairs" C ["self","one","other"] (Qm C))(bl:Bl mg):aH P w K mg base aM 4 f fd ["self","one","other","turn"] (G9 C):=by
 refine F.ok YI (λvs H Q E h=>?_) (λaC A outer s H vs Q E hr h=>?_)
 ·obtain⟨l,st,n,i,j,hi,hj,ti,tj,si,sj,tn,tu,rfl,_⟩:=h;rfl
 obtain⟨l,st,n,i,j,hi,hj,ti,tj,si,sj,tn,tu,rfl,ja,o1,o2,hu,fD,iM,q⟩:=h;refine⟨_,(au (aF (Zcj (xs:=["first","second"]) (fr:=[("turn",3)]) (cl:=[("turn",s.heap.objs.size+1)]) rfl ⟨by with_unfolding_all rfl,⟨rfl,trivial⟩,rfl,by decide+kernel,by decide+kernel,rfl,⟨⟨rfl,.inl rfl,.inl rfl,rfl⟩,trivial⟩,by decide+kernel⟩ (λ_ _ _ _=>(iD (K:=K) (n:=2) rfl rfl (bN (a8 (i:=0) (show(["first","second","turn"]:List Str).Nodup by decide+kernel) rfl (Or.inl rfl)) (bN (a8 (i:=1) (show(["first","second","turn"]:List Str).Nodup by decide+kernel) rfl (Or.inl rfl)) iC)))) (d_ (K:=K) rfl (cK Dd hr (by omega) (pv 0) (aa (pv 1) (aa (pv 2) ae)))) (λ_ _ _ _=>uo (aU cg (bg (gu (K:=K) rfl) (pv 2) (pv 0) (λ_ _=>rfl)) (pv 1) (aP _))) (λ_ _ _ _=>(pv 0))))),?_⟩;obtain⟨dx,ho⟩:=ja.obj;refine⟨_,rfl,l.J,dx,_,rfl,ho,rfl,_,rfl,_,rfl,l,st,n,i,j,hi,hj,ti,tj,si,sj,rfl,ja,o1,o2,λp as bU H1 np g1 hp pr pm pw=>?_⟩;have pl:=cN pr;have al:(as.map V.ref).length=bU.length:=by rw[Ya];exact pl
 have T6:=pm.length_eq;refine⟨p,rfl,⟨_,aj.of hp⟩,λD hD=>Zaq (xs:=as.map V.ref) (λk ys H2=>k<=bU.length/\ah H1 H2/\H2 D=some (.lst ys)/\ys=((bU.take k).filter λq=>decide (tn.getD q.1.toNat 0=q.2)).map λq=>V.int q.1) ⟨Yw _,cy hD _,aZ,rfl⟩ (λk ys H2 _ ⟨_,g2,_,_⟩=>aj.of (g2 _ _ hp)) ?_ ?_⟩
 ·rintro k v ys H2 hk ⟨_,g2,h2,ey⟩ os ph;obtain⟨u1,u2,rfl⟩:∃u1 u2,os=[u1,u2]:=by
   match os,ph with
   |[u1,u2],_=>exact⟨u1,u2,rfl⟩
  rw[Yl] at hk;obtain⟨c,ec,rfl⟩:∃c,as[k]?=some c/\V.ref c=v:=by
   cases e:as[k]? with
   |none=>rw[e] at hk;cases hk
   |some c=>rw[e] at hk;exact⟨c,rfl,Yp hk⟩
  obtain⟨⟨x,y⟩,KQ,hxy⟩:=fV pr ec;have kl:k<bU.length:=(Yg.mp KQ).1;have bx:=fD (x,y) (pm.subset (Yh KQ));have hx2:=g2 _ _ hxy;have yl:ys.length<sizeLine:=by
   have:=Wi (λq:Int×Int=>decide (tn.getD q.1.toNat 0=q.2)) (bU.take k);rw[Wd] at this;rw[ey,Ya,sizeLine_eq];omega
  refine⟨c,_,rfl,aA.of hx2,rfl,_,_,rfl,bc ⟨_,_,rfl,bc ⟨rfl,⟨[some (.int x),some (.int y)],rfl,rfl⟩,?_⟩⟩⟩;refine⟨_,rfl,_,rfl,tu,_,_,_,rfl,rfl,aA.of (g2 _ _ (g1 _ _ hu)),m6 bx.1 bx.2,_,rfl,rfl,_,rfl,?_⟩;have ed:decide (V.int (tn.getD x.toNat 0)=V.int y)=decide (tn.getD x.toNat 0=y):=by
   rw[Wf,decide_eq_true_iff,decide_eq_true_iff];exact⟨V.int.inj,λz=>by rw[z]⟩
  rw[ed];have et:∀(b:Bool),decide (tn.getD x.toNat 0=y)=b->((bU.take (k+1)).filter λq=>decide (tn.getD q.1.toNat 0=q.2)).map (λq=>V.int q.1)=ys++(if b=true then[V.int x] else[]):=λb eb=>by
   rw[ey,Y0,KQ,Wh,Yj]
   congr 1
   show([((x,y):Int×Int)].filter _).map _=_;rw[Wo,eb];cases b<;>rfl
  refine bB (λcc=>?_) (λcc=>?_)
  ·refine⟨_,rfl,h2,yl,kl,λb o e=>?_,aZ,?_⟩
   ·rw[a9 (bQ e hD)];exact g2 _ _ e
   ·rw[et true cc];rfl
  ·refine⟨kl,g2,h2,?_⟩;rw[et false (by cases e:decide (tn.getD x.toNat 0=y) with|true=>exact absurd e cc|false=>rfl)];simp
 ·rintro ys H2 ⟨_,g2,h2,ey⟩;rw[al,We] at ey;refine q D ((bU.filter λq=>decide (tn.getD q.1.toNat 0=q.2)).map (·.1)) H2 (g1.free hD) (g1.trans g2) (by rw[h2,ey,Wc];rfl) ((pm.filter _).map _) ?_;rw[W3];refine(List.Pairwise.and_mem.mp (pw.filter _)).imp ?_;rintro a b ⟨ma,mb,lt⟩;have e1:tn.getD a.1.toNat 0=a.2:=of_decide_eq_true (Yz.mp ma).2;have e2:tn.getD b.1.toNat 0=b.2:=of_decide_eq_true (Yz.mp mb).2;rcases lt with lt|⟨e,lt⟩;·exact lt
  ·rw[←e1,←e2,e] at lt;exact absurd lt (Int.lt_irrefl _)
end
theorem Zfw{H:Hp}{g:Nat->Int×Int}:∀{ys:List V} {ks:List Nat},Paired (λy k=>∃a,y=V.ref a/\H a=some (.tup [.int (g k).1,.int (g k).2])) ys ks->∃as:List Addr,ys=as.map V.ref/\S1 H as (ks.map g):=by
 intro ys ks pr;induction pr with
 |nil=>exact⟨[],rfl,.nil⟩
 |cons z t ih=>
  obtain⟨a,e,h⟩:=z;obtain⟨as,e2,h2⟩:=ih;exact⟨a::as,by rw[e,e2];rfl,.cons h h2⟩
theorem map_range{α:Type}(g:Int->α)(si:List Int):(List.range si.length).map (λk=>g (si.getD k 0))=si.map g:=by
 have e2:(List.range si.length).map (λk=>g (si.getD k 0))=((List.range si.length).map λk=>si.getD k 0).map g:=by rw[Wc];rfl
 rw[e2,(range_getD si 0)]
def T7(D:Addr)(H:Hp)(as:List Addr)(bU:List (Int×Int)):Prop:=Paired (λa (p:Int×Int)=>a≠D/\H a=some (.tup [.int p.1,.int p.2])) as bU
theorem FZ{α β γ:Type}(g:α->β->γ)(ys:List β):∀xs:List α,(xs.flatMap λx=>ys.map (g x)).length=xs.length*ys.length
 |[]=>by simp
 |x::xs=>by rw[List.flatMap_cons,Yi,FZ g ys xs,Ya,Wq,Nat.succ_mul];omega
theorem ZbD{α β γ:Type}{g:α->List γ}{xs:List α}{i:Nat}{x:α}(h:xs[i]?=some x):(xs.take (i+1)).flatMap g=(xs.take i).flatMap g++g x:=by
 rw[Y0,h,List.flatMap_append];simp
theorem NS{ns:List Int}(so:ns.Pairwise (·<=·))(nd:ns.Nodup):ns.Pairwise (·<·):=by
 refine(List.Pairwise.and so (W7.mp nd)).imp ?_
 grind
theorem ZdR(x:Int){ns:List Int}(st:ns.Pairwise (·<·)):(ns.map λy=>((x,y):Int×Int)).Pairwise i8:=by
 rw[W3];exact st.imp λh=>.inr ⟨rfl,h⟩
theorem ZdS{ns:List Int}(st:ns.Pairwise (·<·)){k:Nat}{x y:Int}(hx:ns[k]?=some x)(my:y∈ns.take k):y<x:=by
 obtain⟨i,hi,rfl⟩:=Wp.mp my;obtain⟨hk,rfl⟩:=Yg.mp hx;rw[Wd] at hi;rw[List.getElem_take];exact Wz.mp st i k (by omega) hk (by omega)
section
theorem CH:aR ["self","one","other","here","there"] ["self","one","other"] (aJ C7):=⟨rfl,rfl,rfl,by decide+kernel,rfl,by decide+kernel,by decide+kernel⟩
theorem ZcG(F:aK K "pairs" "Joins.pairs" C7 f fd)(jc:lS K C)(tI:cq P w K mg base 1 "together" C ["self","one","other"] (EN C))(jI:cq P w K mg base 2 "open_at" C ["self","one"] (we C))(bl:Bl mg):aH P w K mg base aM 3 f fd ["self","one","other"] (Qm C):=by
 refine F.ok CH (λvs H Q E h=>?_) (λaC A outer s H vs Q E hr h=>?_)
 ·obtain⟨l,st,n,i,j,hi,hj,ti,tj,si,sj,rfl,_⟩:=h;rfl
 obtain⟨l,st,n,i,j,hi,hj,ti,tj,si,sj,rfl,ja,o1,o2,q⟩:=h;refine⟨_,(ak (aQ (jO (fC (cK tI hr (by omega) (pv 0) (aa (pv 1) (aa (pv 2) ae))))) (au (aF (Zck (xs:=["first","second"]) (fr:=[("self",0),("other",2)]) (cl:=[("self",s.heap.objs.size+1),("other",s.heap.objs.size+1+1)]) rfl ⟨by with_unfolding_all rfl,⟨rfl,⟨rfl,trivial⟩⟩,rfl,by decide+kernel,by decide+kernel,rfl,⟨⟨rfl,.inl rfl,.inl rfl,rfl⟩,⟨⟨rfl,.inl rfl,.inl rfl,rfl⟩,trivial⟩⟩,by decide+kernel⟩ (λ_ _ _ _=>(a8 (i:=0) (show(["first","second","self","other"]:List Str).Nodup by decide+kernel) rfl (Or.inl rfl))) (d_ (K:=K) rfl (cK jI hr (by omega) (pv 0) (aa (pv 1) ae))) (λ_ _ _ _=>(d_ (K:=K) rfl (cK jI hr (by omega) (pv 2) (aa (pv 3) ae)))) (λ_ _ _ _=>(a8 (i:=1) (show(["first","second","self","other"]:List Str).Nodup by decide+kernel) rfl (Or.inl rfl))) (λ_ _ _ _=>(dz (aa (pv 0) (aa (pv 1) ae))))))) aY) (ak (a_ (i:=3) CH.nd rfl (Or.inr rfl) (bg (cA (K:=K) rfl) (aV (K:=K) rfl (pv 0) rfl) (pv 1) (λ_ _=>rfl))) (ak (a_ (i:=4) CH.nd rfl (Or.inr rfl) (bg (cA (K:=K) rfl) (aV (K:=K) rfl (pv 0) rfl) (pv 2) (λ_ _=>rfl))) (au (aF (bL (Zcq (K:=K) rfl) rfl bl.FO Fd (aa (iW (x:="section") (fr:=[("there",4),("here",3)]) (cl:=[("there",s.heap.objs.size+1+1+1+1),("here",s.heap.objs.size+1+1+1)]) rfl ⟨by with_unfolding_all rfl,⟨rfl,⟨rfl,trivial⟩⟩,rfl,by decide+kernel,rfl,by decide+kernel,rfl,⟨⟨rfl,.inl rfl,.inl rfl,rfl⟩,⟨⟨rfl,.inl rfl,.inl rfl,rfl⟩,trivial⟩⟩,by decide+kernel⟩ (d_ (K:=K) rfl (dh (bH hr) (aV (K:=K) rfl (pv 0) rfl) (bg (cA (K:=K) rfl) (aV (K:=K) rfl (pv 0) rfl) (pv 1) (λ_ _=>rfl)) (λ_ _=>rfl))) (λ_ _ _ _=>mS) (λ_ _ _ _=>(dz (aa (bg (gu (K:=K) rfl) (pv 2) (pv 0) (λ_ _=>rfl)) (aa (bg (gu (K:=K) rfl) (pv 1) (pv 0) (λ_ _=>rfl)) ae))))) ae))))))),?_⟩;obtain⟨dx,ho⟩:=ja.obj;have f1:=o1.iM;have f2:=o2.iM;refine⟨_,rfl,l.J,dx,_,rfl,ho,rfl,_,rfl,_,rfl,l,st,n,i,j,hi,hj,rfl,ja,o1.hd,o2.hd,_,rfl,?_⟩;by_cases eh:hi=hj
 ·rw[decide_eq_true eh];refine cz (aX ?_);have es:si=sj:=by have a:=o1.fr;have b:=o2.fr;rw[eh,b] at a;exact(Yp a).symm
  have wR:∀{k:Nat} {t:List Int},st.ld[k]?=some t->∃x,l.eU[k]?=some x/\H x=some (.tup (t.map V.int)):=λ{k t} ht=>by
   have hl:=cN ja.lead;have dO:k<l.eU.length:=by rw[hl];exact(Yg.mp ht).1
   obtain⟨y,ey,hy⟩:=fV ja.lead (Yb dO);rw[ht] at ey;cases ey;exact⟨_,Yb dO,hy⟩
  obtain⟨xi,exi,hxi⟩:=wR o1.ld;obtain⟨xj,exj,hxj⟩:=wR o2.ld;have ati:dv (l.eU.map V.ref) (i:Int)=some (.ref xi):=hV (by rw[Yl,exi];rfl);have atj:dv (l.eU.map V.ref) (j:Int)=some (.ref xj):=hV (by rw[Yl,exj];rfl);obtain⟨fa,Vg,vf,cV⟩:=lN (f:=λv:List Int=>HO.lst (v.map V.int)) ja.free o1.fr;refine bW ?_;refine⟨_,rfl,l.J,C,dx,_,_,rfl,ho,jc.cls,jc.mW,rfl,_,rfl,l.la,_,_,_,rfl,rfl,aj.of ja.iG,ati,?_⟩;refine bW ?_;refine⟨_,rfl,l.J,C,dx,_,_,rfl,ho,jc.cls,jc.mW,rfl,_,rfl,l.la,_,_,_,rfl,rfl,aj.of ja.iG,atj,?_⟩;refine⟨_,rfl,l.J,C,dx,_,_,rfl,ho,jc.cls,jc.rJ,rfl,_,rfl,l.J,C,dx,_,_,rfl,ho,jc.cls,jc.jt,rfl,_,rfl,l.ha,_,_,_,rfl,rfl,aj.of ja.heads,mX o1.hd,l.fd,_,rfl,qj ja.frees vf,fa,rfl,⟨_,aj.of cV⟩,λD hD=>yE (xs:=si.map V.int) (aj.of cV) (by rw[Ya];omega) hD (λ_=>true) (λk y H1=>∃a,y=V.ref a/\a≠D/\H1 a=some (.tup [.int (ti.getD (si.getD k 0).toNat 0),.int (tj.getD (si.getD k 0).toNat 0)])) (λk y H1 H2 b ⟨a,e1,e2,e3⟩=>⟨a,e1,e2,b _ _ e3 e2⟩) (λk v hk H1 g1 KR Kt Kf kt kf=>?_) λys H1 g1 h1 pr=>?_⟩
  ·obtain⟨z,rfl,hz⟩:=mU hk;have gz:si.getD k 0=z:=by rw[Yn,hz];rfl
   have b1:=o1.fD z (Yh hz);have b2:=o2.fD z (by rw[←es];exact Yh hz);refine l_ (c8 ?_);refine⟨_,rfl,_,rfl,xi,_,_,_,rfl,rfl,aA.of (g1 _ _ hxi),m6 b1.1 b1.2,_,rfl,_,rfl,xj,_,_,_,rfl,rfl,aA.of (g1 _ _ hxj),m6 b2.1 b2.2,by show 2<=sizeLine;rw[sizeLine_eq];omega,λa H2 na g2 ha=>?_⟩;obtain⟨ys,KR⟩:=KR;exact kt _ H2 rfl g2 ⟨a,rfl,(λz=>by rw[z,KR] at na;cases na),by rw[gz];exact ha⟩
  ·rw[MW,Ya] at pr;obtain⟨as,eas,d7⟩:=Zfw (g:=λk=>(ti.getD (si.getD k 0).toNat 0,tj.getD (si.getD k 0).toNat 0)) (L2.Paired.bp pr λy k ⟨a,e1,e2,e3⟩=>⟨a,e1,e3⟩);have em:(List.range si.length).map (λk=>((ti.getD (si.getD k 0).toNat 0,tj.getD (si.getD k 0).toNat 0):Int×Int))=si.map λz=>(ti.getD z.toNat 0,tj.getD z.toNat 0):=map_range (λz=>(ti.getD z.toNat 0,tj.getD z.toNat 0)) si;rw[em] at d7;have al:=cN d7;rw[Ya] at al;rw[eas] at h1;have ndp:(si.map λz=>((ti.getD z.toNat 0,tj.getD z.toNat 0):Int×Int)).Nodup:=by
    have d:=o1.dist;rw[W7,W3] at d⊢;exact d.imp λh e=>h (congrArg (·.1) e)
   refine⟨D,as,_,rfl,aj.of h1,d7,ndp,.inl (by omega),λiO mf mF p2 pw p H2 np g2 hp=>?_⟩;refine q p iO mf H2 (g1.free np) (g1.trans g2) hp (L2.Paired.bp mF λ_ _ e=>g2 _ _ e) ?_ pw;unfold i_;rw[if_pos eh];exact p2
 ·rw[decide_eq_false eh];refine c8 ?_;refine⟨_,rfl,l.J,dx,_,rfl,ho,rfl,_,rfl,l,st,n,i,hi,ti,si,rfl,ja,o1.hd,o1.ld,o1.fr,o1.fD,o1.iM,λp ns H1 np g1 pm srt hp=>?_⟩;have nl:=pm.length_eq;rw[Ya] at nl;have sns:=NS srt (pm.nodup_iff.mpr o1.dist);refine⟨p,rfl,⟨_,aj.of hp⟩,λD hD=>Zdw (xs:=ns.map V.int) (λk ys H2=>k<=ns.length/\ah H1 H2/\H2 D=some (.lst ys)/\∃(as:List Addr) (bU:List (Int×Int)),ys=as.map V.ref/\T7 D H2 as bU/\bU.Perm ((ns.take k).flatMap λx=>sj.map λz=>(x,tj.getD z.toNat 0))/\bU.Pairwise i8/\∀p∈bU,p.1∈ns.take k) ⟨Yw _,cy hD _,aZ,[],[],rfl,.nil,.nil,.nil,λ_ h=>(nomatch h)⟩ (λk ys H2 _ ⟨_,g2,_⟩=>aj.of (g2 _ _ hp)) ?_ ?_ ?_ (λv σ H R R' m h=>m _ _ h)⟩
  ·rintro k v ys H2 hk ⟨kl,g2,h2,as,bU,ey,pa,pp,pw,pin⟩ os ph;obtain⟨u1,u2,rfl⟩:∃u1 u2,os=[u1,u2]:=by
    match os,ph with
    |[u1,u2],_=>exact⟨u1,u2,rfl⟩
   obtain⟨x,rfl,hx⟩:=mU hk;have kl':k<ns.length:=(Yg.mp hx).1;refine bc ⟨⟨[some (.int x),u2],rfl,rfl⟩,?_⟩;refine⟨_,rfl,l.J,dx,_,rfl,g2 _ _ (g1 _ _ ho),rfl,_,rfl,l,st,n,j,hj,tj,sj,rfl,ja.same (g1.trans g2),o2.hd,o2.ld,o2.fr,o2.fD,o2.iM,λp2 sJ H3 sL g3 KS Zg6 dB=>?_⟩;have KU:=KS.length_eq;rw[Ya] at KU;have Zg7:=NS Zg6 (KS.nodup_iff.mpr o2.dist);have pD:p2≠D:=λz=>by rw[z,h2] at sL;cases sL
   have T6:=pp.length_eq;rw[FZ (λx z=>((x,tj.getD z.toNat 0):Int×Int)) sj (ns.take k),Wd] at T6;have Zie:=cN pa;have Zif:min k ns.length*sj.length<=64*64:=Jy (by omega) (by omega);refine⟨p2,rfl,⟨_,aj.of dB⟩,p2,sJ.map V.int,λk2 gc σ H4=>k2<=sJ.length/\ah H1 H4/\H4 D=some (.lst gc)/\H4 p2=some (.lst (sJ.map V.int))/\(∃o2,σ=[some (.int x),o2]++_)/\∃(gY:List Addr) (uK:List (Int×Int)),gc=gY.map V.ref/\T7 D H4 gY uK/\uK=bU++(sJ.take k2).map λy=>(x,y),rfl,⟨Yw _,g2.trans g3,g3 _ _ h2,dB,⟨u2,rfl⟩,as,bU,ey,L2.Paired.bp pa λ_ _ e=>⟨e.1,g3 _ _ e.2⟩,by simp⟩,λk2 gc σ H4 _ ⟨_,_,_,e,_⟩=>aj.of e,?_,?_⟩
   ·rintro k2 v2 gc σ H4 hk2 ⟨k2l,g4,h4,e4,⟨Vu,rfl⟩,gY,uK,AV,AW,sM⟩;obtain⟨y,rfl,hy⟩:=mU hk2;have Zg8:k2<sJ.length:=(Yg.mp hy).1;have Vv:=cN AW;rw[sM,Yi,Ya,Wd] at Vv;refine bc ⟨_,rfl,_,rfl,by show 2<=sizeLine;rw[sizeLine_eq];omega,λa H5 na g5 ha=>⟨g5 _ _ h4,by rw[AV,Ya,Vv,sizeLine_eq];have:=o2.iM;omega,Zg8,?_,aZ,?_,⟨some (.int y),rfl⟩,gY++[a],uK++[(x,y)],by rw[AV,Yj];rfl,?_,?_⟩⟩
    ·intro b o e;rw[a9 (bQ e hD)];exact g5 _ _ (g4 _ _ e)
    ·rw[a9 pD];exact g5 _ _ e4
    ·have aD:a≠D:=λz=>by rw[z,h4] at na;cases na
     exact hE (F:=λa (p:Int×Int)=>a≠D/\upd H5 D _ a=some (.tup [.int p.1,.int p.2])) ⟨aD,by rw[a9 aD];exact ha⟩ (L2.Paired.bp AW λb p e=>⟨e.1,by rw[a9 e.1];exact g5 _ _ e.2⟩)
    ·rw[sM,Y0,hy,Yj,W4];rfl
   ·rintro gc σ H4 ⟨_,g4,h4,e4,⟨Vu,rfl⟩,gY,uK,AV,AW,sM⟩;rw[Ya,We] at sM;refine⟨⟨[some (.int x),Vu],rfl,rfl⟩,kl',g4,h4,gY,uK,AV,AW,?_,?_,λp mp=>?_⟩
    ·rw[sM,ZbD (β:=Int) hx];refine pp.append ?_;have:=KS.map λy:Int=>((x,y):Int×Int);rw[Wc] at this;exact this
    ·rw[sM];refine List.pairwise_append.mpr ⟨pw,ZdR x Zg7,λp mp q' mq=>.inl ?_⟩;obtain⟨y,_,rfl⟩:=Yf.mp mq;exact ZdS sns hx (pin p mp)
    ·rw[sM] at mp;rw[Y0,hx];rcases Yr.mp mp with mp|mp;·exact Yo _ (pin p mp)
     ·obtain⟨y,_,rfl⟩:=Yf.mp mp;exact Yq _ Yk
  ·rintro ys H2 ⟨_,g2,h2,as,bU,ey,pa,pp,pw,_⟩;rw[Ya,We] at pp;rw[ey] at h2;refine q D as bU H2 (g1.free hD) (g1.trans g2) h2 (L2.Paired.bp pa λ_ _ e=>e.2) (pp.trans ?_) pw;unfold i_;rw[if_neg eh];exact pm.flatMap_right _
  ·rintro σ H R R' m ⟨x1,e1,x2,x3,x4,e2,e3,e4,x5,e5,l,st,n,i,h,t,secs,e6,j1,j2,j3,j4,j5,j6,k⟩;refine⟨x1,e1,x2,x3,x4,e2,e3,e4,x5,e5,l,st,n,i,h,t,secs,e6,j1,j2,j3,j4,j5,j6,λp ns H' a b c d e=>?_⟩;obtain⟨a,e,s,r⟩:=k p ns H' a b c d e;exact⟨a,e,s,m _ _ r⟩
end
def ap(t:List Int)(z:Int):Int:=t.getD z.toNat 0
theorem G_(h0:0<=z)(h:z<t.length):t[z.toNat]?=some (ap t z):=by
 unfold ap
 grind
theorem lY{t:List Int}{n:Nat}(ft:full t=true)(lt:t.length=n){z:Int}(h:0<=z/\z<n):0<=ap t z/\ap t z<n:=by
 have:=qc ft (Yh (G_ h.1 (by omega)));omega
theorem ur{t:List Int}{n:Nat}(ft:full t=true)(lt:t.length=n){z:Int}(h:0<=z/\z<n):ap (inv t) (ap t z)=z:=by
 have b:=lY ft lt h;have e2:=zo (xs:=t) (i:=(ap t z).toNat) (by omega);rw[(Jq b.1),yO (yG ft) (G_ h.1 (by omega))] at e2;have e3:ap (inv t) (ap t z)=((z.toNat:Nat):Int):=by
  show(inv t).getD (ap t z).toNat 0=_
  grind
 grind
theorem Qo{t:List Int}{n:Nat}(ft:full t=true)(lt:t.length=n){z:Int}(h:0<=z/\z<n):ap t (ap (inv t) z)=z:=by
 have:=ur (jL ft) (by rw[fM];exact lt) h;rw[inv_inv ft] at this;exact this
theorem zI{t:List Int}{n:Nat}(ft:full t=true)(lt:t.length=n){z z':Int}(h:0<=z/\z<n)(h':0<=z'/\z'<n)(e:ap t z=ap t z'):z=z':=by
 have a:=ur ft lt h;rw[e,ur ft lt h'] at a;exact a.symm
theorem zJ{xs ys:List Int}{z:Int}(h:0<=z/\z<ys.length):ap (bJ xs ys) z=ap xs (ap ys z):=by
 show(bJ xs ys).getD z.toNat 0=_;unfold bJ;rw[Yn,Yl,(G_ h.1 h.2)];rfl
def JS.ag(st:JS)(i:Nat):Nat:=st.hd.getD i 0
def JS.bO(st:JS)(i:Nat):List Int:=st.ld.getD i []
def JS.cF(st:JS)(h:Nat):List Int:=(st.fr.lookup h).getD []
def c_(st:JS)(f:Nat->Int):Prop:=∃s:Nat->Int,∀i,i<st.hd.length->s (st.ag i)∈st.cF (st.ag i)/\f i=ap (st.bO i) (s (st.ag i))
structure WF(n:Nat)(st:JS):Prop where
 ll:st.ld.length=st.hd.length
 fl:∀t∈st.ld,full t=true/\t.length=n
 fr:∀i,i<st.hd.length->∃secs,st.fr.lookup (st.ag i)=some secs/\secs.Nodup/\∀z∈secs,0<=z/\z<(n:Int)
 mem:∀i,i<st.hd.length->∃ms,st.mem.lookup (st.ag i)=some ms/\ms.Nodup/\∀k,k∈ms↔k<st.hd.length/\st.ag k=st.ag i
 nm:(st.mem.map (·.1)).Nodup
 lm:∀k∈st.mem.map (·.1),k<st.hd.length
 nf:(st.fr.map (·.1)).Nodup
 lf:∀k∈st.fr.map (·.1),k<st.hd.length
 hf:∀k∈st.fr.map (·.1),∃i,i<st.hd.length/\st.ag i=k
theorem tO{xs:List Nat}{m:Nat}(nd:xs.Nodup)(h:∀x∈xs,x<m):xs.length<=m:=by
 have l:=nd.length_le_of_subset λx hx=>Y7.mpr (h x hx)
 grind
theorem DD{xs:List Int}{n:Nat}(nd:xs.Nodup)(h:∀x∈xs,0<=x/\x<(n:Int)):xs.length<=n:=by
 have l:=nd.length_le_of_subset (l₂:=bF n) λx hx=>by
  obtain⟨a,b⟩:=h x hx;have:=Yh (lO (n:=n) (i:=x.toNat) (by omega))
  grind
 rwa [eX] at l
theorem ER{α:Type}:∀{ps:List (Nat×α)} {k:Nat} {v:α},ps.lookup k=some v->k∈ps.map (·.1)
 |[],_,_,h=>by simp at h
 |p::ps,k,v,h=>by
  rw[Wt] at h;by_cases e:k=p.1;·grind
  ·rw[beq_eq_false_iff_ne.mpr e] at h;exact Yv _ (ER h)
theorem yA{α:Type}(h:Nat)(v:α)(k:Nat):∀ps:List (Nat×α),(cX h v ps).lookup k=if k=h then(ps.lookup h).map λ_=>v else ps.lookup k
 |[]=>by show([]:List (Nat×α)).lookup k=_;simp
 |p::ps=>by
  have ih:=yA h v k ps;have e0:cX h v (p::ps)=(if p.1=h then(p.1,v) else p)::cX h v ps:=rfl
  grind
section
variable {n:Nat}{st:JS}
theorem wm{i:Nat}(h:i<st.hd.length):st.hd[i]?=some (st.ag i):=by
 unfold JS.ag;rw[Yn,Yb h];rfl
theorem WF.zK(wf:WF n st){i:Nat}(h:i<st.hd.length):st.ld[i]?=some (st.bO i):=by
 unfold JS.bO;rw[Yn,Yb (by rw[wf.ll];exact h)];rfl
theorem WF.kj(wf:WF n st){i:Nat}(h:i<st.hd.length):full (st.bO i)=true/\(st.bO i).length=n:=wf.fl _ (Yh (wf.zK h))
theorem WF.dR(wf:WF n st){i:Nat}(h:i<st.hd.length):st.fr.lookup (st.ag i)=some (st.cF (st.ag i))/\(st.cF (st.ag i)).Nodup/\∀z∈st.cF (st.ag i),0<=z/\z<(n:Int):=by
 obtain⟨secs,e,a,b⟩:=wf.fr i h;have e2:st.cF (st.ag i)=secs:=by unfold JS.cF;rw[e];rfl
 grind
theorem WF.dist(wf:WF n st){i:Nat}(h:i<st.hd.length):((st.cF (st.ag i)).map λz=>(st.bO i).getD z.toNat 0).Nodup:=by
 obtain⟨e,a,b⟩:=wf.dR h;rw[W7,W3];refine(List.Pairwise.and_mem.mp (W7.mp a)).imp ?_;rintro u v ⟨mu,mv,ne⟩ z;exact ne (zI (wf.kj h).1 (wf.kj h).2 (b u mu) (b v mv) z)
theorem WF.one(wf:WF n st)(n8:n<=8){i:Nat}(h:i<st.hd.length):r6 st i (st.ag i) (st.bO i) (st.cF (st.ag i)):=by
 obtain⟨e,a,b⟩:=wf.dR h;have:=DD a b;refine⟨wm h,wf.zK h,e,λz hz=>by rw[(wf.kj h).2];exact b z hz,by omega,wf.dist h⟩
theorem WF.two(wf:WF n st){i j:Nat}(hi:i<st.hd.length)(hj:j<st.hd.length)(m4:st.hd.length<=400)(ne:st.ag i≠st.ag j):∃ma mb,T5 st n i j (st.ag i) (st.ag j) (st.bO i) (st.bO j) (st.cF (st.ag i)) (st.cF (st.ag j)) ma mb/\(ma.Nodup/\∀k,k∈ma↔k<st.hd.length/\st.ag k=st.ag i)/\(mb.Nodup/\∀k,k∈mb↔k<st.hd.length/\st.ag k=st.ag j):=by
 obtain⟨ma,e1,a1,b1⟩:=wf.mem i hi;obtain⟨mb,e2,a2,b2⟩:=wf.mem j hj;have l1:=tO a1 λk hk=>((b1 k).mp hk).1;have l2:=tO a2 λk hk=>((b2 k).mp hk).1;exact⟨ma,mb,⟨wm hi,wm hj,wf.zK hi,wf.zK hj,wf.fl,wf.ll,e1,e2,(wf.dR hi).1,(wf.dR hj).1,ne,λk hk=>((b1 k).mp hk).1,λk hk=>((b2 k).mp hk).1,by omega,wf.nm⟩,⟨a1,b1⟩,a2,b2⟩
theorem WF.zQ(wf:WF n st):st.fr.length<=st.hd.length:=by
 have:=tO wf.nf wf.lf
 grind
theorem WF.RT(wf:WF n st):st.mem.length<=st.hd.length:=by
 have:=tO wf.nm wf.lm
 grind
theorem wf0:WF n ⟨[],[],[],[]⟩:=⟨rfl,λ_ h=>(nomatch h),λ_ h=>absurd h (Wm _),λ_ h=>absurd h (Wm _),.nil,λ_ h=>(nomatch h),.nil,λ_ h=>(nomatch h),λ_ h=>(nomatch h)⟩
theorem Fp(st:JS)(h k:Nat)(v:List Int)(hv:st.fr.lookup h≠none):(st.kU h v).cF k=if k=h then v else st.cF k:=by
 show((cX h v st.fr).lookup k).getD []=_;rw[yA];by_cases e:k=h
 ·rw[if_pos e,if_pos e];cases e2:st.fr.lookup h with
  |none=>grind
  |some x=>rfl
 ·rw[if_neg e,if_neg e];rfl
theorem WF.kU(wf:WF n st){i:Nat}(hi:i<st.hd.length){p:Int->Bool}:WF n (st.kU (st.ag i) ((st.cF (st.ag i)).filter p)):=by
 refine⟨wf.ll,wf.fl,λk hk=>?_,wf.mem,wf.nm,wf.lm,?_,?_,?_⟩
 ·obtain⟨e,a,b⟩:=wf.dR hk;show ∃secs,(cX _ _ st.fr).lookup (st.ag k)=some secs/\_;rw[yA]
  grind
 ·show((cX _ _ st.fr).map (·.1)).Nodup;rw[oj];exact wf.nf
 ·show ∀k∈(cX _ _ st.fr).map (·.1),_;rw[oj];exact wf.lf
 ·show ∀k∈(cX _ _ st.fr).map (·.1),_;rw[oj];exact wf.hf
theorem vT(wf:WF n st){i:Nat}(hi:i<st.hd.length)(ss:List Int)(f:Nat->Int):c_ (st.kU (st.ag i) ((st.cF (st.ag i)).filter λz=>decide ((st.bO i).getD z.toNat 0∈ss))) f↔c_ st f/\f i∈ss:=by
 have hv:st.fr.lookup (st.ag i)≠none:=by rw[(wf.dR hi).1];exact λz=>nomatch z
 constructor
 ·rintro⟨s,h⟩;have hk:∀k,k<st.hd.length->s (st.ag k)∈st.cF (st.ag k)/\f k=ap (st.bO k) (s (st.ag k)):=λk hk=>by
   obtain⟨a,b⟩:=h k hk;refine⟨?_,b⟩;have a':s (st.ag k)∈(st.kU (st.ag i) ((st.cF (st.ag i)).filter λz=>decide ((st.bO i).getD z.toNat 0∈ss))).cF (st.ag k):=a;rw[Fp st _ _ _ hv] at a'
   grind
  refine⟨⟨s,hk⟩,?_⟩;obtain⟨a,b⟩:=h i hi;have a':s (st.ag i)∈(st.kU (st.ag i) ((st.cF (st.ag i)).filter λz=>decide ((st.bO i).getD z.toNat 0∈ss))).cF (st.ag i):=a;rw[Fp st _ _ _ hv,if_pos rfl] at a';rw[b];exact of_decide_eq_true (Yz.mp a').2
 ·rintro⟨⟨s,h⟩,m⟩;refine⟨s,λk hk=>?_⟩;obtain⟨a,b⟩:=h k hk;refine⟨?_,b⟩;show s (st.ag k)∈(st.kU (st.ag i) ((st.cF (st.ag i)).filter λz=>decide ((st.bO i).getD z.toNat 0∈ss))).cF (st.ag k);rw[Fp st _ _ _ hv];by_cases z:st.ag k=st.ag i
  ·rw[if_pos z];rw[z] at a⊢;refine Yz.mpr ⟨a,decide_eq_true ?_⟩;rw[((h i hi).2)] at m;exact m
  ·grind
theorem yQ(wf:WF n st){f:Nat->Int}(d:c_ st f)(h1 h2:Nat)(z1 z2:Int)(m1:z1∈st.cF h1)(m2:z2∈st.cF h2)(ne:h1=h2->z1=z2):∃f',c_ st f'/\∀k,k<st.hd.length->(st.ag k=h1->f' k=ap (st.bO k) z1)/\(st.ag k=h2->f' k=ap (st.bO k) z2):=by
 obtain⟨s,h⟩:=d;refine⟨λk=>ap (st.bO k) ((λq=>if q=h1 then z1 else if q=h2 then z2 else s q) (st.ag k)),⟨λq=>if q=h1 then z1 else if q=h2 then z2 else s q,λk hk=>⟨?_,rfl⟩⟩,λk hk=>⟨λe=>?_,λe=>?_⟩⟩;·grind
 ·grind
 ·grind
theorem wg(wf:WF n st){i j:Nat}(hi:i<st.hd.length)(hj:j<st.hd.length){f:Nat->Int}(d:c_ st f):(f i,f j)∈i_ (st.ag i) (st.ag j) (st.bO i) (st.bO j) (st.cF (st.ag i)) (st.cF (st.ag j)):=by
 obtain⟨s,h⟩:=d;obtain⟨a1,b1⟩:=h i hi;obtain⟨a2,b2⟩:=h j hj;unfold i_;by_cases e:st.ag i=st.ag j
 ·rw[if_pos e];refine Yf.mpr ⟨s (st.ag i),a1,?_⟩;rw[b1,b2,←e];rfl
 ·rw[if_neg e];refine Vw.mpr ⟨f i,Yf.mpr ⟨_,a1,b1.symm⟩,Yf.mpr ⟨_,a2,?_⟩⟩;rw[b2];rfl
theorem OY(wf:WF n st){i j:Nat}(hi:i<st.hd.length)(hj:j<st.hd.length)(live:∃f,c_ st f){x y:Int}(m:(x,y)∈i_ (st.ag i) (st.ag j) (st.bO i) (st.bO j) (st.cF (st.ag i)) (st.cF (st.ag j))):∃f,c_ st f/\f i=x/\f j=y:=by
 obtain⟨f0,d0⟩:=live;unfold i_ at m;by_cases e:st.ag i=st.ag j
 ·rw[if_pos e] at m;obtain⟨z,mz,ez⟩:=Yf.mp m;obtain⟨f,d,q⟩:=yQ wf d0 (st.ag i) (st.ag i) z z mz mz (λ_=>rfl);exact⟨f,d,((q i hi).1 rfl).trans (congrArg (·.1) ez),((q j hj).1 e.symm).trans (congrArg (·.2) ez)⟩
 ·rw[if_neg e] at m;obtain⟨x',mx,my⟩:=Vw.mp m;obtain⟨z1,KW,KY⟩:=Yf.mp mx;obtain⟨z2,KZ,xU⟩:=Yf.mp my;obtain⟨f,d,q⟩:=yQ wf d0 (st.ag i) (st.ag j) z1 z2 KW KZ (λz=>absurd z e);exact⟨f,d,(((q i hi).1 rfl).trans KY).trans (congrArg (·.1) xU),((q j hj).2 rfl).trans (congrArg (·.2) xU)⟩
end
theorem NT(hb:Nat):∀(mv:List Nat) (hd:List Nat) (i:Nat),i<hd.length->(jP hb mv hd)[i]?=if i∈mv then some hb else hd[i]?
 |[],hd,i,h=>rfl
 |k::mv,hd,i,h=>by
  have ih:=NT hb mv (hd.set k hb) i (by rw[Jb];exact h);have e0:jP hb (k::mv) hd=jP hb mv (hd.set k hb):=rfl
  grind
theorem NU(bb:List Int):∀(mv:List Nat) (ld:List (List Int)) (i:Nat),mv.Nodup->i<ld.length->(gK bb mv ld)[i]?=if i∈mv then some (bJ (ld.getD i []) bb) else ld[i]?
 |[],ld,i,_,h=>rfl
 |k::mv,ld,i,nd,h=>by
  obtain⟨n1,n2⟩:=Yy.mp nd;have e0:gK bb (k::mv) ld=gK bb mv (pG bb ld k):=rfl;rw[e0,(NU bb mv (pG bb ld k) i n2 (by unfold pG;rw[Jb];exact h))];by_cases m:i∈mv
  ·have ne:k≠i:=λz=>n1 (by rw[z];exact m);unfold pG
   grind
  ·rw[if_neg m];unfold pG
   grind
theorem NV(hb:Nat)(mv hd:List Nat):(jP hb mv hd).length=hd.length:=vQ (λ_ _=>Jb) mv hd
theorem NW(bb:List Int)(mv:List Nat)(ld:List (List Int)):(gK bb mv ld).length=ld.length:=vQ (λ_ _=>by unfold pG;exact Jb) mv ld
section
variable {n:Nat}{st:JS}{a b:Nat}{ma mb:List Nat}{tn:List Int}
theorem qk(wf:WF n st)(im:∀k,k∈ma↔k<st.hd.length/\st.ag k=st.ag a)(bb:List Int){i:Nat}(hi:i<st.hd.length):(st.mv (st.ag b) (st.ag a) mb ma bb).ag i=if st.ag i=st.ag a then st.ag b else st.ag i:=by
 show(jP (st.ag b) ma st.hd).getD i 0=_;rw[Yn,NT _ _ _ _ hi];by_cases e:st.ag i=st.ag a;·grind
 ·rw[if_neg (λz=>e ((im i).mp z).2),if_neg e,←Yn];rfl
theorem Hd(wf:WF n st)(nd:ma.Nodup)(im:∀k,k∈ma↔k<st.hd.length/\st.ag k=st.ag a)(bb:List Int)(hb:Nat){i:Nat}(hi:i<st.hd.length):(st.mv hb (st.ag a) mb ma bb).bO i=if st.ag i=st.ag a then bJ (st.bO i) bb else st.bO i:=by
 show(gK bb ma st.ld).getD i []=_;rw[Yn,NU _ _ _ _ nd (by rw[wf.ll];exact hi)];by_cases e:st.ag i=st.ag a;·rw[if_pos ((im i).mpr ⟨hi,e⟩),if_pos e];rfl
 ·rw[if_neg (λz=>e ((im i).mp z).2),if_neg e,←Yn];rfl
theorem RU(hb ha:Nat)(bb:List Int){h:Nat}(ne:h≠ha):(st.mv hb ha mb ma bb).cF h=st.cF h:=by
 show((cW ha st.fr).lookup h).getD []=_;rw[tY ne];rfl
theorem wH(hb ha:Nat)(bb:List Int):(st.mv hb ha mb ma bb).hd.length=st.hd.length:=NV _ _ _
theorem WF.mv(wf:WF n st)(hA:a<st.hd.length)(hB:b<st.hd.length)(ne:st.ag a≠st.ag b)(nN:ma.Nodup)(ig:∀k,k∈ma↔k<st.hd.length/\st.ag k=st.ag a)(u7:mb.Nodup)(sN:∀k,k∈mb↔k<st.hd.length/\st.ag k=st.ag b)(eb:st.mem.lookup (st.ag b)=some mb){bb:List Int}(ft:full bb=true)(tl:bb.length=n):WF n (st.mv (st.ag b) (st.ag a) mb ma bb):=by
 have len:(st.mv (st.ag b) (st.ag a) mb ma bb).hd.length=st.hd.length:=wH _ _ _;have Vx:∀k,k<st.hd.length->(if st.ag k=st.ag a then st.ag b else st.ag k)≠st.ag a:=λk hk=>by
  grind
 have ky:(st.mv (st.ag b) (st.ag a) mb ma bb).mem.map (·.1)=(st.mem.map (·.1)).filter λk=>decide (k≠st.ag a):=by
  show(cX _ _ (cW _ st.mem)).map (·.1)=_;rw[oj,ou]
 have kf:(st.mv (st.ag b) (st.ag a) mb ma bb).fr.map (·.1)=(st.fr.map (·.1)).filter λk=>decide (k≠st.ag a):=ou _ _;refine⟨?_,λt ht=>?_,λi hi=>?_,λi hi=>?_,?_,?_,?_,?_,?_⟩
 ·show(gK _ _ _).length=(jP _ _ _).length;rw[NW,NV];exact wf.ll
 ·obtain⟨i,hi,rfl⟩:=Wp.mp ht;have iN:i<st.hd.length:=by
   have:(gK bb ma st.ld).length=st.ld.length:=NW _ _ _;have h2:i<(gK bb ma st.ld).length:=hi;have:=wf.ll;omega
  have e:=Hd (mb:=mb) wf nN ig bb (st.ag b) iN;have e2:(st.mv (st.ag b) (st.ag a) mb ma bb).bO i=(st.mv (st.ag b) (st.ag a) mb ma bb).ld[i]:=by
   unfold JS.bO;rw[Yn,Yb hi];rfl
  rw[←e2,e];obtain⟨f1,f2⟩:=wf.kj iN;by_cases z:st.ag i=st.ag a;·rw[if_pos z];exact⟨p_ f1 ft (by omega),by rw[iX];exact tl⟩
  ·rw[if_neg z];exact⟨f1,f2⟩
 ·rw[len] at hi;rw[qk (mb:=mb) wf ig bb hi];show ∃secs,(cW (st.ag a) st.fr).lookup _=some secs/\_;rw[tY (Vx i hi)];by_cases e:st.ag i=st.ag a;·rw[if_pos e];exact⟨_,wf.dR hB⟩
  ·rw[if_neg e];exact⟨_,wf.dR hi⟩
 ·rw[len] at hi;rw[qk (mb:=mb) wf ig bb hi];show ∃ms,(cX (st.ag b) (mb++ma) (cW (st.ag a) st.mem)).lookup _=some ms/\_;rw[yA,tY (Vx i hi),tY (λz=>ne z.symm),eb];have iff:∀k,k<st.hd.length->((st.mv (st.ag b) (st.ag a) mb ma bb).ag k=(if st.ag k=st.ag a then st.ag b else st.ag k)):=λk hk=>qk (mb:=mb) wf ig bb hk;by_cases e:(if st.ag i=st.ag a then st.ag b else st.ag i)=st.ag b
  ·rw[if_pos e];refine⟨_,rfl,?_,λk=>?_⟩;·grind
   ·grind
  ·have e1:¬st.ag i=st.ag a:=λz=>e (if_pos z);rw[if_neg e1] at e⊢;rw[if_neg e];obtain⟨ms,m1,m2,m3⟩:=wf.mem i hi
   grind
 ·rw[ky];exact wf.nm.filter _
 ·rw[ky,len];exact λk hk=>wf.lm k (Yz.mp hk).1
 ·rw[kf];exact wf.nf.filter _
 ·rw[kf,len];exact λk hk=>wf.lf k (Yz.mp hk).1
 ·rw[kf,len];intro k hk;obtain⟨m1,m2⟩:=Yz.mp hk;obtain⟨i,hi,e⟩:=wf.hf k m1;refine⟨i,hi,?_⟩;rw[qk (mb:=mb) wf ig bb hi,if_neg (λz=>of_decide_eq_true m2 (e.symm.trans z))];exact e
theorem Qp(wf:WF n st)(hA:a<st.hd.length)(hB:b<st.hd.length)(ne:st.ag a≠st.ag b)(nN:ma.Nodup)(ig:∀k,k∈ma↔k<st.hd.length/\st.ag k=st.ag a)(ft:full tn=true)(tl:tn.length=n)(f:Nat->Int):
  c_ (st.mv (st.ag b) (st.ag a) mb ma (bJ (inv (st.bO a)) (bJ tn (st.bO b)))) f↔∃s:Nat->Int,(∀i,i<st.hd.length->(0<=s (st.ag i)/\s (st.ag i)<(n:Int))/\(st.ag i≠st.ag a->s (st.ag i)∈st.cF (st.ag i))/\f i=ap (st.bO i) (s (st.ag i)))/\f a=ap tn (f b):=by
 obtain⟨fa,la⟩:=wf.kj hA;obtain⟨fb,lb⟩:=wf.kj hB;have fi:=jL fa;have li:(inv (st.bO a)).length=n:=by rw[fM];exact la
 generalize et:bJ (inv (st.bO a)) (bJ tn (st.bO b))=bb;have K0:∀z:Int,0<=z/\z<(n:Int)->ap bb z=ap (inv (st.bO a)) (ap tn (ap (st.bO b) z)):=λz hz=>by
  rw[←et,zJ (by rw[iX,lb];exact hz),zJ (by rw[lb];exact hz)]
 have Zg9:∀z:Int,0<=z/\z<(n:Int)->0<=ap bb z/\ap bb z<(n:Int):=λz hz=>by
  rw[K0 z hz];exact lY fi li (lY ft tl (lY fb lb hz))
 have T8:bb.length=n:=by rw[←et,iX,iX];exact lb
 constructor
 ·rintro⟨s,h⟩;have h':∀i,i<st.hd.length->s (if st.ag i=st.ag a then st.ag b else st.ag i)∈st.cF (if st.ag i=st.ag a then st.ag b else st.ag i)/\f i=ap (if st.ag i=st.ag a then bJ (st.bO i) bb else st.bO i) (s (if st.ag i=st.ag a then st.ag b else st.ag i)):=λi hi=>by
   have x:=h i (by rw[wH];exact hi);rw[qk (mb:=mb) wf ig bb hi,Hd (mb:=mb) wf nN ig bb _ hi,RU] at x;·exact x
   ·by_cases e:st.ag i=st.ag a;·rw[if_pos e];exact λz=>ne z.symm
    ·rw[if_neg e];exact e
  have hb:=h' b hB;rw[if_neg (λz=>ne z.symm),if_neg (λz=>ne z.symm)] at hb;have fD:=(wf.dR hB).2.2 _ hb.1;have eq:∀i,i<st.hd.length->f i=ap (st.bO i) (if st.ag i=st.ag a then ap bb (s (st.ag b)) else s (st.ag i)):=λi hi=>by
   have x:=(h' i hi).2;by_cases e:st.ag i=st.ag a
   ·rw[if_pos e,if_pos e,zJ (by rw[T8];exact fD)] at x;rw[if_pos e];exact x
   ·rw[if_neg e,if_neg e] at x;rw[if_neg e];exact x
  refine⟨λq=>if q=st.ag a then ap bb (s (st.ag b)) else s q,λi hi=>⟨?_,λe=>?_,eq i hi⟩,?_⟩
  ·show 0<=(if st.ag i=st.ag a then _ else _)/\(if st.ag i=st.ag a then _ else _)<_;by_cases e:st.ag i=st.ag a;·rw[if_pos e];exact Zg9 _ fD
   ·rw[if_neg e];have x:=(h' i hi).1;rw[if_neg e] at x;exact(wf.dR hi).2.2 _ x
  ·show(if st.ag i=st.ag a then _ else _)∈_;have x:=(h' i hi).1;rw[if_neg e] at x;rw[if_neg e];exact x
  ·rw[eq a hA,if_pos rfl,K0 _ fD,Qo fa la (lY ft tl (lY fb lb fD)),hb.2]
 ·rintro⟨s,h,ef⟩;have sb:=(h b hB).1;have sa:=(h a hA).1;have et2:ap bb (s (st.ag b))=s (st.ag a):=by
   rw[K0 _ sb,←(h b hB).2.2,←ef,(h a hA).2.2,ur fa la sa]
  refine⟨s,λi hi=>?_⟩;rw[wH] at hi;rw[qk (mb:=mb) wf ig bb hi,Hd (mb:=mb) wf nN ig bb _ hi,RU]
  ·by_cases e:st.ag i=st.ag a
   ·rw[if_pos e,if_pos e];refine⟨(h b hB).2.1 (λz=>ne z.symm),?_⟩;rw[zJ (by rw[T8];exact sb),et2,←e];exact(h i hi).2.2
   ·rw[if_neg e,if_neg e];exact⟨(h i hi).2.1 e,(h i hi).2.2⟩
  ·by_cases e:st.ag i=st.ag a;·rw[if_pos e];exact λz=>ne z.symm
   ·rw[if_neg e];exact e
end
section
variable {n:Nat}{st:JS}{i j:Nat}{tn ns:List Int}
theorem OZ{P:List (Int×Int)}(pm:ns.Perm ((P.filter λq=>decide (tn.getD q.1.toNat 0=q.2)).map (·.1)))(x:Int):x∈ns↔(x,ap tn x)∈P:=by
 rw[pm.mem_iff,Yf];constructor
 ·rintro⟨⟨u,v⟩,m,rfl⟩;obtain⟨m1,m2⟩:=Yz.mp m;have e:ap tn u=v:=of_decide_eq_true m2;rw[e];exact m1
 ·intro m;exact⟨_,Yz.mpr ⟨m,decide_eq_true rfl⟩,rfl⟩
abbrev JS.bU(st:JS)(i j:Nat):List (Int×Int):=i_ (st.ag i) (st.ag j) (st.bO i) (st.bO j) (st.cF (st.ag i)) (st.cF (st.ag j))
theorem Fq(ne:st.ag i≠st.ag j){x y:Int}(m:(x,y)∈st.bU i j):(∃z∈st.cF (st.ag i),ap (st.bO i) z=x)/\∃z∈st.cF (st.ag j),ap (st.bO j) z=y:=by
 unfold JS.bU i_ at m;rw[if_neg ne] at m;obtain⟨x',mx,my⟩:=Vw.mp m;obtain⟨z1,KW,KY⟩:=Yf.mp mx;obtain⟨z2,KZ,xU⟩:=Yf.mp my;exact⟨⟨z1,KW,KY.trans (congrArg (·.1) xU)⟩,z2,KZ,(congrArg (·.2) xU)⟩
theorem RV(wf:WF n st)(hi:i<st.hd.length){x y:Int}(m:(x,y)∈st.bU i j):0<=x/\x<(n:Int):=by
 obtain⟨f1,l1⟩:=wf.kj hi;by_cases e:st.ag i=st.ag j
 ·unfold JS.bU i_ at m;rw[if_pos e] at m;obtain⟨z,mz,ez⟩:=Yf.mp m;have e1:ap (st.bO i) z=x:=congrArg (·.1) ez;rw[←e1];exact lY f1 l1 ((wf.dR hi).2.2 z mz)
 ·obtain⟨⟨z,mz,ez⟩,_⟩:=Fq e m;rw[←ez];exact lY f1 l1 ((wf.dR hi).2.2 z mz)
theorem Qq(wf:WF n st)(n8:n<=8)(hi:i<st.hd.length)(hj:j<st.hd.length):(st.bU i j).length<=64:=by
 have a:=DD (wf.dR hi).2.1 (wf.dR hi).2.2;have b:=DD (wf.dR hj).2.1 (wf.dR hj).2.2;unfold JS.bU i_;by_cases e:st.ag i=st.ag j;·grind
 ·rw[if_neg e,FZ (λ(x z:Int)=>((x,(st.bO j).getD z.toNat 0):Int×Int)),Ya];exact Y4 (Jy (show _<=8 by omega) (show _<=8 by omega)) (by omega)
theorem ZcH(wf:WF n st)(hi:i<st.hd.length)(hj:j<st.hd.length)(e:st.ag i=st.ag j)(ms:∀x,x∈ns↔(x,ap tn x)∈st.bU i j)(f:Nat->Int):c_ st f/\f i∈ns↔c_ st f/\f j=ap tn (f i):=by
 refine and_congr_right λd=>?_;constructor
 ·intro m;have m':=(ms _).mp m;obtain⟨s,h⟩:=d;unfold JS.bU i_ at m';rw[if_pos e] at m';obtain⟨z,mz,ez⟩:=Yf.mp m';have e2:ap (st.bO j) z=ap tn (f i):=congrArg (·.2) ez;obtain⟨f1,l1⟩:=wf.kj hi;have fD:=(wf.dR hi).2.2;rw[(h j hj).2,←e,←(zI f1 l1 (fD z mz) (fD _ (h i hi).1) ((congrArg (·.1) ez).trans (h i hi).2)),e2]
 ·intro m;have:=wg wf hi hj d
  grind
theorem ZdT(wf:WF n st)(hi:i<st.hd.length)(hj:j<st.hd.length)(ne:st.ag i≠st.ag j){ma mb:List Nat}(nN:ma.Nodup)(ig:∀k,k∈ma↔k<st.hd.length/\st.ag k=st.ag i)(ft:full tn=true)(tl:tn.length=n)(ms:∀x,x∈ns↔(x,ap tn x)∈st.bU i j)(f:Nat->Int):
  c_ (st.mv (st.ag j) (st.ag i) mb ma (bJ (inv (st.bO i)) (bJ (inv tn) (st.bO j)))) f/\f i∈ns↔c_ st f/\f j=ap tn (f i):=by
 rw[Qp wf hi hj ne nN ig (jL ft) (by rw[fM];exact tl)];obtain⟨f1,l1⟩:=wf.kj hi;obtain⟨f2,l2⟩:=wf.kj hj;constructor
 ·rintro⟨⟨s,h,ef⟩,m⟩;obtain⟨⟨z,mz,ez⟩,_⟩:=Fq ne ((ms _).mp m);have e1:=zI f1 l1 ((wf.dR hi).2.2 z mz) (h i hi).1 (ez.trans (h i hi).2.2);refine⟨⟨s,λk hk=>⟨?_,(h k hk).2.2⟩⟩,?_⟩;·grind
  ·have rj:0<=f j/\f j<(n:Int):=by rw[(h j hj).2.2];exact lY f2 l2 (h j hj).1
   rw[ef,Qo ft tl rj]
 ·rintro⟨d,e⟩;have m:=wg wf hi hj d;rw[e] at m;obtain⟨s,h⟩:=d;refine⟨⟨s,λk hk=>⟨(wf.dR hk).2.2 _ (h k hk).1,λ_=>(h k hk).1,(h k hk).2⟩,?_⟩,(ms _).mpr m⟩;have ri:0<=f i/\f i<(n:Int):=by rw[(h i hi).2];exact lY f1 l1 ((wf.dR hi).2.2 _ (h i hi).1)
  rw[e,ur ft tl ri]
theorem ZdU(wf:WF n st)(hi:i<st.hd.length)(hj:j<st.hd.length)(ne:st.ag i≠st.ag j){ma mb:List Nat}(u7:mb.Nodup)(sN:∀k,k∈mb↔k<st.hd.length/\st.ag k=st.ag j)(ft:full tn=true)(tl:tn.length=n)(ms:∀x,x∈ns↔(x,ap tn x)∈st.bU i j)(f:Nat->Int):
  c_ (st.mv (st.ag i) (st.ag j) ma mb (bJ (inv (st.bO j)) (bJ tn (st.bO i)))) f/\f i∈ns↔c_ st f/\f j=ap tn (f i):=by
 rw[Qp wf hj hi (λz=>ne z.symm) u7 sN ft tl];obtain⟨f2,l2⟩:=wf.kj hj;constructor
 ·rintro⟨⟨s,h,ef⟩,m⟩;obtain⟨_,z,mz,ez⟩:=Fq ne ((ms _).mp m);have e1:=zI f2 l2 ((wf.dR hj).2.2 z mz) (h j hj).1 ((ez.trans ef.symm).trans (h j hj).2.2);refine⟨⟨s,λk hk=>⟨?_,(h k hk).2.2⟩⟩,ef⟩
  grind
 ·rintro⟨d,e⟩;have m:=wg wf hi hj d;rw[e] at m;obtain⟨s,h⟩:=d;exact⟨⟨s,λk hk=>⟨(wf.dR hk).2.2 _ (h k hk).1,λ_=>(h k hk).1,(h k hk).2⟩,e⟩,(ms _).mpr m⟩
end
def rK(st aI:JS)(i j:Nat):Prop:=∀a c,a<st.hd.length->c<st.hd.length->(aI.ag a=aI.ag c↔st.ag a=st.ag c\/(st.ag a=st.ag i/\st.ag c=st.ag j)\/(st.ag a=st.ag j/\st.ag c=st.ag i))
theorem ZcI{st:JS}{i j:Nat}(e:st.ag i=st.ag j):rK st st i j:=λa c _ _=>by omega
theorem RW{n:Nat}{st:JS}(wf:WF n st){a b:Nat}{ma mb:List Nat}(im:∀k,k∈ma↔k<st.hd.length/\st.ag k=st.ag a)(bb:List Int)(ne:st.ag a≠st.ag b):rK st (st.mv (st.ag b) (st.ag a) mb ma bb) a b:=λx y hx hy=>by
 rw[qk wf im bb hx,qk wf im bb hy]
 grind
theorem rK.symm{st aI:JS}{i j:Nat}(h:rK st aI j i):rK st aI i j:=λa c ha hc=>by
 rw[h a c ha hc];omega
structure RX(n:Nat)(st aI:JS)(b:Bool)(i j:Nat)(tn:List Int):Prop where
 wf:WF n aI
 len:aI.hd.length=st.hd.length
 yes:b=true->(∃f,c_ aI f)/\∀f,c_ aI f↔c_ st f/\f j=ap tn (f i)
 no:b=false->aI=st/\∀f,c_ st f->f j≠ap tn (f i)
 hds:b=true->rK st aI i j
inductive RY(C:Addr)(vs:List V)(H:Hp)(Q:VK):Prop
 |mk (l:JL) (st:JS) (n i j:Nat) (tn:List Int) (tu:Addr) (aB:vs=[.ref l.J,.int (i:Int),.int (j:Int),.ref tu]) (aT:cI H C n l st) (bq:WF n st) (bR:(∃f,c_ st f)) (cM:n<=8) (dZ:st.hd.length<=400) (ie:i<st.hd.length) (ji:j<st.hd.length) (qG:H tu=some (.tup (tn.map V.int))) (xG:full tn=true) (IT:tn.length=n) (T3:∀(b:Bool) (l':JL) (aI:JS) (H':Hp),l'.J=l.J->(∀c∈l'.fp,c∈l.fp)->Out l.fp H H'->cI H' C n l' aI->RX n st aI b i j tn->Q (.bl b) H'):RY C vs H Q
def S2(C:Addr):Sp:=λvs H Q _=>RY C vs H Q
section
theorem Mu:aR ["self","one","other","turn","sections"] ["self","one","other","turn"] (aJ D_):=⟨rfl,rfl,rfl,by decide+kernel,rfl,by decide+kernel,by decide+kernel⟩
theorem Zfx(F:aK K "tie" "Joins.tie" D_ f fd)(jc:lS K C)(tP:cq P w K mg base 4 "left" C ["self","one","other","turn"] (G9 C))(tI:cq P w K mg base 1 "together" C ["self","one","other"] (EN C))(Bw:cq P w K mg base 3 "bring_together" C ["self","one","other","turn"] (Ql C))(tJ:cq P w K mg base 2 "narrow" C ["self","one","sections"] (FY K C))(bl:Bl mg):aH P w K mg base aM 5 f fd ["self","one","other","turn"] (S2 C):=by
 refine F.ok Mu (λvs H Q E h=>?_) (λaC A outer s H vs Q E hr h=>?_)
 ·obtain⟨l,st,n,i,j,tn,tu,rfl,_⟩:=h;rfl
 obtain⟨l,st,n,i,j,tn,tu,rfl,ja,wf,live,n8,m4,hi,hj,hu,ft,tl,q⟩:=h;refine⟨_,(ak (a_ (i:=4) Mu.nd rfl (Or.inl rfl) (cK tP hr (by omega) (pv 0) (aa (pv 1) (aa (pv 2) (aa (pv 3) ae))))) (ak (aQ (jO (NL (K:=K) rfl (Ol (pv 4) (λ_=>rfl)))) (au (aF kQ)) aY) (ak (aQ (jO (fC (cK tI hr (by omega) (pv 0) (aa (pv 1) (aa (pv 2) ae))))) (au (bY (cK Bw hr (by omega) (pv 0) (aa (pv 1) (aa (pv 2) (aa (pv 3) ae)))))) aY) (ak (bY (cK tJ hr (by omega) (pv 0) (aa (pv 1) (aa (pv 4) ae)))) (au (aF kQ)))))),?_⟩;obtain⟨dx,ho⟩:=ja.obj;have pf:=Qq wf n8 hi hj;refine bW ?_;refine⟨_,rfl,l.J,dx,_,rfl,ho,rfl,_,rfl,_,rfl,_,rfl,l,st,n,i,j,_,_,_,_,_,_,tn,tu,rfl,ja,wf.one n8 hi,wf.one n8 hj,hu,λp hp=>by rw[tl];exact RV wf hi (x:=p.1) (y:=p.2) hp,Y4 pf (by omega),λp ns H1 np g1 hp pm _=>?_⟩;have ms:=OZ pm;refine oF (λσ H2=>σ=[some (.ref l.J),some (.int (i:Int)),some (.int (j:Int)),some (.ref tu),some (.ref p)]/\H2=H1/\ns≠[]) (λnx hn=>?_) ?_
 ·refine⟨_,rfl,_,.inl ⟨_,aj.of hp,rfl⟩,?_⟩;refine bB (λc=>?_) (λc=>aX (hn _ _ ⟨rfl,rfl,λz=>?_⟩))
  ·have e:ns=[]:=by
    cases ns with
    |nil=>rfl
    |cons a r=>cases c
   refine q false l st H1 rfl (λ_ h=>h) (Out.of g1) (ja.same g1) ⟨wf,rfl,(λz=>nomatch z),λ_=>⟨rfl,λf d z=>?_⟩,(λz=>nomatch z)⟩;have m:=wg wf hi hj d;rw[z] at m;have:=(ms _).mpr m;rw[e] at this;cases this
  ·rw[z] at c;exact c rfl
 rintro _ _ ⟨rfl,rfl,nne⟩;refine oF (λσ H2=>σ=[some (.ref l.J),some (.int (i:Int)),some (.int (j:Int)),some (.ref tu),some (.ref p)]/\∃(l1:JL) (nO:JS),l1.J=l.J/\(∀c∈l1.fp,c∈l.fp)/\Out l.fp H H2/\cI H2 C n l1 nO/\H2 p=some (.lst (ns.map V.int))/\WF n nO/\nO.hd.length=st.hd.length/\(∀f,c_ nO f/\f i∈ns↔c_ st f/\f j=ap tn (f i))/\rK st nO i j) (λnx hn=>?_) ?_
 ·refine⟨_,rfl,l.J,dx,_,rfl,g1 _ _ ho,rfl,_,rfl,_,rfl,l,st,n,i,j,_,_,rfl,ja.same g1,wm hi,wm hj,_,rfl,?_⟩;refine bB (λc=>?_) (λc=>aX (hn _ _ ⟨rfl,l,st,rfl,λ_ h=>h,Out.of g1,ja.same g1,hp,wf,rfl,?_,?_⟩))
  ·have ne:st.ag i≠st.ag j:=λz=>by
    rw[decide_eq_true z] at c;cases c
   obtain⟨ma,mb,two,⟨nN,ig⟩,u7,sN⟩:=wf.two hi hj m4 ne;refine⟨_,rfl,l.J,dx,_,rfl,g1 _ _ ho,rfl,_,rfl,_,rfl,_,rfl,l,st,n,i,j,_,_,_,_,tn,_,_,tu,ma,mb,rfl,ja.same g1,g1 _ _ hu,n8,tl,ft,two,λl1 nO H2 k1 k2 o2 j2 es=>hn _ _ ⟨rfl,l1,nO,k1,k2,(Out.of g1).trans o2,j2,o2 _ _ hp (λz=>ja.ne np z),?_⟩⟩;obtain⟨fi,li⟩:=wf.kj hi;obtain⟨fj,lj⟩:=wf.kj hj;rcases es with rfl|rfl;·exact⟨wf.mv hi hj ne nN ig u7 sN two.mB (p_ (jL fi) (p_ (jL ft) fj (by rw[fM];omega)) (by rw[fM,iX];omega)) (by rw[iX,iX];exact lj),wH _ _ _,λf=>ZdT wf hi hj ne nN ig ft tl ms f,RW wf ig _ ne⟩
   ·exact⟨wf.mv hj hi (λz=>ne z.symm) u7 sN nN ig two.mA (p_ (jL fj) (p_ ft fi (by omega)) (by rw[fM,iX];omega)) (by rw[iX,iX];exact li),wH _ _ _,λf=>ZdU wf hi hj ne u7 sN ft tl ms f,(RW wf sN _ (λz=>ne z.symm)).symm⟩
  ·have e:st.ag i=st.ag j:=by
    by_cases z:st.ag i=st.ag j;·exact z
    ·rw[decide_eq_false z] at c;exact absurd rfl c
   exact λf=>ZcH wf hi hj e ms f
  ·have e:st.ag i=st.ag j:=by
    by_cases z:st.ag i=st.ag j;·exact z
    ·rw[decide_eq_false z] at c;exact absurd rfl c
   exact ZcI e
 rintro _ H2 ⟨rfl,l1,nO,k1,k2,o2,j2,dB,xV,T9,iff,hdj⟩;obtain⟨nP,pE⟩:=j2.obj;have AX:i<nO.hd.length:=by rw[T9];exact hi
 have fl:=xV.zQ;refine⟨_,rfl,l1.J,nP,_,by rw[k1],pE,rfl,_,rfl,_,rfl,l1,nO,n,i,_,_,_,ns,p,by rw[k1];rfl,j2,xV.one n8 AX,by omega,aj.of dB,λl2 H3 k3 k4 o3 j3=>?_⟩;refine q true l2 _ H3 (k3.trans k1) (λc hc=>k2 c (by rw[←k4];exact hc)) (λb o e nb=>o3 _ _ (o2 _ _ e nb) λz=>nb (k2 b z)) j3 ⟨xV.kU AX,T9,λ_=>⟨?_,λf=>?_⟩,(λz=>nomatch z),λ_=>hdj⟩
 ·obtain⟨x,mx⟩:∃x,x∈ns:=by
   cases ns with
   |nil=>exact absurd rfl nne
   |cons a r=>exact⟨a,Yk⟩
  obtain⟨f,d,e1,e2⟩:=OY wf hi hj live ((ms x).mp mx);refine⟨f,(vT xV AX ns f).mpr ((iff f).mpr ⟨d,?_⟩)⟩;rw[e2,e1]
 ·exact(vT xV AX ns f).trans (iff f)
end
def m9(xs ys:List Int):Prop:=full xs=true/\full ys=true/\xs.length=ys.length/\2<=xs.length/\xs.length<=8
theorem ZaH(g:m9 xs ys)(h:(z,ns)∈zH xs ys):full ns=true/\ns.length=xs.length:=by
 obtain⟨fx,fy,e,_,_⟩:=g;have fa:=FW fx fy e;simp only[Yt,Y3,or_false,Prod.mk.injEq] at h;rcases h with⟨rfl,rfl⟩|⟨rfl,rfl⟩|⟨rfl,rfl⟩|⟨rfl,rfl⟩|⟨rfl,rfl⟩|⟨rfl,rfl⟩|⟨rfl,rfl⟩;·exact⟨fx,rfl⟩
 ·exact⟨fa,by rw[q5];exact e.symm⟩
 ·exact⟨fy,e.symm⟩
 ·exact⟨jL fx,fM _⟩
 ·exact⟨jL fa,by rw[fM,q5];exact e.symm⟩
 ·exact⟨jL fy,by rw[fM];exact e.symm⟩
 ·exact⟨rb (List.Perm.refl _),eX _⟩
structure Fc where
 k:Str
 one:Nat
 aE:Int
 tn:List Int
abbrev bG:Str:="said"
def e_(F:List Fc)(x y:Nat)(t:List Int):Prop:=∃c∈F,c.k≠bG/\((c.one=x/\c.aE.toNat=y/\t=c.tn)\/(c.aE.toNat=x/\c.one=y/\t=inv c.tn))
def ju(n:Nat)(F:List Fc)(g:Nat->Option Int):Prop:=(∀x y t u,e_ F x y t->g x=some u->g y=some (ap t u))/\(∀c∈F,c.k=bG->∀u,g c.one=some u->u=c.aE)/\∀k v,g k=some v->0<=v/\v<(n:Int)
structure dW(n m:Nat)(c:Fc):Prop where
 one:c.one<m
 gf:c.k≠bG->(0<=c.aE/\c.aE.toNat<m)/\full c.tn=true/\c.tn.length=n
def r8(L:Nat->List (Nat×List Int))(x:Nat)(p:Nat×List Int):Nat->List (Nat×List Int):=λz=>if z=x then L x++[p] else L z
theorem t8{kvs:List (Key×V)}{k k':Key}{v:V}(h:aS kvs k=none):aS (kvs++[(k,v)]) k'=if k'=k then some v else aS kvs k':=by
 rw[←kJ v h];exact Zb8 _ _ _ _
theorem O0:q∈r8 L x p z↔q∈L z\/(z=x/\q=p):=by
 unfold r8;by_cases e:z=x
 ·rw[if_pos e,Yr,e];simp
 ·rw[if_neg e];simp[e]
theorem ZcJ:¬e_ [] x y t:=λ⟨_,m,_⟩=>nomatch m
theorem qa:e_ (F++[c]) x y t↔e_ F x y t\/(c.k≠bG/\((c.one=x/\c.aE.toNat=y/\t=c.tn)\/(c.aE.toNat=x/\c.one=y/\t=inv c.tn))):=by
 constructor
 ·rintro⟨c',m,h1,h2⟩;rcases Yr.mp m with m|m;·exact .inl ⟨c',m,h1,h2⟩
  ·rw[Ye] at m;subst m;exact .inr ⟨h1,h2⟩
 ·rintro(⟨c',m,h⟩|h);·exact⟨c',Yo _ m,h⟩
  ·exact⟨c,Yq _ Yk,h⟩
theorem lookup_mem:∀{ps:List (Nat×α)} {k:Nat} {v:α},ps.lookup k=some v->(k,v)∈ps
 |[],_,_,h=>by simp at h
 |p::ps,k,v,h=>by
  rw[Wt] at h;by_cases e:k=p.1;·grind
  ·rw[beq_eq_false_iff_ne.mpr e] at h;exact Yv _ (lookup_mem h)
theorem mem_lookup:∀{ps:List (Nat×α)} {k:Nat} {v:α},(ps.map (·.1)).Nodup->(k,v)∈ps->ps.lookup k=some v
 |p::ps,k,v,nd,h=>by
  obtain⟨n1,n2⟩:=Yy.mp (show(p.1::ps.map (·.1)).Nodup from nd);rw[Wt];rcases Yt.mp h with h|h;·grind
  ·have e:k≠p.1:=λz=>n1 (by rw[←z];exact Yf.mpr ⟨_,h,rfl⟩);rw[beq_eq_false_iff_ne.mpr e];exact mem_lookup n2 h
theorem Mm:∀{ps:List (Nat×α)} {k:Nat},ps.lookup k=none->k∉ps.map (·.1)
 |p::ps,k,h=>by
  grind
 |[],_,_=>λz=>nomatch z
theorem yI{α:Type}{ps:List (Nat×α)}{q:Nat×α}{k:Nat}{v:α}(h:ps.lookup k=some v):(ps++[q]).lookup k=some v:=by
 grind
theorem M_{α:Type}{ps:List (Nat×α)}{k:Nat}{v:α}(h:ps.lookup k=none):(ps++[(k,v)]).lookup k=some v:=by
 grind
theorem wo(ok:∀c∈F,dW n m c)(e:e_ F x y t):x<m/\y<m/\full t=true/\t.length=n:=by
 obtain⟨c,mc,ns,h⟩:=e;obtain⟨⟨o0,om⟩,ft,tl⟩:=(ok c mc).gf ns;have o1:=(ok c mc).one;rcases h with⟨rfl,rfl,rfl⟩|⟨rfl,rfl,rfl⟩;·grind
 ·exact⟨om,o1,jL ft,by rw[fM];exact tl⟩
inductive cC(F:List Fc)(x:Nat):Nat->Prop
 |refl:cC F x x
 |step {y z:Nat} {t:List Int}:cC F x y->e_ F y z t->cC F x z
structure BF(F:List Fc)(n m x:Nat)(a:Int)(g:List (Nat×Int)):Prop where
 nd:(g.map (·.1)).Nodup
 lt:∀p∈g,p.1<m/\0<=p.2/\p.2<(n:Int)
 hd:g.lookup x=some a
 snd:∀g',ju n F g'->g' x=some a->∀p∈g,g' p.1=some p.2
 conn:∀p∈g,cC F x p.1
section
variable {F:List Fc}{n m x:Nat}{a:Int}{g:List (Nat×Int)}
theorem bf0(hx:x<m)(ha:0<=a/\a<(n:Int)):BF F n m x a [(x,a)]:=by
 refine⟨by simp,λp hp=>?_,by simp,λg' _ h p hp=>?_,λp hp=>?_⟩;·grind
 ·grind
 ·rw[Ye] at hp;rw[hp];exact .refl
theorem BF.len(b:BF F n m x a g):g.length<=m:=by
 have:=tO b.nd λk hk=>by
  obtain⟨p,hp,rfl⟩:=Yf.mp hk;exact(b.lt p hp).1
 grind
theorem BF.add(b:BF F n m x a g)(ok:∀c∈F,dW n m c){k y:Nat}{t:List Int}{v:Int}(e:e_ F k y t)(hk:g.lookup k=some v)(hy:g.lookup y=none):BF F n m x a (g++[(y,ap t v)]):=by
 obtain⟨_,ym,ft,tl⟩:=wo ok e;have mk:=lookup_mem hk;refine⟨?_,λp hp=>?_,yI b.hd,λg' c h p hp=>?_,λp hp=>?_⟩
 ·rw[Yj];refine Wg.mpr ⟨b.nd,by simp,λu hu w hw z=>?_⟩
  grind
 ·rcases Yr.mp hp with hp|hp;·exact b.lt p hp
  ·rw[Ye] at hp;rw[hp];exact⟨ym,lY ft tl (b.lt _ mk).2⟩
 ·rcases Yr.mp hp with hp|hp;·exact b.snd g' c h p hp
  ·rw[Ye] at hp;rw[hp];exact c.1 k y t v e (b.snd g' c h _ mk)
 ·rcases Yr.mp hp with hp|hp;·exact b.conn p hp
  ·rw[Ye] at hp;rw[hp];exact .step (b.conn _ mk) e
theorem BF.Zgk(b:BF F n m x a g)(e:e_ F k y t)(hk:g.lookup k=some v)(hy:g.lookup y=some v')(ne:v'≠ap t v):¬∃g',ju n F g'/\g' x=some a:=by
 rintro⟨g',c,h⟩;have h2:=b.snd g' c h _ (lookup_mem hy);have h3:=c.1 k y t v e (b.snd g' c h _ (lookup_mem hk))
 grind
theorem BF.Zfy(b:BF F n m x a g)(mc:c∈F)(sd:c.k=bG)(hk:g.lookup c.one=some v)(ne:v≠c.aE):¬∃g',ju n F g'/\g' x=some a:=by
 rintro⟨g',cl,h⟩;exact ne (cl.2.1 c mc sd v (b.snd g' cl h _ (lookup_mem hk)))
def Cl(L:Nat->List (Nat×List Int))(g:List (Nat×Int))(r:Nat):Prop:=∀p,g[r]?=some p->∀q∈L p.1,g.lookup q.1=some (ap q.2 p.2)
theorem BF.done(b:BF F n m x a g)(ed:∀x y t,(y,t)∈L x↔e_ F x y t)(cl:∀r,r<g.length->Cl L g r)(sd:∀c∈F,c.k=bG->∀u,g.lookup c.one=some u->u=c.aE):ju n F (λk=>g.lookup k):=by
 refine⟨λk y t u e hk=>?_,sd,λk v h=>(b.lt _ (lookup_mem h)).2⟩;obtain⟨r,hr,er⟩:=Wp.mp (lookup_mem hk);have:=cl r hr (k,u) (by rw[Yb hr,er]) (y,t) ((ed _ _ _).mpr e);exact this
end
theorem yB{α:Type}{ps qs:List (Nat×α)}{k:Nat}{v:α}(h:ps.lookup k=some v):(ps++qs).lookup k=some v:=by
 grind
theorem Cl.app(hr:r<g.length)(c:Cl L g r):Cl L (g++tl) r:=λp hp q hq=>by
 rw[Y6 hr] at hp;exact yB (c p hp q hq)
open Classical in
noncomputable def c7 (F:List Fc) (n x:Nat):List Int:=(bF n).filter λa=>decide (∃g,ju n F g/\g x=some a)
def fh(f:Nat->Int)(c:Fc):Prop:=(c.k=bG->f c.one=c.aE)/\(c.k≠bG->f c.aE.toNat=ap c.tn (f c.one))
def lF(n m:Nat)(f:Nat->Int):Prop:=∀i,i<m->0<=f i/\f i<(n:Int)
structure dG(n:Nat)(st:JS)(F:List Fc):Prop where
 wf:WF n st
 jk:∀c∈F,dW n st.hd.length c
 iff:∀f,c_ st f↔lF n st.hd.length f/\∀c∈F,fh f c
 live:∃f,c_ st f
 conn:∀i j,i<st.hd.length->j<st.hd.length->(st.ag i=st.ag j↔cC F i j)
theorem YJ{f:Nat->Int}(ok:∀c∈F,dW n m c)(inr:lF n m f)(sat:∀c∈F,fh f c):∃g,ju n F g/\∀x,x<m->g x=some (f x):=by
 refine⟨λi=>if i<m then some (f i) else none,⟨λu v t a e hu=>?_,λc mc sd u hu=>?_,λk v hk=>?_⟩,λx hx=>if_pos hx⟩
 ·obtain⟨um,vm,_,_⟩:=wo ok e;obtain⟨c,mc,ns,h⟩:=e;have s:=(sat c mc).2 ns;obtain⟨_,ft,tl⟩:=(ok c mc).gf ns;have e1:f u=a:=by
   grind
  show(if v<m then some (f v) else none)=_;rw[if_pos vm];rcases h with⟨rfl,rfl,rfl⟩|⟨rfl,rfl,rfl⟩;·rw[s,e1]
  ·rw[←e1,s,ur ft tl (inr _ (ok c mc).one)]
 ·have xT:(if c.one<m then some (f c.one) else none)=some u:=hu;rw[if_pos (ok c mc).one] at xT;rw[←Yp xT];exact(sat c mc).1 sd
 ·have AY:(if k<m then some (f k) else none)=some v:=hk;by_cases z:k<m
  ·rw[if_pos z] at AY;rw[←Yp AY];exact inr k z
  ·grind
theorem Zf{f:Nat->Int}(ok:∀c∈F,dW n m c)(hx:x<m)(inr:lF n m f)(sat:∀c∈F,fh f c):∃g,ju n F g/\g x=some (f x):=by
 obtain⟨g,c,h⟩:=YJ ok inr sat
 grind
theorem YK(ok:∀c∈F,dW n m c)(inr:lF n m f0)(sat:∀c∈F,c.one=x\/fh f0 c)(cl:ju n F g)(hx:g x=some a):∃f,lF n m f/\(∀c∈F,fh f c)/\f x=a/\∀i,f i=(g i).getD (f0 i):=by
 refine⟨λi=>(g i).getD (f0 i),λi hi=>?_,λc mc=>⟨λsd=>?_,λns=>?_⟩,by show(g x).getD _=a;rw[hx];rfl,λ_=>rfl⟩
 ·show 0<=(g i).getD (f0 i)/\(g i).getD (f0 i)<_;cases e:g i with
  |none=>exact inr i hi
  |some v=>exact cl.2.2 i v e
 ·show(g c.one).getD (f0 c.one)=_;cases e:g c.one with
  |none=>
   rcases sat c mc with h|h;·grind
   ·exact h.1 sd
  |some v=>exact cl.2.1 c mc sd v e
 ·show(g c.aE.toNat).getD (f0 c.aE.toNat)=ap c.tn ((g c.one).getD (f0 c.one));have ed1:e_ F c.one c.aE.toNat c.tn:=⟨c,mc,ns,.inl ⟨rfl,rfl,rfl⟩⟩;have ed2:e_ F c.aE.toNat c.one (inv c.tn):=⟨c,mc,ns,.inr ⟨rfl,rfl,rfl⟩⟩;cases e:g c.one with
  |some v=>
   rw[cl.1 _ _ _ v ed1 e];rfl
  |none=>
   have e2:g c.aE.toNat=none:=by
    cases z:g c.aE.toNat with
    |none=>rfl
    |some v=>rw[cl.1 _ _ _ v ed2 z] at e;cases e
   rw[e2];rcases sat c mc with h|h;·grind
   ·exact h.2 ns
theorem Mv(ok:∀c∈F,dW n m c)(inr:lF n m f0)(sat:∀c∈F,c.one=x\/fh f0 c)(cl:ju n F g)(hx:g x=some a):∃f,lF n m f/\(∀c∈F,fh f c)/\f x=a:=by
 obtain⟨f,h1,h2,h3,_⟩:=YK ok inr sat cl hx
 grind
open Classical in
theorem NX:a∈c7 F n x↔(0<=a/\a<(n:Int))/\∃g,ju n F g/\g x=some a:=by
 unfold c7;rw[Yz,decide_eq_true_iff];refine and_congr_left λ_=>?_;unfold bF;rw[Yf];constructor
 ·rintro⟨i,hi,rfl⟩;have:=Y7.mp hi;omega
 ·intro h;exact⟨a.toNat,Y7.mpr (by omega),Jq h.1⟩
section
variable {n x:Nat}{st:JS}{F:List Fc}
theorem dG.room(me:dG n st F)(hx:x<st.hd.length)(a:Int):a∈c7 F n x↔∃f,c_ st f/\f x=a:=by
 rw[NX];constructor
 ·rintro⟨_,g,cl,h⟩;obtain⟨f0,d0⟩:=me.live;obtain⟨i0,s0⟩:=(me.iff f0).mp d0;obtain⟨f,i1,s1,e⟩:=Mv me.jk i0 (λc mc=>.inr (s0 c mc)) cl h;exact⟨f,(me.iff f).mpr ⟨i1,s1⟩,e⟩
 ·rintro⟨f,d,rfl⟩;obtain⟨i1,s1⟩:=(me.iff f).mp d;exact⟨i1 x hx,Zf me.jk hx i1 s1⟩
theorem dG.put(me:dG n st F)(ok:dW n st.hd.length c)(wf':WF n aI)(len:aI.hd.length=st.hd.length)(live:∃f,c_ aI f)(iff:∀f,c_ aI f↔c_ st f/\fh f c)(cn:∀i j,i<st.hd.length->j<st.hd.length->(aI.ag i=aI.ag j↔cC (F++[c]) i j)):dG n aI (F++[c]):=by
 refine⟨wf',λc' m'=>?_,λf=>?_,live,by rw[len];exact cn⟩
 ·rw[len];rcases Yr.mp m' with m'|m';·exact me.jk c' m'
  ·grind
 ·rw[iff,me.iff,len,and_assoc]
  grind
theorem ZcK(F:List Fc)(n x:Nat):(c7 F n x).Pairwise (·<=·)/\(c7 F n x).Nodup:=by
 have pw:(bF n).Pairwise (·<=·):=by
  unfold bF;rw[W3];exact List.pairwise_lt_range.imp λh=>by omega
 exact⟨pw.filter _,(As.Ex n).filter _⟩
theorem dG.opn(me:dG n st F)(hx:x<st.hd.length)(pm:ns.Perm ((st.cF (st.ag x)).map λz=>(st.bO x).getD z.toNat 0))(so:ns.Pairwise (·<=·)):ns=c7 F n x:=by
 obtain⟨p1,p2⟩:=ZcK F n x;refine List.Perm.eq_of_pairwise (le:=(·<=·)) (λa b _ _ h1 h2=>by omega) so p1 (pm.trans ((List.perm_ext_iff_of_nodup ((me.wf.dist hx)) p2).mpr λa=>?_));rw[me.room hx,Yf];constructor
 ·rintro⟨z,mz,rfl⟩;obtain⟨f0,d0⟩:=me.live;obtain⟨f,d,q⟩:=yQ me.wf d0 (st.ag x) (st.ag x) z z mz mz (λ_=>rfl);exact⟨f,d,(q x hx).1 rfl⟩
 ·rintro⟨f,⟨s,h⟩,rfl⟩;exact⟨s (st.ag x),(h x hx).1,(h x hx).2.symm⟩
theorem kK(hi:i<st.hd.length):(st.more n).ag i=st.ag i:=by
 show(st.hd++[_]).getD i 0=st.hd.getD i 0
 grind
theorem oo:(st.more n).ag st.hd.length=st.hd.length:=by
 show(st.hd++[_]).getD _ 0=_;simp
theorem O1(wf:WF n st)(hi:i<st.hd.length):(st.more n).bO i=st.bO i:=by
 show(st.ld++[_]).getD i []=st.ld.getD i [];rw[Yn,Y6 (by rw[wf.ll];exact hi),←Yn]
theorem NY(wf:WF n st):(st.more n).bO st.hd.length=bF n:=by
 show(st.ld++[_]).getD _ []=_;rw[←wf.ll];simp
theorem Ec{α:Type}{ps:List (Nat×α)}{k:Nat}{v:α}(h:k∉ps.map (·.1)):(ps++[(k,v)]).lookup k=some v:=by
 refine M_ ?_;cases e:ps.lookup k with
 |none=>rfl
 |some x=>exact absurd (ER e) h
theorem iV:(st.more n).hd.length=st.hd.length+1:=by
 show(st.hd++[_]).length=_;simp
theorem ZbE(n:Nat):full (bF n)=true/\(bF n).length=n:=⟨rb (List.Perm.refl (bF n)),eX n⟩
theorem Qr(h:0<=z/\z<(n:Int)):ap (bF n) z=z:=by
 show(bF n).getD z.toNat 0=z;rw[Yn,lO (by omega)]
 grind
theorem F0:z∈bF n↔0<=z/\z<(n:Int):=by
 unfold bF;rw[Yf];constructor;·grind
 ·intro h;exact⟨z.toNat,Y7.mpr (by omega),Jq h.1⟩
theorem WF.xl(wf:WF n st)(hi:i<st.hd.length):st.ag i<st.hd.length:=wf.lf _ (ER (wf.dR hi).1)
theorem WF.more(wf:WF n st):WF n (st.more n):=by
 have nm:st.hd.length∉st.mem.map (·.1):=λz=>Wa _ (wf.lm _ z);have nf:st.hd.length∉st.fr.map (·.1):=λz=>Wa _ (wf.lf _ z);have km:(st.more n).mem.map (·.1)=st.mem.map (·.1)++[st.hd.length]:=by
  show(st.mem++[(st.hd.length,[st.hd.length])]).map (·.1)=_;rw[Yj];rfl
 have kf:(st.more n).fr.map (·.1)=st.fr.map (·.1)++[st.hd.length]:=by
  show(st.fr++[(st.hd.length,bF n)]).map (·.1)=_;rw[Yj];rfl
 have nd:∀{xs:List Nat},xs.Nodup->st.hd.length∉xs->(xs++[st.hd.length]).Nodup:=λ{xs} h h'=>Wg.mpr ⟨h,by simp,λu hu w hw z=>by
  have:w=st.hd.length:=by simpa using hw
  rw[z,this] at hu;exact h' hu⟩
 refine⟨?_,λt ht=>?_,λi hi=>?_,λi hi=>?_,?_,?_,?_,?_,?_⟩
 ·show(st.ld++[_]).length=(st.hd++[_]).length;rw[Yi,Yi,wf.ll];rfl
 ·rcases Yr.mp (show t∈st.ld++[_] from ht) with h|h;·exact wf.fl t h
  ·rw[Ye] at h;rw[h];exact ZbE n
 ·rw[iV] at hi;by_cases z:i=st.hd.length
  ·rw[z,oo];exact⟨bF n,Ec nf,As.Ex n,λz hz=>F0.mp hz⟩
  ·rw[kK (by omega)];exact⟨_,yI (wf.dR (i:=i) (by omega)).1,(wf.dR (i:=i) (by omega)).2⟩
 ·rw[iV] at hi;by_cases z:i=st.hd.length
  ·rw[z,oo];refine⟨[st.hd.length],Ec nm,by simp,λk=>?_⟩;rw[Ye,iV];constructor
   ·rintro rfl;exact⟨by omega,oo⟩
   ·rintro⟨h1,h2⟩;by_cases w:k=st.hd.length;·exact w
    ·rw[kK (by omega)] at h2;have:=wf.xl (i:=k) (by omega);omega
  ·obtain⟨ms,e,a,b⟩:=wf.mem i (by omega);rw[kK (by omega)];refine⟨ms,yI e,a,λk=>?_⟩;rw[b,iV];constructor
   ·rintro⟨h1,h2⟩;exact⟨by omega,by rw[kK h1];exact h2⟩
   ·rintro⟨h1,h2⟩;by_cases w:k=st.hd.length
    ·rw[w,oo] at h2;have:=wf.xl (i:=i) (by omega);omega
    ·rw[kK (by omega)] at h2;exact⟨by omega,h2⟩
 ·rw[km];exact nd wf.nm nm
 ·rw[km,iV];intro k hk;rcases Yr.mp hk with h|h;·have:=wf.lm k h;omega
  ·rw[Ye] at h;omega
 ·rw[kf];exact nd wf.nf nf
 ·rw[kf,iV];intro k hk;rcases Yr.mp hk with h|h;·have:=wf.lf k h;omega
  ·rw[Ye] at h;omega
 ·rw[kf,iV];intro k hk;rcases Yr.mp hk with h|h
  ·obtain⟨i,hi,e⟩:=wf.hf k h;exact⟨i,by omega,by rw[kK hi];exact e⟩
  ·rw[Ye] at h;exact⟨st.hd.length,by omega,by rw[oo,h]⟩
theorem NZ(wf:WF n st)(f:Nat->Int):c_ (st.more n) f↔c_ st f/\(0<=f st.hd.length/\f st.hd.length<(n:Int)):=by
 have xW:(st.more n).cF st.hd.length=bF n:=by
  show((st.fr++[(st.hd.length,bF n)]).lookup st.hd.length).getD []=_;rw[Ec (λz=>Wa _ (wf.lf _ z))];rfl
 have Vy:∀i,i<st.hd.length->(st.more n).cF (st.ag i)=st.cF (st.ag i):=λi hi=>by
  show((st.fr++[(st.hd.length,bF n)]).lookup _).getD []=_;rw[yI (wf.dR hi).1];rfl
 constructor
 ·rintro⟨s,h⟩;refine⟨⟨s,λi hi=>?_⟩,?_⟩
  ·have x:=h i (by rw[iV];omega);rw[kK hi,O1 wf hi,Vy i hi] at x;exact x
  ·have x:=h st.hd.length (by rw[iV];omega);rw[oo,NY wf,xW] at x;have b:=F0.mp x.1;rw[x.2,Qr b];exact b
 ·rintro⟨⟨s,h⟩,b⟩;refine⟨λq=>if q=st.hd.length then f st.hd.length else s q,λi hi=>?_⟩;rw[iV] at hi;by_cases z:i=st.hd.length
  ·rw[z,oo,NY wf,xW];show(if st.hd.length=st.hd.length then _ else _)∈_/\f st.hd.length=ap _ (if st.hd.length=st.hd.length then _ else _);rw[if_pos rfl,Qr b];exact⟨F0.mpr b,rfl⟩
  ·have iN:i<st.hd.length:=by omega
   have:=wf.xl iN;rw[kK iN,O1 wf iN,Vy i iN]
   grind
theorem ZdV(ok:∀c∈F,dW n m c)(h:cC F x y)(hx:x<m):y<m:=by
 cases h with
 |refl=>exact hx
 |step _ e=>exact(wo ok e).2.1
theorem dG.more(me:dG n st F)(n0:0<n):dG n (st.more n) F:=by
 refine⟨me.wf.more,λc mc=>?_,λf=>?_,?_,λi j hi hj=>?_⟩
 ·have ok:=me.jk c mc;rw[iV];exact⟨Wv ok.one,λns=>⟨⟨(ok.gf ns).1.1,Wv (ok.gf ns).1.2⟩,(ok.gf ns).2⟩⟩
 ·rw[NZ me.wf,me.iff,iV];constructor
  ·rintro⟨⟨h1,h2⟩,h3⟩;refine⟨λi hi=>?_,h2⟩;by_cases z:i=st.hd.length;·rw[z];exact h3
   ·exact h1 i (by omega)
  ·rintro⟨h1,h2⟩;exact⟨⟨λi hi=>h1 i (by omega),h2⟩,h1 _ (by omega)⟩
 ·obtain⟨f0,s,h⟩:=me.live;refine⟨λi=>if i=st.hd.length then 0 else f0 i,(NZ me.wf _).mpr ⟨⟨s,λi hi=>?_⟩,?_⟩⟩;·grind
  ·grind
 ·rw[iV] at hi hj;by_cases zi:i=st.hd.length
  ·by_cases zj:j=st.hd.length;·rw[zi,zj];exact⟨λ_=>.refl,λ_=>rfl⟩
   ·rw[zi,oo,kK (by omega)];have:=me.wf.xl (i:=j) (by omega);refine⟨λz=>by omega,λz=>?_⟩;have b:∀{k:Nat},cC F st.hd.length k->k=st.hd.length:=λ{k} h=>by
     induction h with
     |refl=>rfl
     |step _ e ih=>rw[ih] at e;exact absurd (wo me.jk e).1 (Wa _)
    exact absurd (b z) zj
  ·by_cases zj:j=st.hd.length
   ·rw[zj,oo,kK (by omega)];have:=me.wf.xl (i:=i) (by omega);refine⟨λz=>by omega,λz=>?_⟩;have:=ZdV me.jk z (by omega);omega
   ·rw[kK (by omega),kK (by omega)];exact me.conn i j (by omega) (by omega)
theorem Zgl:dG n ⟨[],[],[],[]⟩ []:=⟨wf0,λ_ h=>(nomatch h),λf=>⟨λ_=>⟨λ_ h=>absurd h (Wm _),λ_ h=>(nomatch h)⟩,λ_=>⟨λ_=>0,λ_ h=>absurd h (Wm _)⟩⟩,⟨λ_=>0,λ_=>0,λ_ h=>absurd h (Wm _)⟩,λ_ _ h=>absurd h (Wm _)⟩
end
theorem cC.mono(h:∀x y t,e_ F x y t->e_ G x y t)(c:cC F x y):cC G x y:=by
 induction c with
 |refl=>exact .refl
 |step _ e ih=>exact .step ih (h _ _ _ e)
theorem cC.trans(c:cC F x y)(d:cC F y z):cC F x z:=by
 induction d with
 |refl=>exact c
 |step _ e ih=>exact .step ih e
theorem ZbF(h:c.k=bG):cC (F++[c]) x y↔cC F x y:=
 ⟨cC.mono λ_ _ _ e=>(qa.mp e).elim id λz=>absurd h z.1,cC.mono λ_ _ _ e=>qa.mpr (.inl e)⟩
theorem ZcL(h:c.k≠bG):cC (F++[c]) x y↔cC F x y\/(cC F x c.one/\cC F c.aE.toNat y)\/(cC F x c.aE.toNat/\cC F c.one y):=by
 have up:∀{x y:Nat},cC F x y->cC (F++[c]) x y:=λd=>d.mono λ_ _ _ e=>qa.mpr (.inl e);have e1:e_ (F++[c]) c.one c.aE.toNat c.tn:=qa.mpr (.inr ⟨h,.inl ⟨rfl,rfl,rfl⟩⟩);have e2:e_ (F++[c]) c.aE.toNat c.one (inv c.tn):=qa.mpr (.inr ⟨h,.inr ⟨rfl,rfl,rfl⟩⟩);constructor
 ·intro d;induction d with
  |refl=>exact .inl .refl
  |step _ e ih=>
   rcases qa.mp e with e|⟨_,⟨rfl,rfl,_⟩|⟨rfl,rfl,_⟩⟩
   ·rcases ih with a|⟨a,b⟩|⟨a,b⟩;·exact .inl (.step a e)
    ·exact .inr (.inl ⟨a,.step b e⟩)
    ·exact .inr (.inr ⟨a,.step b e⟩)
   ·rcases ih with a|⟨a,b⟩|⟨a,b⟩;·exact .inr (.inl ⟨a,.refl⟩)
    ·exact .inr (.inl ⟨a,.refl⟩)
    ·exact .inl a
   ·rcases ih with a|⟨a,b⟩|⟨a,b⟩;·exact .inr (.inr ⟨a,.refl⟩)
    ·exact .inl a
    ·exact .inr (.inr ⟨a,.refl⟩)
 ·rintro(a|⟨a,b⟩|⟨a,b⟩);·exact up a
  ·exact((up a).step e1).trans (up b)
  ·exact((up a).step e2).trans (up b)
section
variable {n i j:Nat}{st fk:JS}{F:List Fc}{k:Str}{tn:List Int}{b:Bool}
theorem ZcM(me:dG n st F)(to:RX n st fk b i j tn)(hk:k≠bG)(ok:dW n st.hd.length ⟨k,i,(j:Int),tn⟩):(b=true->dG n fk (F++[⟨k,i,(j:Int),tn⟩]))/\(b=false->dG n fk F/\∀f,c_ fk f->¬fh f ⟨k,i,(j:Int),tn⟩):=by
 have sat:∀f,fh f ⟨k,i,(j:Int),tn⟩↔f j=ap tn (f i):=λf=>⟨λh=>by have:=h.2 hk;rwa [show((⟨k,i,(j:Int),tn⟩:Fc).aE.toNat)=j from Y8 j] at this,λh=>⟨λz=>absurd z hk,λ_=>by rw[show((⟨k,i,(j:Int),tn⟩:Fc).aE.toNat)=j from Y8 j];exact h⟩⟩;refine⟨λe=>?_,λe=>?_⟩
 ·obtain⟨lv,iff⟩:=to.yes e;have hi:i<st.hd.length:=ok.one;have hj:j<st.hd.length:=by
   have:=(ok.gf hk).1.2
   rwa [show((⟨k,i,(j:Int),tn⟩:Fc).aE.toNat)=j from Y8 j] at this
  refine me.put ok to.wf to.len lv (λf=>by rw[iff,sat]) λx y hx hy=>?_;rw[to.hds e x y hx hy,ZcL (c:=⟨k,i,(j:Int),tn⟩) hk,show((⟨k,i,(j:Int),tn⟩:Fc).aE.toNat)=j from Y8 j,me.conn x y hx hy,me.conn x i hx hi,me.conn x j hx hj,←me.conn j y hj hy,←me.conn i y hi hy];exact or_congr_right (or_congr (and_congr_right λ_=>eq_comm) (and_congr_right λ_=>eq_comm))
 ·obtain⟨es,no⟩:=to.no e;rw[es];exact⟨me,λf d z=>no f d ((sat f).mp z)⟩
theorem Qs(me:dG n st F)(hi:i<st.hd.length)(m:a∈(st.cF (st.ag i)).map λz=>(st.bO i).getD z.toNat 0):dG n (st.kU (st.ag i) ((st.cF (st.ag i)).filter λz=>decide ((st.bO i).getD z.toNat 0∈[a]))) (F++[⟨bG,i,a,tn⟩]):=by
 refine me.put (c:=⟨bG,i,a,tn⟩) ⟨hi,λz=>absurd rfl z⟩ (me.wf.kU hi) rfl ?_ (λf=>?_) λx y hx hy=>?_
 ·obtain⟨z,mz,rfl⟩:=Yf.mp m;obtain⟨f0,d0⟩:=me.live;obtain⟨f,d,q⟩:=yQ me.wf d0 (st.ag i) (st.ag i) z z mz mz (λ_=>rfl);exact⟨f,(vT me.wf hi _ f).mpr ⟨d,by rw[(q i hi).1 rfl];exact Yk⟩⟩
 ·rw[vT me.wf hi,Ye];refine and_congr_right λ_=>?_;exact⟨λh=>⟨λ_=>h,λz=>absurd rfl z⟩,λh=>h.1 rfl⟩
 ·rw[ZbF rfl];exact me.conn x y hx hy
theorem Zfz(me:dG n st F)(hi:i<st.hd.length)(m:a∉(st.cF (st.ag i)).map λz=>(st.bO i).getD z.toNat 0)(f:Nat->Int)(d:c_ st f):¬fh f ⟨bG,i,a,tn⟩:=by
 obtain⟨s,h⟩:=d;intro z;have e:f i=a:=z.1 rfl;refine m (Yf.mpr ⟨s (st.ag i),(h i hi).1,?_⟩);rw[←e,(h i hi).2];rfl
end
abbrev bA:=List (Str×Str)
def aq(ps:bA)(i:Nat):Str:=(ps.getD i ("","")).1
def bu(ps:bA)(c:Fc):Key:=if c.k=bG then .inl c.aE else .inr (aq ps c.aE.toNat)
def d9(ps:bA)(z:Nat)(c:Fc):List Key:=[.inl (z:Int),.inr c.k,.inr (aq ps c.one),bu ps c]
def keyOf(k a:Str):Key->List Key
 |.inl b=>[.inr k,.inr a,.inl b]
 |.inr b=>if k="sibling" then[.inr k,.inr (L2.qu a b),.inr (L2.qv a b)] else[.inr k,.inr a,.inr b]
def fF(ps:bA)(c:Fc):List Key:=keyOf c.k (aq ps c.one) (bu ps c)
def cO(k:Str):Bool:=decide (k="mother")||decide (k="father")
def fG(ps:bA)(fs:List (Nat×Fc)):List (List Key×V):=fs.map λp=>(fF ps p.2,.int (p.1:Int))
def cB(ps:bA)(fs:List (Nat×Fc)):List (List Key×V):=(fs.filter λp=>cO p.2.k).map λp=>([.inr p.2.k,.inr (aq ps p.2.one)],kV (bu ps p.2))
def jn(ps:bA):List (Key×V):=ps.zipIdx.map λp=>(.inr p.1.1,.int (p.2:Int))
structure z9 where
 way:Int
 row:List Key
 c0:Nat
 c1:Nat
def m7(H:Hp)(a:Addr)(d:z9):Prop:=∃r,H a=some (.tup [.int d.way,.ref r,.int (d.c0:Int),.int (d.c1:Int)])/\H r=some (.tup (d.row.map kV))
structure BS where
 ps:bA
 fs:List (Nat×Fc)
 co:Nat
 dn:List z9
 un:List z9
def BS.F(b:BS):List Fc:=b.fs.map (·.2)
structure BL where
 h:Addr
 L:Addr
 sd:Addr
 pl:Addr
 fc:Addr
 kn:Addr
 pr:Addr
 dn:Addr
 un:Addr
 rk:V
 ck:List Addr
 ij:List Addr
 ko:List Addr
 eM:List Addr
def BL.own(l:BL):List Addr:=[l.h,l.sd,l.pl,l.fc,l.kn,l.pr,l.dn,l.un]
def BL.fp(l:BL):List Addr:=l.own++l.eM
structure fP(K:PySem.W.Frag)(C:Addr):Prop where
 cls:fZ K C
 uz:dJ K C "land"
 rh:dJ K C "sides"
 q_:dJ K C "places"
 uu:dJ K C "facts"
 zr:dJ K C "known"
 uc:dJ K C "parents"
 qb:dJ K C "coming"
 RZ:dJ K C "done"
 O2:dJ K C "undone"
 iy:dJ K C "reckoned"
abbrev HF(L sd pl fc kn pr:Addr)(co:Int)(dn un:Addr)(rk:V):List (Str×V):=[("land",.ref L),("sides",.ref sd),("places",.ref pl),("facts",.ref fc),("known",.ref kn),("parents",.ref pr),("coming",.int co),("done",.ref dn),("undone",.ref un),("reckoned",rk)]
theorem Zg_(a b c d e f g h i j:V):cR "reckoned" j (cR "undone" i (cR "done" h (cR "coming" g (cR "parents" f (cR "known" e (cR "facts" d (cR "places" c (cR "sides" b (cR "land" a [])))))))))=
  ([("land",a),("sides",b),("places",c),("facts",d),("known",e),("parents",f),("coming",g),("done",h),("undone",i),("reckoned",j)]:List (Str×V)):=rfl
abbrev gh(ps:bA):List (Key×V):=ps.map λp=>(.inr p.1,.str p.2)
inductive r9(H:Hp)(CJ:Addr)(n:Nat)(l:BL)(b:BS):Prop
 |no (e1:l.rk=.ay) (e2:l.eM=[])
 |at_ (jl:JL) (st:JS) (e1:l.rk=.ref jl.J) (e2:l.eM=jl.fp) (ja:cI H CJ n jl st) (me:dG n st b.F) (len:st.hd.length=b.ps.length) (fH:∀a∈l.own,a∉jl.fp)
structure bw(H:Hp)(C CL CJ:Addr)(l:BL)(xs ys:List Int)(b:BS):Prop where
 obj:∃dx,H l.h=some (.ins C dx (HF l.L l.sd l.pl l.fc l.kn l.pr (b.co:Int) l.dn l.un l.rk))
 land:∀H',Out l.fp H H'->iE H' CL l.L xs ys
 cY:H l.sd=some (.dK (gh b.ps))
 places:H l.pl=some (.dK (jn b.ps))
 facts:H l.fc=some (.dK (bh (b.fs.map (·.1)) l.ck))
 fact:Paired (λa (p:Nat×Fc)=>H a=some (.tup ((d9 b.ps p.1 p.2).map kV))) l.ck b.fs
 known:H l.kn=some (.dT (fG b.ps b.fs))
 parents:H l.pr=some (.dT (cB b.ps b.fs))
 done:H l.dn=some (.lst (l.ij.map V.ref))
 kZ:Paired (m7 H) l.ij b.dn
 iF:H l.un=some (.lst (l.ko.map V.ref))
 m8:Paired (m7 H) l.ko b.un
 rP:r9 H CJ xs.length l b
 nd:l.own.Nodup
theorem m7.out(o:Out fp H H')(t:∀a xs,H a=some (.tup xs)->a∉fp)(h:m7 H a d):m7 H' a d:=by
 obtain⟨r,h1,h2⟩:=h;exact⟨r,o _ _ h1 (t _ _ h1),o _ _ h2 (t _ _ h2)⟩
theorem cI.off(j:cI H C n l st)(h:H a=some (.tup xs)):a∉l.fp:=by
 intro z;unfold JL.fp at z;simp only[Yt] at z;rcases z with rfl|rfl|rfl|rfl|rfl|z
 ·obtain⟨dx,e⟩:=j.obj
  grind
 ·rw[j.heads] at h;cases h
 ·rw[j.iG] at h;cases h
 ·rw[j.jw] at h;cases h
 ·rw[j.frees] at h;cases h
 ·obtain⟨y,e⟩:=vZ j.mem z
  grind
theorem cI.jQ(j:cI H C n l st)(o:Out fp H H')(d1:∀a∈fp,a∉l.fp)(d2:∀a∈fp,a∉l.ck)(t:∀a xs,H a=some (.tup xs)->a∉fp):cI H' C n l st:=by
 have k:∀{a:Addr} {u:HO},H a=some u->a∈l.fp->H' a=some u:=λ{a u} e m=>o _ _ e λz=>d1 _ z m;obtain⟨dx,e⟩:=j.obj;refine⟨⟨dx,k e (by simp[JL.fp])⟩,k j.heads (by simp[JL.fp]),k j.iG (by simp[JL.fp]),L2.Paired.bp j.lead λa x h=>o _ _ h (t _ _ h),k j.jw (by simp[JL.fp]),?_,k j.frees (by simp[JL.fp]),?_,j.nd,j.out⟩
 ·have aux:∀{as:List Addr} {ps:List (Nat×List Nat)},Paired (λa p=>H a=some (.lst (dP p.2))) as ps->(∀a∈as,a∈l.fp)->Paired (λa p=>H' a=some (.lst (dP p.2))) as ps:=by
   intro as ps p;induction p with
   |nil=>intro _;exact .nil
   |cons f _ ih=>intro m;exact .cons (k f (m _ Yk)) (ih λa ha=>m a (Yv _ ha))
  exact aux j.mem λa ha=>by simp[JL.fp,ha]
 ·have aux:∀{as:List Addr} {ps:List (Nat×List Int)},Paired (λa p=>H a=some (.lst (p.2.map V.int))) as ps->(∀a∈as,a∈l.ck)->Paired (λa p=>H' a=some (.lst (p.2.map V.int))) as ps:=by
   intro as ps p;induction p with
   |nil=>intro _;exact .nil
   |cons f _ ih=>intro m;exact .cons (o _ _ f λz=>d2 _ z (m _ Yk)) (ih λa ha=>m a (Yv _ ha))
  exact aux j.free λa ha=>ha
section
variable {H H':Hp}{l:BL}{xs ys:List Int}{b:BS}
theorem bw.landAt(h:bw H C CL CJ l xs ys b):iE H CL l.L xs ys:=h.land H (Out.of (ah.refl _))
theorem bw.tup(h:bw H C CL CJ l xs ys b)(e:H a=some (.tup us)):a∉l.fp:=by
 intro z;unfold BL.fp BL.own at z;rcases Yr.mp z with z|z
 ·simp only[Yt,Y3,or_false] at z;rcases z with rfl|rfl|rfl|rfl|rfl|rfl|rfl|rfl
  ·obtain⟨dx,q⟩:=h.obj
   grind
  ·rw[h.cY] at e;cases e
  ·rw[h.places] at e;cases e
  ·rw[h.facts] at e;cases e
  ·rw[h.known] at e;cases e
  ·rw[h.parents] at e;cases e
  ·rw[h.done] at e;cases e
  ·rw[h.iF] at e;cases e
 ·cases h.rP with
  |no _ e2=>grind
  |at_ jl st _ e2 ja=>rw[e2] at z;exact ja.off e z
theorem bw.there(h:bw H C CL CJ l xs ys b)(z:a∈l.fp):H a≠none:=by
 intro e;unfold BL.fp BL.own at z;rcases Yr.mp z with z|z
 ·simp only[Yt,Y3,or_false] at z;rcases z with rfl|rfl|rfl|rfl|rfl|rfl|rfl|rfl
  ·obtain⟨dx,q⟩:=h.obj
   grind
  ·rw[h.cY] at e;cases e
  ·rw[h.places] at e;cases e
  ·rw[h.facts] at e;cases e
  ·rw[h.known] at e;cases e
  ·rw[h.parents] at e;cases e
  ·rw[h.done] at e;cases e
  ·rw[h.iF] at e;cases e
 ·cases h.rP with
  |no _ e2=>grind
  |at_ jl st _ e2 ja=>rw[e2] at z;exact ja.ne e z
theorem r9.same(g:ah H H')(h:r9 H CJ n l b):r9 H' CJ n l b:=by
 cases h with
 |no e1 e2=>exact .no e1 e2
 |at_ jl st e1 e2 ja me len fH=>exact .at_ jl st e1 e2 (ja.same g) me len fH
theorem bw.same(g:ah H H')(h:bw H C CL CJ l xs ys b):bw H' C CL CJ l xs ys b:=
 ⟨let⟨dx,e⟩:=h.obj;⟨dx,g _ _ e⟩,λH2 o=>h.land H2 ((Out.of g).trans o),g _ _ h.cY,g _ _ h.places,g _ _ h.facts,L2.Paired.bp h.fact λ_ _ e=>g _ _ e,g _ _ h.known,g _ _ h.parents,g _ _ h.done,L2.Paired.bp h.kZ λ_ _ ⟨r,e1,e2⟩=>⟨r,g _ _ e1,g _ _ e2⟩,g _ _ h.iF,L2.Paired.bp h.m8 λ_ _ ⟨r,e1,e2⟩=>⟨r,g _ _ e1,g _ _ e2⟩,h.rP.same g,h.nd⟩
def eG(fp sO:List Addr)(H:Hp):Prop:=∀a∈sO,a∈fp\/H a=none
theorem eG.refl(fp:List Addr)(H:Hp):eG fp fp H:=λ_ h=>.inl h
theorem F1(o:Out fp H H1)(g:eG fp sO H)(o2:Out sO H1 H2):Out fp H H2:=λa u e n=>o2 _ _ (o _ _ e n) λz=>(g a z).elim n λq=>by rw[e] at q;cases q
theorem eG.trans(g:eG fp sO H)(o:Out fp H H1)(g2:eG sO Zha H1):eG fp Zha H:=λa z=>by
 rcases g2 a z with q|q;·exact g a q
 ·by_cases m:a∈fp;·exact .inl m
  ·right
   cases e:H a with
   |none=>rfl
   |some u=>rw[o _ _ e m] at q;cases q
theorem eG.same(s:ah H H1)(g2:eG fp sO H1):eG fp sO H:=λa z=>(g2 a z).imp id λq=>s.free q
theorem ZcN(me:dG n st F)(m:(k,secs)∈st.fr):secs≠[]:=by
 obtain⟨i,hi,e⟩:=me.wf.hf k (Yf.mpr ⟨_,m,rfl⟩);obtain⟨f,s,d⟩:=me.live;have q:=(d i hi).1;unfold JS.cF at q;rw[e,(mem_lookup me.wf.nf m)] at q
 grind
theorem ZdW(ja:cI H CJ n jl st)(me:dG n st b.F)(h:∃dx us,H l.h=some (.ins C dx us))(h2:∃k,H l.sd=some (.dK k))(h3:∃k,H l.pl=some (.dK k))(h4:∃k,H l.fc=some (.dK k))(h5:∃k,H l.kn=some (.dT k))(h6:∃k,H l.pr=some (.dT k))(h7:∃as:List Addr,H l.dn=some (.lst (as.map V.ref)))(h8:∃as:List Addr,H l.un=some (.lst (as.map V.ref))):∀a∈l.own,a∉jl.ck:=by
 intro a ha hf;obtain⟨p,hp,e⟩:∃p∈st.fr,H a=some (.lst (p.2.map V.int)):=by
  have aux:∀{as:List Addr} {ps:List (Nat×List Int)},Paired (λa p=>H a=some (.lst (p.2.map V.int))) as ps->a∈as->∃p∈ps,H a=some (.lst (p.2.map V.int)):=by
   intro as ps pr;induction pr with
   |nil=>intro h;cases h
   |cons f _ ih=>
    intro h;rcases Yt.mp h with rfl|h;·exact⟨_,Yk,f⟩
    ·obtain⟨q,m,e⟩:=ih h;exact⟨q,Yv _ m,e⟩
  exact aux ja.free hf
 have ne:=ZcN me (k:=p.1) (secs:=p.2) hp;have lst:∀as:List Addr,H a=some (.lst (as.map V.ref))->False:=λas q=>by
  rw[q] at e;have e':as.map V.ref=p.2.map V.int:=by injection e with e;injection e
  cases dB:p.2 with
  |nil=>exact ne dB
  |cons x r=>
   rw[dB] at e';cases as with
   |nil=>cases e'
   |cons y s=>injection e' with e1 _;cases e1
 unfold BL.own at ha;simp only[Yt,Y3,or_false] at ha;rcases ha with rfl|rfl|rfl|rfl|rfl|rfl|rfl|rfl;·obtain⟨_,_,q⟩:=h;rw[q] at e;cases e
 ·obtain⟨_,q⟩:=h2;rw[q] at e;cases e
 ·obtain⟨_,q⟩:=h3;rw[q] at e;cases e
 ·obtain⟨_,q⟩:=h4;rw[q] at e;cases e
 ·obtain⟨_,q⟩:=h5;rw[q] at e;cases e
 ·obtain⟨_,q⟩:=h6;rw[q] at e;cases e
 ·obtain⟨_,q⟩:=h7;exact lst _ q
 ·obtain⟨_,q⟩:=h8;exact lst _ q
theorem bw.Hf(h:bw H C CL CJ l xs ys b)(ja:cI H CJ xs.length jl st)(me:dG xs.length st b.F):∀a∈l.own,a∉jl.ck:=
 ZdW ja me (let⟨dx,e⟩:=h.obj;⟨dx,_,e⟩) ⟨_,h.cY⟩ ⟨_,h.places⟩ ⟨_,h.facts⟩ ⟨_,h.known⟩ ⟨_,h.parents⟩ ⟨_,h.done⟩ ⟨_,h.iF⟩
theorem bw.build(h:bw H C CL CJ l xs ys b)(eh:l'.h=l.h)(eL:l'.L=l.L)(es:l'.sd=l.sd)(ep:l'.pl=l.pl)(ef:l'.fc=l.fc)(ek:l'.kn=l.kn)(er:l'.pr=l.pr)(ed:l'.dn=l.dn)(eu:l'.un=l.un)(o:Out l.fp H H')(g:eG l.fp l'.fp H)
  (obj:∃dx,H' l.h=some (.ins C dx (HF l.L l.sd l.pl l.fc l.kn l.pr (b'.co:Int) l.dn l.un l'.rk)))(cY:H' l.sd=some (.dK (gh b'.ps)))(places:H' l.pl=some (.dK (jn b'.ps)))(facts:H' l.fc=some (.dK (bh (b'.fs.map (·.1)) l'.ck)))
  (fact:Paired (λa (p:Nat×Fc)=>H' a=some (.tup ((d9 b'.ps p.1 p.2).map kV))) l'.ck b'.fs)(known:H' l.kn=some (.dT (fG b'.ps b'.fs)))(parents:H' l.pr=some (.dT (cB b'.ps b'.fs)))
  (done:H' l.dn=some (.lst (l'.ij.map V.ref)))(kZ:Paired (m7 H') l'.ij b'.dn)(iF:H' l.un=some (.lst (l'.ko.map V.ref)))(m8:Paired (m7 H') l'.ko b'.un)(rk:r9 H' CJ xs.length l' b'):bw H' C CL CJ l' xs ys b':=by
 have oe:l'.own=l.own:=by unfold BL.own;rw[eh,es,ep,ef,ek,er,ed,eu]
 refine⟨?_,λH2 o2=>?_,by rw[es];exact cY,by rw[ep];exact places,by rw[ef];exact facts,fact,by rw[ek];exact known,by rw[er];exact parents,by rw[ed];exact done,kZ,by rw[eu];exact iF,m8,rk,by rw[oe];exact h.nd⟩;·rw[eh,eL,es,ep,ef,ek,er,ed,eu];exact obj
 ·rw[eL];exact h.land H2 (F1 o g o2)
theorem bw.owned(h:bw H C CL CJ l xs ys b)(eh:l'.h=l.h)(eL:l'.L=l.L)(es:l'.sd=l.sd)(ep:l'.pl=l.pl)(ef:l'.fc=l.fc)(ek:l'.kn=l.kn)(er:l'.pr=l.pr)(ed:l'.dn=l.dn)(eu:l'.un=l.un)
  (rk:(l'.rk=l.rk/\l'.eM=l.eM/\b'.F=b.F/\b'.ps.length=b.ps.length)\/(l'.rk=.ay/\l'.eM=[]))(o:Out l.own H H')
  (obj:∃dx,H' l.h=some (.ins C dx (HF l.L l.sd l.pl l.fc l.kn l.pr (b'.co:Int) l.dn l.un l'.rk)))(cY:H' l.sd=some (.dK (gh b'.ps)))(places:H' l.pl=some (.dK (jn b'.ps)))(facts:H' l.fc=some (.dK (bh (b'.fs.map (·.1)) l'.ck)))
  (fact:Paired (λa (p:Nat×Fc)=>H' a=some (.tup ((d9 b'.ps p.1 p.2).map kV))) l'.ck b'.fs)(known:H' l.kn=some (.dT (fG b'.ps b'.fs)))(parents:H' l.pr=some (.dT (cB b'.ps b'.fs)))
  (done:H' l.dn=some (.lst (l'.ij.map V.ref)))(kZ:Paired (m7 H') l'.ij b'.dn)(iF:H' l.un=some (.lst (l'.ko.map V.ref)))(m8:Paired (m7 H') l'.ko b'.un):bw H' C CL CJ l' xs ys b'/\eG l.fp l'.fp H:=by
 have oe:l'.own=l.own:=by unfold BL.own;rw[eh,es,ep,ef,ek,er,ed,eu]
 have sub:∀a∈l'.fp,a∈l.fp:=λa z=>by
  unfold BL.fp at z⊢;rw[oe] at z;rcases rk with⟨_,e,_⟩|⟨_,e⟩;·rw[e] at z;exact z
  ·rw[e,Y5] at z;exact Yo _ z
 have of:Out l.fp H H':=λa u e n=>o _ _ e λz=>n (Yo _ z);refine⟨⟨?_,λH2 o2=>?_,by rw[es];exact cY,by rw[ep];exact places,by rw[ef];exact facts,fact,by rw[ek];exact known,by rw[er];exact parents,by rw[ed];exact done,kZ,by rw[eu];exact iF,m8,?_,by rw[oe];exact h.nd⟩,λa z=>.inl (sub a z)⟩;·rw[eh,eL,es,ep,ef,ek,er,ed,eu];exact obj
 ·rw[eL];exact h.land H2 (F1 of (λa z=>.inl (sub a z)) o2)
 ·rcases rk with⟨r1,r2,r3,r4⟩|⟨r1,r2⟩
  ·cases h.rP with
   |no e1 e2=>exact .no (by rw[r1];exact e1) (by rw[r2];exact e2)
   |at_ jl st e1 e2 ja me len fH=>
    exact .at_ jl st (by rw[r1];exact e1) (by rw[r2];exact e2) (ja.jQ o fH (h.Hf ja me) λa us e=>λz=>h.tup e (Yo _ z)) (by rw[r3];exact me) (by rw[r4];exact len) (by rw[oe];exact fH)
  ·exact .no r1 r2
end
abbrev qx:List (Str×Str):=[("mother","m"),("father","f"),("wed","w"),("sibling","s")]
abbrev qo(xs ys:List Int):List (Str×List Int):=[("mother",inv xs),("father",inv (bJ xs ys)),("wed",ys),("sibling",bF xs.length)]
structure eA(xs ys:List Int)(m:Nat)(c:Fc):Prop where
 ok:dW xs.length m c
 kind:c.k=bG\/(c.k,c.tn)∈qo xs ys
 IW:c.k=bG->0<=c.aE/\c.aE<(xs.length:Int)
theorem ZaI:(bG,tn)∉qo xs ys:=by
 intro h;simp only[Yt,Y3,or_false] at h;rcases h with⟨h,_⟩|⟨h,_⟩|⟨h,_⟩|⟨h,_⟩<;>exact absurd h (by decide+kernel)
theorem DE(h:(k,tn)∈qo xs ys):∃r,PyProof.Rows.KTD.datumAt k qx=some r/\(r,tn)∈zH xs ys:=by
 simp only[Yt,Y3,or_false] at h;rcases h with⟨rfl,rfl⟩|⟨rfl,rfl⟩|⟨rfl,rfl⟩|⟨rfl,rfl⟩;·exact⟨"m",by decide+kernel,by simp⟩
 ·exact⟨"f",by decide+kernel,by simp⟩
 ·exact⟨"w",by decide+kernel,by simp⟩
 ·exact⟨"s",by decide+kernel,by simp⟩
theorem eA.uF(g:eA xs ys m c)(h:c.k≠bG):(c.k,c.tn)∈qo xs ys:=g.kind.resolve_left h
theorem ZcO(gd:m9 xs ys)(h:(k,tn)∈qo xs ys):full tn=true/\tn.length=xs.length:=by
 obtain⟨r,_,h2⟩:=DE h;exact ZaH gd h2
theorem rp(nd:(ps.map (·.1)).Nodup)(hi:i<ps.length):aS (jn ps) (.inr (aq ps i))=some (.int (i:Int)):=by
 have aux:∀(ps:bA) (k i:Nat),(ps.map (·.1)).Nodup->i<ps.length->aS ((ps.zipIdx k).map λp=>((.inr p.1.1:Key),V.int (p.2:Int))) (.inr (aq ps i))=some (.int ((k+i:Nat):Int)):=by
  intro ps;induction ps with
  |nil=>intro k i _ h;cases h
  |cons p ps ih=>
   intro k i nd hi;obtain⟨n1,n2⟩:=Yy.mp (show(p.1::ps.map (·.1)).Nodup from nd);rw[List.zipIdx_cons,Wl];cases i with
   |zero=>exact fO rfl
   |succ i=>
    have iN:i<ps.length:=by simpa using hi
    have e:aq (p::ps) (i+1)=aq ps i:=rfl;have m:aq ps i∈ps.map (·.1):=by
     unfold aq;rw[Yn,Yb iN];exact Yf.mpr ⟨_,Jp iN,rfl⟩
    rw[e,fq (λz=>n1 (by rw[Wj z];exact m)),ih (k+1) i n2 iN]
    congr 2
    omega
 have:=aux ps 0 i nd hi
 rwa [Nat.zero_add] at this
theorem mP(h:c.k=bG):bu ps c=.inl c.aE:=if_pos h
theorem iz(h:c.k≠bG):bu ps c=.inr (aq ps c.aE.toNat):=if_neg h
inductive O3(vs:List V)(H:Hp)(Q:VK):Prop
 |mk (k:Str) (aB:vs=[.str k]) (aT:Q (.bl (nB qx k)) H):O3 vs H Q
def GA:Sp:=λvs H Q _=>O3 vs H Q
inductive Na(CL:Addr)(vs:List V)(H:Hp)(Q:VK):Prop
 |mk (L:Addr) (k:Str) (xs ys tn:List Int) (aB:vs=[.ref L,.str k]) (aT:iE H CL L xs ys) (bq:(k,tn)∈qo xs ys) (bR:∀t:Addr,bV H t tn->Q (.ref t) H):Na CL vs H Q
def Fs(CL:Addr):Sp:=λvs H Q _=>Na CL vs H Q
inductive R0(vs:List V)(H:Hp)(Q:VK):Prop
 |mk (k a:Str) (o:Key) (aB:vs=[.str k,.str a,kV o]) (aT:k="sibling"->∃b,o=.inr b) (bq:Nw H (.tup ((keyOf k a o).map kV)) Q):R0 vs H Q
def zR:Sp:=λvs H Q _=>R0 vs H Q
inductive O4(CL CJ:Addr)(vs:List V)(H:Hp)(Q:VK):Prop
 |mk (jl:JL) (st:JS) (L pl fa:Addr) (xs ys:List Int) (ps:bA) (F:List Fc) (z:Nat) (c:Fc) (aB:vs=[.ref jl.J,.ref L,.ref pl,.ref fa]) (ja:cI H CJ xs.length jl st) (me:dG xs.length st F) (la:iE H CL L xs ys) (gd:m9 xs ys) (hp:H pl=some (.dK (jn ps))) (nd:(ps.map (·.1)).Nodup) (len:st.hd.length=ps.length) (m4:ps.length<=100) (hf:H fa=some (.tup ((d9 ps z c).map kV))) (fg:eA xs ys ps.length c) (lv:∃f,c_ st f/\fh f c)
   (q:∀(v:V) (gZ:JL) (aI:JS) (H':Hp),gZ.J=jl.J->(∀a∈gZ.fp,a∈jl.fp)->Out jl.fp H H'->cI H' CJ xs.length gZ aI->dG xs.length aI (F++[c])->aI.hd.length=st.hd.length->Q v H'):O4 CL CJ vs H Q
def GB(CL CJ:Addr):Sp:=λvs H Q _=>O4 CL CJ vs H Q
inductive Qt(CL CJ:Addr)(vs:List V)(H:Hp)(Q:VK):Prop
 |mk (jl:JL) (st:JS) (L pl fa:Addr) (xs ys:List Int) (ps:bA) (F:List Fc) (z:Nat) (c:Fc) (aB:vs=[.ref jl.J,.ref L,.ref pl,.ref fa]) (ja:cI H CJ xs.length jl st) (me:dG xs.length st F) (la:iE H CL L xs ys) (gd:m9 xs ys) (hp:H pl=some (.dK (jn ps))) (nd:(ps.map (·.1)).Nodup) (len:st.hd.length=ps.length) (m4:ps.length<=100) (hf:H fa=some (.tup ((d9 ps z c).map kV))) (fg:eA xs ys ps.length c)
   (q1:(∃f,c_ st f/\fh f c)->∀H',ah H H'->Q (.bl true) H') (q2:(∀f,c_ st f->¬fh f c)->∀H',ah H H'->Q (.bl false) H'):Qt CL CJ vs H Q
def R1(CL CJ:Addr):Sp:=λvs H Q _=>Qt CL CJ vs H Q
theorem zt:∀b:Bool,decide (V.str k=V.str bG)=b->(b=true↔k=bG):=λb e=>by
 grind
section
variable {lK:Addr}
theorem ZbG:aR ["kind"] ["kind"] (aJ FT):=⟨rfl,rfl,rfl,by decide+kernel,rfl,by decide+kernel,by decide+kernel⟩
theorem ZbH(F:aK K "is_tie" "is_tie" FT f fd)(tL:mg "TIE_LETTERS"=some (.ref lK))(tb:uI K lK qx):aH P w K mg base aM 1 f fd ["kind"] GA:=by
 refine F.ok ZbG (λvs H Q E h=>?_) (λaC A outer s H vs Q E hr h=>?_)
 ·obtain⟨k,rfl,_⟩:=h;rfl
 obtain⟨k,rfl,q⟩:=h;refine⟨_,(au (aF (dQ (Zfa (K:=K) rfl) (pv 0) (dD (v:=.ref lK) rfl tL rfl) (by with_unfolding_all rfl)))),?_⟩;exact⟨_,rfl,k,lK,qx,rfl,rfl,tb,q⟩
theorem ZW:aR ["land","kind"] ["land","kind"] (aJ EC):=⟨rfl,rfl,rfl,by decide+kernel,rfl,by decide+kernel,by decide+kernel⟩
theorem ZX(F:aK K "tie_turn" "tie_turn" EC f fd)(tL:mg "TIE_LETTERS"=some (.ref lK))(tb:uI K lK qx)(lc:uE K CL)(ui:HasFn P w K mg base 1 "is_tie" ["kind"] GA)(Ed:cq P w K mg base 1 "step" CL ["self","letter"] (RO CL)):aH P w K mg base aM 2 f fd ["land","kind"] (Fs CL):=by
 refine F.ok ZW (λvs H Q E h=>?_) (λaC A outer s H vs Q E hr h=>?_)
 ·obtain⟨L,k,xs,ys,tn,rfl,_⟩:=h;rfl
 obtain⟨L,k,xs,ys,tn,rfl,la,hk,q⟩:=h;refine⟨_,(ak (aQ (jO (fC (aW ui hr (by omega) rfl (aa (pv 1) ae)))) fN aY) (au (aF (cK Ed hr (by omega) (pv 0) (aa (bg (Zdv (K:=K) rfl) (dD (v:=.ref lK) rfl tL rfl) (pv 1) (λ_ _=>rfl)) ae))))),?_⟩;obtain⟨r,dr,hs⟩:=DE hk;have ht:nB qx k=true:=by unfold nB;rw[dr];rfl
 obtain⟨dx,d,mo,jo,wi,im,jf,iw,st,h1,_⟩:=id la;refine⟨_,rfl,k,rfl,_,rfl,?_⟩;rw[ht];refine cz (aX ?_);exact⟨_,rfl,L,dx,_,rfl,h1,rfl,_,rfl,lK,k,r,qx,rfl,rfl,tb,dr,L,r,xs,ys,tn,rfl,la,hs,q⟩
theorem ZY:aR ["kind","one","other"] ["kind","one","other"] (aJ ED):=⟨rfl,rfl,rfl,by decide+kernel,rfl,by decide+kernel,by decide+kernel⟩
theorem ZZ(F:aK K "fact_key" "fact_key" ED f fd)(oq:mg "SIBLING"=some (.str "sibling" t1))(bl:Bl mg):aH P w K mg base aM 1 f fd ["kind","one","other"] zR:=by
 refine F.ok ZY (λvs H Q E h=>?_) (λaC A outer s H vs Q E hr h=>?_)
 ·obtain⟨k,a,o,rfl,_⟩:=h;rfl
 obtain⟨k,a,o,rfl,hs,q⟩:=h;refine⟨_,(ak (aQ (aU cg (pv 0) (dD (v:=.str "sibling") rfl oq ⟨_,rfl⟩) (aP _)) (au (aF (dz (aa (pv 0) (aa (bL (Zax rfl) rfl bl.Zf1 ZeI (aa (pv 1) (aa (pv 2) ae))) (aa (bL (Zay rfl) rfl bl.Zf2 Zfm (aa (pv 1) (aa (pv 2) ae))) ae)))))) aY) (au (aF (dz (aa (pv 0) (aa (pv 1) (aa (pv 2) ae))))))),?_⟩;refine⟨_,rfl,rfl,_,rfl,?_⟩;by_cases e:k="sibling"
 ·obtain⟨b,rfl⟩:=hs e;rw[decide_eq_true (by rw[e])];refine⟨_,rfl,_,rfl,_,rfl,_,_,rfl,_,rfl,_,rfl,_,_,rfl,by show 3<=sizeLine;decide,?_⟩;have ek:keyOf k a (.inr b)=[.inr k,.inr (L2.qu a b),.inr (L2.qv a b)]:=if_pos e;rw[ek] at q;exact q
 ·rw[decide_eq_false (λz=>e (V.str.inj z))];refine⟨_,rfl,_,rfl,_,rfl,by show 3<=sizeLine;decide,?_⟩;have ek:(keyOf k a o).map kV=[.str k,.str a,kV o]:=by
   cases o with
   |inl i=>rfl
   |inr b=>
    have:keyOf k a (.inr b)=[.inr k,.inr a,.inr b]:=if_neg e;rw[this];rfl
  rw[ek] at q;exact q
theorem vR:aR ["joins","land","places","fact","number","kind","one","other"] ["joins","land","places","fact"] (aJ DY):=⟨rfl,rfl,rfl,by decide+kernel,rfl,by decide+kernel,by decide+kernel⟩
theorem Zg(F:aK K "keep_fact" "keep_fact" DY f fd)(kN:mg "SAID"=some (.str "said" t1))(tZ:HasFn P w K mg base 2 "tie_turn" ["land","kind"] (Fs CL))(Ee:cq P w K mg base 3 "say" CJ ["self","one","section"] (S0 CJ))(Ef:cq P w K mg base 5 "tie" CJ ["self","one","other","turn"] (S2 CJ)):aH P w K mg base aM 6 f fd ["joins","land","places","fact"] (GB CL CJ):=by
 refine F.ok vR (λvs H Q E h=>?_) (λaC A outer s H vs Q E hr h=>?_)
 ·obtain⟨jl,st,L,pl,fa,xs,ys,ps,FF,z,c,rfl,_⟩:=h;rfl
 obtain⟨jl,st,L,pl,fa,xs,ys,ps,FF,z,c,rfl,ja,me,la,gd,hp,nd,len,m4,hf,fg,lv,q⟩:=h;refine⟨_,(ak (m5 (pv 3) (iD (K:=K) (n:=4) rfl rfl (bN (a8 (i:=4) vR.nd rfl (Or.inl rfl)) (bN (a8 (i:=5) vR.nd rfl (Or.inl rfl)) (bN (a8 (i:=6) vR.nd rfl (Or.inl rfl)) (bN (a8 (i:=7) vR.nd rfl (Or.inl rfl)) iC)))))) (ak (aQ (aU cg (pv 5) (dD (v:=.str "said") rfl kN ⟨_,rfl⟩) (aP _)) (au (aF (cK Ee hr (by omega) (pv 0) (aa (dh (bH hr) (pv 2) (pv 6) (λ_ _=>rfl)) (aa (pv 7) ae))))) aY) (au (aF (cK Ef hr (by omega) (pv 0) (aa (dh (bH hr) (pv 2) (pv 6) (λ_ _=>rfl)) (aa (dh (bH hr) (pv 2) (pv 7) (λ_ _=>rfl)) (aa (aW tZ hr (by omega) rfl (aa (pv 1) (aa (pv 5) ae))) ae)))))))),?_⟩;obtain⟨dx,ho⟩:=ja.obj;have p1:=rp nd fg.ok.one;have n8:xs.length<=8:=gd.2.2.2.2;have hi:c.one<st.hd.length:=by rw[len];exact fg.ok.one
 refine⟨_,rfl,fa,_,rfl,aA.of hf,rfl,_,_,rfl,bc ⟨_,_,rfl,bc ⟨_,_,rfl,bc ⟨_,_,rfl,bc ⟨rfl,?_⟩⟩⟩⟩⟩;refine⟨_,rfl,rfl,_,rfl,bB (λcc=>?_) (λcc=>aX ?_)⟩
 ·have e:c.k=bG:=(zt _ rfl).mp cc;have eo:kV (bu ps c)=.int c.aE:=by rw[mP e];rfl
  refine⟨_,rfl,jl.J,dx,_,rfl,ho,rfl,_,rfl,_,rfl,pl,_,rfl,c5 hp p1,_,rfl,?_⟩;have one:=me.wf.one n8 hi;have xW:=me.wf.zQ;obtain⟨f0,d0,s0⟩:=lv;obtain⟨s0',h0⟩:=id d0;have mm:c.aE∈(st.cF (st.ag c.one)).map (λz=>(st.bO c.one).getD z.toNat 0):=Yf.mpr ⟨s0' (st.ag c.one),(h0 c.one hi).1,by rw[←s0.1 e,(h0 c.one hi).2];rfl⟩;refine⟨jl,st,xs.length,c.one,_,_,_,c.aE,?_,ja,one,by omega,λ_ l' H' k1 k2 o3 j3=>?_,λno=>absurd mm no⟩
  ·show[V.ref jl.J,V.int (c.one:Int),kV (bu ps c)]=_;rw[eo]
  ·have ec:c=⟨bG,c.one,c.aE,c.tn⟩:=by rw[←e]
   refine q _ l' _ H' k1 (λa ha=>by rw[k2] at ha;exact ha) o3 j3 ?_ rfl;rw[ec];exact Qs me hi mm
 ·have e:c.k≠bG:=λz=>cc ((zt _ rfl).mpr z);obtain⟨⟨o0,om⟩,ft,tl⟩:=fg.ok.gf e;have eo:kV (bu ps c)=.str (aq ps c.aE.toNat):=by rw[iz e];rfl
  have p2:=rp nd om;have hj:c.aE.toNat<st.hd.length:=by rw[len];exact om
  refine⟨_,rfl,jl.J,dx,_,rfl,ho,rfl,_,rfl,_,rfl,pl,_,rfl,c5 hp p1,_,rfl,_,rfl,pl,.int (c.aE.toNat:Int),rfl,?_,_,rfl,_,rfl,L,c.k,xs,ys,c.tn,rfl,la,fg.uF e,λt ht=>?_⟩
  ·show eC H pl (kV (bu ps c)) _;rw[eo];exact c5 hp p2
  refine⟨jl,st,xs.length,c.one,c.aE.toNat,c.tn,t,rfl,ja,me.wf,me.live,n8,by omega,hi,hj,ht,ft,tl,λb l' aI H' k1 k2 o3 j3 to=>?_⟩;have ec:c=⟨c.k,c.one,(c.aE.toNat:Int),c.tn⟩:=by rw[Jq o0]
  have Zhb:dW xs.length st.hd.length ⟨c.k,c.one,(c.aE.toNat:Int),c.tn⟩:=by rw[←ec,len];exact fg.ok
  obtain⟨tm,tf⟩:=ZcM me to e Zhb;have eb:b=true:=by
   cases eb:b with
   |true=>rfl
   |false=>
    obtain⟨f0,d0,s0⟩:=lv;obtain⟨es,no⟩:=to.no eb;exact absurd (s0.2 e) (no f0 d0)
  refine q _ l' aI H' k1 k2 o3 j3 ?_ to.len;have:=tm eb;rw[←ec] at this;exact this
theorem vS:aR ["joins","land","places","fact","number","kind","one","other"] ["joins","land","places","fact"] (aJ DZ):=⟨rfl,rfl,rfl,by decide+kernel,rfl,by decide+kernel,by decide+kernel⟩
theorem Zh(F:aK K "fact_fits" "fact_fits" DZ f fd)(kN:mg "SAID"=some (.str "said" t1))(tZ:HasFn P w K mg base 2 "tie_turn" ["land","kind"] (Fs CL))(jI:cq P w K mg base 2 "open_at" CJ ["self","one"] (we CJ))(tP:cq P w K mg base 4 "left" CJ ["self","one","other","turn"] (G9 CJ)):aH P w K mg base aM 5 f fd ["joins","land","places","fact"] (R1 CL CJ):=by
 refine F.ok vS (λvs H Q E h=>?_) (λaC A outer s H vs Q E hr h=>?_)
 ·obtain⟨jl,st,L,pl,fa,xs,ys,ps,FF,z,c,rfl,_⟩:=h;rfl
 obtain⟨jl,st,L,pl,fa,xs,ys,ps,FF,z,c,rfl,ja,me,la,gd,hp,nd,len,m4,hf,fg,q1,q2⟩:=h;have hu:=hr.uw;refine⟨_,(ak (m5 (pv 3) (iD (K:=K) (n:=4) rfl rfl (bN (a8 (i:=4) vS.nd rfl (Or.inl rfl)) (bN (a8 (i:=5) vS.nd rfl (Or.inl rfl)) (bN (a8 (i:=6) vS.nd rfl (Or.inl rfl)) (bN (a8 (i:=7) vS.nd rfl (Or.inl rfl)) iC)))))) (ak (aQ (aU cg (pv 5) (dD (v:=.str "said") rfl kN ⟨_,rfl⟩) (aP _)) (au (aF (dQ (lu (K:=K) rfl) (pv 7) (cK jI hr (by omega) (pv 0) (aa (dh (bH hr) (pv 2) (pv 6) (λ_ _=>rfl)) ae)) (by with_unfolding_all rfl)))) aY) (au (aF (dQ (Qa (K:=K) rfl (Zfd hu)) (cK tP hr (by omega) (pv 0) (aa (dh (bH hr) (pv 2) (pv 6) (λ_ _=>rfl)) (aa (dh (bH hr) (pv 2) (pv 7) (λ_ _=>rfl)) (aa (aW tZ hr (by omega) rfl (aa (pv 1) (aa (pv 5) ae))) ae)))) (de ae) (aP _)))))),?_⟩;obtain⟨dx,ho⟩:=ja.obj;have p1:=rp nd fg.ok.one;have n8:xs.length<=8:=gd.2.2.2.2;have hi:c.one<st.hd.length:=by rw[len];exact fg.ok.one
 refine⟨_,rfl,fa,_,rfl,aA.of hf,rfl,_,_,rfl,bc ⟨_,_,rfl,bc ⟨_,_,rfl,bc ⟨_,_,rfl,bc ⟨rfl,?_⟩⟩⟩⟩⟩;refine⟨_,rfl,rfl,_,rfl,bB (λcc=>?_) (λcc=>aX ?_)⟩
 ·have e:c.k=bG:=(zt _ rfl).mp cc;have eo:kV (bu ps c)=.int c.aE:=by rw[mP e];rfl
  have one:=me.wf.one n8 hi;refine⟨_,rfl,_,rfl,jl.J,dx,_,rfl,ho,rfl,_,rfl,_,rfl,pl,_,rfl,c5 hp p1,jl,st,xs.length,c.one,_,_,_,rfl,ja,one.hd,one.ld,one.fr,one.fD,one.iM,λp ns H1 np g1 pm so pC=>⟨p,_,rfl,.inl (aj.of pC),?_,FX ns,?_⟩⟩
  ·show i4 (kV (bu ps c))=true;rw[eo];rfl
  show Q (.bl (if(false:Bool)=true then !dI (kV (bu ps c)) (ns.map V.int) else dI (kV (bu ps c)) (ns.map V.int))) H1;rw[if_neg Ym,eo,zp];have ec:c=⟨bG,c.one,c.aE,c.tn⟩:=by rw[←e]
  by_cases m:c.aE∈ns
  ·rw[decide_eq_true m];refine q1 ?_ H1 g1;have Vz:=Qs (tn:=c.tn) me hi (pm.subset m);obtain⟨f,d⟩:=Vz.live;obtain⟨_,s⟩:=(Vz.iff f).mp d;refine⟨f,((vT me.wf hi _ f).mp d).1,?_⟩;rw[ec];exact s _ (Yq _ Yk)
  ·rw[decide_eq_false m];refine q2 (λf d=>?_) H1 g1;rw[ec];exact Zfz me hi (λz=>m (pm.symm.subset z)) f d
 ·have e:c.k≠bG:=λz=>cc ((zt _ rfl).mpr z);obtain⟨⟨o0,om⟩,ft,tl⟩:=fg.ok.gf e;have eo:kV (bu ps c)=.str (aq ps c.aE.toNat):=by rw[iz e];rfl
  have p2:=rp nd om;have hj:c.aE.toNat<st.hd.length:=by rw[len];exact om
  have pf:=Qq me.wf n8 hi hj;refine⟨_,rfl,jl.J,dx,_,rfl,ho,rfl,_,rfl,_,rfl,pl,_,rfl,c5 hp p1,_,rfl,_,rfl,pl,.int (c.aE.toNat:Int),rfl,?_,_,rfl,_,rfl,L,c.k,xs,ys,c.tn,rfl,la,fg.uF e,λt ht=>?_⟩
  ·show eC H pl (kV (bu ps c)) _;rw[eo];exact c5 hp p2
  refine⟨jl,st,xs.length,c.one,c.aE.toNat,_,_,_,_,_,_,c.tn,t,rfl,ja,me.wf.one n8 hi,me.wf.one n8 hj,ht,λp hp=>by rw[tl];exact RV me.wf hi (x:=p.1) (y:=p.2) hp,Y4 pf (by omega),λp ns H1 np g1 pC pm _=>?_⟩;have ms:=OZ pm;refine⟨by show 0<=sizeLine;exact Yw _,λe0 H2 n2 g2 xX=>?_⟩;refine⟨p,e0,ns.map V.int,rfl,rfl,aj.of (g2 _ _ pC),aj.of xX,?_⟩;rw[if_pos rfl];have sat:∀f,fh f c↔f c.aE.toNat=ap c.tn (f c.one):=λf=>⟨λh=>h.2 e,λh=>⟨λz=>absurd z e,λ_=>h⟩⟩;cases ns with
  |nil=>
   refine q2 (λf d z=>?_) H2 (g1.trans g2);have m:=wg me.wf hi hj d;rw[(sat f).mp z] at m;exact absurd ((ms _).mpr m) (λz=>nomatch z)
  |cons a r=>
   refine q1 ?_ H2 (g1.trans g2);have m:=(ms a).mp Yk;obtain⟨f,d,e1,e2⟩:=OY me.wf hi hj me.live m;exact⟨f,d,(sat f).mpr (by rw[e1,e2])⟩
end
def BS.keys(b:BS):List (List Key):=b.fs.map λp=>fF b.ps p.2
def BS.told(b:BS)(k:List Key):Bool:=(aS (fG b.ps b.fs) k).isSome
structure cH(xs ys:List Int)(b:BS):Prop where
 gd:m9 xs ys
 nm:(b.ps.map (·.1)).Nodup
 m:b.ps.length<=64
 fl:b.fs.length<=63
 fg:∀p∈b.fs,eA xs ys b.ps.length p.2
 zs:(b.fs.map (·.1)).Nodup
 lt:∀p∈b.fs,p.1<b.co
 ky:b.keys.Nodup
 pr:((cB b.ps b.fs).map (·.1)).Nodup
 lv:∃f,lF xs.length b.ps.length f/\∀c∈b.F,fh f c
 dl:b.dn.length<=200
 ul:b.un.length<=200
structure cj(H H':Hp)(l l':BL):Prop where
 h:l'.h=l.h
 out:Out l.fp H H'
 grow:eG l.fp l'.fp H
theorem cj.of(g:ah H H'):cj H H' l l:=⟨rfl,Out.of g,eG.refl _ _⟩
theorem cj.trans(a:cj H H1 l l1)(b:cj H1 H2 l1 l2):cj H H2 l l2:=⟨b.h.trans a.h,F1 a.out a.grow b.out,a.grow.trans a.out b.grow⟩
theorem cj.same(a:cj H H1 l l1)(g:ah H1 H2):cj H H2 l l1:=⟨a.h,a.out.trans (Out.of g),a.grow⟩
theorem cj.after(g:ah H H1)(a:cj H1 H2 l l1):cj H H2 l l1:=⟨a.h,(Out.of g).trans a.out,a.grow.same g⟩
theorem y9[DecidableEq κ](kvs:List (κ×V))(k:κ):(aS kvs k).isSome=true↔k∈kvs.map (·.1):=by
 induction kvs with
 |nil=>exact⟨(λz=>nomatch z),(λz=>nomatch z)⟩
 |cons p r ih=>
  by_cases e:p.1=k
  ·rw[fO e]
   grind
  ·rw[fq e,ih]
   grind
theorem pR{κ:Type}[DecidableEq κ]{kvs:List (κ×V)}{k:κ}(h:k∉kvs.map (·.1)):aS kvs k=none:=by
 cases e:aS kvs k with
 |none=>rfl
 |some v=>exact absurd ((y9 kvs k).mp (by rw[e];rfl)) h
theorem Qu{κ:Type}[DecidableEq κ]{kvs:List (κ×V)}{k:κ}{v:V}(nd:(kvs.map (·.1)).Nodup)(h:(k,v)∈kvs):aS kvs k=some v:=by
 induction kvs with
 |nil=>cases h
 |cons p r ih=>
  obtain⟨n1,n2⟩:=Yy.mp (show(p.1::r.map (·.1)).Nodup from nd);rcases Yt.mp h with h|h;·rw[←h];exact fO rfl
  ·rw[fq (λz=>n1 (by rw[z];exact Yf.mpr ⟨_,h,rfl⟩))];exact ih n2 h
theorem GC(h:i<ps.length):aq ps i∈ps.map (·.1):=by
 unfold aq
 grind
inductive N0(C CL CJ:Addr)(vs:List V)(H:Hp)(Q:VK):Prop
 |mk (l:BL) (b:BS) (xs ys:List Int) (aB:vs=[.ref l.h]) (aT:bw H C CL CJ l xs ys b) (bq:Nw H (.lst (b.ps.map λp=>V.str p.1)) Q):N0 C CL CJ vs H Q
def y_(C CL CJ:Addr):Sp:=λvs H Q _=>N0 C CL CJ vs H Q
inductive N1(C CL CJ:Addr)(vs:List V)(H:Hp)(Q:VK):Prop
 |mk (l:BL) (b:BS) (xs ys:List Int) (z:Str) (v:V) (aB:vs=[.ref l.h,.str z]) (aT:bw H C CL CJ l xs ys b) (bq:aS (gh b.ps) (.inr z)=some v) (bR:Q v H):N1 C CL CJ vs H Q
def F2(C CL CJ:Addr):Sp:=λvs H Q _=>N1 C CL CJ vs H Q
inductive R3(C CL CJ:Addr)(vs:List V)(H:Hp)(Q:VK):Prop
 |mk (l:BL) (b:BS) (xs ys:List Int) (k a:Str) (o:Key) (aB:vs=[.ref l.h,.str k,.str a,kV o]) (aT:bw H C CL CJ l xs ys b) (bq:k="sibling"->∃b,o=.inr b) (bR:∀H',ah H H'->Q (.bl (b.told (keyOf k a o))) H'):R3 C CL CJ vs H Q
def Ib(C CL CJ:Addr):Sp:=λvs H Q _=>R3 C CL CJ vs H Q
inductive MG(C CL CJ:Addr)(vs:List V)(H:Hp)(Q:VK):Prop
 |mk (l:BL) (b:BS) (xs ys:List Int) (k a:Str) (aB:vs=[.ref l.h,.str k,.str a]) (aT:bw H C CL CJ l xs ys b) (bR:∀H',ah H H'->Q ((aS (cB b.ps b.fs) [.inr k,.inr a]).getD .ay) H'):MG C CL CJ vs H Q
def Nb(C CL CJ:Addr):Sp:=λvs H Q _=>MG C CL CJ vs H Q
abbrev iJ:List Str:=["mother","father"]
def oH(b:BS)(a:Str):List V:=iJ.filterMap λk=>aS (cB b.ps b.fs) [.inr k,.inr a]
theorem ZcP(g:Nat->Option V):((List.range 2).filter λi=>(g i).isSome).map (λi=>(g i).getD .ay)=[g 0,g 1].filterMap id:=by
 show(([0,1]:List Nat).filter _).map _=_
 grind
theorem O5(b:BS)(k:List Key):b.told k=true↔k∈b.keys:=by
 unfold BS.told;rw[y9];unfold fG BS.keys
 grind
inductive Mw(C CL CJ:Addr)(vs:List V)(H:Hp)(Q:VK):Prop
 |mk (l:BL) (b:BS) (xs ys:List Int) (a:Str) (aB:vs=[.ref l.h,.str a]) (aT:bw H C CL CJ l xs ys b) (bR:∀(p:Addr) (H':Hp),H p=none->ah H H'->H' p=some (.lst (oH b a))->Q (.ref p) H'):Mw C CL CJ vs H Q
def MH(C CL CJ:Addr):Sp:=λvs H Q _=>Mw C CL CJ vs H Q
def eQ(H:Hp)(ps:bA)(a:Addr)(p:Nat×Fc):Prop:=H a=some (.tup ((d9 ps p.1 p.2).map kV))
def ES(K:PySem.W.Frag):Sp:=λvs H Q _=>∃(r:Addr) (xs:List V),vs=[.ref r]/\aA K H r xs/\Q (.bl (decide (xs.length=2))) H
theorem Qv:∀{as:List Addr} {fs:List (Nat×Fc)} {p:Nat×Fc},Paired (eQ H ps) as fs->(fs.map (·.1)).Nodup->p∈fs->∃a,aS (bh (fs.map (·.1)) as) (.inl (p.1:Int))=some (.ref a)/\eQ H ps a p:=by
 intro as fs p pr;induction pr with
 |nil=>grind
 |@cons a q as fs f t ih=>
  intro nd h;obtain⟨n1,n2⟩:=Yy.mp (show(q.1::fs.map (·.1)).Nodup from nd);have e0:bh ((q::fs).map (·.1)) (a::as)=(Sum.inl (q.1:Int),V.ref a)::bh (fs.map (·.1)) as:=rfl;rw[e0];rcases Yt.mp h with rfl|h;·exact⟨a,fO rfl,f⟩
  ·obtain⟨a',e1,e2⟩:=ih n2 h;refine⟨a',?_,e2⟩;rw[fq (p:=((Sum.inl (q.1:Int):Key),V.ref a)) (λz=>n1 (by
    have e:=J7 z;have e':q.1=p.1:=by omega
    rw[e'];exact Yf.mpr ⟨_,h,rfl⟩))]
   exact e1
theorem Nc:∀{ks:List Nat} {as:List Addr},ks.length=as.length->(bh ks as).map (·.1)=(ks.map λk:Nat=>(k:Int)).map Sum.inl
 |[],[],_=>rfl
 |k::ks,a::as,h=>by
  have e0:bh (k::ks) (a::as)=(Sum.inl (k:Int),V.ref a)::bh ks as:=rfl;rw[e0,Wl,Nc (by simpa using h)];rfl
 |[],_::_,h=>rfl
 |_::_,[],h=>by simp at h
section
variable {dF:Addr}
theorem Xx:aR ["self"] ["self"] (aJ Ce):=⟨rfl,rfl,rfl,by decide+kernel,rfl,by decide+kernel,by decide+kernel⟩
theorem ZbI(F:aK K "people" "Hearth.people" Ce f fd)(hc:fP K C)(bl:Bl mg):aH P w K mg base aM 1 f fd ["self"] (y_ C CL CJ):=by
 refine F.ok Xx (λvs H Q E h=>?_) (λaC A outer s H vs Q E hr h=>?_)
 ·obtain⟨l,b,xs,ys,rfl,_⟩:=h;rfl
 obtain⟨l,b,xs,ys,rfl,ba,q⟩:=h;refine⟨_,(au (aF (eN (ZP rfl) rfl bl.rF ra (aa (aV (K:=K) rfl (pv 0) rfl) ae)))),?_⟩;obtain⟨dx,h1⟩:=ba.obj;refine⟨_,rfl,l.h,C,dx,_,_,rfl,h1,hc.cls,hc.rh,rfl,l.sd,_,rfl,ba.cY,λp H' np g hp=>q p H' np g ?_⟩;rw[hp,Wc];rfl
theorem Xq:aR ["self","name"] ["self","name"] (aJ BW):=⟨rfl,rfl,rfl,by decide+kernel,rfl,by decide+kernel,by decide+kernel⟩
theorem ZaJ(F:aK K "side_of" "Hearth.side_of" BW f fd)(hc:fP K C)(bl:Bl mg):aH P w K mg base aM 1 f fd ["self","name"] (F2 C CL CJ):=by
 refine F.ok Xq (λvs H Q E h=>?_) (λaC A outer s H vs Q E hr h=>?_)
 ·obtain⟨l,b,xs,ys,z,v,rfl,_⟩:=h;rfl
 obtain⟨l,b,xs,ys,z,v,rfl,ba,ev,q⟩:=h;refine⟨_,(ak (aQ (jN (mO (bH hr) (pv 1) (aV (K:=K) rfl (pv 0) rfl)) (by with_unfolding_all rfl)) fN aY) (au (aF (dh (bH hr) (aV (K:=K) rfl (pv 0) rfl) (pv 1) (λ_ _=>rfl))))),?_⟩;obtain⟨dx,h1⟩:=ba.obj;exact⟨_,rfl,_,rfl,l.h,C,dx,_,_,rfl,h1,hc.cls,hc.rh,rfl,l.sd,some v,rfl,c5 ba.cY ev,_,rfl,cz (aX ⟨_,rfl,l.h,C,dx,_,_,rfl,h1,hc.cls,hc.rh,rfl,_,rfl,l.sd,v,rfl,c5 ba.cY ev,q⟩)⟩
theorem Zi:aR ["row"] ["row"] (aJ D2):=⟨rfl,rfl,rfl,by decide+kernel,rfl,by decide+kernel,by decide+kernel⟩
theorem Zj(F:aK K "is_person" "is_person" D2 f fd)(bl:Bl mg):aH P w K mg base aM 1 f fd ["row"] (ES K):=by
 refine F.ok Zi (λvs H Q E h=>?_) (λaC A outer s H vs Q E hr h=>?_)
 ·obtain⟨r,xs,rfl,_⟩:=h;rfl
 obtain⟨r,xs,rfl,uY,q⟩:=h;refine⟨_,(au (aF (dQ cg (bL (c9 (K:=K) rfl) rfl bl.cU cT (aa (pv 0) ae)) aL (aP _)))),?_⟩;refine⟨_,rfl,r,xs,rfl,.inr uY,rfl,?_⟩;have e:decide (V.int (xs.length:Int)=V.int 2)=decide (xs.length=2):=by
  rw[Wf,decide_eq_true_iff,decide_eq_true_iff];exact⟨λz=>by have:=V.int.inj z;omega,λz=>by rw[z];rfl⟩
 rw[←e] at q;exact q
theorem YL:aR ["self","kind","one","other"] ["self","kind","one","other"] (aJ DB):=⟨rfl,rfl,rfl,by decide+kernel,rfl,by decide+kernel,by decide+kernel⟩
theorem ZfA(F:aK K "has" "Hearth.has" DB f fd)(hc:fP K C)(oi:HasFn P w K mg base 1 "fact_key" ["kind","one","other"] zR):aH P w K mg base aM 2 f fd ["self","kind","one","other"] (Ib C CL CJ):=by
 refine F.ok YL (λvs H Q E h=>?_) (λaC A outer s H vs Q E hr h=>?_)
 ·obtain⟨l,b,xs,ys,k,a,o,rfl,_⟩:=h;rfl
 obtain⟨l,b,xs,ys,k,a,o,rfl,ba,hs,q⟩:=h;refine⟨_,(au (aF (Zep (zE (bH hr) (aW oi hr (by omega) rfl (aa (pv 1) (aa (pv 2) (aa (pv 3) ae)))) (aV (K:=K) rfl (pv 0) rfl)) (by with_unfolding_all rfl)))),?_⟩;refine⟨_,rfl,_,rfl,_,rfl,k,a,o,rfl,hs,λp H1 np g1 hp=>?_⟩;obtain⟨dx,h1⟩:=ba.obj;refine⟨_,rfl,l.h,C,dx,_,_,rfl,g1 _ _ h1,hc.cls,hc.zr,rfl,l.kn,_,rfl,eC.t (g1 _ _ ba.known) hp,?_⟩;exact q H1 g1
theorem Xj:aR ["self","kind","name"] ["self","kind","name"] (aJ BC):=⟨rfl,rfl,rfl,by decide+kernel,rfl,by decide+kernel,by decide+kernel⟩
theorem Zk(F:aK K "parent_of" "Hearth.parent_of" BC f fd)(hc:fP K C):aH P w K mg base aM 1 f fd ["self","kind","name"] (Nb C CL CJ):=by
 refine F.ok Xj (λvs H Q E h=>?_) (λaC A outer s H vs Q E hr h=>?_)
 ·obtain⟨l,b,xs,ys,k,a,rfl,_⟩:=h;rfl
 obtain⟨l,b,xs,ys,k,a,rfl,ba,q⟩:=h;refine⟨_,(au (aF (Zcb (bH hr) (aV (K:=K) rfl (pv 0) rfl) (dz (aa (pv 1) (aa (pv 2) ae))) ⟨rfl,rfl,rfl,rfl⟩))),?_⟩;obtain⟨dx,h1⟩:=ba.obj;refine⟨_,rfl,l.h,C,dx,_,_,rfl,h1,hc.cls,hc.uc,rfl,l.pr,rfl,.inr ⟨_,.inl ba.parents⟩,_,rfl,_,rfl,by show 2<=sizeLine;decide,λp H1 np g1 hp=>?_⟩;exact⟨_,eC.t (k:=[.inr k,.inr a]) (g1 _ _ ba.parents) hp,q H1 g1⟩
theorem Xh:aR ["self","name"] ["self","name"] (aJ By):=⟨rfl,rfl,rfl,by decide+kernel,rfl,by decide+kernel,by decide+kernel⟩
theorem YM(F:aK K "parents_of" "Hearth.parents_of" By f fd)(hc:fP K C)(iU:mg "PARENTS"=some (.ref dF))(qP:∀H,aA K H dF (iJ.map V.str)):aH P w K mg base aM 1 f fd ["self","name"] (MH C CL CJ):=by
 refine F.ok Xh (λvs H Q E h=>?_) (λaC A outer s H vs Q E hr h=>?_)
 ·obtain⟨l,b,xs,ys,a,rfl,_⟩:=h;rfl
 obtain⟨l,b,xs,ys,a,rfl,ba,q⟩:=h;refine⟨_,(au (aF (iW (x:="kind") (fr:=[("self",0),("name",1)]) (cl:=[("self",s.heap.objs.size+1),("name",s.heap.objs.size+1+1)]) rfl ⟨by with_unfolding_all rfl,⟨rfl,⟨rfl,trivial⟩⟩,rfl,by decide+kernel,rfl,by decide+kernel,rfl,⟨⟨rfl,.inl rfl,.inl rfl,rfl⟩,⟨⟨rfl,.inl rfl,.inl rfl,rfl⟩,trivial⟩⟩,by decide+kernel⟩ (GW (dD (v:=.ref dF) rfl iU rfl)) (λ_ _ _ _=>uo (jN (zE (bH hr) (dz (aa (pv 0) (aa (pv 2) ae))) (aV (K:=K) rfl (pv 1) rfl)) (by with_unfolding_all rfl))) (λ_ _ _ _=>(dh (bH hr) (aV (K:=K) rfl (pv 1) rfl) (dz (aa (pv 0) (aa (pv 2) ae))) (λ_ _=>rfl)))))),?_⟩;obtain⟨dx,h1⟩:=ba.obj;let val:Nat->Option V:=λi=>aS (cB b.ps b.fs) [.inr (iJ.getD i ""),.inr a];refine⟨dF,rfl,⟨_,qP _⟩,λD hD=>Zbp (K:=K) (a:=dF) (xs:=iJ.map V.str) (qP _) (by show 2<=1000;decide) hD (λi=>(val i).isSome) (λi=>(val i).getD .ay) (λi v hi H1 g1 _ Kt Kf kt kf=>?_) λH1 g1 h2=>q D H1 hD g1 ?_⟩
 ·obtain⟨k,rfl,ek⟩:∃k:Str,v=.str k/\iJ.getD i ""=k:=by
   match i,hi with
   |0,hi=>exact⟨"mother",(Yp hi).symm,rfl⟩
   |1,hi=>exact⟨"father",(Yp hi).symm,rfl⟩
   |i+2,hi=>simp at hi
  have ev:val i=aS (cB b.ps b.fs) [.inr k,.inr a]:=by show aS (cB b.ps b.fs) [.inr (iJ.getD i ""),.inr a]=_;rw[ek]
  refine⟨_,rfl,_,rfl,by show 2<=sizeLine;decide,λp H2 np g2 hp=>?_⟩;refine⟨_,rfl,l.h,C,dx,_,_,rfl,g2 _ _ (g1 _ _ h1),hc.cls,hc.uc,rfl,l.pr,_,rfl,eC.t (k:=[.inr k,.inr a]) (g2 _ _ (g1 _ _ ba.parents)) hp,_,rfl,?_⟩;rw[ev] at kt kf;cases e:aS (cB b.ps b.fs) [.inr k,.inr a] with
  |none=>
   rw[e] at kf;exact cz (kf H2 rfl g2)
  |some u=>
   rw[e] at kt;refine c8 ?_;refine⟨_,rfl,l.h,C,dx,_,_,rfl,g2 _ _ (g1 _ _ h1),hc.cls,hc.uc,rfl,_,rfl,_,rfl,by show 2<=sizeLine;decide,λp3 H3 np3 g3 VA=>?_⟩;refine⟨l.pr,u,rfl,?_,kt u H3 rfl (g2.trans g3) rfl⟩;have z:=eC.t (k:=[.inr k,.inr a]) (g3 _ _ (g2 _ _ (g1 _ _ ba.parents))) VA;rw[e] at z;exact z
 ·rw[h2];have e:((List.range (iJ.map V.str).length).filter λi=>(val i).isSome).map (λi=>(val i).getD .ay)=oH b a:=by
   exact ZcP val
  rw[e]
end
theorem zu(h:i<ps.length):aq (ps++[x]) i=aq ps i:=by
 unfold aq
 grind
theorem F3(ok:dW n ps.length c):bu (ps++[x]) c=bu ps c:=by
 unfold bu;by_cases e:c.k=bG;·grind
 ·rw[if_neg e,if_neg e,zu (ok.gf e).1.2]
theorem ZdX(ok:dW n ps.length c):d9 (ps++[x]) z c=d9 ps z c:=by
 unfold d9;rw[F3 ok,zu ok.one]
theorem Qw(ok:dW n ps.length c):fF (ps++[x]) c=fF ps c:=by
 unfold fF;rw[F3 ok,zu ok.one]
theorem ZdY(ok:∀p∈fs,dW n ps.length p.2):fG (ps++[x]) fs=fG ps fs:=by
 exact Wn λp hp=>by rw[Qw (ok p hp)]
theorem Qx(ok:∀p∈fs,dW n ps.length p.2):cB (ps++[x]) fs=cB ps fs:=by
 exact Wn λp hp=>by
  have o:=ok p (Yz.mp hp).1;rw[F3 o,zu o.one]
theorem ZdZ(ps:bA)(n s:Str):gh (ps++[(n,s)])=gh ps++[(.inr n,.str s)]:=Yj
theorem Zd0(ps:bA)(x:Str×Str):jn (ps++[x])=jn ps++[(.inr x.1,.int (ps.length:Int))]:=by
 unfold jn
 grind
theorem ZcQ(ps:bA)(fs:List (Nat×Fc))(z:Nat)(c:Fc):fG ps (fs++[(z,c)])=fG ps fs++[(fF ps c,.int (z:Int))]:=Yj
theorem O6(h:cO c.k=true):cB ps (fs++[(z,c)])=cB ps fs++[([.inr c.k,.inr (aq ps c.one)],kV (bu ps c))]:=by
 unfold cB
 grind
theorem O7(h:cO c.k=false):cB ps (fs++[(z,c)])=cB ps fs:=by
 unfold cB
 grind
theorem zw(k:Str):dI (.str k) (iJ.map V.str)=cO k:=by
 show((("mother":Str)==k)||((("father":Str)==k)||false))=(decide (k="mother")||decide (k="father"))
 grind
theorem MI{α β γ:Type}[DecidableEq β][DecidableEq γ]{f:α->β}{g:α->γ}:∀{xs:List α} {x:α},(xs.map f).Nodup->(xs.map g).Nodup->x∈xs->xs.filter (λy=>decide (f y≠f x))=xs.filter (λy=>decide (g y≠g x)):=by
 intro xs x n1 n2 hx;have inj:∀{δ:Type} {h:α->δ},(xs.map h).Nodup->∀y∈xs,h y=h x->y=x:=by
  induction xs with
  |nil=>cases hx
  |cons a r ih=>grind
 refine Jx λy hy=>?_
 grind
theorem ZcR{ps:bA}{fs:List (Nat×Fc)}{z:Nat}{c:Fc}(zs:(fs.map (·.1)).Nodup)(ky:(fs.map λp=>fF ps p.2).Nodup)(m:(z,c)∈fs):gH (fG ps fs) (fF ps c)=fG ps (cW z fs):=by
 unfold fG gH cW;rw[Js];exact congrArg _ (MI (x:=(z,c)) ky zs m)
theorem ZcS{ps:bA}{fs:List (Nat×Fc)}{z:Nat}{c:Fc}(zs:(fs.map (·.1)).Nodup)(pr:((cB ps fs).map (·.1)).Nodup)(m:(z,c)∈fs)(h:cO c.k=true):gH (cB ps fs) [.inr c.k,.inr (aq ps c.one)]=cB ps (cW z fs):=by
 unfold cB at pr⊢;rw[Wc] at pr;unfold gH cW;rw[Js,Jh];have e:=MI (f:=λp:Nat×Fc=>([.inr p.2.k,.inr (aq ps p.2.one)]:List Key)) (x:=(z,c)) pr (zs.sublist (List.filter_sublist.map _)) (Yz.mpr ⟨m,h⟩);rw[Jh,Jh] at e;rw[Jh]
 grind
theorem ZbJ(zs:(fs.map (·.1)).Nodup)(m:(z,c)∈fs)(h:cO c.k=false):cB ps fs=cB ps (cW z fs):=by
 unfold cB cW;rw[Jh];refine congrArg _ (Jx λp hp=>?_);by_cases e:p.1=z
 ·have:p=(z,c):=by
   have aux:∀{fs:List (Nat×Fc)},(fs.map (·.1)).Nodup->p∈fs->(z,c)∈fs->p=(z,c):=by
    induction fs with
    |nil=>grind
    |cons a r ih=>grind
   exact aux zs hp m
  grind
 ·grind
inductive Move(xs ys:List Int)(H:Hp)(r:Addr)(b:BS):Int->BS->Prop
 |pin (n s:Str) (hr:H r=some (.tup [.str n,.str s])) (new:n∉b.ps.map (·.1)) (lim:b.ps.length<64):Move xs ys H r b 1 {b with ps:=b.ps++[(n,s)]}
 |fin (z:Nat) (c:Fc) (hr:eQ H b.ps r (z,c)) (fg:eA xs ys b.ps.length c) (nz:z∉b.fs.map (·.1)) (nk:fF b.ps c∉b.keys) (np:cO c.k=true->[.inr c.k,.inr (aq b.ps c.one)]∉(cB b.ps b.fs).map (·.1)) (lv:∃f,lF xs.length b.ps.length f/\∀c'∈b.F++[c],fh f c') (lim:b.fs.length<63):Move xs ys H r b 1 {b with fs:=b.fs++[(z,c)]}
 |uL (z:Nat) (c:Fc) (hr:eQ H b.ps r (z,c)) (m:(z,c)∈b.fs):Move xs ys H r b (-1) {b with fs:=cW z b.fs}
theorem Move.out{w:Int}(m:Move xs ys H r b w b')(k:∀us,H r=some (.tup us)->H' r=some (.tup us)):Move xs ys H' r b w b':=by
 cases m with
 |pin n s hr new lim=>exact .pin n s (k _ hr) new lim
 |fin z c hr fg nz nk np lv lim=>exact .fin z c (k _ hr) fg nz nk np lv lim
 |uL z c hr m=>exact .uL z c (k _ hr) m
theorem Move.rest{w:Int}(m:Move xs ys H r b w b'):b'.co=b.co/\b'.dn=b.dn/\b'.un=b.un:=by cases m<;>exact⟨rfl,rfl,rfl⟩
theorem Move.Zgm{w:Int}(m:Move xs ys H r b w b')(dn un:List z9):Move xs ys H r {b with dn:=dn,un:=un} w {b' with dn:=dn,un:=un}:=by
 cases m with
 |pin n s hr new lim=>exact .pin n s hr new lim
 |fin z c hr fg nz nk np lv lim=>exact .fin z c hr fg nz nk np lv lim
 |uL z c hr m=>exact .uL z c hr m
inductive Qy(C CL CJ:Addr)(vs:List V)(H:Hp)(Q:VK):Prop
 |mk (l:BL) (b:BS) (xs ys:List Int) (fa:Addr) (z:Nat) (c:Fc) (aB:vs=[.ref l.h,.ref fa]) (ba:bw H C CL CJ l xs ys b) (hf:eQ H b.ps fa (z,c)) (nz:z∉b.fs.map (·.1)) (nk:fF b.ps c∉b.keys) (np:cO c.k=true->[.inr c.k,.inr (aq b.ps c.one)]∉(cB b.ps b.fs).map (·.1)) (fl:b.fs.length<=63)
   (q:∀H',Out [l.fc,l.kn,l.pr] H H'->H' l.fc=some (.dK (bh ((b.fs++[(z,c)]).map (·.1)) (l.ck++[fa])))->H' l.kn=some (.dT (fG b.ps (b.fs++[(z,c)])))->H' l.pr=some (.dT (cB b.ps (b.fs++[(z,c)])))->Q .ay H'):Qy C CL CJ vs H Q
def R4(C CL CJ:Addr):Sp:=λvs H Q _=>Qy C CL CJ vs H Q
inductive O8(C CL CJ:Addr)(vs:List V)(H:Hp)(Q:VK):Prop
 |mk (l:BL) (b b':BS) (xs ys:List Int) (r:Addr) (aB:vs=[.ref l.h,.ref r]) (ba:bw H C CL CJ l xs ys b) (ok:cH xs ys b) (mv:Move xs ys H r b 1 b') (q:∀(l':BL) (H':Hp),cj H H' l l'->bw H' C CL CJ l' xs ys b'->Q .ay H'):O8 C CL CJ vs H Q
def Qz(C CL CJ:Addr):Sp:=λvs H Q _=>O8 C CL CJ vs H Q
inductive Nd(C CL CJ:Addr)(vs:List V)(H:Hp)(Q:VK):Prop
 |mk (l:BL) (b b':BS) (xs ys:List Int) (r:Addr) (aB:vs=[.ref l.h,.ref r]) (ba:bw H C CL CJ l xs ys b) (ok:cH xs ys b) (mv:Move xs ys H r b (-1) b') (q:∀(l':BL) (H':Hp),cj H H' l l'->bw H' C CL CJ l' xs ys b'->Q .ay H'):Nd C CL CJ vs H Q
def N3(C CL CJ:Addr):Sp:=λvs H Q _=>Nd C CL CJ vs H Q
inductive O9(C CL CJ:Addr)(vs:List V)(H:Hp)(Q:VK):Prop
 |mk (l:BL) (b b':BS) (xs ys:List Int) (r:Addr) (w:Int) (c2:Nat) (aB:vs=[.ref l.h,.int w,.ref r,.int (c2:Int)]) (ba:bw H C CL CJ l xs ys b) (ok:cH xs ys b) (mv:Move xs ys H r b w b') (q:∀(l':BL) (H':Hp),cj H H' l l'->bw H' C CL CJ l' xs ys {b' with co:=c2}->Q .ay H'):O9 C CL CJ vs H Q
def QA(C CL CJ:Addr):Sp:=λvs H Q _=>O9 C CL CJ vs H Q
inductive N4(C CL CJ:Addr)(vs:List V)(H:Hp)(Q:VK):Prop
 |mk (l:BL) (b b':BS) (xs ys:List Int) (r:Addr) (w:Int) (c2:Nat) (row:List Key) (aB:vs=[.ref l.h,.int w,.ref r,.int (c2:Int)]) (ba:bw H C CL CJ l xs ys b) (ok:cH xs ys b) (dl:b.dn.length<200) (hr:H r=some (.tup (row.map kV))) (mv:Move xs ys H r b w b') (q:∀(l':BL) (H':Hp),cj H H' l l'->bw H' C CL CJ l' xs ys {b' with co:=c2,dn:=b.dn++[⟨w,row,b.co,c2⟩],un:=[]}->Q .ay H'):N4 C CL CJ vs H Q
def za(C CL CJ:Addr):Sp:=λvs H Q _=>N4 C CL CJ vs H Q
section
variable {dF:Addr}
theorem QB{ps:bA}{c:Fc}(e:c.k="sibling"):∃b,bu ps c=.inr b:=⟨_,iz (by rw[e];decide+kernel)⟩
theorem vN:aR ["self","fact","number","kind","one","other"] ["self","fact"] (aJ BD):=⟨rfl,rfl,rfl,by decide+kernel,rfl,by decide+kernel,by decide+kernel⟩
theorem Zd1(F:aK K "note_fact" "Hearth.note_fact" BD f fd)(hc:fP K C)(iU:mg "PARENTS"=some (.ref dF))(qP:∀H,aA K H dF (iJ.map V.str))(oi:HasFn P w K mg base 1 "fact_key" ["kind","one","other"] zR):aH P w K mg base aM 2 f fd ["self","fact"] (R4 C CL CJ):=by
 refine F.ok vN (λvs H Q E h=>?_) (λaC A outer s H vs Q E hr h=>?_)
 ·obtain⟨l,b,xs,ys,fa,z,c,rfl,_⟩:=h;rfl
 obtain⟨l,b,xs,ys,fa,z,c,rfl,ba,hf,nz,nk,np,fl,q⟩:=h;refine⟨_,(ak (m5 (pv 1) (iD (K:=K) (n:=4) rfl rfl (bN (a8 (i:=2) vN.nd rfl (Or.inl rfl)) (bN (a8 (i:=3) vN.nd rfl (Or.inl rfl)) (bN (a8 (i:=4) vN.nd rfl (Or.inl rfl)) (bN (a8 (i:=5) vN.nd rfl (Or.inl rfl)) iC)))))) (ak (ot (bH hr) (aV (K:=K) rfl (pv 0) rfl) (pv 2) (pv 1)) (ak (NG (bH hr) (aV (K:=K) rfl (pv 0) rfl) (aW oi hr (by omega) rfl (aa (pv 3) (aa (pv 4) (aa (pv 5) ae)))) (pv 2)) (au (aQ (aU (lu (K:=K) rfl) (pv 3) (dD (v:=.ref dF) rfl iU rfl) (by with_unfolding_all rfl)) (au (NG (bH hr) (aV (K:=K) rfl (pv 0) rfl) (dz (aa (pv 3) (aa (pv 4) ae))) (pv 5))) aY))))),?_⟩;obtain⟨dx,h1⟩:=ba.obj;have sz:(10000:Nat)<=sizeLine:=by rw[sizeLine_eq];omega
 have al:(b.fs.map (·.1)).length=l.ck.length:=by rw[Ya];exact(cN ba.fact).symm
 have AZ:l.h≠l.fc:=dE h1 ba.facts (λz=>by cases z);have nh2:l.h≠l.kn:=dE h1 ba.known (λz=>by cases z);have VB:l.kn≠l.fc:=dE ba.known ba.facts (λz=>by cases z);have jE:l.pr≠l.fc:=dE ba.parents ba.facts (λz=>by cases z);have VC:l.pr≠l.kn:=λe=>by
  have:=ba.nd;unfold BL.own at this;simp[e] at this
 refine⟨_,rfl,fa,_,rfl,aA.of hf,rfl,_,_,rfl,bc ⟨_,_,rfl,bc ⟨_,_,rfl,bc ⟨_,_,rfl,bc ⟨rfl,?_⟩⟩⟩⟩⟩;refine⟨_,rfl,_,rfl,l.h,C,dx,_,_,rfl,h1,hc.cls,hc.uu,rfl,_,rfl,l.fc,_,.inl (z:Int),rfl,ba.facts,rfl,by unfold bh;rw[Ya,W6,Ya];omega,λH1 b1 e1=>?_⟩;have vz:aS (bh (b.fs.map (·.1)) l.ck) (.inl (z:Int))=none:=yP nz;rw[kJ _ vz,v8 z fa al] at e1;refine⟨_,rfl,_,rfl,l.h,C,dx,_,_,rfl,b1 _ _ h1 AZ,hc.cls,hc.zr,rfl,_,rfl,_,rfl,_,rfl,c.k,aq b.ps c.one,bu b.ps c,rfl,λe=>QB e,λp H2 sL g2 dB=>?_⟩;refine⟨l.kn,p,_,fF b.ps c,rfl,g2 _ _ (b1 _ _ ba.known VB),rfl,dB,by unfold fG;rw[Ya];omega,λH3 b3 e3=>?_⟩;have vk:aS (fG b.ps b.fs) (fF b.ps c)=none:=pR (by
  have:(fG b.ps b.fs).map (·.1)=b.keys:=by unfold fG BS.keys;rw[Wc];rfl
  rw[this];exact nk)
 rw[kJ _ vk] at e3
 replace e3:H3 l.kn=some (.dT (fG b.ps (b.fs++[(z,c)]))):=by rw[ZcQ];exact e3
 have k3:∀{a:Addr} {o:HO},H a=some o->a≠l.fc->a≠l.kn->H3 a=some o:=λ{a o} e n1 n2=>b3 _ _ (g2 _ _ (b1 _ _ e n1)) n2;have g_:H3 l.fc=some (.dK (bh ((b.fs++[(z,c)]).map (·.1)) (l.ck++[fa]))):=by
  have:=b3 _ _ (g2 _ _ e1) (λz=>VB z.symm);rw[this,Yj];rfl
 have xY:=k3 ba.parents jE VC;refine⟨_,rfl,dF,_,rfl,.inr (qP _),rfl,rfl,_,rfl,?_⟩;dsimp only;rw[if_neg Ym,show dI (kV (Sum.inr c.k)) (iJ.map V.str)=cO c.k from zw c.k];refine bB (λcc=>?_) (λcc=>aX ?_)
 ·refine⟨_,rfl,_,rfl,l.h,C,dx,_,_,rfl,k3 h1 AZ nh2,hc.cls,hc.uc,rfl,_,rfl,_,rfl,by show 2<=sizeLine;decide,λp4 H4 u_ g4 kq=>?_⟩;refine⟨l.pr,p4,_,[.inr c.k,.inr (aq b.ps c.one)],rfl,g4 _ _ xY,rfl,kq,?_,λH5 b5 e5=>?_⟩
  ·unfold cB;rw[Ya];have:=Wi (λp:Nat×Fc=>cO p.2.k) b.fs;omega
  have vp:aS (cB b.ps b.fs) [.inr c.k,.inr (aq b.ps c.one)]=none:=pR (np cc);rw[kJ _ vp] at e5
  replace e5:H5 l.pr=some (.dT (cB b.ps (b.fs++[(z,c)]))):=by rw[O6 cc];exact e5
  refine q H5 (λa o e n=>?_) (b5 _ _ (g4 _ _ g_) (λz=>jE z.symm)) (b5 _ _ (g4 _ _ e3) (λz=>VC z.symm)) e5;simp only[Yt,Y3,or_false,not_or] at n;exact b5 _ _ (g4 _ _ (k3 e n.1 n.2.1)) n.2.2
 ·have ef:cO c.k=false:=by
   cases e:cO c.k with
   |true=>exact absurd e cc
   |false=>rfl
  refine q H3 (λa o e n=>?_) g_ e3 (by rw[O7 ef];exact xY)
  grind
theorem R5{l:BL}{H H1:Hp}{jl gZ:JL}(e2:l.eM=jl.fp)(o:Out l.own H H1)(gr:eG jl.fp gZ.fp H1):eG l.fp ({l with eM:=gZ.fp}:BL).fp H:=λa z=>by
 rcases Yr.mp (show a∈l.own++gZ.fp from z) with q|q;·exact .inl (Yo _ q)
 ·rcases gr a q with m|m;·exact .inl (Yq _ (by rw[e2];exact m))
  ·by_cases ma:a∈l.own;·exact .inl (Yo _ ma)
   ·right
    cases e:H a with
    |none=>rfl
    |some u=>rw[o _ _ e ma] at m;cases m
theorem S3{l:BL}{H H1 H2:Hp}{jl:JL}(e2:l.eM=jl.fp)(o:Out l.own H H1)(o2:Out jl.fp H1 H2):Out l.fp H H2:=λa u e n=>o2 _ _ (o _ _ e λz=>n (Yo _ z)) λz=>n (Yq _ (by rw[e2];exact z))
theorem rq{l:BL}{H H1:Hp}(o:Out l.own H H1):Out l.fp H H1:=λa u e n=>o _ _ e λz=>n (Yo _ z)
theorem BZ:aR ["self","row","name","side"] ["self","row"] (aJ Cf):=⟨rfl,rfl,rfl,by decide+kernel,rfl,by decide+kernel,by decide+kernel⟩
theorem ZbK(F:aK K "put_in" "Hearth.put_in" Cf f fd)(hc:fP K C)(tS:HasFn P w K mg base 1 "is_person" ["row"] (ES K))(tT:cq P w K mg base 2 "add" CJ ["self"] (H_ CJ))(BE:cq P w K mg base 2 "note_fact" C ["self","fact"] (R4 C CL CJ))(tU:HasFn P w K mg base 6 "keep_fact" ["joins","land","places","fact"] (GB CL CJ))(bl:Bl mg):aH P w K mg base aM 8 f fd ["self","row"] (Qz C CL CJ):=by
 refine F.ok BZ (λvs H Q E h=>?_) (λaC A outer s H vs Q E hr h=>?_)
 ·obtain⟨l,b,b',xs,ys,r,rfl,_⟩:=h;rfl
 obtain⟨l,b,b',xs,ys,r,rfl,ba,ok,mv,q⟩:=h;refine⟨_,(au (aQ (fC (aW tS hr (by omega) rfl (aa (pv 1) ae))) (ak (m5 (pv 1) (iD (K:=K) (n:=2) rfl rfl (bN (a8 (i:=2) BZ.nd rfl (Or.inl rfl)) (bN (a8 (i:=3) BZ.nd rfl (Or.inl rfl)) iC)))) (ak (ot (bH hr) (aV (K:=K) rfl (pv 0) rfl) (pv 2) (bL (Zap) rfl bl.cU cT (aa (aV (K:=K) rfl (pv 0) rfl) ae))) (ak (ot (bH hr) (aV (K:=K) rfl (pv 0) rfl) (pv 2) (pv 3)) (au (aQ (aU ze (aV (K:=K) rfl (pv 0) rfl) lQ (aP _)) (au (bY (qi tT hr (by omega) (aV (K:=K) rfl (pv 0) rfl)))) aY))))) (ak (bY (cK BE hr (by omega) (pv 0) (aa (pv 1) ae))) (au (aQ (aU ze (aV (K:=K) rfl (pv 0) rfl) lQ (aP _)) (au (bY (aW tU hr (by omega) rfl (aa (aV (K:=K) rfl (pv 0) rfl) (aa (aV (K:=K) rfl (pv 0) rfl) (aa (aV (K:=K) rfl (pv 0) rfl) (aa (pv 1) ae))))))) aY))))),?_⟩;obtain⟨dx,h1⟩:=ba.obj;have sz:(10000:Nat)<=sizeLine:=by rw[sizeLine_eq];omega
 have nd:=ba.nd;unfold BL.own at nd;have VD:=nd;simp only[Yy,Yt,Y3,or_false,not_or] at VD;obtain⟨⟨mG,dt,iP,mH,pH,nQ,pI⟩,⟨xZ,sP,sQ,sR,vc,vd⟩,⟨qK,sS,sT,ve,vg⟩,_⟩:=VD;have r_:∀p∈b.fs,dW xs.length b.ps.length p.2:=λp hp=>(ok.fg p hp).ok;cases mv with
 |pin n s hR new lim=>
  refine⟨_,rfl,r,_,rfl,aA.of hR,_,rfl,c8 ?_⟩;refine⟨_,rfl,r,_,rfl,aA.of hR,rfl,_,_,rfl,bc ⟨_,_,rfl,bc ⟨rfl,?_⟩⟩⟩;have kl:(gh b.ps).length=b.ps.length:=Ya _;have pl':(jn b.ps).length=b.ps.length:=by unfold jn;rw[Ya,List.length_zipIdx]
  refine⟨_,rfl,l.h,C,dx,_,_,rfl,h1,hc.cls,hc.rh,rfl,l.sd,_,rfl,ba.cY,_,rfl,l.h,C,dx,_,_,rfl,h1,hc.cls,hc.q_,rfl,_,rfl,l.pl,_,.inr n,rfl,ba.places,rfl,by omega,λH1 b1 e1=>?_⟩;have Zgn:(jn b.ps).map (·.1)=b.ps.map λp=>(.inr p.1:Key):=by
   unfold jn;rw[Wc];have:(λp:(Str×Str)×Nat=>((.inr p.1.1:Key),V.int (p.2:Int)).1)=(λp:Str×Str=>(.inr p.1:Key))∘Prod.fst:=rfl;show b.ps.zipIdx.map (λp:(Str×Str)×Nat=>((.inr p.1.1:Key),V.int (p.2:Int)).1)=_;rw[this,←Wc,List.zipIdx_map_fst]
  have T_:∀{ks:List Key},ks=(b.ps.map λp=>(.inr p.1:Key))->(.inr n:Key)∉ks:=λ{ks} e z=>by
   rw[e] at z;obtain⟨p,hp,ep⟩:=Yf.mp z;exact new (Yf.mpr ⟨p,hp,Wj ep⟩)
  have vp:aS (jn b.ps) (.inr n)=none:=pR (T_ Zgn);have vs':aS (gh b.ps) (.inr n)=none:=pR (T_ (by show(b.ps.map _).map _=_;rw[Wc];rfl));rw[kJ _ vp,kl] at e1;refine⟨_,rfl,_,rfl,l.h,C,dx,_,_,rfl,b1 _ _ h1 dt,hc.cls,hc.rh,rfl,_,rfl,l.sd,_,.inr n,rfl,b1 _ _ ba.cY xZ,rfl,by omega,λH2 b2 e2=>?_⟩;rw[kJ _ vs'] at e2;have k2:∀{a:Addr} {o:HO},H a=some o->a≠l.pl->a≠l.sd->H2 a=some o:=λ{a o} e n1 n2=>b2 _ _ (b1 _ _ e n1) n2;have o2:Out l.own H H2:=λa u e na=>k2 e (λz=>na (by rw[z];simp[BL.own])) (λz=>na (by rw[z];simp[BL.own]));have s2:H2 l.sd=some (.dK (gh (b.ps++[(n,s)]))):=by rw[ZdZ];exact e2
  have p2:H2 l.pl=some (.dK (jn (b.ps++[(n,s)]))):=by rw[Zd0];exact b2 _ _ e1 (λz=>xZ z.symm)
  have h2:=k2 h1 dt mG;have tp:∀{a:Addr} {us:List V} {H3:Hp},Out l.fp H H3->H a=some (.tup us)->H3 a=some (.tup us):=λo e=>o _ _ e (ba.tup e);have mk:∀(l':BL) (H3:Hp),l'={l with eM:=l'.eM}->Out l.fp H H3->eG l.fp l'.fp H->(∀a u,H2 a=some u->a∈l.own->H3 a=some u)->r9 H3 CJ xs.length l' {b with ps:=b.ps++[(n,s)]}->Q .ay H3:=λl' H3 el o g k rk=>by
   refine q l' H3 ⟨by rw[el],o,g⟩ ?_;refine ba.build (l':=l') (b':={b with ps:=b.ps++[(n,s)]}) (by rw[el]) (by rw[el]) (by rw[el]) (by rw[el]) (by rw[el]) (by rw[el]) (by rw[el]) (by rw[el]) (by rw[el]) o g ⟨dx,?_⟩ (k _ _ s2 (by simp[BL.own])) (k _ _ p2 (by simp[BL.own])) ?_ ?_ ?_ ?_ ?_ ?_ ?_ ?_ rk
   ·have:l'.rk=l.rk:=by rw[el]
    rw[this];exact k _ _ h2 (by simp[BL.own])
   ·have:l'.ck=l.ck:=by rw[el]
    rw[this];exact k _ _ (k2 ba.facts (λz=>qK z.symm) (λz=>sP z.symm)) (by simp[BL.own])
   ·have:l'.ck=l.ck:=by rw[el]
    rw[this];have aux:∀{as:List Addr} {fs:List (Nat×Fc)},Paired (λa (p:Nat×Fc)=>H a=some (.tup ((d9 b.ps p.1 p.2).map kV))) as fs->(∀p∈fs,dW xs.length b.ps.length p.2)->Paired (λa (p:Nat×Fc)=>H3 a=some (.tup ((d9 (b.ps++[(n,s)]) p.1 p.2).map kV))) as fs:=by
     intro as fs pr;induction pr with
     |nil=>intro _;exact .nil
     |cons f _ ih=>intro m;exact .cons (by rw[ZdX (m _ Yk)];exact tp o f) (ih λp hp=>m p (Yv _ hp))
    exact aux ba.fact r_
   ·show H3 l.kn=some (.dT (fG (b.ps++[(n,s)]) b.fs));rw[ZdY r_];exact k _ _ (k2 ba.known (λz=>sS z.symm) (λz=>sQ z.symm)) (by simp[BL.own])
   ·show H3 l.pr=some (.dT (cB (b.ps++[(n,s)]) b.fs));rw[Qx r_];exact k _ _ (k2 ba.parents (λz=>sT z.symm) (λz=>sR z.symm)) (by simp[BL.own])
   ·have:l'.ij=l.ij:=by rw[el]
    rw[this];exact k _ _ (k2 ba.done (λz=>ve z.symm) (λz=>vc z.symm)) (by simp[BL.own])
   ·have:l'.ij=l.ij:=by rw[el]
    rw[this];exact L2.Paired.bp ba.kZ λ_ _ e=>e.out o λa us e=>ba.tup e
   ·have:l'.ko=l.ko:=by rw[el]
    rw[this];exact k _ _ (k2 ba.iF (λz=>vg z.symm) (λz=>vd z.symm)) (by simp[BL.own])
   ·have:l'.ko=l.ko:=by rw[el]
    rw[this];exact L2.Paired.bp ba.m8 λ_ _ e=>e.out o λa us e=>ba.tup e
  cases hj:ba.rP with
  |no j1 j2=>
   rw[j1] at h2;refine⟨_,rfl,l.h,C,dx,_,_,rfl,h2,hc.cls,hc.iy,rfl,rfl,_,rfl,cz (aX ?_)⟩;exact mk l H2 rfl (rq o2) (eG.refl _ _) (λ_ _ e _=>e) (.no j1 j2)
  |at_ jl st j1 j2 ja me len fH=>
   have lD:=h2;rw[j1] at lD;have A0:=ja.jQ o2 fH (ba.Hf ja me) λa us e z=>ba.tup e (Yo _ z);obtain⟨dj,ej⟩:=A0.obj;have wf:=me.wf;have ml:=wf.RT;have xW:=wf.zQ;have n8:xs.length<=8:=ok.gd.2.2.2.2;refine⟨_,rfl,l.h,C,dx,_,_,rfl,lD,hc.cls,hc.iy,rfl,rfl,_,rfl,c8 ?_⟩;refine⟨_,rfl,l.h,C,dx,_,_,rfl,lD,hc.cls,hc.iy,rfl,jl.J,dj,_,rfl,ej,rfl,jl,st,xs.length,rfl,A0,by omega,by omega,by omega,by omega,wf.ll,λz=>Wa _ (wf.lm _ z),λz=>Wa _ (wf.lf _ z),λgZ H3 k1 o3 gr K1=>?_⟩;refine mk {l with eM:=gZ.fp} H3 rfl (S3 j2 o2 o3) (R5 j2 o2 gr) (λa u e m=>o3 _ _ e (fH a m)) ?_;refine .at_ gZ _ (by rw[k1];exact j1) rfl K1 (me.more (by have:=ok.gd.2.2.2.1;omega)) ?_ λa m z=>?_;·rw[iV,len,Yi];rfl
   ·rcases gr a z with y|y;·exact fH a m y
    ·have:=ba.there (a:=a) (Yo _ m);have:H2 a≠none:=by
      have m':a∈l.own:=m;unfold BL.own at m';simp only[Yt,Y3,or_false] at m';rcases m' with rfl|rfl|rfl|rfl|rfl|rfl|rfl|rfl;·rw[h2];exact λz=>nomatch z
      ·rw[s2];exact λz=>nomatch z
      ·rw[p2];exact λz=>nomatch z
      ·rw[k2 ba.facts (λz=>qK z.symm) (λz=>sP z.symm)];exact λz=>nomatch z
      ·rw[k2 ba.known (λz=>sS z.symm) (λz=>sQ z.symm)];exact λz=>nomatch z
      ·rw[k2 ba.parents (λz=>sT z.symm) (λz=>sR z.symm)];exact λz=>nomatch z
      ·rw[k2 ba.done (λz=>ve z.symm) (λz=>vc z.symm)];exact λz=>nomatch z
      ·rw[k2 ba.iF (λz=>vg z.symm) (λz=>vd z.symm)];exact λz=>nomatch z
     exact this y
 |fin z c hR fg nz nk np lv lim=>
  refine⟨_,rfl,r,_,rfl,aA.of hR,_,rfl,cz ?_⟩;refine⟨_,rfl,l.h,dx,_,rfl,h1,rfl,_,rfl,l,b,xs,ys,r,z,c,rfl,ba,hR,nz,nk,np,by omega,λH1 o1 f1 k1 p1=>?_⟩;have k2:∀{a:Addr} {o:HO},H a=some o->a≠l.fc->a≠l.kn->a≠l.pr->H1 a=some o:=λ{a o} e n1 n2 n3=>o1 _ _ e (by simp[n1,n2,n3]);have o2:Out l.own H H1:=λa u e na=>k2 e (λz=>na (by rw[z];simp[BL.own])) (λz=>na (by rw[z];simp[BL.own])) (λz=>na (by rw[z];simp[BL.own]));have h2:=k2 h1 iP mH pH;have VE:=nd;simp only[Yy,Yt,Y3,or_false,not_or] at VE;obtain⟨_,_,_,⟨x6,x8,vh,uM⟩,⟨A1,x9,x_⟩,⟨ya,yb⟩,_⟩:=VE;have s2:=k2 ba.cY sP sQ sR;have p2:=k2 ba.places qK sS sT;have d2:=k2 ba.done (λz=>vh z.symm) (λz=>x9 z.symm) (λz=>ya z.symm);have u2:=k2 ba.iF (λz=>uM z.symm) (λz=>x_ z.symm) (λz=>yb z.symm);have tp:∀{a:Addr} {us:List V} {H3:Hp},Out l.fp H H3->H a=some (.tup us)->H3 a=some (.tup us):=λo e=>o _ _ e (ba.tup e);have mk:∀(jf:List Addr) (H3:Hp),Out l.fp H H3->eG l.fp ({l with ck:=l.ck++[r],eM:=jf}:BL).fp H->(∀a u,H1 a=some u->a∈l.own->H3 a=some u)->r9 H3 CJ xs.length {l with ck:=l.ck++[r],eM:=jf} {b with fs:=b.fs++[(z,c)]}->Q .ay H3:=λjf H3 o g k rk=>by
   refine q {l with ck:=l.ck++[r],eM:=jf} H3 ⟨rfl,o,g⟩ ?_;refine ba.build (l':={l with ck:=l.ck++[r],eM:=jf}) (b':={b with fs:=b.fs++[(z,c)]}) rfl rfl rfl rfl rfl rfl rfl rfl rfl o g ⟨dx,k _ _ h2 (by simp[BL.own])⟩ (k _ _ s2 (by simp[BL.own])) (k _ _ p2 (by simp[BL.own])) (k _ _ f1 (by simp[BL.own])) ?_ (k _ _ k1 (by simp[BL.own])) (k _ _ p1 (by simp[BL.own])) (k _ _ d2 (by simp[BL.own])) (L2.Paired.bp ba.kZ λ_ _ e=>e.out o λa us e=>ba.tup e) (k _ _ u2 (by simp[BL.own])) (L2.Paired.bp ba.m8 λ_ _ e=>e.out o λa us e=>ba.tup e) rk;exact hE (F:=λa (p:Nat×Fc)=>H3 a=some (.tup ((d9 b.ps p.1 p.2).map kV))) (tp o hR) (L2.Paired.bp ba.fact λ_ _ e=>tp o e)
  cases hj:ba.rP with
  |no j1 j2=>
   rw[j1] at h2;refine⟨_,rfl,l.h,C,dx,_,_,rfl,h2,hc.cls,hc.iy,rfl,rfl,_,rfl,cz (aX ?_)⟩;exact mk l.eM H1 (rq o2) (eG.refl _ _) (λ_ _ e _=>e) (.no j1 j2)
  |at_ jl st j1 j2 ja me len fH=>
   have lD:=h2;rw[j1] at lD;have A0:=ja.jQ o2 fH (ba.Hf ja me) λa us e z=>ba.tup e (Yo _ z);have la2:iE H1 CL l.L xs ys:=ba.land H1 (rq o2);refine⟨_,rfl,l.h,C,dx,_,_,rfl,lD,hc.cls,hc.iy,rfl,rfl,_,rfl,c8 ?_⟩;refine⟨_,rfl,l.h,C,dx,_,_,rfl,lD,hc.cls,hc.iy,rfl,_,rfl,l.h,C,dx,_,_,rfl,lD,hc.cls,hc.uz,rfl,_,rfl,l.h,C,dx,_,_,rfl,lD,hc.cls,hc.q_,rfl,_,rfl,jl,st,l.L,l.pl,r,xs,ys,b.ps,b.F,z,c,rfl,A0,me,la2,ok.gd,p2,ok.nm,len,by have:=ok.m;omega,tp (rq o2) hR,fg,?_,λv gZ aI H3 e1 sub o3 K1 me3 Zhc=>?_⟩
   ·obtain⟨f0,i0,s0⟩:=lv;exact⟨f0,(me.iff f0).mpr ⟨by rw[len];exact i0,λc' m'=>s0 c' (Yo _ m')⟩,s0 c (Yq _ Yk)⟩
   have gr:eG jl.fp gZ.fp H1:=λa z=>.inl (sub a z);refine mk gZ.fp H3 (S3 j2 o2 o3) (R5 j2 o2 gr) (λa u e m=>o3 _ _ e (fH a m)) ?_;refine .at_ gZ aI (by rw[e1];exact j1) rfl K1 ?_ (by rw[Zhc];exact len) λa m z=>fH a m (sub a z);show dG xs.length aI ((b.fs++[(z,c)]).map (·.2));rw[Yj];exact me3
end
section
variable {dF:Addr}
theorem O_{l l':BL}{H:Hp}(e1:l'.own=l.own)(e2:l'.eM=[]):eG l.fp l'.fp H:=λa z=>.inl (by
 unfold BL.fp at z;rw[e1,e2,Y5] at z;exact Yo _ z)
theorem vO:aR ["self","row","number","kind","one","other"] ["self","row"] (aJ BM):=⟨rfl,rfl,rfl,by decide+kernel,rfl,by decide+kernel,by decide+kernel⟩
theorem Z0(F:aK K "take_out" "Hearth.take_out" BM f fd)(hc:fP K C)(iU:mg "PARENTS"=some (.ref dF))(qP:∀H,aA K H dF (iJ.map V.str))(tS:HasFn P w K mg base 1 "is_person" ["row"] (ES K))(oi:HasFn P w K mg base 1 "fact_key" ["kind","one","other"] zR):aH P w K mg base aM 2 f fd ["self","row"] (N3 C CL CJ):=by
 refine F.ok vO (λvs H Q E h=>?_) (λaC A outer s H vs Q E hr h=>?_)
 ·obtain⟨l,b,b',xs,ys,r,rfl,_⟩:=h;rfl
 obtain⟨l,b,b',xs,ys,r,rfl,ba,ok,mv,q⟩:=h;refine⟨_,(ak (aQ (fC (aW tS hr (by omega) rfl (aa (pv 1) ae))) fN (ak (m5 (pv 1) (iD (K:=K) (n:=4) rfl rfl (bN (a8 (i:=2) vO.nd rfl (Or.inl rfl)) (bN (a8 (i:=3) vO.nd rfl (Or.inl rfl)) (bN (a8 (i:=4) vO.nd rfl (Or.inl rfl)) (bN (a8 (i:=5) vO.nd rfl (Or.inl rfl)) iC)))))) (ak (Zct (aV (K:=K) rfl (pv 0) rfl) (pv 2)) (ak (OJ (bH hr) (aV (K:=K) rfl (pv 0) rfl) (aW oi hr (by omega) rfl (aa (pv 3) (aa (pv 4) (aa (pv 5) ae))))) (au (aQ (aU (lu (K:=K) rfl) (pv 3) (dD (v:=.ref dF) rfl iU rfl) (by with_unfolding_all rfl)) (au (OJ (bH hr) (aV (K:=K) rfl (pv 0) rfl) (dz (aa (pv 3) (aa (pv 4) ae))))) aY)))))) (au (gv (K:=K) rfl (pv 0) lQ))),?_⟩;obtain⟨dx,h1⟩:=ba.obj;have sz:(10000:Nat)<=sizeLine:=by rw[sizeLine_eq];omega
 have nd:=ba.nd;unfold BL.own at nd;simp only[Yy,Yt,Y3,or_false,not_or] at nd;obtain⟨⟨mG,dt,iP,mH,pH,nQ,pI⟩,⟨xZ,sP,sQ,sR,vc,vd⟩,⟨qK,sS,sT,ve,vg⟩,⟨x6,x8,vh,uM⟩,⟨A1,x9,x_⟩,⟨ya,yb⟩,_⟩:=nd;cases mv with
 |uL z c hR m=>
  have al:(b.fs.map (·.1)).length=l.ck.length:=by rw[Ya];exact(cN ba.fact).symm
  obtain⟨fa,A2,_⟩:=Qv (H:=H) (ps:=b.ps) ba.fact ok.zs m;have Zgo:(fG b.ps b.fs).map (·.1)=b.keys:=by unfold fG BS.keys;rw[Wc];rfl
  refine⟨_,rfl,r,_,rfl,aA.of hR,_,rfl,cz ?_⟩;refine⟨_,rfl,r,_,rfl,aA.of hR,rfl,_,_,rfl,bc ⟨_,_,rfl,bc ⟨_,_,rfl,bc ⟨_,_,rfl,bc ⟨rfl,?_⟩⟩⟩⟩⟩;refine⟨_,rfl,l.h,C,dx,_,_,rfl,h1,hc.cls,hc.uu,rfl,_,rfl,l.fc,_,.inl (z:Int),rfl,ba.facts,rfl,by rw[A2];rfl,λH1 b1 e1=>?_⟩;rw[yH z al,←ou] at e1;refine⟨_,rfl,l.h,C,dx,_,_,rfl,b1 _ _ h1 iP,hc.cls,hc.zr,rfl,_,rfl,_,rfl,_,rfl,c.k,aq b.ps c.one,bu b.ps c,rfl,λe=>QB e,λp H2 sL g2 dB=>?_⟩;refine⟨l.kn,p,_,fF b.ps c,rfl,g2 _ _ (b1 _ _ ba.known (λz=>x6 z.symm)),rfl,dB,(y9 _ _).mpr (by rw[Zgo];exact Yf.mpr ⟨_,m,rfl⟩),λH3 b3 e3=>?_⟩;rw[ZcR ok.zs ok.ky m] at e3;have k3:∀{a:Addr} {o:HO},H a=some o->a≠l.fc->a≠l.kn->H3 a=some o:=λ{a o} e n1 n2=>b3 _ _ (g2 _ _ (b1 _ _ e n1)) n2;have ef3:=b3 _ _ (g2 _ _ e1) x6;have xY:=k3 ba.parents (λz=>x8 z.symm) (λz=>A1 z.symm);have last:∀H5,(∀{a:Addr} {o:HO},H3 a=some o->a≠l.pr->H5 a=some o)->H5 l.pr=some (.dT (cB b.ps (cW z b.fs)))->∀H6,aw l.h H5 H6->H6 l.h=some (.ins C dx (HF l.L l.sd l.pl l.fc l.kn l.pr (b.co:Int) l.dn l.un .ay))->Q .ay H6:=λH5 k5 e5 H6 b6 e6=>by
   have k6:∀{a:Addr} {o:HO},H a=some o->a≠l.fc->a≠l.kn->a≠l.pr->a≠l.h->H6 a=some o:=λ{a o} e n1 n2 n3 n4=>b6 _ _ (k5 (k3 e n1 n2) n3) n4;have o6:Out l.own H H6:=λa u e na=>k6 e (λz=>na (by rw[z];simp[BL.own])) (λz=>na (by rw[z];simp[BL.own])) (λz=>na (by rw[z];simp[BL.own])) (λz=>na (by rw[z];simp[BL.own]));have of:=rq o6;have tp:∀{a:Addr} {us:List V},H a=some (.tup us)->H6 a=some (.tup us):=λe=>of _ _ e (ba.tup e);refine q {l with rk:=.ay,eM:=[],ck:=dU (b.fs.map (·.1)) l.ck z} H6 ⟨rfl,of,O_ rfl rfl⟩ ?_;exact ba.build (l':={l with rk:=.ay,eM:=[],ck:=dU (b.fs.map (·.1)) l.ck z}) (b':={b with fs:=cW z b.fs}) rfl rfl rfl rfl rfl rfl rfl rfl rfl of (O_ rfl rfl) ⟨dx,e6⟩ (k6 ba.cY sP sQ sR (λz=>mG z.symm)) (k6 ba.places qK sS sT (λz=>dt z.symm)) (b6 _ _ (k5 ef3 x8) (λz=>iP z.symm)) (EO ba.fact λa p e _ _=>tp e) (b6 _ _ (k5 e3 A1) (λz=>mH z.symm)) (b6 _ _ e5 (λz=>pH z.symm)) (k6 ba.done (λz=>vh z.symm) (λz=>x9 z.symm) (λz=>ya z.symm) (λz=>nQ z.symm)) (L2.Paired.bp ba.kZ λ_ _ e=>e.out of λa us e=>ba.tup e) (k6 ba.iF (λz=>uM z.symm) (λz=>x_ z.symm) (λz=>yb z.symm) (λz=>pI z.symm)) (L2.Paired.bp ba.m8 λ_ _ e=>e.out of λa us e=>ba.tup e) (.no rfl rfl)
  refine⟨_,rfl,dF,_,rfl,.inr (qP _),rfl,rfl,_,rfl,?_⟩;dsimp only;rw[if_neg Ym,show dI (kV (Sum.inr c.k)) (iJ.map V.str)=cO c.k from zw c.k];refine bB (λcc=>?_) (λcc=>aX ?_)
  ·refine⟨_,rfl,l.h,C,dx,_,_,rfl,k3 h1 iP mH,hc.cls,hc.uc,rfl,_,rfl,_,rfl,by show 2<=sizeLine;decide,λp4 H4 u_ g4 kq=>?_⟩;refine⟨l.pr,p4,_,[.inr c.k,.inr (aq b.ps c.one)],rfl,g4 _ _ xY,rfl,kq,(y9 _ _).mpr ?_,λH5 b5 e5=>?_⟩
   ·unfold cB;rw[Wc];exact Yf.mpr ⟨(z,c),Yz.mpr ⟨m,cc⟩,rfl⟩
   rw[ZcS ok.zs ok.pr m cc] at e5;have k5:∀{a:Addr} {o:HO},H3 a=some o->a≠l.pr->H5 a=some o:=λ{a o} e n=>b5 _ _ (g4 _ _ e) n;refine⟨_,rfl,l.h,C,dx,_,rfl,k5 (k3 h1 iP mH) pH,hc.cls,hc.iy,by show 10<1000;decide,λH6 b6 e6=>?_⟩;exact last H5 k5 e5 H6 b6 e6
  ·have ef:cO c.k=false:=by
    cases e:cO c.k with
    |true=>exact absurd e cc
    |false=>rfl
   refine⟨_,rfl,l.h,C,dx,_,rfl,k3 h1 iP mH,hc.cls,hc.iy,by show 10<1000;decide,λH6 b6 e6=>?_⟩;exact last H3 (λe _=>e) (by rw[←ZbJ ok.zs m ef];exact xY) H6 b6 e6
theorem XH:aR ["self","way","row","coming"] ["self","way","row","coming"] (aJ CG):=⟨rfl,rfl,rfl,by decide+kernel,rfl,by decide+kernel,by decide+kernel⟩
theorem ZcT(F:aK K "shift" "Hearth.shift" CG f fd)(hc:fP K C)(ow:mg "PUT_IN"=some (.int 1 t1))(Cj:cq P w K mg base 8 "put_in" C ["self","row"] (Qz C CL CJ))(BO:cq P w K mg base 2 "take_out" C ["self","row"] (N3 C CL CJ)):aH P w K mg base aM 9 f fd ["self","way","row","coming"] (QA C CL CJ):=by
 refine F.ok XH (λvs H Q E h=>?_) (λaC A outer s H vs Q E hr h=>?_)
 ·obtain⟨l,b,b',xs,ys,r,w',c2,rfl,_⟩:=h;rfl
 obtain⟨l,b,b',xs,ys,r,w',c2,rfl,ba,ok,mv,q⟩:=h;refine⟨_,(ak (aQ (aU cg (pv 1) (dD (v:=.int (1)) rfl ow ⟨_,rfl⟩) (aP _)) (au (bY (cK Cj hr (by omega) (pv 0) (aa (pv 2) ae)))) (au (bY (cK BO hr (by omega) (pv 0) (aa (pv 2) ae))))) (au (gv (K:=K) rfl (pv 0) (pv 3)))),?_⟩;obtain⟨dx,h1⟩:=ba.obj;have last:∀(l':BL) (H1:Hp),cj H H1 l l'->bw H1 C CL CJ l' xs ys b'->∀(jj:Addr) (H2:Hp),H1 l'.h=some (.ins C jj (HF l'.L l'.sd l'.pl l'.fc l'.kn l'.pr (b'.co:Int) l'.dn l'.un l'.rk))->aw l'.h H1 H2->H2 l'.h=some (.ins C jj (HF l'.L l'.sd l'.pl l'.fc l'.kn l'.pr (c2:Int) l'.dn l'.un l'.rk))->Q .ay H2:=λl' H1 wt cv jj H2 e1 b2 e2=>by
  have nd:=cv.nd;unfold BL.own at nd;simp only[Yy,Yt,Y3,or_false,not_or] at nd;obtain⟨⟨mG,dt,iP,mH,pH,nQ,pI⟩,_⟩:=nd;have o2:Out l'.own H1 H2:=λa u e na=>b2 _ _ e (λz=>na (by rw[z];simp[BL.own]));have of:=rq o2;have mI:=(cv.owned (l':=l') (b':={b' with co:=c2}) rfl rfl rfl rfl rfl rfl rfl rfl rfl (.inl ⟨rfl,rfl,rfl,rfl⟩) o2 ⟨jj,e2⟩ (b2 _ _ cv.cY (λz=>mG z.symm)) (b2 _ _ cv.places (λz=>dt z.symm)) (b2 _ _ cv.facts (λz=>iP z.symm)) (L2.Paired.bp cv.fact λ_ _ e=>(λe=>of _ _ e (cv.tup e)) e) (b2 _ _ cv.known (λz=>mH z.symm)) (b2 _ _ cv.parents (λz=>pH z.symm)) (b2 _ _ cv.done (λz=>nQ z.symm)) (L2.Paired.bp cv.kZ λ_ _ e=>e.out of λa us e=>cv.tup e) (b2 _ _ cv.iF (λz=>pI z.symm)) (L2.Paired.bp cv.m8 λ_ _ e=>e.out of λa us e=>cv.tup e)).1;exact q l' H2 (wt.trans ⟨rfl,of,eG.refl _ _⟩) mI
 have go:∀(l':BL) (H1:Hp),cj H H1 l l'->bw H1 C CL CJ l' xs ys b'->∃jj,H1 l.h=some (.ins C jj (HF l'.L l'.sd l'.pl l'.fc l'.kn l'.pr (b'.co:Int) l'.dn l'.un l'.rk))/\∀H2,aw l.h H1 H2->H2 l.h=some (.ins C jj (HF l'.L l'.sd l'.pl l'.fc l'.kn l'.pr (c2:Int) l'.dn l'.un l'.rk))->Q .ay H2:=λl' H1 wt cv=>by
  obtain⟨jj,e1⟩:=cv.obj;have eh:=wt.h
  grind
 have w12:w'=1\/w'=-1:=by cases mv<;>first|exact .inl rfl|exact .inr rfl
 rcases w12 with rfl|rfl
 ·refine⟨_,rfl,rfl,_,rfl,c8 ?_⟩;refine⟨_,rfl,l.h,dx,_,rfl,h1,rfl,_,rfl,l,b,b',xs,ys,r,rfl,ba,ok,mv,λl' H1 wt cv=>?_⟩;obtain⟨jj,e1,k⟩:=go l' H1 wt cv;exact⟨_,rfl,_,rfl,l.h,C,jj,_,rfl,e1,hc.cls,hc.qb,by show 10<1000;decide,λH2 b2 e2=>k H2 b2 e2⟩
 ·refine⟨_,rfl,rfl,_,rfl,cz ?_⟩;refine⟨_,rfl,l.h,dx,_,rfl,h1,rfl,_,rfl,l,b,b',xs,ys,r,rfl,ba,ok,mv,λl' H1 wt cv=>?_⟩;obtain⟨jj,e1,k⟩:=go l' H1 wt cv;exact⟨_,rfl,_,rfl,l.h,C,jj,_,rfl,e1,hc.cls,hc.qb,by show 10<1000;decide,λH2 b2 e2=>k H2 b2 e2⟩
theorem Xr:aR ["self","way","row","coming"] ["self","way","row","coming"] (aJ BX):=⟨rfl,rfl,rfl,by decide+kernel,rfl,by decide+kernel,by decide+kernel⟩
theorem ZaK(F:aK K "do_deed" "Hearth.do_deed" BX f fd)(hc:fP K C)(CI:cq P w K mg base 9 "shift" C ["self","way","row","coming"] (QA C CL CJ)):aH P w K mg base aM 10 f fd ["self","way","row","coming"] (za C CL CJ):=by
 refine F.ok Xr (λvs H Q E h=>?_) (λaC A outer s H vs Q E hr h=>?_)
 ·obtain⟨l,b,b',xs,ys,r,w',c2,row,rfl,_⟩:=h;rfl
 obtain⟨l,b,b',xs,ys,r,w',c2,row,rfl,ba,ok,dl,hR,mv,q⟩:=h;refine⟨_,(ak (bY (hX (K:=K) rfl (fQ plainAttrs_list PySem.F.slot_list_append PySem.F.type_list_append iu (aV (K:=K) rfl (pv 0) rfl) (aa (dz (aa (pv 1) (aa (pv 2) (aa (aV (K:=K) rfl (pv 0) rfl) (aa (pv 3) ae))))) ae)))) (ak (bY (Zdz (K:=K) rfl (ZeA plainAttrs_list PySem.F.slot_list_clear PySem.F.type_list_clear Zbr (aV (K:=K) rfl (pv 0) rfl)))) (au (bY (cK CI hr (by omega) (pv 0) (aa (pv 1) (aa (pv 2) (aa (pv 3) ae)))))))),?_⟩;obtain⟨dx,h1⟩:=ba.obj;have sz:(10000:Nat)<=sizeLine:=by rw[sizeLine_eq];omega
 have nd:=ba.nd;unfold BL.own at nd;simp only[Yy,Yt,Y3,or_false,not_or] at nd;obtain⟨⟨mG,dt,iP,mH,pH,nQ,pI⟩,⟨xZ,sP,sQ,sR,vc,vd⟩,⟨qK,sS,sT,ve,vg⟩,⟨x6,x8,vh,uM⟩,⟨A1,x9,x_⟩,⟨ya,yb⟩,yc,_⟩:=nd;have dal:=cN ba.kZ;refine⟨_,rfl,l.h,C,dx,_,_,rfl,h1,hc.cls,hc.RZ,rfl,.inl ⟨rfl,_,aj.of ba.done⟩,?_⟩;refine⟨_,rfl,_,rfl,_,rfl,l.h,C,dx,_,_,rfl,h1,hc.cls,hc.qb,rfl,_,rfl,by show 4<=sizeLine;omega,λp H1 np g1 e1=>?_⟩;refine⟨l.dn,_,_,rfl,rfl,g1 _ _ ba.done,by rw[Ya];omega,λH2 b2 e2=>?_⟩;have a1:=b2 _ _ (g1 _ _ h1) nQ;have a7:=b2 _ _ (g1 _ _ ba.iF) (λz=>yc z.symm);refine⟨_,rfl,l.h,C,dx,_,_,rfl,a1,hc.cls,hc.O2,rfl,.inl ⟨rfl,_,aj.of a7⟩,l.un,_,rfl,rfl,a7,λH3 b3 e3=>?_⟩;have k3:∀{a:Addr} {o:HO},H a=some o->a≠l.dn->a≠l.un->H3 a=some o:=λ{a o} e n1 n2=>b3 _ _ (b2 _ _ (g1 _ _ e) n1) n2;have o3:Out l.own H H3:=λa u e na=>k3 e (λz=>na (by rw[z];simp[BL.own])) (λz=>na (by rw[z];simp[BL.own]));have of:=rq o3;have tp:∀{a:Addr} {us:List V},H a=some (.tup us)->H3 a=some (.tup us):=λe=>of _ _ e (ba.tup e);have pu:p≠l.un:=λz=>by rw[z,ba.iF] at np;cases np
 have ed:H3 l.dn=some (.lst ((l.ij++[p]).map V.ref)):=by rw[Yj];exact b3 _ _ e2 yc
 have lG:=(ba.owned (l':={l with ij:=l.ij++[p],ko:=[]}) (b':={b with dn:=b.dn++[⟨w',row,b.co,c2⟩],un:=[]}) rfl rfl rfl rfl rfl rfl rfl rfl rfl (.inl ⟨rfl,rfl,rfl,rfl⟩) o3 ⟨dx,k3 h1 nQ pI⟩ (k3 ba.cY vc vd) (k3 ba.places ve vg) (k3 ba.facts vh uM) (L2.Paired.bp ba.fact λ_ _ e=>tp e) (k3 ba.known x9 x_) (k3 ba.parents ya yb) ed (hE (F:=m7 H3) ⟨r,b3 _ _ (b2 _ _ e1 (λz=>by rw[z,ba.done] at np;cases np)) pu,tp hR⟩ (L2.Paired.bp ba.kZ λ_ _ e=>e.out of λa us e=>ba.tup e)) e3 .nil);have h3:=k3 h1 nQ pI;refine⟨_,rfl,l.h,dx,_,rfl,h3,rfl,_,rfl,_,rfl,_,rfl,{l with ij:=l.ij++[p],ko:=[]},_,_,xs,ys,r,w',c2,rfl,lG.1,⟨ok.gd,ok.nm,ok.m,ok.fl,ok.fg,ok.zs,ok.lt,ok.ky,ok.pr,ok.lv,by show(b.dn++[_]).length<=200;rw[Yi];show b.dn.length+1<=200;omega,Yw _⟩,((mv.Zgm _ _).out λus e=>tp e),λl' H4 wt vq=>?_⟩;exact q l' H4 (cj.trans (l1:={l with ij:=l.ij++[p],ko:=[]}) ⟨rfl,of,lG.2⟩ wt) vq
end
theorem cI.Zhd(j:cI H C n l st)(h:a∈l.ck):∃us,H a=some (.lst us):=by
 obtain⟨p,e⟩:=vZ j.free h
 grind
theorem cI.sU(j:cI H C n l st)(e:H a=some o)(nl:∀us,o≠.lst us)(nt:∀us,o≠.tup us)(na:a∉l.fp)(br:aw a H H'):cI H' C n l st:=by
 refine j.jQ (fp:=[a]) (λb u eb nb=>br _ _ eb λz=>nb (by rw[z];exact Yk)) (λb hb=>?_) (λb hb z=>?_) λb us eb z=>?_;·grind
 ·rw[Ye.mp hb] at z;obtain⟨us,q⟩:=j.Zhd z
  grind
 ·grind
inductive oO(H:Hp)(C CJ dx d:Addr)(l:BL)(b:BS)(n:Nat)(J:Addr)(F:List Fc)(m:Nat)(H6:Hp):Prop
 |mk (jl:JL) (st:JS) (eJ:jl.J=J) (keep:∀a u,H a=some u->a≠l.h->a≠d->H6 a=some u) (obj:H6 l.h=some (.ins C dx (HF l.L l.sd l.pl l.fc l.kn l.pr (b.co:Int) l.dn l.un (.ref J)))) (ja:cI H6 CJ n jl st) (me:dG n st F) (len:st.hd.length=m) (new:∀a∈jl.fp,H a=none):oO H C CJ dx d l b n J F m H6
theorem oO.sU(j:oO H C CJ dx d l b n J F m H6)(hd:H d'≠none)(e:H6 d'=some o)(nl:∀us,o≠.lst us)(nt:∀us,o≠.tup us)(nh:d'≠l.h)(br:aw d' H6 H7)(kd:∀u,H d=some u->d≠d'->d≠l.h->H7 d=some u):oO H C CJ dx d' l b n J F m H7:=by
 obtain⟨jl,st,eJ,keep,obj,ja,me,len,new⟩:=j;refine⟨jl,st,eJ,λa u ea n1 n2=>?_,br _ _ obj (λz=>nh z.symm),ja.sU e nl nt (λz=>hd (new _ z)) br,me,len,new⟩;by_cases z:a=d;·grind
 ·exact br _ _ (keep a u ea n1 z) n2
theorem N5:∀{ks:List Nat} {as:List Addr} {i:Nat} {k:Key} {y:V},(bh ks as)[i]?=some (k,y)->∃a,as[i]?=some a/\y=.ref a
 |[],as,i,k,y,h=>by
  unfold bh at h;simp at h
 |_::_,[],i,k,y,h=>by
  unfold bh at h;simp at h
 |q::ks,a::as,0,k,y,h=>by
  injection(Yp h) with _ e2
  grind
 |q::ks,a::as,i+1,k,y,h=>by
  have e0:bh (q::ks) (a::as)=(Sum.inl (q:Int),V.ref a)::bh ks as:=rfl;rw[e0] at h;have h':(bh ks as)[i]?=some (k,y):=by simpa using h
  obtain⟨b,e1,e2⟩:=N5 h'
  grind
inductive Pa(C CL CJ:Addr)(vs:List V)(H:Hp)(Q:VK):Prop
 |mk (l:BL) (b:BS) (xs ys:List Int) (aB:vs=[.ref l.h]) (ba:bw H C CL CJ l xs ys b) (ok:cH xs ys b) (q:∀(l':BL) (jl:JL) (st:JS) (H':Hp),cj H H' l l'->bw H' C CL CJ l' xs ys b->l'.rk=.ref jl.J->l'.eM=jl.fp->cI H' CJ xs.length jl st->dG xs.length st b.F->st.hd.length=b.ps.length->(∀a∈l'.own,a∉jl.fp)->(l.rk≠.ay->H'=H/\l'=l)->Q (.ref jl.J) H'):Pa C CL CJ vs H Q
def zx(C CL CJ:Addr):Sp:=λvs H Q _=>Pa C CL CJ vs H Q
section
theorem Ck:aR ["self","name","fact"] ["self"] (aJ CF):=⟨rfl,rfl,rfl,by decide+kernel,rfl,by decide+kernel,by decide+kernel⟩
theorem ZcU(F:aK K "joins" "Hearth.joins" CF f fd)(hc:fP K C)(lc:uE K CL)(GD:wO P w K mg base 1 "Joins" CJ ["self","size"] (Qj CJ))(tT:cq P w K mg base 2 "add" CJ ["self"] (H_ CJ))(tU:HasFn P w K mg base 6 "keep_fact" ["joins","land","places","fact"] (GB CL CJ)):aH P w K mg base aM 8 f fd ["self"] (zx C CL CJ):=by
 refine F.ok Ck (λvs H Q E h=>?_) (λaC A outer s H vs Q E hr h=>?_)
 ·obtain⟨l,b,xs,ys,rfl,_⟩:=h;rfl
 obtain⟨l,b,xs,ys,rfl,ba,ok,q⟩:=h;refine⟨_,(ak (aQ (aU GX (aV (K:=K) rfl (pv 0) rfl) lQ (aP _)) (ak (gv (K:=K) rfl (pv 0) (Hv GD hr (by omega) rfl (aa (aV (K:=K) rfl (aV (K:=K) rfl (pv 0) rfl) rfl) ae))) (ak (Zas (H0:=H) rfl PassesOwn.never rfl (ZdA (H0:=H) rfl (aV (K:=K) rfl (pv 0) rfl)) (a8 (i:=1) Ck.nd rfl (Or.inl rfl)) (au (bY (qi tT hr (by omega) (aV (K:=K) rfl (pv 0) rfl))))) (au (Zat (H0:=H) rfl PassesOwn.never rfl (ZdD (H0:=H) rfl (aV (K:=K) rfl (pv 0) rfl)) (a8 (i:=2) Ck.nd rfl (Or.inl rfl)) (au (bY (aW tU hr (by omega) rfl (aa (aV (K:=K) rfl (pv 0) rfl) (aa (aV (K:=K) rfl (pv 0) rfl) (aa (aV (K:=K) rfl (pv 0) rfl) (aa (pv 2) ae))))))))))) aY) (au (aF (aV (K:=K) rfl (pv 0) rfl)))),?_⟩;obtain⟨dx,h1⟩:=ba.obj;have n8:xs.length<=8:=ok.gd.2.2.2.2;have n0:0<xs.length:=by have:=ok.gd.2.2.2.1;omega
 have nd:=ba.nd;unfold BL.own at nd;simp only[Yy,Yt,Y3,or_false,not_or] at nd;obtain⟨⟨mG,dt,iP,mH,pH,nQ,pI⟩,⟨xZ,sP,sQ,sR,vc,vd⟩,⟨qK,sS,sT,ve,vg⟩,⟨x6,x8,vh,uM⟩,_⟩:=nd;cases hj:ba.rP with
 |at_ jl st j1 j2 ja me len fH=>
  have lC:=h1;rw[j1] at lC;refine⟨_,rfl,l.h,C,dx,_,_,rfl,lC,hc.cls,hc.iy,rfl,rfl,_,rfl,cz (aX ?_)⟩;exact⟨_,rfl,l.h,C,dx,_,_,rfl,lC,hc.cls,hc.iy,rfl,q l jl st H (cj.of (ah.refl _)) ba j1 j2 ja me len fH λ_=>⟨rfl,rfl⟩⟩
 |no j1 j2=>
  have lC:=h1;rw[j1] at lC;refine oF (λσ H6=>∃(J:Addr) (o1 o2:Option V),σ=[some (.ref l.h),o1,o2]/\oO H C CJ dx l.h l b xs.length J b.F b.ps.length H6) (λnx hn=>?_) ?_
  ·refine⟨_,rfl,l.h,C,dx,_,_,rfl,lC,hc.cls,hc.iy,rfl,rfl,_,rfl,c8 ?_⟩;obtain⟨dL,dS,mo,jo,wi,im,jf,iw,Ki,hL,_⟩:=ba.landAt;refine⟨_,rfl,l.h,C,dx,_,_,rfl,lC,hc.cls,hc.uz,rfl,l.L,CL,dL,_,_,rfl,hL,lc.cls,lc.rH,rfl,λx vv nR xP K2=>?_⟩;have xQ:upd H vv (.own x) x=none:=by rw[a9 (λz=>K2 z.symm)];exact nR
   have VF:ah H (upd (upd H vv (.own x)) x (.ins CJ vv [])):=(cy xP _).trans (cy xQ _);refine⟨x,vv,xs.length,rfl,aZ,λK3 H2 eJ1 em1 fr1 b2 ja1=>⟨rfl,?_⟩⟩;have f1:∀a∈K3.fp,H a=none:=λa ha=>by
    by_cases z:a=x;·rw[z];exact nR
    ·exact VF.free (fr1 a ha z)
   have g2:ah H H2:=λa o e=>b2 _ _ (VF _ _ e) (bQ e nR);refine⟨_,rfl,l.h,C,dx,_,rfl,g2 _ _ lC,hc.cls,hc.iy,by show 10<1000;decide,λH3 b3 e3=>?_⟩;have VG:H3 l.h=some (.ins C dx (HF l.L l.sd l.pl l.fc l.kn l.pr (b.co:Int) l.dn l.un (.ref x))):=e3;have AZ:l.h∉K3.fp:=λz=>by have:=f1 _ z;rw[h1] at this;cases this
   have jm3:oO H C CJ dx l.h l b xs.length x [] 0 H3:=⟨K3,_,eJ1,λa u e n1 _=>b3 _ _ (g2 _ _ e) n1,VG,ja1.sU (g2 _ _ lC) (λus z=>nomatch z) (λus z=>nomatch z) AZ b3,Zgl,rfl,f1⟩;have s3:H3 l.sd=some (.dK (gh b.ps)):=b3 _ _ (g2 _ _ ba.cY) (λz=>mG z.symm);dsimp only;refine fw (λσ H6=>∃o1 o2:Option V,σ=[some (.ref l.h),o1,o2]/\oO H C CJ dx l.h l b xs.length x [] b.ps.length H6) (λyd lH=>?_) ?_
   ·refine Zcr (d:=l.sd) (kvs:=gh b.ps) (H1:=H3) (λR r=>⟨_,rfl,l.h,C,dx,_,_,rfl,VG,hc.cls,hc.rh,rfl,r⟩) s3 (λi σ H6=>∃o1 o2:Option V,σ=[some (.ref l.h),o1,o2]/\oO H C CJ dx l.sd l b xs.length x [] i H6) (λod=>⟨none,none,rfl,jm3.sU (by rw[ba.cY];exact λz=>nomatch z) s3 (λus z=>nomatch z) (λus z=>nomatch z) (λz=>mG z.symm) (aw.put (aw.of (ah.refl _))) (λu _ _ z=>absurd rfl z)⟩) ?_ ?_
    ·rintro od i k y aN H6 N rt bk hk ⟨o1,o2,rfl,jm⟩ fz hN;obtain⟨jl,st,eJ,keep,obj,ja,me,len,new⟩:=jm;have il:i<b.ps.length:=by
      have:=(Yg.mp hk).1
      rwa [Ya] at this
     have im:=ok.m;obtain⟨dj,ej⟩:=ja.obj;have wf:=me.wf;have ml:=wf.RT;have xW:=wf.zQ;refine bc ?_;refine⟨_,rfl,l.h,C,dx,_,_,rfl,obj,hc.cls,hc.iy,rfl,jl.J,dj,_,by rw[eJ],ej,rfl,jl,st,xs.length,by rw[eJ];rfl,ja,by omega,by omega,by omega,by omega,wf.ll,λz=>Wa _ (wf.lm _ z),λz=>Wa _ (wf.lf _ z),λgZ H7 k1 o7 gr ja7=>?_⟩;have jE:∀{a:Addr} {u:HO},H a=some u->a∉jl.fp:=λ{a u} e z=>by rw[new _ z] at e;cases e
     refine hN _ _ ⟨_,_,rfl,gZ,_,k1.trans eJ,λa u e n1 n2=>o7 _ _ (keep a u e n1 n2) (jE e),o7 _ _ obj (jE h1),ja7,me.more n0,by rw[iV,len],λa z=>?_⟩ (o7 _ _ fz (jE ba.cY));rcases gr a z with y|y;·exact new a y
     ·cases e:H a with
      |none=>rfl
      |some u=>
       by_cases z1:a=l.h;·rw[z1,obj] at y;cases y
       ·by_cases z2:a=l.sd;·rw[z2,fz] at y;cases y
        ·rw[keep a u e z1 z2] at y;cases y
    ·rintro od aN H6 ⟨o1,o2,rfl,jm⟩ fz;rw[Ya] at jm;refine lH _ _ ⟨o1,o2,rfl,?_⟩;obtain⟨jl,st,eJ,keep,obj,ja,me,len,new⟩:=jm;have jE:l.sd∉jl.fp:=λz=>by have:=new _ z;rw[ba.cY] at this;cases this
     refine⟨jl,st,eJ,λa u e n1 _=>?_,by rw[a9 mG];exact obj,ja.sU fz (λus z=>nomatch z) (λus z=>nomatch z) jE (aw.put (aw.of (ah.refl _))),me,len,new⟩;by_cases z:a=l.sd
     ·subst z;rw[aZ];rw[ba.cY] at e;exact e
     ·rw[a9 z];exact keep a u e n1 z
   ·rintro σ H6 ⟨o1,o2,rfl,jm⟩;obtain⟨jl0,Zig,eJ0,Zgp,Zhe,ja0,me0,len0,Zih⟩:=id jm;have f6:H6 l.fc=some (.dK (bh (b.fs.map (·.1)) l.ck)):=Zgp _ _ ba.facts (λz=>iP z.symm) (λz=>iP z.symm);have al:=cN ba.fact;refine Zcs (d:=l.fc) (kvs:=bh (b.fs.map (·.1)) l.ck) (H1:=H6) (λR r=>⟨_,rfl,l.h,C,dx,_,_,rfl,Zhe,hc.cls,hc.uu,rfl,r⟩) f6 (λi σ H6=>∃o1 o2:Option V,σ=[some (.ref l.h),o1,o2]/\oO H C CJ dx l.fc l b xs.length x (b.F.take i) b.ps.length H6) (λod=>⟨o1,o2,rfl,jm.sU (by rw[ba.facts];exact λz=>nomatch z) f6 (λus z=>nomatch z) (λus z=>nomatch z) (λz=>iP z.symm) (aw.put (aw.of (ah.refl _))) (λu _ _ z=>absurd rfl z)⟩) ?_ ?_
    ·rintro od i k y aN H7 N rt bk hk ⟨o1,o2,rfl,jm⟩ fz hN;obtain⟨fa,efa,rfl⟩:=N5 hk;obtain⟨⟨z,c⟩,VH,cV⟩:=fV ba.fact efa;have mzc:=Yh VH;obtain⟨jl,st,eJ,keep,obj,ja,me,len,new⟩:=jm;have jE:∀{a:Addr} {u:HO},H a=some u->a∉jl.fp:=λ{a u} e z=>by rw[new _ z] at e;cases e
     have of:Out l.fp H H7:=λa u e n=>keep a u e (λz=>n (by rw[z];simp[BL.fp,BL.own])) (λz=>n (by rw[z];simp[BL.fp,BL.own]));have fg:=ok.fg _ mzc;have im:=ok.m;have ec:b.F[i]?=some c:=by unfold BS.F;rw[Yl,VH];rfl
     have tk:b.F.take (i+1)=b.F.take i++[c]:=by rw[Y0,ec];rfl
     refine bc ?_;refine⟨_,rfl,l.h,C,dx,_,_,rfl,obj,hc.cls,hc.iy,rfl,_,rfl,l.h,C,dx,_,_,rfl,obj,hc.cls,hc.uz,rfl,_,rfl,l.h,C,dx,_,_,rfl,obj,hc.cls,hc.q_,rfl,_,rfl,jl,st,l.L,l.pl,fa,xs,ys,b.ps,b.F.take i,z,c,by rw[eJ];rfl,ja,me,ba.land H7 of,ok.gd,keep _ _ ba.places (λz=>dt z.symm) qK,ok.nm,len,by omega,of _ _ cV (ba.tup cV),fg,?_,λv gZ aI H8 e1 sub o8 ja8 me8 Zhf=>?_⟩
     ·obtain⟨f0,i0,s0⟩:=ok.lv;exact⟨f0,(me.iff f0).mpr ⟨by rw[len];exact i0,λc' m'=>s0 c' (J3 m')⟩,s0 c (Yh ec)⟩
     ·refine hN _ _ ⟨_,_,rfl,gZ,aI,e1.trans eJ,λa u e n1 n2=>o8 _ _ (keep a u e n1 n2) (jE e),o8 _ _ obj (jE h1),ja8,by rw[tk];exact me8,Zhf.trans len,λa z=>new a (sub a z)⟩ (o8 _ _ fz (jE ba.facts))
    ·rintro od aN H7 ⟨o1,o2,rfl,jm⟩ fz;have dl:(bh (b.fs.map (·.1)) l.ck).length=b.F.length:=by
      unfold bh BS.F;rw[Ya,W6,Ya,Ya];omega
     rw[dl,We] at jm;refine hn _ _ ⟨x,o1,o2,rfl,?_⟩;obtain⟨jl,st,eJ,keep,obj,ja,me,len,new⟩:=jm;have jE:l.fc∉jl.fp:=λz=>by have:=new _ z;rw[ba.facts] at this;cases this
     refine⟨jl,st,eJ,λa u e n1 _=>?_,by rw[a9 iP];exact obj,ja.sU fz (λus z=>nomatch z) (λus z=>nomatch z) jE (aw.put (aw.of (ah.refl _))),me,len,new⟩;by_cases z:a=l.fc
     ·subst z;rw[aZ];rw[ba.facts] at e;exact e
     ·rw[a9 z];exact keep a u e n1 z
  ·rintro σ H6 ⟨J,o1,o2,rfl,jm⟩;obtain⟨jl,st,eJ,keep,obj,ja,me,len,new⟩:=jm;refine⟨_,rfl,l.h,C,dx,_,_,rfl,obj,hc.cls,hc.iy,rfl,?_⟩;have k6:∀{a:Addr} {u:HO},H a=some u->a≠l.h->H6 a=some u:=λ{a u} e n=>keep a u e n n;have of:Out l.fp H H6:=λa u e n=>k6 e (λz=>n (by rw[z];simp[BL.fp,BL.own]));have tp:∀{a:Addr} {us:List V},H a=some (.tup us)->H6 a=some (.tup us):=λe=>of _ _ e (ba.tup e);have gr:eG l.fp ({l with rk:=.ref jl.J,eM:=jl.fp}:BL).fp H:=λa z=>by
    rcases Yr.mp (show a∈l.own++jl.fp from z) with y|y;·exact .inl (Yo _ y)
    ·exact .inr (new a y)
   have fH:∀a∈l.own,a∉jl.fp:=λa m z=>ba.there (Yo _ m) (new a z);subst eJ;refine q {l with rk:=.ref jl.J,eM:=jl.fp} jl st H6 ⟨rfl,of,gr⟩ ?_ rfl rfl ja me len fH λz=>absurd j1 z;exact ba.build (l':={l with rk:=.ref jl.J,eM:=jl.fp}) (b':=b) rfl rfl rfl rfl rfl rfl rfl rfl rfl of gr ⟨dx,obj⟩ (k6 ba.cY (λz=>mG z.symm)) (k6 ba.places (λz=>dt z.symm)) (k6 ba.facts (λz=>iP z.symm)) (L2.Paired.bp ba.fact λ_ _ e=>tp e) (k6 ba.known (λz=>mH z.symm)) (k6 ba.parents (λz=>pH z.symm)) (k6 ba.done (λz=>nQ z.symm)) (L2.Paired.bp ba.kZ λ_ _ e=>e.out of λa us e=>ba.tup e) (k6 ba.iF (λz=>pI z.symm)) (L2.Paired.bp ba.m8 λ_ _ e=>e.out of λa us e=>ba.tup e) (.at_ jl st rfl rfl ja me len fH)
end
def fS(z:Str)(c:Nat):Bool:=!(Builtin.Str.occurrences z ⟨#[c]⟩ 0 z.length 1).isEmpty
abbrev oy:Str:="abcdefghijklmnopqrstuvwxyz"
abbrev lT:Str:="abcdefghijklmnopqrstuvwxyz0123456789"
def rQ(z:Str):Bool:=match z.cps.toList with
 |[]=>false
 |c::r=>decide (z.length<=12)&&(fS oy c&&(c::r).all (fS lT))
theorem Zhg(v:Str):v.cps.toList.length=v.length:=by simp[Str.length]
theorem Zd2{z:Str}(h:z.cps.toList=[]):z="":=by
 cases z with|mk a=>cases a with|mk l=>cases h;rfl
theorem ZcV(h:z.cps.toList=[]):rQ z=false:=by unfold rQ;rw[h]
theorem N6(h:z.cps.toList=c::r):rQ z=(decide (z.length<=12)&&(fS oy c&&(c::r).all (fS lT))):=by unfold rQ;rw[h]
def Pb:Sp:=λvs H Q _=>∃z:Str,vs=[.str z]/\z.length<=1000/\∀H',ah H H'->Q (.bl (rQ z)) H'
section
theorem ZaL:aR ["text"] ["text"] (aJ Fi):=⟨rfl,rfl,rfl,by decide+kernel,rfl,by decide+kernel,by decide+kernel⟩
theorem ZaM(F:aK K "is_name" "is_name" Fi f fd){t1 t2 t3:Tok}(CK:mg "LONGEST_NAME"=some (.int 12 t1))(BG:mg "LETTERS_OF_NAMES"=some (.str "abcdefghijklmnopqrstuvwxyz" t2))(B0:mg "SIGNS_OF_NAMES"=some (.str "abcdefghijklmnopqrstuvwxyz0123456789" t3))(bl:Bl mg):
  aH P w K mg base aM 1 f fd ["text"] Pb:=by
 refine F.ok ZaL (λvs H Q E h=>?_) (λaC A outer s H vs Q E hr h=>?_)
 ·obtain⟨z,rfl,_⟩:=h;rfl
 obtain⟨z,rfl,lz,q⟩:=h;refine⟨_,(ak (aQ (PW.pt (pw_or (aU cg (pv 0) bC (aP _)) (pw_or (aU Hu (bL (YZ) rfl bl.cU cT (aa (pv 0) ae)) (dD (v:=.int (12)) rfl CK ⟨_,rfl⟩) (aP _)) (pw_or1 (aU YW (bg wy (pv 0) aL (λ_ _=>rfl)) (dD (v:=.str "abcdefghijklmnopqrstuvwxyz") rfl BG ⟨_,rfl⟩) (by with_unfolding_all rfl)))))) (au (aF kQ)) aY) (au (aF (bL (TM (K:=K) rfl rfl) rfl bl.SK Rv (aa (iW (x:="sign") (fr:=[]) (cl:=[]) rfl ⟨by with_unfolding_all rfl,trivial,rfl,by decide+kernel,rfl,by decide+kernel,rfl,trivial,by decide+kernel⟩ (Ze8 (pv 0)) (λ_ _ _ _=>mS) (λ_ _ _ _=>(dQ Za_ (pv 0) (dD (v:=.str "abcdefghijklmnopqrstuvwxyz0123456789") rfl B0 ⟨_,rfl⟩) (by with_unfolding_all rfl)))) ae))))),?_⟩;have sz:(10000:Nat)<=sizeLine:=by rw[sizeLine_eq];omega
 cases ez:z.cps.toList with
 |nil=>
  have e:=Zd2 ez;rw[ZcV ez] at q;refine⟨_,rfl,rfl,_,rfl,bB (λ_=>?_) (λc=>absurd (decide_eq_true (by rw[e])) c)⟩;exact q H (ah.refl H)
 |cons c r=>
  have zl:=Zhg z;rw[ez,Wq] at zl;rw[N6 ez] at q;refine⟨_,rfl,rfl,_,rfl,bB (λcc=>?_) (λ_=>?_)⟩
  ·have e:z="":=V.str.inj (of_decide_eq_true cc);have e0:(Str.ofString "").cps.toList=[]:=by decide+kernel
   rw[e,e0] at ez;cases ez
  refine⟨_,rfl,z,rfl,by omega,_,_,rfl,rfl,_,rfl,bB (λcc=>?_) (λcc=>?_)⟩
  ·have VI:(12:Int)<(z.length:Int):=of_decide_eq_true cc;rw[decide_eq_false (by omega:¬z.length<=12)] at q;exact q H (ah.refl H)
  have A3:z.length<=12:=by
   grind
  rw[decide_eq_true A3,Jt] at q;refine⟨_,rfl,_,_,_,rfl,rfl,by omega,hV (j:=0) (by rw[ez];rfl),_,_,rfl,rfl,_,rfl,bB (λcc=>?_) (λcc=>aX ?_)⟩
  ·have VI:fS oy c=false:=by
    have z:(!fS oy c)=true:=cc;cases e:fS oy c;·rfl
    ·rw[e] at z;cases z
   rw[VI,Bool.false_and] at q;exact q H (ah.refl H)
  have cl:fS oy c=true:=by
   cases e:fS oy c;·exact absurd (show(!fS oy c)=true by rw[e];rfl) cc
   ·rfl
  rw[cl,Jt,←ez] at q;refine⟨_,rfl,z,rfl,λD hD=>Zbs (by omega) hD (λc=>V.bl (fS lT c)) (λi c hi H1 g1 Kt k=>?_) λH1 g1 h1=>?_⟩;·exact⟨_,rfl,_,_,rfl,rfl,k H1 (ah.refl _)⟩
  ·refine⟨D,z.cps.toList.map (fS lT),rfl,aj.of (by rw[h1,Wc];rfl),?_⟩;rw[Kn];exact q H1 g1
end
theorem dW.more(h:dW n m c)(l:m<=m'):dW n m' c:=⟨by have:=h.one;omega,λns=>by obtain⟨⟨a,b⟩,d⟩:=h.gf ns;exact⟨⟨a,by omega⟩,d⟩⟩
theorem eA.more(h:eA xs ys m c)(l:m<=m'):eA xs ys m' c:=⟨h.ok.more l,h.kind,h.IW⟩
theorem ZfB{f g:Nat->Int}(ok:dW n m c)(e:∀i,i<m->g i=f i)(s:fh f c):fh g c:=⟨λh=>by rw[e _ ok.one];exact s.1 h,λh=>by rw[e _ ok.one,e _ (ok.gf h).1.2];exact s.2 h⟩
section
variable {xs ys:List Int}{b:BS}
theorem cH.Zhh(ok:cH xs ys b)(new:n∉b.ps.map (·.1))(lim:b.ps.length<64)(hc:b.co<=co)(dl:dn.length<=200)(ul:un.length<=200):cH xs ys {b with ps:=b.ps++[(n,s)],co:=co,dn:=dn,un:=un}:=by
 have r_:=λp hp=>(ok.fg p hp).ok;have len:(b.ps++[(n,s)]).length=b.ps.length+1:=by rw[Yi];rfl
 refine⟨ok.gd,?_,by show(b.ps++[(n,s)]).length<=64;omega,ok.fl,λp hp=>?_,ok.zs,λp hp=>Y2 (ok.lt p hp) hc,?_,?_,?_,dl,ul⟩
 ·show((b.ps++[(n,s)]).map (·.1)).Nodup;rw[Yj];refine Wg.mpr ⟨ok.nm,by simp,λu hu v hv z=>?_⟩
  grind
 ·show eA xs ys (b.ps++[(n,s)]).length p.2;rw[len];exact(ok.fg p hp).more (JG _)
 ·show(b.fs.map λp=>fF (b.ps++[(n,s)]) p.2).Nodup;rw[(Wn λp hp=>by rw[Qw (r_ p hp)])];exact ok.ky
 ·show((cB (b.ps++[(n,s)]) b.fs).map (·.1)).Nodup;rw[Qx r_];exact ok.pr
 ·obtain⟨f,i0,s0⟩:=ok.lv;refine⟨λi=>if i<b.ps.length then f i else 0,λi hi=>?_,λc m=>?_⟩
  ·show 0<=(if i<b.ps.length then f i else 0)/\(if i<b.ps.length then f i else 0)<(xs.length:Int);by_cases h:i<b.ps.length;·rw[if_pos h];exact i0 i h
   ·rw[if_neg h];have:=ok.gd.2.2.2.1
    grind
  ·obtain⟨p,hp,rfl⟩:=Yf.mp m;exact ZfB (r_ p hp) (λi hi=>if_pos hi) (s0 _ m)
theorem cH.Zhi(ok:cH xs ys b)(fg:eA xs ys b.ps.length c)(nz:z∉b.fs.map (·.1))(nk:fF b.ps c∉b.keys)(np:cO c.k=true->[.inr c.k,.inr (aq b.ps c.one)]∉(cB b.ps b.fs).map (·.1))(lv:∃f,lF xs.length b.ps.length f/\∀c'∈b.F++[c],fh f c')(lim:b.fs.length<63)(hc:b.co<=co)(hz:z<co)(dl:dn.length<=200)(ul:un.length<=200):cH xs ys {b with fs:=b.fs++[(z,c)],co:=co,dn:=dn,un:=un}:=by
 have snoc:∀{α:Type} {l:List α} {x:α},l.Nodup->x∉l->(l++[x]).Nodup:=λ{α l x} h1 h2=>Wg.mpr ⟨h1,by simp,λu hu v hv e=>by
  have:v=x:=by simpa using hv
  exact h2 (by rw[←this,←e];exact hu)⟩
 refine⟨ok.gd,ok.nm,ok.m,by show(b.fs++[(z,c)]).length<=63;rw[Yi];exact lim,λp hp=>?_,?_,λp hp=>?_,?_,?_,?_,dl,ul⟩
 ·rcases Yr.mp hp with hp|hp;·exact ok.fg p hp
  ·rw[Ye.mp hp];exact fg
 ·show((b.fs++[(z,c)]).map (·.1)).Nodup;rw[Yj];exact snoc ok.zs nz
 ·rcases Yr.mp hp with hp|hp;·exact Y2 (ok.lt p hp) hc
  ·rw[Ye.mp hp];exact hz
 ·show((b.fs++[(z,c)]).map λp=>fF b.ps p.2).Nodup;rw[Yj];exact snoc ok.ky nk
 ·show((cB b.ps (b.fs++[(z,c)])).map (·.1)).Nodup;cases e:cO c.k with
  |true=>rw[O6 e,Yj];exact snoc ok.pr (np e)
  |false=>rw[O7 e];exact ok.pr
 ·obtain⟨f,i0,s0⟩:=lv;refine⟨f,i0,λc' m=>s0 c' ?_⟩;have m':c'∈(b.fs++[(z,c)]).map (·.2):=m;rw[Yj] at m';exact m'
theorem cH.drop(ok:cH xs ys b)(z:Nat)(hc:b.co<=co)(dl:dn.length<=200)(ul:un.length<=200):cH xs ys {b with fs:=cW z b.fs,co:=co,dn:=dn,un:=un}:=by
 have sub:(cW z b.fs).Sublist b.fs:=List.filter_sublist;refine⟨ok.gd,ok.nm,ok.m,Y4 sub.length_le ok.fl,λp hp=>ok.fg p (sub.subset hp),ok.zs.sublist (sub.map _),λp hp=>Y2 (ok.lt p (sub.subset hp)) hc,ok.ky.sublist (sub.map _),?_,?_,dl,ul⟩
 ·show((cB b.ps (cW z b.fs)).map (·.1)).Nodup;refine ok.pr.sublist ?_;unfold cB
  grind
 ·obtain⟨f,i0,s0⟩:=ok.lv;exact⟨f,i0,λc m=>s0 c ((sub.map _).subset m)⟩
end
def BS.Ic(b:BS)(n s:Str):BS:={b with ps:=b.ps++[(n,s)],co:=b.co,dn:=b.dn++[⟨1,[.inr n,.inr s],b.co,b.co⟩],un:=[]}
def BS.wV(b:BS)(c:Fc):BS:={b with fs:=b.fs++[(b.co,c)],co:=b.co+1,dn:=b.dn++[⟨1,d9 b.ps b.co c,b.co,b.co+1⟩],un:=[]}
def BS.without(b:BS)(z:Nat)(c:Fc):BS:={b with fs:=cW z b.fs,co:=b.co,dn:=b.dn++[⟨-1,d9 b.ps z c,b.co,b.co⟩],un:=[]}
def Hg(s:Str):Bool:=dI (.str s) [.str "man",.str "woman"]
structure IX(b:BS)(n s:Str):Prop where
 Zhj:rQ n=true
 side:Hg s=true
 new:n∉b.ps.map (·.1)
 lim:b.ps.length<64
 nl:n.length<=1000
structure z_(xs ys:List Int)(b:BS)(c:Fc):Prop where
 fg:eA xs ys b.ps.length c
 nk:fF b.ps c∉b.keys
 np:cO c.k=true->[.inr c.k,.inr (aq b.ps c.one)]∉(cB b.ps b.fs).map (·.1)
 lv:∃f,lF xs.length b.ps.length f/\∀c'∈b.F++[c],fh f c'
 lim:b.fs.length<63
inductive N7(C CL CJ:Addr)(vs:List V)(H:Hp)(Q:VK):Prop
 |mk (l:BL) (b:BS) (xs ys:List Int) (n s:Str) (aB:vs=[.ref l.h,.str n,.str s]) (ba:bw H C CL CJ l xs ys b) (np:IX b n s) (q:∀H',ah H H'->Q .ay H'):N7 C CL CJ vs H Q
def Pc(C CL CJ:Addr):Sp:=λvs H Q _=>N7 C CL CJ vs H Q
inductive N8(C CL CJ:Addr)(vs:List V)(H:Hp)(Q:VK):Prop
 |mk (l:BL) (b:BS) (xs ys:List Int) (n s:Str) (aB:vs=[.ref l.h,.str n,.str s]) (ba:bw H C CL CJ l xs ys b) (ok:cH xs ys b) (np:IX b n s) (dl:b.dn.length<200) (q:∀(l':BL) (H':Hp),cj H H' l l'->bw H' C CL CJ l' xs ys (b.Ic n s)->Q .ay H'):N8 C CL CJ vs H Q
def Pd(C CL CJ:Addr):Sp:=λvs H Q _=>N8 C CL CJ vs H Q
inductive QC(C CL CJ:Addr)(vs:List V)(H:Hp)(Q:VK):Prop
 |mk (l:BL) (b:BS) (xs ys:List Int) (fa:Addr) (c:Fc) (aB:vs=[.ref l.h,.ref fa]) (ba:bw H C CL CJ l xs ys b) (ok:cH xs ys b) (hf:eQ H b.ps fa (b.co,c)) (nf:z_ xs ys b c) (dl:b.dn.length<200) (q:∀(l':BL) (H':Hp),cj H H' l l'->bw H' C CL CJ l' xs ys (b.wV c)->Q (.int (b.co:Int)) H'):QC C CL CJ vs H Q
def Hh(C CL CJ:Addr):Sp:=λvs H Q _=>QC C CL CJ vs H Q
inductive QD(C CL CJ:Addr)(vs:List V)(H:Hp)(Q:VK):Prop
 |mk (l:BL) (b:BS) (xs ys:List Int) (z:Nat) (c:Fc) (aB:vs=[.ref l.h,.int (z:Int)]) (ba:bw H C CL CJ l xs ys b) (ok:cH xs ys b) (m:(z,c)∈b.fs) (dl:b.dn.length<200) (q:∀(l':BL) (H':Hp),cj H H' l l'->bw H' C CL CJ l' xs ys (b.without z c)->Q .ay H'):QD C CL CJ vs H Q
def R6(C CL CJ:Addr):Sp:=λvs H Q _=>QD C CL CJ vs H Q
inductive Pf(C CL CJ:Addr)(vs:List V)(H:Hp)(Q:VK):Prop
 |mk (x dx L:Addr) (xs ys:List Int) (aB:vs=[.ref x,.ref L]) (hx:H x=some (.ins C dx [])) (la:iE H CL L xs ys) (q:∀(l:BL) (H':Hp),l.h=x->(∀a∈l.fp,a≠x->H a=none)->aw x H H'->bw H' C CL CJ l xs ys ⟨[],[],0,[],[]⟩->Q .ay H'):Pf C CL CJ vs H Q
def QE(C CL CJ:Addr):Sp:=λvs H Q _=>Pf C CL CJ vs H Q
theorem iE.free(la:iE H CL L xs ys)(hf:∀a∈fp,H a=none\/∃C dx,H a=some (.ins C dx []))(o:Out fp H H'):iE H' CL L xs ys:=by
 obtain⟨dx,d,m,f,w,im,jf,iw,st,h1,h2,h3,h4,h5,h6,h7,h8,h9⟩:=la;have k:∀{a:Addr} {u:HO},H a=some u->(∀C dx,u≠.ins C dx [])->H' a=some u:=λ{a u} e n=>o _ _ e λz=>by
  grind
 exact⟨dx,d,m,f,w,im,jf,iw,st,k h1 (λ_ _ z=>by cases z),k h2 (λ_ _ z=>by cases z),k h3 (λ_ _ z=>by cases z),k h4 (λ_ _ z=>by cases z),k h5 (λ_ _ z=>by cases z),k h6 (λ_ _ z=>by cases z),k h7 (λ_ _ z=>by cases z),k h8 (λ_ _ z=>by cases z),k h9 (λ_ _ z=>by cases z)⟩
section
theorem XI:aR ["hearth","name","side"] ["hearth","name","side"] (aJ Cz):=⟨rfl,rfl,rfl,by decide+kernel,rfl,by decide+kernel,by decide+kernel⟩
theorem XJ(F:aK K "check_person" "check_person" Cz f fd)(Ft:HasFn P w K mg base 1 "is_name" ["text"] Pb)(rR:mg "MAN"=some (.str "man" t1))(rA:mg "WOMAN"=some (.str "woman" t2))(oa:cq P w K mg base 1 "people" C ["self"] (y_ C CL CJ)):aH P w K mg base aM 2 f fd ["hearth","name","side"] (Pc C CL CJ):=by
 refine F.ok XI (λvs H Q E h=>?_) (λaC A outer s H vs Q E hr h=>?_)
 ·obtain⟨l,b,xs,ys,n,s,rfl,_⟩:=h;rfl
 obtain⟨l,b,xs,ys,n,s,rfl,ba,np,q⟩:=h;refine⟨_,(ak (aQ (PW.pt (pw_or (jO (fC (aW Ft hr (by omega) rfl (aa (pv 1) ae)))) (pw_or1 (aU (ux (K:=K) rfl) (pv 2) (dz (aa (dD (v:=.str "man") rfl rR ⟨_,rfl⟩) (aa (dD (v:=.str "woman") rfl rA ⟨_,rfl⟩) ae))) (by with_unfolding_all rfl))))) fN aY) (au (aQ (aU (lu (K:=K) rfl) (pv 1) (qi oa hr (by omega) (pv 0)) (by with_unfolding_all rfl)) fN aY))),?_⟩;have sz:(10000:Nat)<=sizeLine:=by rw[sizeLine_eq];omega
 refine⟨_,rfl,n,rfl,np.nl,λH1 g1=>⟨_,rfl,?_⟩⟩;rw[np.Zhj];refine cz ?_;refine⟨_,rfl,by show 2<=sizeLine;omega,λp H2 sL g2 hp=>⟨p,_,rfl,.inr (aA.of hp),rfl,rfl,_,rfl,?_⟩⟩;have so:dI (.str s) [.str "man",.str "woman"]=true:=np.side;dsimp only;rw[if_pos rfl,so];refine cz (aX ?_);have g:=g1.trans g2;have mI:=ba.same g;obtain⟨dx,h1⟩:=mI.obj;refine⟨_,rfl,_,rfl,l.h,dx,_,rfl,h1,rfl,l,b,xs,ys,rfl,mI,λp2 H3 np3 g3 dB=>?_⟩;have fl:(b.ps.map λp=>V.str p.1).all i4=true:=by
  rw[Kn,Wr];intro p _;rfl
 refine⟨p2,_,rfl,.inl (aj.of dB),rfl,fl,_,rfl,?_⟩;try dsimp only
 have no:dI (.str n) (b.ps.map λp=>V.str p.1)=false:=by
  unfold dI;rw[List.any_map,UJ];intro p hp z;have z':(p.1==n)=true:=z;exact np.new (by rw[←eq_of_beq z'];exact Yf.mpr ⟨p,hp,rfl⟩)
 rw[if_neg Ym,no];exact cz (aX (q H3 (g.trans g3)))
theorem Xy:aR ["self","name","side"] ["self","name","side"] (aJ Cd):=⟨rfl,rfl,rfl,by decide+kernel,rfl,by decide+kernel,by decide+kernel⟩
theorem ZbL(F:aK K "person" "Hearth.person" Cd f fd)(hc:fP K C)(ow:mg "PUT_IN"=some (.int 1 t1))(CM:HasFn P w K mg base 2 "check_person" ["hearth","name","side"] (Pc C CL CJ))(n_:cq P w K mg base 10 "do_deed" C ["self","way","row","coming"] (za C CL CJ)):aH P w K mg base aM 11 f fd ["self","name","side"] (Pd C CL CJ):=by
 refine F.ok Xy (λvs H Q E h=>?_) (λaC A outer s H vs Q E hr h=>?_)
 ·obtain⟨l,b,xs,ys,n,s,rfl,_⟩:=h;rfl
 obtain⟨l,b,xs,ys,n,s,rfl,ba,ok,np,dl,q⟩:=h;refine⟨_,(ak (bY (aW CM hr (by omega) rfl (aa (pv 0) (aa (pv 1) (aa (pv 2) ae))))) (au (bY (cK n_ hr (by omega) (pv 0) (aa (dD (v:=.int (1)) rfl ow ⟨_,rfl⟩) (aa (dz (aa (pv 1) (aa (pv 2) ae))) (aa (aV (K:=K) rfl (pv 0) rfl) ae))))))),?_⟩;refine⟨_,rfl,_,rfl,_,rfl,l,b,xs,ys,n,s,rfl,ba,np,λH1 g1=>?_⟩;have cv:=ba.same g1;obtain⟨dx,h1⟩:=cv.obj;refine⟨_,rfl,l.h,dx,_,rfl,h1,rfl,_,rfl,_,rfl,by show 2<=sizeLine;decide,λr H2 nr g2 hR=>?_⟩;refine⟨_,rfl,l.h,C,dx,_,_,rfl,g2 _ _ h1,hc.cls,hc.qb,rfl,l,b,_,xs,ys,r,1,b.co,[.inr n,.inr s],rfl,cv.same g2,ok,dl,hR,.pin n s hR np.new np.lim,λl' H3 wt lG=>?_⟩;exact q l' H3 (cj.after (g1.trans g2) wt) lG
theorem vP:aR ["self","fact","number","kind","one","other"] ["self","fact"] (aJ C9):=⟨rfl,rfl,rfl,by decide+kernel,rfl,by decide+kernel,by decide+kernel⟩
theorem Zd3(F:aK K "keep" "Hearth.keep" C9 f fd)(hc:fP K C)(ow:mg "PUT_IN"=some (.int 1 t1))(Eg:HasFn P w K mg base 5 "fact_fits" ["joins","land","places","fact"] (R1 CL CJ))(og:cq P w K mg base 8 "joins" C ["self"] (zx C CL CJ))(n_:cq P w K mg base 10 "do_deed" C ["self","way","row","coming"] (za C CL CJ)):aH P w K mg base aM 11 f fd ["self","fact"] (Hh C CL CJ):=by
 refine F.ok vP (λvs H Q E h=>?_) (λaC A outer s H vs Q E hr h=>?_)
 ·obtain⟨l,b,xs,ys,fa,c,rfl,_⟩:=h;rfl
 obtain⟨l,b,xs,ys,fa,c,rfl,ba,ok,hf,nf,dl,q⟩:=h;refine⟨_,(ak (m5 (pv 1) (iD (K:=K) (n:=4) rfl rfl (bN (a8 (i:=2) vP.nd rfl (Or.inl rfl)) (bN (a8 (i:=3) vP.nd rfl (Or.inl rfl)) (bN (a8 (i:=4) vP.nd rfl (Or.inl rfl)) (bN (a8 (i:=5) vP.nd rfl (Or.inl rfl)) iC)))))) (ak (aQ (jO (fC (aW Eg hr (by omega) rfl (aa (qi og hr (by omega) (pv 0)) (aa (aV (K:=K) rfl (pv 0) rfl) (aa (aV (K:=K) rfl (pv 0) rfl) (aa (pv 1) ae))))))) fN aY) (ak (bY (cK n_ hr (by omega) (pv 0) (aa (dD (v:=.int (1)) rfl ow ⟨_,rfl⟩) (aa (pv 1) (aa (bj iY (pv 2) aL) ae))))) (au (aF (pv 2)))))),?_⟩;obtain⟨dx,h1⟩:=ba.obj;refine⟨_,rfl,fa,_,rfl,aA.of hf,rfl,_,_,rfl,bc ⟨_,_,rfl,bc ⟨_,_,rfl,bc ⟨_,_,rfl,bc ⟨rfl,?_⟩⟩⟩⟩⟩;refine⟨_,rfl,l.h,dx,_,rfl,h1,rfl,l,b,xs,ys,rfl,ba,ok,λl1 jl st H1 wt cv r1 r2 ja me len fH _=>?_⟩;obtain⟨nP,e1⟩:=cv.obj;have sF:H1 l.h=some (.ins C nP (HF l1.L l1.sd l1.pl l1.fc l1.kn l1.pr (b.co:Int) l1.dn l1.un l1.rk)):=by rw[←wt.h];exact e1
 have VJ:eQ H1 b.ps fa (b.co,c):=wt.out _ _ hf (ba.tup hf);have im:=ok.m;refine⟨_,rfl,l.h,C,nP,_,_,rfl,sF,hc.cls,hc.uz,rfl,_,rfl,l.h,C,nP,_,_,rfl,sF,hc.cls,hc.q_,rfl,_,rfl,jl,st,l1.L,l1.pl,fa,xs,ys,b.ps,b.F,b.co,c,rfl,ja,me,cv.landAt,ok.gd,cv.places,ok.nm,len,by omega,VJ,nf.fg,λ_ H2 g2=>?_,λno=>?_⟩
 ·refine⟨_,rfl,cz (aX ?_)⟩;have mI:=cv.same g2;have VL:=g2 _ _ VJ;have nz:b.co∉b.fs.map (·.1):=λz=>by
   obtain⟨p,hp,e⟩:=Yf.mp z;have:=ok.lt p hp;omega
  refine⟨_,rfl,l.h,nP,_,rfl,g2 _ _ sF,rfl,_,rfl,_,rfl,_,_,rfl,rfl,l1,b,_,xs,ys,fa,1,b.co+1,d9 b.ps b.co c,?_,mI,ok,dl,VL,.fin b.co c VL nf.fg nz nf.nk nf.np nf.lv nf.lim,λl' H3 wt3 lG=>?_⟩;·rw[wt.h];rfl
  ·exact⟨_,rfl,q l' H3 ((wt.same g2).trans wt3) lG⟩
 ·obtain⟨f0,i0,s0⟩:=nf.lv;exact absurd (s0 c (Yq _ Yk)) (no f0 ((me.iff f0).mpr ⟨by rw[len];exact i0,λc' m'=>s0 c' (Yo _ m')⟩))
theorem X4:aR ["self","number"] ["self","number"] (aJ C_):=⟨rfl,rfl,rfl,by decide+kernel,rfl,by decide+kernel,by decide+kernel⟩
theorem Zd4(F:aK K "take" "Hearth.take" C_ f fd)(hc:fP K C)(Eh:mg "TAKEN_OUT"=some (.int (-1) t1))(n_:cq P w K mg base 10 "do_deed" C ["self","way","row","coming"] (za C CL CJ)):aH P w K mg base aM 11 f fd ["self","number"] (R6 C CL CJ):=by
 refine F.ok X4 (λvs H Q E h=>?_) (λaC A outer s H vs Q E hr h=>?_)
 ·obtain⟨l,b,xs,ys,z,c,rfl,_⟩:=h;rfl
 obtain⟨l,b,xs,ys,z,c,rfl,ba,ok,m,dl,q⟩:=h;refine⟨_,(ak (aQ (jN (mO (bH hr) (pv 1) (aV (K:=K) rfl (pv 0) rfl)) (by with_unfolding_all rfl)) fN aY) (au (bY (cK n_ hr (by omega) (pv 0) (aa (dD (v:=.int (-1)) rfl Eh ⟨_,rfl⟩) (aa (dh (bH hr) (aV (K:=K) rfl (pv 0) rfl) (pv 1) (λ_ _=>rfl)) (aa (aV (K:=K) rfl (pv 0) rfl) ae))))))),?_⟩;obtain⟨dx,h1⟩:=ba.obj;obtain⟨fa,A2,cV⟩:=Qv (H:=H) (ps:=b.ps) ba.fact ok.zs m;refine⟨_,rfl,_,rfl,l.h,C,dx,_,_,rfl,h1,hc.cls,hc.uu,rfl,l.fc,some (.ref fa),rfl,qj ba.facts A2,_,rfl,cz (aX ?_)⟩;refine⟨_,rfl,l.h,dx,_,rfl,h1,rfl,_,rfl,l.h,C,dx,_,_,rfl,h1,hc.cls,hc.uu,rfl,_,rfl,l.fc,.ref fa,rfl,qj ba.facts A2,_,rfl,l.h,C,dx,_,_,rfl,h1,hc.cls,hc.qb,rfl,l,b,_,xs,ys,fa,-1,b.co,d9 b.ps z c,rfl,ba,ok,dl,cV,.uL z c cV m,λl' H3 wt lG=>?_⟩;exact q l' H3 wt lG
theorem X5:aR ["self","land"] ["self","land"] (aJ C8):=⟨rfl,rfl,rfl,by decide+kernel,rfl,by decide+kernel,by decide+kernel⟩
theorem ZcW(F:aK K "__init__" "Hearth.__init__" C8 f fd)(hc:fP K C):aH P w K mg base aM 1 f fd ["self","land"] (QE C CL CJ):=by
 refine F.ok X5 (λvs H Q E h=>?_) (λaC A outer s H vs Q E hr h=>?_)
 ·obtain⟨x,dx,L,xs,ys,rfl,_⟩:=h;rfl
 obtain⟨x,dx,L,xs,ys,rfl,hx,la,q⟩:=h;refine⟨_,(ak (gv (K:=K) rfl (pv 0) (pv 1)) (ak (gv (K:=K) rfl (pv 0) pY) (ak (gv (K:=K) rfl (pv 0) pY) (ak (gv (K:=K) rfl (pv 0) pY) (ak (gv (K:=K) rfl (pv 0) NC) (ak (gv (K:=K) rfl (pv 0) NC) (ak (gv (K:=K) rfl (pv 0) aL) (ak (gv (K:=K) rfl (pv 0) (de ae)) (ak (gv (K:=K) rfl (pv 0) (de ae)) (au (gv (K:=K) rfl (pv 0) lQ))))))))))),?_⟩;refine⟨_,rfl,_,rfl,x,C,dx,[],rfl,hx,hc.cls,hc.uz,by show 0<1000;omega,λH1 b1 h1=>?_⟩;refine λsd H2 n2 g2 e2=>⟨_,rfl,x,C,dx,_,rfl,g2 _ _ h1,hc.cls,hc.rh,by show 1<1000;omega,λH3 b3 h3=>?_⟩;refine λpl H4 n4 g4 e4=>⟨_,rfl,x,C,dx,_,rfl,g4 _ _ h3,hc.cls,hc.q_,by show 2<1000;omega,λH5 b5 h5=>?_⟩;refine λfc H6 n6 g6 e6=>⟨_,rfl,x,C,dx,_,rfl,g6 _ _ h5,hc.cls,hc.uu,by show 3<1000;omega,λH7 b7 h7=>?_⟩;refine λkn H8 n8 g8 e8=>⟨_,rfl,x,C,dx,_,rfl,g8 _ _ h7,hc.cls,hc.zr,by show 4<1000;omega,λH9 b9 h9=>?_⟩;refine λpr mC pA sV ka=>⟨_,rfl,x,C,dx,_,rfl,sV _ _ h9,hc.cls,hc.uc,by show 5<1000;omega,λxF sW h11=>?_⟩;refine⟨_,rfl,x,C,dx,_,rfl,h11,hc.cls,hc.qb,by show 6<1000;omega,λvy sX Ax=>?_⟩;refine⟨by show 0<=sizeLine;exact Yw _,λdn Ay qL dw VM=>⟨_,rfl,x,C,dx,_,rfl,dw _ _ Ax,hc.cls,hc.RZ,by show 7<1000;omega,λqH qM VN=>?_⟩⟩;refine⟨by show 0<=sizeLine;exact Yw _,λun Kc mE VO e15=>⟨_,rfl,x,C,dx,_,rfl,VO _ _ VN,hc.cls,hc.O2,by show 8<1000;omega,λU0 b16 h16=>?_⟩⟩;refine⟨_,rfl,x,C,dx,_,rfl,h16,hc.cls,hc.iy,by show 9<1000;omega,λpJ b17 VP=>?_⟩;rw[Zg_] at VP;have VQ:aw x Kc pJ:=b16.trans b17;have VR:aw x Ay pJ:=qM.trans ((aw.of VO).trans VQ);have VS:aw x mC pJ:=sW.trans (sX.trans ((aw.of dw).trans VR));have j8:aw x H8 pJ:=b9.trans ((aw.of sV).trans VS);have j6:aw x H6 pJ:=b7.trans ((aw.of g8).trans j8);have j4:aw x H4 pJ:=b5.trans ((aw.of g6).trans j6);have j2:aw x H2 pJ:=b3.trans ((aw.of g4).trans j4);have j0:aw x H pJ:=b1.trans ((aw.of g2).trans j2);have i3:aw x H H3:=b1.trans ((aw.of g2).trans b3);have i5:aw x H H5:=i3.trans ((aw.of g4).trans b5);have i7:aw x H H7:=i5.trans ((aw.of g6).trans b7);have i9:aw x H H9:=i7.trans ((aw.of g8).trans b9);have i12:aw x H vy:=i9.trans ((aw.of sV).trans (sW.trans sX));have i14:aw x H qH:=i12.trans ((aw.of dw).trans qM);have fr:∀{a:Addr} {H':Hp},aw x H H'->a≠x->H' a=none->H a=none:=λ{a H'} k d n=>by
  cases e:H a with
  |none=>rfl
  |some o=>rw[k a o e d] at n;cases n
 have d2:sd≠x:=λz=>by rw[z,h1] at n2;cases n2
 have d4:pl≠x:=λz=>by rw[z,h3] at n4;cases n4
 have d6:fc≠x:=λz=>by rw[z,h5] at n6;cases n6
 have d8:kn≠x:=λz=>by rw[z,h7] at n8;cases n8
 have A4:pr≠x:=λz=>by rw[z,h9] at pA;cases pA
 have K4:dn≠x:=λz=>by rw[z,Ax] at qL;cases qL
 have VT:un≠x:=λz=>by rw[z,VN] at mE;cases mE
 have ne:∀{a c:Addr} {Ha Hc:Hp} {o:HO},Ha a=some o->aw x Ha Hc->a≠x->Hc c=none->a≠c:=λ{a c Ha Hc o} e k d n z=>by rw[←z,k a o e d] at n;cases n
 have k24:aw x H2 H3:=b3;have VU:aw x H2 H5:=b3.trans ((aw.of g4).trans b5);have VW:aw x H2 H7:=VU.trans ((aw.of g6).trans b7);have Ua:aw x H2 H9:=VW.trans ((aw.of g8).trans b9);have Ub:aw x H2 vy:=Ua.trans ((aw.of sV).trans (sW.trans sX));have Zhk:aw x H2 qH:=Ub.trans ((aw.of dw).trans qM);have VX:aw x H4 H7:=b5.trans ((aw.of g6).trans b7);have Uc:aw x H4 H9:=VX.trans ((aw.of g8).trans b9);have Ud:aw x H4 vy:=Uc.trans ((aw.of sV).trans (sW.trans sX));have Zhl:aw x H4 qH:=Ud.trans ((aw.of dw).trans qM);have Ue:aw x H6 H9:=b7.trans ((aw.of g8).trans b9);have Ug:aw x H6 vy:=Ue.trans ((aw.of sV).trans (sW.trans sX));have Zhm:aw x H6 qH:=Ug.trans ((aw.of dw).trans qM);have Uh:aw x H8 vy:=b9.trans ((aw.of sV).trans (sW.trans sX));have Zhn:aw x H8 qH:=Uh.trans ((aw.of dw).trans qM);have S4:aw x mC vy:=sW.trans sX;have Zgq:aw x mC qH:=S4.trans ((aw.of dw).trans qM);let l:BL:=⟨x,L,sd,pl,fc,kn,pr,dn,un,.ay,[],[],[],[]⟩;have A5:∀a∈l.fp,a≠x->H a=none:=λa ha na=>by
  have qJ:a∈[x,sd,pl,fc,kn,pr,dn,un]:=by
   have:l.fp=[x,sd,pl,fc,kn,pr,dn,un]:=rfl;rw[this] at ha;exact ha
  simp only[Yt,Y3,or_false] at qJ;rcases qJ with rfl|rfl|rfl|rfl|rfl|rfl|rfl|rfl;·exact absurd rfl na
  ·exact fr b1 na n2
  ·exact fr i3 na n4
  ·exact fr i5 na n6
  ·exact fr i7 na n8
  ·exact fr i9 na pA
  ·exact fr i12 na qL
  ·exact fr i14 na mE
 refine q l pJ rfl A5 j0 ⟨⟨dx,VP⟩,λH' o=>?_,j2 _ _ e2 d2,j4 _ _ e4 d4,j6 _ _ e6 d6,.nil,j8 _ _ e8 d8,VS _ _ ka A4,VR _ _ VM K4,.nil,VQ _ _ e15 VT,.nil,.no rfl rfl,?_⟩
 ·refine la.free (fp:=l.fp) (λa ha=>?_) λa u e na=>o _ _ (j0 _ _ e λz=>na (by rw[z];exact Yk)) na;by_cases z:a=x;·rw[z];exact .inr ⟨C,dx,hx⟩
  ·exact .inl (A5 a ha z)
 ·show[x,sd,pl,fc,kn,pr,dn,un].Nodup;simp only[Yy,Yt,Y3,or_false,not_or,not_false_eq_true,Ws,and_true];exact⟨⟨d2.symm,d4.symm,d6.symm,d8.symm,A4.symm,K4.symm,VT.symm⟩,⟨ne e2 k24 d2 n4,ne e2 VU d2 n6,ne e2 VW d2 n8,ne e2 Ua d2 pA,ne e2 Ub d2 qL,ne e2 Zhk d2 mE⟩,⟨ne e4 b5 d4 n6,ne e4 VX d4 n8,ne e4 Uc d4 pA,ne e4 Ud d4 qL,ne e4 Zhl d4 mE⟩,⟨ne e6 b7 d6 n8,ne e6 Ue d6 pA,ne e6 Ug d6 qL,ne e6 Zhm d6 mE⟩,⟨ne e8 b9 d8 pA,ne e8 Uh d8 qL,ne e8 Zhn d8 mE⟩,⟨ne ka S4 A4 qL,ne ka Zgq A4 mE⟩,ne VM qM K4 mE⟩
end
def strOf:V->Str
 |.str s=>s
 |_=>""
def fX(b:BS)(a:Str):List Str:=(oH b a).map strOf
inductive fT(b:BS)(a:Str):Str->Prop
 |refl:fT b a a
 |step {x y:Str}:fT b a x->y∈fX b x->fT b a y
theorem QF(ok:cH xs ys b)(h:aS (cB b.ps b.fs) [.inr k,.inr a]=some v):∃p∈b.fs,cO p.2.k=true/\p.2.k=k/\aq b.ps p.2.one=a/\v=.str (aq b.ps p.2.aE.toNat)/\p.2.aE.toNat<b.ps.length:=by
 have m:([.inr k,.inr a],v)∈cB b.ps b.fs:=by
  unfold aS at h;cases ef:(cB b.ps b.fs).find? λkv=>decide (kv.1=[.inr k,.inr a]) with
  |none=>grind
  |some q=>grind
 obtain⟨p,hp,e⟩:=Yf.mp m;obtain⟨pC,dB⟩:=Yz.mp hp;injection e with e1 e2;injection e1 with e3 e4;injection e4 with e5 _;have ns:p.2.k≠bG:=λz=>by
  rw[z] at dB;exact absurd dB (by decide+kernel)
 refine⟨p,pC,dB,Wj e3,Wj e5,?_,((ok.fg p pC).ok.gf ns).1.2⟩;rw[←e2,iz ns];rfl
theorem Nf(ok:cH xs ys b)(a:Str):oH b a=(fX b a).map V.str/\(∀s∈fX b a,s∈b.ps.map (·.1))/\(fX b a).length<=2:=by
 have all:∀v∈oH b a,∃s,v=.str s/\s∈b.ps.map (·.1):=λv hv=>by
  obtain⟨k,_,e⟩:=Jg.mp hv;obtain⟨p,_,_,_,_,e2,l⟩:=QF ok e;exact⟨_,e2,GC l⟩
 refine⟨?_,λs hs=>?_,?_⟩
 ·unfold fX;rw[Wc];refine(List.map_id _).symm.trans (Wn λv hv=>?_);obtain⟨s,rfl,_⟩:=all v hv;rfl
 ·obtain⟨v,hv,rfl⟩:=Yf.mp hs;obtain⟨s,rfl,m⟩:=all v hv;exact m
 ·unfold fX oH
  grind
def ik(ks:List Str)(as:List Addr):List (Key×V):=(ks.zip as).map λp=>(.inr p.1,.ref p.2)
theorem Pg:∀{ks:List Str} {as:List Addr},ks.length=as.length->(ik ks as).map (·.1)=ks.map Sum.inr
 |[],[],_=>rfl
 |k::ks,a::as,h=>by
  have e0:ik (k::ks) (a::as)=(Sum.inr k,V.ref a)::ik ks as:=rfl;rw[e0,Wl,Pg (by simpa using h)];rfl
 |[],_::_,h=>rfl
 |_::_,[],h=>by simp at h
theorem Ph:∀{ks:List Str} {as:List Addr} (k:Str) (a:Addr),ks.length=as.length->ik ks as++[(.inr k,.ref a)]=ik (ks++[k]) (as++[a])
 |[],[],_,_,_=>rfl
 |q::ks,c::as,k,a,h=>by
  have e0:ik (q::ks) (c::as)=(Sum.inr q,V.ref c)::ik ks as:=rfl;rw[e0,UY,Ph k a (by simpa using h)];rfl
 |[],_::_,_,_,h=>by simp at h
 |_::_,[],_,_,h=>by simp at h
theorem GF:∀{ks:List Str} {as:List Addr} {k:Str},ks.length=as.length->k∈ks->∃a∈as,aS (ik ks as) (.inr k)=some (.ref a)
 |[],_,_,_,h=>by cases h
 |q::ks,c::as,k,hl,h=>by
  have e0:ik (q::ks) (c::as)=(Sum.inr q,V.ref c)::ik ks as:=rfl;rw[e0];by_cases e:q=k;·exact⟨c,Yk,fO (by rw[e])⟩
  ·rcases Yt.mp h with h|h;·grind
   ·obtain⟨a,m,v⟩:=GF (by simpa using hl) h;exact⟨a,Yv _ m,by rw[fq (λz=>e (Wj z))];exact v⟩
 |_::_,[],_,h,_=>by simp at h
theorem F4(hl:ks.length=as.length)(h:k∉ks):aS (ik ks as) (.inr k)=none:=pR (by
 rw[Pg hl];intro z;obtain⟨q,hq,e⟩:=Yf.mp z;exact h (by rw[←Wj e];exact hq))
structure qy(H H6:Hp)(ln:Addr)(ks:List Str)(as:List Addr):Prop where
 same:ah H H6
 at_:H6 ln=some (.dK (ik ks as))
 len:ks.length=as.length
 lst:∀a∈as,∃us:List V,H6 a=some (.lst us)/\us.length<=ks.length/\a≠ln
 nd:ks.Nodup
theorem Fu{xs ys:List Int}{b:BS}(ok:cH xs ys b){ks:List Str}(nd:ks.Nodup)(sub:∀k∈ks,k∈b.ps.map (·.1)):ks.length<=b.ps.length:=by
 have:=nd.length_le_of_subset sub
 grind
theorem zb(ok:cH xs ys b)(ma:a∈b.ps.map (·.1))(h:fT b a z):z∈b.ps.map (·.1):=by
 cases h with
 |refl=>exact ma
 |step _ m=>exact(Nf ok _).2.1 _ m
inductive Pj(C CL CJ:Addr)(vs:List V)(H:Hp)(Q:VK):Prop
 |mk (l:BL) (b:BS) (xs ys:List Int) (a:Str) (aB:vs=[.ref l.h,.str a]) (ba:bw H C CL CJ l xs ys b) (ok:cH xs ys b) (ma:a∈b.ps.map (·.1)) (q:∀(p:Addr) (ks:List Str) (as:List Addr) (H':Hp),qy H H' p ks as->(∀z,z∈ks↔fT b a z)->Q (.ref p) H'):Pj C CL CJ vs H Q
def QG(C CL CJ:Addr):Sp:=λvs H Q _=>Pj C CL CJ vs H Q
def xm(ln:Addr)(N:Nat):St->Hp->Nat:=λσ H=>(match H ln with|some (.dK kvs)=>2*(N-kvs.length)|_=>0)+(match List.getD (α:=Option V) σ 3 none with|some (V.ref nw)=>(match H nw with|some (.lst (_::_))=>1|_=>0)|_=>0)
inductive VY(H:Hp)(b:BS)(a:Str)(h ln:Addr)(σ:St)(H6:Hp):Prop
 |mk (ks ns:List Str) (as:List Addr) (nw:Addr) (o4 o5 o6:Option V) (la:qy H H6 ln ks as) (hn:H6 nw=some (.lst (ns.map V.str))) (nn:nw≠ln) (sub:∀k∈ns,k∈ks) (cl:∀k∈ks,k∉ns->∀p∈fX b k,p∈ks) (sd:∀k∈ks,fT b a k) (ma:a∈ks) (sJ:ns.length<=64) (e:σ=[some (.ref h),some (.str a),some (.ref ln),some (.ref nw),o4,o5,o6]):VY H b a h ln σ H6
inductive K5(H:Hp)(b:BS)(a:Str)(h ln nw fu:Addr)(qN ns:List Str)(j:Nat)(σ:St)(H6:Hp):Prop
 |mk (ks fs:List Str) (as:List Addr) (o5 o6:Option V) (la:qy H H6 ln ks as) (hn:H6 nw=some (.lst (ns.map V.str))) (hf:H6 fu=some (.lst (fs.map V.str))) (nn:nw≠ln/\fu≠ln/\fu≠nw) (af:fu∉as) (ek:ks=qN++fs) (cl:∀k∈ns.take j,∀p∈fX b k,p∈ks) (sd:∀k∈ks,fT b a k) (e:σ=[some (.ref h),some (.str a),some (.ref ln),some (.ref nw),some (.ref fu),o5,o6]):K5 H b a h ln nw fu qN ns j σ H6
inductive VZ(H:Hp)(b:BS)(a:Str)(h ln nw fu:Addr)(qN ns:List Str)(j:Nat)(one:Str)(pl:Addr)(i:Nat)(σ:St)(H6:Hp):Prop
 |mk (ks fs:List Str) (as:List Addr) (o6:Option V) (la:qy H H6 ln ks as) (hn:H6 nw=some (.lst (ns.map V.str))) (hf:H6 fu=some (.lst (fs.map V.str))) (hp:H6 pl=some (.lst ((fX b one).map V.str))) (nn:nw≠ln/\fu≠ln/\fu≠nw/\pl≠ln/\pl≠fu) (af:fu∉as) (ek:ks=qN++fs) (cl:∀k∈ns.take j,∀p∈fX b k,p∈ks) (cp:∀p∈(fX b one).take i,p∈ks) (sd:∀k∈ks,fT b a k) (e:σ=[some (.ref h),some (.str a),some (.ref ln),some (.ref nw),some (.ref fu),some (.str one),o6]):VZ H b a h ln nw fu qN ns j one pl i σ H6
section
theorem q0:aR ["hearth","name","lines","newest","further","one","parent"] ["hearth","name"] (aJ EB):=⟨rfl,rfl,rfl,by decide+kernel,rfl,by decide+kernel,by decide+kernel⟩
theorem Z1(F:aK K "lines_up" "lines_up" EB f fd)(Bz:cq P w K mg base 1 "parents_of" C ["self","name"] (MH C CL CJ)):aH P w K mg base aM 2 f fd ["hearth","name"] (QG C CL CJ):=by
 refine F.ok q0 (λvs H Q E h=>?_) (λaC A outer s H vs Q E hr h=>?_)
 ·obtain⟨l,b,xs,ys,a,rfl,_⟩:=h;rfl
 obtain⟨l,b,xs,ys,a,rfl,ba,ok,ma,q⟩:=h;refine⟨_,(ak (a_ (i:=2) q0.nd rfl (Or.inl rfl) (zk (jK (pv 1) (de (aa (pv 1) ae)) zh) rfl rfl (λz=>nomatch z) (Jl rfl))) (ak (a_ (i:=3) q0.nd rfl (Or.inl rfl) (de (aa (pv 1) ae))) (ak (yW PassesOwn.never (NL (K:=K) rfl (Ol (pv 3) (λ_=>rfl))) (ak (a_ (i:=4) q0.nd rfl (Or.inl rfl) (de ae)) (ak (eY PassesOwn.never rfl (d_ (K:=K) rfl (pv 3)) (a8 (i:=5) q0.nd rfl (Or.inl rfl)) (au (eY PassesOwn.never rfl (d_ (K:=K) rfl (cK Bz hr (by omega) (pv 0) (aa (pv 5) ae))) (a8 (i:=6) q0.nd rfl (Or.inl rfl)) (au (aQ (jN (mO (bH hr) (pv 6) (pv 2)) (by with_unfolding_all rfl)) (ak (ot (bH hr) (pv 2) (pv 6) (bj wk (dh (bH hr) (pv 2) (pv 5) (λ_ _=>rfl)) (de (aa (pv 6) ae)))) (au (bY (hX (K:=K) rfl (fQ plainAttrs_list PySem.F.slot_list_append PySem.F.type_list_append iu (pv 4) (aa (pv 6) ae)))))) aY))))) (au (a_ (i:=3) q0.nd rfl (Or.inl rfl) (pv 4)))))) (au (aF (pv 2)))))),?_⟩;have sz:(10000:Nat)<=sizeLine:=by rw[sizeLine_eq];omega
 have im:=ok.m;refine bW ?_;refine λln V0=>⟨_,rfl,_,rfl,by show 1<=sizeLine;omega,λll H0 V1 g0 hll=>?_⟩;refine⟨g0 _ _ aZ,[(.inr a,.ref ll)],rfl,(by show 1<=15;omega),?_⟩;obtain⟨H1,qO⟩:∃H1,H1=upd H0 ln (.dK (oG [] [(.inr a,.ref ll)])):=⟨_,rfl⟩;rw[←qO];have V2:ll≠ln:=λz=>by rw[z,aZ] at V1;cases V1
 have g1:ah H H1:=λc o e=>by
  have nc:=bQ e V0;rw[qO,a9 nc];exact g0 _ _ (by rw[a9 nc];exact e)
 have V3:qy H H1 ln [a] [ll]:=⟨g1,by rw[qO,aZ];rfl,rfl,λc hc=>by
  rw[Ye.mp hc];exact⟨[.str a],by rw[qO,a9 V2];exact hll,Yd _,V2⟩,by simp⟩
 refine bW ?_;refine⟨_,rfl,by show 1<=sizeLine;omega,λnw H2 V4 g2 hnw=>?_⟩;have V5:nw≠ln:=λz=>by rw[z,V3.at_] at V4;cases V4
 have Ie:∀{Ha Hb:Hp} {ks:List Str} {as:List Addr},qy H Ha ln ks as->ah Ha Hb->qy H Hb ln ks as:=λla g=>⟨la.same.trans g,g _ _ la.at_,la.len,λc hc=>by obtain⟨us,e,z,n⟩:=la.lst c hc;exact⟨us,g _ _ e,z,n⟩,la.nd⟩;refine fw (λσ H6=>∃ks as,qy H H6 ln ks as/\(∀z,z∈ks↔fT b a z)/\∃o3 o4 o5 o6:Option V,σ=[some (.ref l.h),some (.str a),some (.ref ln),o3,o4,o5,o6]) (λlE d5=>?_) ?_
 ·refine yX (VY H b a l.h ln) (xm ln 100) ⟨[a],[a],[ll],nw,none,none,none,Ie V3 g2,hnw,V5,λ_ h=>h,λk hk no=>absurd hk no,λk hk=>by rw[Ye.mp hk];exact .refl,Yk,by show 1<=64;omega,rfl⟩ ?_ ?_
  ·rintro σ H6 ⟨ks,ns,as,nw,o4,o5,o6,la,hn,nn,sub,cl,sd,V6,sJ,rfl⟩;have kf:ks.length<=64:=Y4 (Fu ok la.nd λk hk=>zb ok ma (sd k hk)) im;refine⟨_,rfl,_,.inl ⟨_,aj.of hn,rfl⟩,?_⟩;refine bB (λc=>?_) (λc=>?_)
   ·have Zho:ns≠[]:=λz=>by rw[z] at c;cases c
    have mu0:xm ln 100 [some (.ref l.h),some (.str a),some (.ref ln),some (.ref nw),o4,o5,o6] H6=2*(100-ks.length)+1:=by
     unfold xm;have kl:(ik ks as).length=ks.length:=by unfold ik;rw[Ya,W6];have:=la.len;omega
     have g3:List.getD (α:=Option V) [some (.ref l.h),some (.str a),some (.ref ln),some (.ref nw),o4,o5,o6] 3 none=some (.ref nw):=rfl;rw[la.at_,g3];dsimp only;rw[hn,kl];cases ns with
     |nil=>exact absurd rfl Zho
     |cons x r=>rfl
    refine bW ?_;refine⟨by show 0<=sizeLine;exact Yw _,λfu H7 vA g7 hfu=>?_⟩;have xS:=Ie la g7;have fln:fu≠ln:=λz=>by rw[z,la.at_] at vA;cases vA
    have fnw:fu≠nw:=λz=>by rw[z,hn] at vA;cases vA
    refine fw (K5 H b a l.h ln nw fu ks ns ns.length) (λyd lH=>?_) ?_
    ·refine⟨_,rfl,nw,rfl,⟨_,aj.of (g7 _ _ hn)⟩,hJ (K:=K) (a:=nw) (xs:=ns.map V.str) (K5 H b a l.h ln nw fu ks ns) ⟨ks,[],as,o5,o6,xS,g7 _ _ hn,hfu,⟨nn,fln,fnw⟩,(λz=>by obtain⟨us,e,_⟩:=la.lst _ z;rw[vA] at e;cases e),by rw[Y5],λk hk=>(by rw[List.take_zero] at hk;cases hk),sd,rfl⟩ (λj σ H8 _ ⟨_,_,_,_,_,_,h,_,_,_,_,_,_,_⟩=>aj.of h) ?_ ?_⟩
     ·rintro j v σ H8 hj ⟨eV,fs,A6,p5,p6,qQ,V7,jF,ye,V8,ek,eW,A7,rfl⟩;rw[Yl] at hj;obtain⟨one,e1,rfl⟩:∃one,ns[j]?=some one/\V.str one=v:=by
       cases z:ns[j]? with
       |none=>rw[z] at hj;cases hj
       |some o=>rw[z] at hj;exact⟨o,rfl,Yp hj⟩
      have K6:ns.take (j+1)=ns.take j++[one]:=by rw[Y0,e1];rfl
      have ZhT:one∈eV:=by rw[ek];exact Yo _ (sub _ (Yh e1))
      have V9:=ba.same qQ.same;obtain⟨dx8,h8⟩:=V9.obj;obtain⟨pe,pin,KD⟩:=Nf ok one;refine bc ?_;refine⟨_,rfl,l.h,dx8,_,rfl,h8,rfl,_,rfl,l,b,xs,ys,one,rfl,V9,λpl H9 A8 g9 dt=>?_⟩;rw[pe] at dt;have pln:pl≠ln:=λz=>by rw[z,qQ.at_] at A8;cases A8
      have plf:pl≠fu:=λz=>by rw[z,jF] at A8;cases A8
      refine⟨pl,rfl,⟨_,aj.of dt⟩,hJ (K:=K) (a:=pl) (xs:=(fX b one).map V.str) (VZ H b a l.h ln nw fu ks ns j one pl) ⟨eV,fs,A6,p6,Ie qQ g9,g9 _ _ V7,g9 _ _ jF,dt,⟨ye.1,ye.2.1,ye.2.2,pln,plf⟩,V8,ek,eW,λp hp=>(by rw[List.take_zero] at hp;cases hp),A7,rfl⟩ (λi σ HA _ ⟨_,_,_,_,_,_,_,h,_,_,_,_,_,_,_⟩=>aj.of h) ?_ ?_⟩
      ·rintro i v σ HA hi ⟨jG,yf,A9,q6,gk,A_,nS,K7,kr,yg,vB,Ba,yh,vC,rfl⟩;rw[Yl] at hi;obtain⟨par,e2,rfl⟩:∃par,(fX b one)[i]?=some par/\V.str par=v:=by
        cases z:(fX b one)[i]? with
        |none=>rw[z] at hi;cases hi
        |some o=>rw[z] at hi;exact⟨o,rfl,Yp hi⟩
       have mp:=Yh e2;have V_:(fX b one).take (i+1)=(fX b one).take i++[par]:=by rw[Y0,e2];rfl
       have Ui:one∈jG:=by rw[vB];exact Yo _ (sub _ (Yh e1))
       have kf9:jG.length<=64:=Y4 (Fu ok gk.nd λk hk=>zb ok ma (vC k hk)) im;refine bc ?_;by_cases sD:par∈jG
       ·obtain⟨ap,_,vp⟩:=GF gk.len sD;refine⟨_,rfl,_,rfl,ln,some (.ref ap),rfl,c5 gk.at_ vp,_,rfl,cz (aX ?_)⟩;refine⟨jG,yf,A9,_,gk,A_,nS,K7,kr,yg,vB,Ba,λp hp=>?_,vC,rfl⟩;rw[V_] at hp;rcases Yr.mp hp with hp|hp;·exact yh p hp
        ·rw[Ye.mp hp];exact sD
       ·obtain⟨ao,mao,vo⟩:=GF gk.len Ui;obtain⟨us,K8,ul,aon⟩:=gk.lst ao mao;refine⟨_,rfl,_,rfl,ln,none,rfl,c5 gk.at_ (F4 gk.len sD),_,rfl,c8 ?_⟩;refine⟨_,rfl,_,rfl,ln,.ref ao,rfl,c5 gk.at_ vo,_,rfl,by show 1<=sizeLine;omega,λe1l HB neb gB heB=>?_⟩;refine⟨ao,e1l,us,_,rfl,rfl,gB _ _ K8,heB,by show us.length+1<=sizeLine;omega,λnl HC K9 gC hnl=>?_⟩;have WA:=gB.trans gC;refine⟨_,rfl,_,rfl,ln,_,.inr par,rfl,WA _ _ gk.at_,rfl,?_,λHD bD eD=>?_⟩;·unfold ik;rw[Ya,W6];omega
        rw[kJ _ (F4 gk.len sD),Ph par nl gk.len] at eD;have Uj:nl≠ln:=λz=>by rw[z,gB _ _ gk.at_] at K9;cases K9
        have kD:∀{c:Addr} {o:HO},HA c=some o->c≠ln->HD c=some o:=λ{c o} e n=>bD _ _ (WA _ _ e) n;have WB:HA nl=none:=gB.free K9;refine⟨_,rfl,.inl ⟨rfl,_,aj.of (kD nS kr.2.1)⟩,_,rfl,fu,_,_,rfl,rfl,kD nS kr.2.1,?_,λHE bE eE=>?_⟩
        ·rw[Ya];have:yf.length<=jG.length:=by rw[vB,Yi];omega
         omega
        have kE:∀{c:Addr} {o:HO},HA c=some o->c≠ln->c≠fu->HE c=some o:=λ{c o} e n1 n2=>bE _ _ (kD e n1) n2;have Uk:nl≠fu:=λz=>by rw[z,nS] at WB;cases WB
        refine⟨jG++[par],yf++[par],A9++[nl],_,⟨λc o e=>?_,bE _ _ eD (λz=>kr.2.1 z.symm),by rw[Yi,Yi,gk.len];rfl,λc hc=>?_,?_⟩,kE A_ kr.1 (λz=>kr.2.2.1 z.symm),?_,kE K7 kr.2.2.2.1 kr.2.2.2.2,kr,(λz=>by rcases Yr.mp z with z|z;exact yg z;exact Uk (Ye.mp z).symm),by rw[vB,W4],λk hk p hp=>Yo _ (Ba k hk p hp),λp hp=>?_,λk hk=>?_,rfl⟩
        ·have nc:=bQ e V0;have ncf:c≠fu:=bQ e ((la.same.free vA));exact kE (gk.same _ _ e) nc ncf
        ·rcases Yr.mp hc with hc|hc
         ·obtain⟨us',e',z',n'⟩:=gk.lst c hc;have cf:c≠fu:=λz=>yg (by rw[←z];exact hc);exact⟨us',kE e' n' cf,by rw[Yi];omega,n'⟩
         ·rw[Ye.mp hc];exact⟨us++[.str par],bE _ _ (bD _ _ hnl Uj) Uk,by rw[Yi,Yi];show us.length+1<=jG.length+1;omega,Uj⟩
        ·refine Wg.mpr ⟨gk.nd,by simp,λu hu v hv z=>?_⟩;have:v=par:=by simpa using hv
         exact sD (by rw[←this,←z];exact hu)
        ·rw[eE,Yj];rfl
        ·rw[V_] at hp;rcases Yr.mp hp with hp|hp;·exact Yo _ (yh p hp)
         ·rw[Ye.mp hp];exact Yq _ Yk
        ·rcases Yr.mp hk with hk|hk;·exact vC k hk
         ·rw[Ye.mp hk];exact .step (vC one Ui) mp
      ·rintro σ HA ⟨jG,yf,A9,q6,gk,A_,nS,K7,kr,yg,vB,Ba,yh,vC,rfl⟩;rw[Ya,We] at yh;refine⟨jG,yf,A9,_,_,gk,A_,nS,⟨kr.1,kr.2.1,kr.2.2.1⟩,yg,vB,λk hk=>?_,vC,rfl⟩;rw[K6] at hk;rcases Yr.mp hk with hk|hk;·exact Ba k hk
       ·rw[Ye.mp hk];exact yh
     ·rintro σ H8 h8;rw[Ya] at h8;exact lH _ _ h8
    ·rintro σ H8 ⟨eV,fs,A6,p5,p6,qQ,V7,jF,ye,V8,ek,eW,A7,rfl⟩;rw[We] at eW;refine⟨_,rfl,?_⟩;have kf8:eV.length<=64:=Y4 (Fu ok qQ.nd λk hk=>zb ok ma (A7 k hk)) im;have WC:eV.length=ks.length+fs.length:=by rw[ek,Yi]
     refine⟨⟨eV,fs,A6,fu,_,_,_,qQ,jF,ye.2.1,λk hk=>by rw[ek];exact Yq _ hk,λk hk no p hp=>?_,A7,by rw[ek];exact Yo _ V6,by omega,rfl⟩,?_⟩
     ·rw[ek] at hk;rcases Yr.mp hk with hk|hk
      ·by_cases z:k∈ns;·exact eW k z p hp
       ·rw[ek];exact Yo _ (cl k hk z p hp)
      ·exact absurd hk no
     ·rw[mu0];show xm ln 100 [some (.ref l.h),some (.str a),some (.ref ln),some (.ref fu),some (.ref fu),p5,p6] H8<_;unfold xm;have kl:(ik eV A6).length=eV.length:=by unfold ik;rw[Ya,W6];have:=qQ.len;omega
      have g3:List.getD (α:=Option V) [some (.ref l.h),some (.str a),some (.ref ln),some (.ref fu),some (.ref fu),p5,p6] 3 none=some (.ref fu):=rfl;rw[qQ.at_,g3];dsimp only;rw[jF,kl];cases fs with
      |nil=>
       show 2*(100-eV.length)+0<_;have:eV.length=ks.length+0:=WC;omega
      |cons x r=>
       show 2*(100-eV.length)+1<_;have:eV.length=ks.length+(r.length+1):=WC;omega
   ·have Bb:ns=[]:=by
     cases ns with
     |nil=>rfl
     |cons x r=>exact absurd rfl c
    subst Bb;refine d5 _ _ ⟨ks,as,la,λz=>⟨λh=>sd z h,λh=>?_⟩,_,_,_,_,rfl⟩;induction h with
    |refl=>exact V6
    |step _ m ih=>exact cl _ ih (λz=>nomatch z) _ m
  ·rintro σ H6 Q1 Q2 mo ⟨v1,w1,v2,w2,h⟩;exact⟨v1,w1,v2,w2,mo _ _ h⟩
 ·rintro σ H6 ⟨ks,as,la,iff,o3,o4,o5,o6,rfl⟩;exact⟨_,rfl,q ln ks as H6 la iff⟩
end
def fI(ps:bA)(i:Nat):Str:=(ps.getD i ("","")).2
theorem oz(nd:(ps.map (·.1)).Nodup)(hi:i<ps.length):aS (gh ps) (.inr (aq ps i))=some (.str (fI ps i)):=by
 have kn:((gh ps).map (·.1)).Nodup:=by
  grind
 refine Qu kn (Yf.mpr ⟨ps[i],Jp hi,?_⟩);unfold aq fI
 grind
def kO(k h t:Str):Bool:=if k="mother" then decide (t="woman") else if k="father" then decide (t="man") else decide (k="sibling")||(decide (h="man")&&decide (t="woman"))
inductive Pk(vs:List V)(H:Hp)(Q:VK):Prop
 |mk (k h t:Str) (aB:vs=[.str k,.str h,.str t]) (q:Q (.bl (kO k h t)) H):Pk vs H Q
def QH:Sp:=λvs H Q _=>Pk vs H Q
structure R7(b:BS)(k a:Str)(o:Str):Prop where
 par:cO k=true->[.inr k,.inr a]∉(cB b.ps b.fs).map (·.1)
 aE:cO k=false->keyOf k a (.inr o)∉b.keys/\¬(k="sibling"/\a=o)
inductive QI(C CL CJ:Addr)(vs:List V)(H:Hp)(Q:VK):Prop
 |mk (l:BL) (b:BS) (xs ys:List Int) (k a o:Str) (aB:vs=[.ref l.h,.str k,.str a,.str o]) (ba:bw H C CL CJ l xs ys b) (un:R7 b k a o) (q:∀H',ah H H'->Q (.bl false) H'):QI C CL CJ vs H Q
def R8(C CL CJ:Addr):Sp:=λvs H Q _=>QI C CL CJ vs H Q
inductive N9(C CL CJ:Addr)(vs:List V)(H:Hp)(Q:VK):Prop
 |mk (l:BL) (b:BS) (xs ys:List Int) (ch pa:Str) (aB:vs=[.ref l.h,.str ch,.str pa]) (ba:bw H C CL CJ l xs ys b) (ok:cH xs ys b) (mp:pa∈b.ps.map (·.1)) (no:¬fT b pa ch) (q:∀H',ah H H'->Q .ay H'):N9 C CL CJ vs H Q
def Pl(C CL CJ:Addr):Sp:=λvs H Q _=>N9 C CL CJ vs H Q
structure Ig(xs ys:List Int)(b:BS)(c:Fc):Prop where
 nf:z_ xs ys b c
 ns:c.k≠bG
 cY:kO c.k (fI b.ps c.one) (fI b.ps c.aE.toNat)=true
 un:R7 b c.k (aq b.ps c.one) (aq b.ps c.aE.toNat)
 el:cO c.k=true->¬fT b (aq b.ps c.aE.toNat) (aq b.ps c.one)
inductive N_(C CL CJ:Addr)(vs:List V)(H:Hp)(Q:VK):Prop
 |mk (l:BL) (b:BS) (xs ys:List Int) (c:Fc) (aB:vs=[.ref l.h,.str c.k,.str (aq b.ps c.one),.str (aq b.ps c.aE.toNat)]) (ba:bw H C CL CJ l xs ys b) (ok:cH xs ys b) (to:Ig xs ys b c) (q:∀H',ah H H'->Q .ay H'):N_ C CL CJ vs H Q
def Pm(C CL CJ:Addr):Sp:=λvs H Q _=>N_ C CL CJ vs H Q
inductive QJ(C CL CJ:Addr)(vs:List V)(H:Hp)(Q:VK):Prop
 |mk (l:BL) (b:BS) (xs ys:List Int) (c:Fc) (aB:vs=[.ref l.h,.str c.k,.str (aq b.ps c.one),.str (aq b.ps c.aE.toNat)]) (ba:bw H C CL CJ l xs ys b) (ok:cH xs ys b) (to:Ig xs ys b c) (dl:b.dn.length<200) (q:∀(l':BL) (H':Hp),cj H H' l l'->bw H' C CL CJ l' xs ys (b.wV c)->Q (.int (b.co:Int)) H'):QJ C CL CJ vs H Q
def R9(C CL CJ:Addr):Sp:=λvs H Q _=>QJ C CL CJ vs H Q
structure S5(xs ys:List Int)(b:BS)(c:Fc):Prop where
 nf:z_ xs ys b c
 sk:c.k=bG
inductive Oa(C CL CJ:Addr)(vs:List V)(H:Hp)(Q:VK):Prop
 |mk (l:BL) (b:BS) (xs ys:List Int) (c:Fc) (aB:vs=[.ref l.h,.str (aq b.ps c.one),.int c.aE]) (ba:bw H C CL CJ l xs ys b) (ok:cH xs ys b) (so:S5 xs ys b c) (q:∀H',ah H H'->Q .ay H'):Oa C CL CJ vs H Q
def Pn(C CL CJ:Addr):Sp:=λvs H Q _=>Oa C CL CJ vs H Q
inductive Ng(C CL CJ:Addr)(vs:List V)(H:Hp)(Q:VK):Prop
 |mk (l:BL) (b:BS) (xs ys:List Int) (i:Int) (aB:vs=[.ref l.h,.int i]) (ba:bw H C CL CJ l xs ys b) (hi:0<=i/\i<(xs.length:Int)) (q:∀H',ah H H'->Q .ay H'):Ng C CL CJ vs H Q
def Ob(C CL CJ:Addr):Sp:=λvs H Q _=>Ng C CL CJ vs H Q
inductive QK(C CL CJ:Addr)(vs:List V)(H:Hp)(Q:VK):Prop
 |mk (l:BL) (b:BS) (xs ys:List Int) (c:Fc) (aB:vs=[.ref l.h,.str (aq b.ps c.one),.int c.aE]) (ba:bw H C CL CJ l xs ys b) (ok:cH xs ys b) (so:S5 xs ys b c) (dl:b.dn.length<200) (q:∀(l':BL) (H':Hp),cj H H' l l'->bw H' C CL CJ l' xs ys (b.wV c)->Q (.int (b.co:Int)) H'):QK C CL CJ vs H Q
def R_(C CL CJ:Addr):Sp:=λvs H Q _=>QK C CL CJ vs H Q
theorem dM(x y:Str):decide (V.str x=V.str y)=decide (x=y):=by
 grind
section
variable {dF:Addr}
theorem Zl:aR ["kind","here","there"] ["kind","here","there"] (aJ D1):=⟨rfl,rfl,rfl,by decide+kernel,rfl,by decide+kernel,by decide+kernel⟩
theorem Zm(F:aK K "sides_fit" "sides_fit" D1 f fd)(rR:mg "MAN"=some (.str "man" t1))(rA:mg "WOMAN"=some (.str "woman" t2))(oq:mg "SIBLING"=some (.str "sibling" t3)):aH P w K mg base aM 1 f fd ["kind","here","there"] QH:=by
 refine F.ok Zl (λvs H Q E h=>?_) (λaC A outer s H vs Q E hr h=>?_)
 ·obtain⟨k,h,t,rfl,_⟩:=h;rfl
 obtain⟨k,h,t,rfl,q⟩:=h;refine⟨_,(ak (aQ (aU cg (pv 0) bC (aP _)) (au (aF (dQ cg (pv 2) (dD (v:=.str "woman") rfl rA ⟨_,rfl⟩) (aP _)))) aY) (ak (aQ (aU cg (pv 0) bC (aP _)) (au (aF (dQ cg (pv 2) (dD (v:=.str "man") rfl rR ⟨_,rfl⟩) (aP _)))) aY) (au (aF (Hs (dQ cg (pv 0) (dD (v:=.str "sibling") rfl oq ⟨_,rfl⟩) (aP _)) (lR (oC (dQ cg (pv 1) (dD (v:=.str "man") rfl rR ⟨_,rfl⟩) (aP _)) (lR (dQ cg (pv 2) (dD (v:=.str "woman") rfl rA ⟨_,rfl⟩) (aP _)))))))))),?_⟩;unfold kO at q;refine⟨_,rfl,rfl,_,rfl,?_⟩;rw[dM];refine bB (λcc=>?_) (λcc=>aX ?_)
 ·rw[if_pos (of_decide_eq_true cc)] at q;refine⟨_,rfl,rfl,?_⟩;rw[dM];exact q
 ·rw[if_neg (λz=>cc (decide_eq_true z))] at q;refine⟨_,rfl,rfl,_,rfl,?_⟩;rw[dM];refine bB (λc2=>?_) (λc2=>aX ?_)
  ·rw[if_pos (of_decide_eq_true c2)] at q;refine⟨_,rfl,rfl,?_⟩;rw[dM];exact q
  ·rw[if_neg (λz=>c2 (decide_eq_true z))] at q;refine⟨_,rfl,rfl,_,rfl,?_⟩;rw[dM];refine bB (λc3=>?_) (λc3=>?_);·grind
   ·have e3:decide (k="sibling")=false:=by
     cases e:decide (k="sibling") with
     |true=>grind
     |false=>rfl
    rw[e3,J4] at q;refine⟨_,rfl,rfl,_,rfl,?_⟩;rw[dM];refine bB (λc4=>?_) (λc4=>?_)
    ·rw[c4,Jt] at q;refine⟨_,rfl,rfl,?_⟩;rw[dM];exact q
    ·grind
theorem XM:aR ["hearth","kind","one","other"] ["hearth","kind","one","other"] (aJ CA):=⟨rfl,rfl,rfl,by decide+kernel,rfl,by decide+kernel,by decide+kernel⟩
theorem Zd5(F:aK K "told_already" "told_already" CA f fd)(oq:mg "SIBLING"=some (.str "sibling" t1))(iU:mg "PARENTS"=some (.ref dF))(qP:∀H,aA K H dF (iJ.map V.str))(BH:cq P w K mg base 1 "parent_of" C ["self","kind","name"] (Nb C CL CJ))(tQ:cq P w K mg base 2 "has" C ["self","kind","one","other"] (Ib C CL CJ)):aH P w K mg base aM 3 f fd ["hearth","kind","one","other"] (R8 C CL CJ):=by
 refine F.ok XM (λvs H Q E h=>?_) (λaC A outer s H vs Q E hr h=>?_)
 ·obtain⟨l,b,xs,ys,k,a,o,rfl,_⟩:=h;rfl
 obtain⟨l,b,xs,ys,k,a,o,rfl,ba,un,q⟩:=h;refine⟨_,(ak (aQ (aU (lu (K:=K) rfl) (pv 1) (dD (v:=.ref dF) rfl iU rfl) (by with_unfolding_all rfl)) (au (aF (dQ ze (cK BH hr (by omega) (pv 0) (aa (pv 1) (aa (pv 2) ae))) lQ (aP _)))) aY) (au (aF (Hs (cK tQ hr (by omega) (pv 0) (aa (pv 1) (aa (pv 2) (aa (pv 3) ae)))) (lR (oC (dQ cg (pv 1) (dD (v:=.str "sibling") rfl oq ⟨_,rfl⟩) (aP _)) (lR (dQ cg (pv 2) (pv 3) (aP _))))))))),?_⟩;obtain⟨dx,h1⟩:=ba.obj;refine⟨_,rfl,dF,_,rfl,.inr (qP _),rfl,rfl,_,rfl,?_⟩;try dsimp only
 rw[if_neg Ym,show dI (.str k) (iJ.map V.str)=cO k from zw k];refine bB (λcc=>?_) (λcc=>aX ?_)
 ·refine⟨_,rfl,l.h,dx,_,rfl,h1,rfl,_,rfl,_,rfl,l,b,xs,ys,k,a,rfl,ba,λH1 g1=>?_⟩;rw[pR (un.par cc)];exact⟨rfl,q H1 g1⟩
 ·have np:cO k=false:=by
   cases e:cO k with
   |true=>exact absurd e cc
   |false=>rfl
  obtain⟨u1,u2⟩:=un.aE np;refine⟨_,rfl,l.h,dx,_,rfl,h1,rfl,_,rfl,_,rfl,_,rfl,l,b,xs,ys,k,a,.inr o,rfl,ba,λ_=>⟨o,rfl⟩,λH1 g1=>⟨_,rfl,?_⟩⟩;have e:b.told (keyOf k a (.inr o))=false:=by
   cases e:b.told (keyOf k a (.inr o)) with
   |true=>exact absurd ((O5 _ _).mp e) u1
   |false=>rfl
  rw[e];refine cz ?_;refine⟨_,rfl,rfl,_,rfl,?_⟩;rw[dM];refine bB (λc3=>?_) (λc3=>?_)
  ·refine⟨_,rfl,_,rfl,rfl,?_⟩;rw[dM,decide_eq_false (λz=>u2 ⟨of_decide_eq_true c3,z⟩)];exact q H1 g1
  ·exact q H1 g1
theorem Mn:aR ["hearth","child","parent","lines"] ["hearth","child","parent"] (aJ CB):=⟨rfl,rfl,rfl,by decide+kernel,rfl,by decide+kernel,by decide+kernel⟩
theorem XN(F:aK K "check_elders" "check_elders" CB f fd)(ET:HasFn P w K mg base 2 "lines_up" ["hearth","name"] (QG C CL CJ)):aH P w K mg base aM 4 f fd ["hearth","child","parent"] (Pl C CL CJ):=by
 refine F.ok Mn (λvs H Q E h=>?_) (λaC A outer s H vs Q E hr h=>?_)
 ·obtain⟨l,b,xs,ys,ch,pa,rfl,_⟩:=h;rfl
 obtain⟨l,b,xs,ys,ch,pa,rfl,ba,ok,mp,no,q⟩:=h;refine⟨_,(ak (a_ (i:=3) Mn.nd rfl (Or.inl rfl) (aW ET hr (by omega) rfl (aa (pv 0) (aa (pv 2) ae)))) (au (aQ (jN (zE (bH hr) (pv 1) (pv 3)) (by with_unfolding_all rfl)) fN aY))),?_⟩;refine⟨_,rfl,_,rfl,l,b,xs,ys,pa,rfl,ba,ok,mp,λp ks as H1 la iff=>bc ?_⟩;have nk:ch∉ks:=λz=>no ((iff ch).mp z);exact⟨_,rfl,_,rfl,p,none,rfl,c5 la.at_ (F4 la.len nk),_,rfl,cz (aX (q H1 la.same))⟩
theorem Zn:aR ["hearth","kind","one","other"] ["hearth","kind","one","other"] (aJ D0):=⟨rfl,rfl,rfl,by decide+kernel,rfl,by decide+kernel,by decide+kernel⟩
theorem Zo(F:aK K "check_tie" "check_tie" D0 f fd)(iU:mg "PARENTS"=some (.ref dF))(qP:∀H,aA K H dF (iJ.map V.str))(ui:HasFn P w K mg base 1 "is_tie" ["kind"] GA)(Ei:HasFn P w K mg base 1 "sides_fit" ["kind","here","there"] QH)(qV:cq P w K mg base 1 "side_of" C ["self","name"] (F2 C CL CJ))(CN:HasFn P w K mg base 3 "told_already" ["hearth","kind","one","other"] (R8 C CL CJ))(CO:HasFn P w K mg base 4 "check_elders" ["hearth","child","parent"] (Pl C CL CJ)):aH P w K mg base aM 6 f fd ["hearth","kind","one","other"] (Pm C CL CJ):=by
 refine F.ok Zn (λvs H Q E h=>?_) (λaC A outer s H vs Q E hr h=>?_)
 ·obtain⟨l,b,xs,ys,c,rfl,_⟩:=h;rfl
 obtain⟨l,b,xs,ys,c,rfl,ba,ok,to,q⟩:=h;refine⟨_,(ak (aQ (jO (fC (aW ui hr (by omega) rfl (aa (pv 1) ae)))) fN aY) (ak (aQ (jO (fC (aW Ei hr (by omega) rfl (aa (pv 1) (aa (cK qV hr (by omega) (pv 0) (aa (pv 2) ae)) (aa (cK qV hr (by omega) (pv 0) (aa (pv 3) ae)) ae)))))) fN aY) (ak (aQ (fC (aW CN hr (by omega) rfl (aa (pv 0) (aa (pv 1) (aa (pv 2) (aa (pv 3) ae)))))) fN aY) (au (aQ (aU (lu (K:=K) rfl) (pv 1) (dD (v:=.ref dF) rfl iU rfl) (by with_unfolding_all rfl)) (au (bY (aW CO hr (by omega) rfl (aa (pv 0) (aa (pv 2) (aa (pv 3) ae)))))) aY))))),?_⟩;obtain⟨dx,h1⟩:=ba.obj;obtain⟨r,dr,hs⟩:=DE (to.nf.fg.uF to.ns);have ht:nB qx c.k=true:=by unfold nB;rw[dr];rfl
 have om:=(to.nf.fg.ok.gf to.ns).1.2;refine⟨_,rfl,c.k,rfl,_,rfl,?_⟩;rw[ht];refine⟨_,rfl,_,rfl,l.h,dx,_,rfl,h1,rfl,_,rfl,l,b,xs,ys,_,_,rfl,ba,oz ok.nm to.nf.fg.ok.one,⟨_,rfl,l.h,dx,_,rfl,h1,rfl,_,rfl,l,b,xs,ys,_,_,rfl,ba,oz ok.nm om,⟨c.k,_,_,rfl,_,rfl,?_⟩⟩⟩;rw[to.cY];refine⟨_,rfl,_,rfl,_,rfl,_,rfl,l,b,xs,ys,c.k,_,_,rfl,ba,to.un,λH1 g1=>⟨_,rfl,cz (aX ⟨_,rfl,dF,_,rfl,.inr (qP _),rfl,rfl,_,rfl,?_⟩)⟩⟩;rw[if_neg Ym,show dI (.str c.k) (iJ.map V.str)=cO c.k from zw c.k];refine bB (λcc=>⟨_,rfl,_,rfl,_,rfl,l,b,xs,ys,_,_,rfl,ba.same g1,ok,GC om,to.el cc,λH2 g2=>q H2 (g1.trans g2)⟩) (λcc=>aX (q H1 g1))
theorem Xz:aR ["hearth","section"] ["hearth","section"] (aJ Ca):=⟨rfl,rfl,rfl,by decide+kernel,rfl,by decide+kernel,by decide+kernel⟩
theorem XA(F:aK K "check_section" "check_section" Ca f fd)(hc:fP K C)(lc:uE K CL)(bl:Bl mg):aH P w K mg base aM 1 f fd ["hearth","section"] (Ob C CL CJ):=by
 refine F.ok Xz (λvs H Q E h=>?_) (λaC A outer s H vs Q E hr h=>?_)
 ·obtain⟨l,b,xs,ys,i,rfl,_⟩:=h;rfl
 obtain⟨l,b,xs,ys,i,rfl,ba,hi,q⟩:=h;refine⟨_,(au (aQ (aU Y_ (pv 1) (eN Dr rfl bl.jM uf (aa (aV (K:=K) rfl (aV (K:=K) rfl (pv 0) rfl) rfl) ae)) (by with_unfolding_all rfl)) fN aY)),?_⟩;obtain⟨dx,h1⟩:=ba.obj;obtain⟨dL,dS,mo,jo,wi,im,jf,iw,Ki,hL,_⟩:=ba.landAt;refine⟨_,rfl,_,rfl,l.h,C,dx,_,_,rfl,h1,hc.cls,hc.uz,rfl,l.L,CL,dL,_,_,rfl,hL,lc.cls,lc.rH,rfl,_,rfl,λp H1 np g1 hp=>?_⟩;refine⟨_,_,_,p,rfl,rfl,hp,_,rfl,?_⟩;rw[if_pos rfl,decide_eq_true hi];exact cz (aX (q H1 g1))
theorem XO:aR ["hearth","name","section"] ["hearth","name","section"] (aJ CC):=⟨rfl,rfl,rfl,by decide+kernel,rfl,by decide+kernel,by decide+kernel⟩
theorem XQ(F:aK K "check_saying" "check_saying" CC f fd)(kN:mg "SAID"=some (.str "said" t1))(qV:cq P w K mg base 1 "side_of" C ["self","name"] (F2 C CL CJ))(Cm:HasFn P w K mg base 1 "check_section" ["hearth","section"] (Ob C CL CJ))(tQ:cq P w K mg base 2 "has" C ["self","kind","one","other"] (Ib C CL CJ)):aH P w K mg base aM 3 f fd ["hearth","name","section"] (Pn C CL CJ):=by
 refine F.ok XO (λvs H Q E h=>?_) (λaC A outer s H vs Q E hr h=>?_)
 ·obtain⟨l,b,xs,ys,c,rfl,_⟩:=h;rfl
 obtain⟨l,b,xs,ys,c,rfl,ba,ok,so,q⟩:=h;refine⟨_,(ak (bY (cK qV hr (by omega) (pv 0) (aa (pv 1) ae))) (ak (bY (aW Cm hr (by omega) rfl (aa (pv 0) (aa (pv 2) ae)))) (au (aQ (fC (cK tQ hr (by omega) (pv 0) (aa (dD (v:=.str "said") rfl kN ⟨_,rfl⟩) (aa (pv 1) (aa (pv 2) ae))))) fN aY)))),?_⟩;obtain⟨dx,h1⟩:=ba.obj;refine⟨_,rfl,l.h,dx,_,rfl,h1,rfl,_,rfl,l,b,xs,ys,_,_,rfl,ba,oz ok.nm so.nf.fg.ok.one,⟨_,rfl,_,rfl,l,b,xs,ys,c.aE,rfl,ba,so.nf.fg.IW so.sk,λH1 g1=>⟨_,rfl,l.h,dx,_,rfl,g1 _ _ h1,rfl,_,rfl,_,rfl,l,b,xs,ys,"said",aq b.ps c.one,.inl c.aE,rfl,ba.same g1,(λz=>absurd z (by decide+kernel)),λH2 g2=>⟨_,rfl,?_⟩⟩⟩⟩;have ek:keyOf "said" (aq b.ps c.one) (.inl c.aE)=fF b.ps c:=by
  unfold fF;rw[mP so.sk,so.sk]
 have e:b.told (keyOf "said" (aq b.ps c.one) (.inl c.aE))=false:=by
  cases e:b.told (keyOf "said" (aq b.ps c.one) (.inl c.aE)) with
  |true=>exact absurd ((O5 _ _).mp e) (by rw[ek];exact so.nf.nk)
  |false=>rfl
 rw[e];exact cz (aX (q H2 (g1.trans g2)))
theorem YN:aR ["self","kind","one","other"] ["self","kind","one","other"] (aJ Dz):=⟨rfl,rfl,rfl,by decide+kernel,rfl,by decide+kernel,by decide+kernel⟩
theorem Zd6(F:aK K "tie" "Hearth.tie" Dz f fd)(hc:fP K C)(Ej:HasFn P w K mg base 6 "check_tie" ["hearth","kind","one","other"] (Pm C CL CJ))(tM:cq P w K mg base 11 "keep" C ["self","fact"] (Hh C CL CJ)):aH P w K mg base aM 12 f fd ["self","kind","one","other"] (R9 C CL CJ):=by
 refine F.ok YN (λvs H Q E h=>?_) (λaC A outer s H vs Q E hr h=>?_)
 ·obtain⟨l,b,xs,ys,c,rfl,_⟩:=h;rfl
 obtain⟨l,b,xs,ys,c,rfl,ba,ok,to,dl,q⟩:=h;refine⟨_,(ak (bY (aW Ej hr (by omega) rfl (aa (pv 0) (aa (pv 1) (aa (pv 2) (aa (pv 3) ae)))))) (au (aF (cK tM hr (by omega) (pv 0) (aa (dz (aa (aV (K:=K) rfl (pv 0) rfl) (aa (pv 1) (aa (pv 2) (aa (pv 3) ae))))) ae))))),?_⟩;refine⟨_,rfl,_,rfl,_,rfl,_,rfl,l,b,xs,ys,c,rfl,ba,ok,to,λH1 g1=>?_⟩;have cv:=ba.same g1;obtain⟨dx,h1⟩:=cv.obj;refine⟨_,rfl,l.h,dx,_,rfl,h1,rfl,_,rfl,l.h,C,dx,_,_,rfl,h1,hc.cls,hc.qb,rfl,_,rfl,_,rfl,_,rfl,by show 4<=sizeLine;decide,λr H2 nr g2 hR=>?_⟩;have hf:eQ H2 b.ps r (b.co,c):=by
  show H2 r=some (.tup ((d9 b.ps b.co c).map kV));unfold d9;rw[iz to.ns];exact hR
 refine⟨l,b,xs,ys,r,c,rfl,cv.same g2,ok,hf,to.nf,dl,λl' H3 wt lG=>q l' H3 (cj.after (g1.trans g2) wt) lG⟩
theorem YO:aR ["self","name","section"] ["self","name","section"] (aJ DA):=⟨rfl,rfl,rfl,by decide+kernel,rfl,by decide+kernel,by decide+kernel⟩
theorem Zd7(F:aK K "say" "Hearth.say" DA f fd)(hc:fP K C)(kN:mg "SAID"=some (.str "said" t1))(CP:HasFn P w K mg base 3 "check_saying" ["hearth","name","section"] (Pn C CL CJ))(tM:cq P w K mg base 11 "keep" C ["self","fact"] (Hh C CL CJ)):aH P w K mg base aM 12 f fd ["self","name","section"] (R_ C CL CJ):=by
 refine F.ok YO (λvs H Q E h=>?_) (λaC A outer s H vs Q E hr h=>?_)
 ·obtain⟨l,b,xs,ys,c,rfl,_⟩:=h;rfl
 obtain⟨l,b,xs,ys,c,rfl,ba,ok,so,dl,q⟩:=h;refine⟨_,(ak (bY (aW CP hr (by omega) rfl (aa (pv 0) (aa (pv 1) (aa (pv 2) ae))))) (au (aF (cK tM hr (by omega) (pv 0) (aa (dz (aa (aV (K:=K) rfl (pv 0) rfl) (aa (dD (v:=.str "said") rfl kN ⟨_,rfl⟩) (aa (pv 1) (aa (pv 2) ae))))) ae))))),?_⟩;refine⟨_,rfl,_,rfl,_,rfl,l,b,xs,ys,c,rfl,ba,ok,so,λH1 g1=>?_⟩;have cv:=ba.same g1;obtain⟨dx,h1⟩:=cv.obj;refine⟨_,rfl,l.h,dx,_,rfl,h1,rfl,_,rfl,l.h,C,dx,_,_,rfl,h1,hc.cls,hc.qb,rfl,_,rfl,_,rfl,by show 4<=sizeLine;decide,λr H2 nr g2 hR=>?_⟩;have hf:eQ H2 b.ps r (b.co,c):=by
  show H2 r=some (.tup ((d9 b.ps b.co c).map kV));unfold d9;rw[mP so.sk,so.sk];exact hR
 refine⟨l,b,xs,ys,r,c,rfl,cv.same g2,ok,hf,so.nf,dl,λl' H3 wt lG=>q l' H3 (cj.after (g1.trans g2) wt) lG⟩
end
def nT(n:Nat)(d:Int):List Int:=(List.range n).map λi:Nat=>((i:Int)+d) % (n:Int)
theorem rot_length(n:Nat)(d:Int):(nT n d).length=n:=by simp[nT]
theorem ZcX(hn:0<n)(d:Int):(nT n d).Perm (bF n):=by
 have uP:(0:Int)<(n:Int):=by omega
 have r0:=Jc d (JW uP);have r1:=W1 d uP;obtain⟨r,er⟩:∃r:Nat,d % (n:Int)=(r:Int):=⟨(d % (n:Int)).toNat,by omega⟩;have rn:r<n:=by omega
 have e:nT n d=(bF n).drop r++(bF n).take r:=by
  refine Ww λi=>?_;have ul:=eX n;by_cases hi:i<n
  ·have lhs:(nT n d)[i]?=some (((i:Int)+d) % (n:Int)):=by
    unfold nT;rw[Yl,List.getElem?_range hi];rfl
   have em:((i:Int)+d) % (n:Int)=((r:Int)+(i:Int)) % (n:Int):=by
    rw[Int.add_comm,←Int.emod_add_emod,er]
   rw[lhs,em];by_cases h:r+i<n;·rw[Y6 (by rw[J1,ul];omega),List.getElem?_drop,lO (by omega),Int.emod_eq_of_lt (by omega) (by omega),Int.natCast_add]
   ·rw[Jn (by rw[J1,ul];omega),J1,ul,List.getElem?_take_of_lt (by omega),lO (by omega)];have e3:(r:Int)+(i:Int)=((i-(n-r):Nat):Int)+(n:Int)*1:=by omega
    rw[e3,Int.add_mul_emod_self_left,Int.emod_eq_of_lt (by omega) (by omega)]
  ·rw[Y9 (by rw[rot_length];omega),Y9 (by rw[Yi,J1,Wd,ul];omega)]
 rw[e];exact List.perm_append_comm.trans (by rw[List.take_append_drop])
inductive QL(vs:List V)(H:Hp)(Q:VK):Prop
 |mk (c:Int) (n:Nat) (aB:vs=[.int c,.int (n:Int)]) (aT:0<n) (bq:n<=60) (bR:∀(t:Addr) (ts:List Int) (H':Hp),H t=none->ah H H'->bV H' t ts->ts.Perm (bF n)->Q (.ref t) H'):QL vs H Q
def S6:Sp:=λvs H Q _=>QL vs H Q
inductive QM(K:PySem.W.Frag)(vs:List V)(H:Hp)(Q:VK):Prop
 |mk (a b:Addr) (xs ys:List Int) (aB:vs=[.ref a,.ref b]) (aT:aA K H a (xs.map V.int)) (bq:aA K H b (ys.map V.int)) (bR:(∀x∈xs,0<=x/\x<ys.length)) (cM:xs.length<=60) (dZ:∀(l:Addr) (H':Hp),H l=none->ah H H'->bV H' l (bJ ys xs)->Q (.ref l) H'):QM K vs H Q
def S7(K:PySem.W.Frag):Sp:=λvs H Q _=>QM K vs H Q
theorem Zd8(h:Paired Bd ds [a,b]):∃v w,ds=[v,w]/\Bd v a/\Bd w b:=by
 cases h with|cons h1 h=>cases h with|cons h2 h=>
  cases h;exact⟨_,_,rfl,h1,h2⟩
section
theorem Nh:aR ["_law_cell_here","_law_size","_law_drawn"] ["_law_cell_here","_law_size"] (aJ Fn):=⟨rfl,rfl,rfl,by decide+kernel,rfl,by decide+kernel,by decide+kernel⟩
theorem ZaN(F:aK K "_law_row" "_law_row" Fn f fd)(tV:HasFn P w K mg base 1 "_law_draws" ["_law_cell_here","_law_parts"] (Gw K))(EU:HasFn P w K mg base 1 "_law_turn" ["_law_code","_law_size"] Ry)(bl:Bl mg):
  aH P w K mg base aM 2 f fd ["_law_cell_here","_law_size"] S6:=by
 refine F.ok Nh (λvs H Q E h=>?_) (λaC A outer s H vs Q E hr h=>?_)
 ·obtain⟨c,n,rfl,_⟩:=h;rfl
 obtain⟨c,n,rfl,n0,n60,q⟩:=h;refine⟨_,(ak (a_ (i:=2) Nh.nd rfl (Or.inr rfl) (aW tV hr (by omega) rfl (aa (pv 0) (aa (wx (aa aL (aa aL ae))) ae)))) (ak (aQ (aU cg (bg (cA (K:=K) rfl) (pv 2) aL (λ_ _=>rfl)) aL (aP _)) (au (aF (eN (tK) rfl bl.mV mQ (aa (iW (x:="_law_at") (fr:=[("_law_size",1),("_law_drawn",2)]) (cl:=[("_law_size",s.heap.objs.size+1),("_law_drawn",s.heap.objs.size+1+1)]) rfl ⟨by with_unfolding_all rfl,⟨rfl,⟨rfl,trivial⟩⟩,rfl,by decide+kernel,rfl,by decide+kernel,rfl,⟨⟨rfl,.inl rfl,.inl rfl,rfl⟩,⟨⟨rfl,.inl rfl,.inl rfl,rfl⟩,trivial⟩⟩,by decide+kernel⟩ (pW rfl bl.jM (aa (pv 1) ae)) (λ_ _ _ _=>mS) (λ_ _ _ _=>(bj eO (bj iY (pv 0) (bg (cA (K:=K) rfl) (pv 2) aL (λ_ _=>rfl))) (pv 1)))) ae)))) aY) (au (aF (aW EU hr (by omega) rfl (aa (bg (cA (K:=K) rfl) (pv 2) aL (λ_ _=>rfl)) (aa (pv 1) ae))))))),?_⟩;refine⟨_,rfl,by show 2<=sizeLine;decide,λp np=>?_⟩;refine⟨c,p,[3,40320],rfl,aj.of aZ,by decide,by decide,λdl ds H1 nd g1 h1 bd=>?_⟩;obtain⟨d0,d1,rfl,⟨a0,a0'⟩,⟨a1,a1'⟩⟩:=Zd8 bd;have g:=(cy np _).trans g1;have pos:(0:Int)<(n:Int):=by omega
 refine⟨_,rfl,dl,_,0,.int d0,rfl,rfl,aj.of h1,rfl,rfl,_,rfl,bB (λ_=>?_) (λ_=>aX ?_)⟩
 ·refine⟨_,rfl,(n:Int),rfl,by omega,by omega,λD hD=>vY (lo:=0) (n:=(n:Int).toNat) (λi zs H2=>ah H1 H2/\H2 D=some (.lst zs)/\zs=((nT n d1).take i).map V.int) ⟨cy hD _,aZ,rfl⟩ ?_ ?_⟩
  ·rintro i zs H2 hi ⟨g2,h2,e2⟩;rw[Y8] at hi;rw[AG];refine l_ (c8 ⟨_,rfl,_,rfl,dl,_,1,.int d1,rfl,rfl,aj.of (g2 _ _ h1),rfl,_,_,rfl,rfl,_,rfl,_,_,rfl,rfl,pos,h2,?_,λd o qd=>?_,aZ,?_⟩)
   ·rw[e2,Ya,Wd,rot_length];exact jJ (by omega)
   ·rw[a9 (bQ qd hD)];exact g2 d o qd
   ·have ge:(nT n d1)[i]?=some (((i:Int)+d1) % (n:Int)):=by
     unfold nT;rw[Yl,List.getElem?_range hi];rfl
    rw[e2,Y0,Fe,ge];rfl
  ·rintro zs H2 ⟨g2,h2,e2⟩;rw[Y8,Wu (by rw[rot_length];omega)] at e2;refine⟨D,_,rfl,.inl ⟨aj.of h2,λt ht=>q t (nT n d1) _ (g.free (g2.free ht)) ((g.trans g2).trans (cy ht _)) ?_ (ZcX n0 d1)⟩⟩;show upd H2 t (.tup zs) t=_;rw[aZ,e2]
 ·exact⟨_,rfl,dl,_,1,.int d1,rfl,rfl,aj.of h1,rfl,_,rfl,d1,n,rfl,n60,λt ts H2 nt g2 ht pm=>q t ts H2 (g.free nt) (g.trans g2) ht pm⟩
theorem Zp:aR ["_law_first","_law_then"] ["_law_first","_law_then"] (aJ D3):=⟨rfl,rfl,rfl,by decide+kernel,rfl,by decide+kernel,by decide+kernel⟩
theorem Zq(F:aK K "_law_after" "_law_after" D3 f fd)(bl:Bl mg):aH P w K mg base aM 1 f fd ["_law_first","_law_then"] (S7 K):=by
 refine F.ok Zp (λvs H Q E h=>?_) (λaC A outer s H vs Q E hr h=>?_)
 ·obtain⟨a,b,xs,ys,rfl,_⟩:=h;rfl
 obtain⟨a,b,xs,ys,rfl,hA,hB,qI,hl,q⟩:=h;refine⟨_,(au (aF (eN (tK) rfl bl.mV mQ (aa (iW (x:="_law_one") (fr:=[("_law_then",1)]) (cl:=[("_law_then",s.heap.objs.size+1)]) rfl ⟨by with_unfolding_all rfl,⟨rfl,trivial⟩,rfl,by decide+kernel,rfl,by decide+kernel,rfl,⟨⟨rfl,.inl rfl,.inl rfl,rfl⟩,trivial⟩,by decide+kernel⟩ (GW (pv 0)) (λ_ _ _ _=>mS) (λ_ _ _ _=>(bg (gu (K:=K) rfl) (pv 1) (pv 0) (λ_ _=>rfl)))) ae)))),?_⟩;refine⟨_,rfl,a,rfl,⟨_,hA⟩,λD hD=>yY (xs:=xs.map V.int) (λi zs H3=>ah H H3/\H3 D=some (.lst zs)/\zs=((bJ ys xs).take i).map V.int) ⟨cy hD _,aZ,rfl⟩ (λi zs H3 _ ⟨g3,_,_⟩=>g3.jh hA) ?_ ?_⟩
 ·rintro i v zs H3 hi ⟨g3,h3,e3⟩;obtain⟨z,rfl,hz⟩:=mU hi;have dO:i<xs.length:=(Yg.mp hz).1;have bz:=qI z (Yh hz);refine l_ (c8 ⟨_,rfl,_,rfl,b,_,_,_,rfl,rfl,g3.jh hB,m6 bz.1 bz.2,h3,?_,λd o qd=>?_,aZ,?_⟩)
  ·rw[e3,Ya,Wd,q5];exact jJ (by omega)
  ·rw[a9 (bQ qd hD)];exact g3 d o qd
  ·rw[e3,Y0,Fe];unfold bJ;rw[Yl,hz];rfl
 ·rintro zs H3 ⟨g3,h3,e3⟩;refine⟨D,_,rfl,.inl ⟨aj.of h3,λt ht=>q t _ (g3.free ht) (g3.trans (cy ht _)) ?_⟩⟩;show upd H3 t (.tup zs) t=_;rw[aZ,e3,Ya,Wu (by rw[q5];omega)]
end
inductive QN(vs:List V)(H:Hp)(Q:VK):Prop
 |mk (a:Addr) (xs:List Int) (aB:vs=[.ref a]) (aT:bV H a xs) (bq:xs.length<64) (bR:full xs=true) (cM:∀(t:Addr) (H':Hp),H t=none->ah H H'->bV H' t (inv xs)->Q (.ref t) H'):QN vs H Q
def Ih:Sp:=λvs H Q _=>QN vs H Q
section
theorem X6:aR ["_law_turn_here"] ["_law_turn_here"] (aJ C5):=⟨rfl,rfl,rfl,by decide+kernel,rfl,by decide+kernel,by decide+kernel⟩
theorem ZaO(F:aK K "_law_inverse" "_law_inverse" C5 f fd)(bl:Bl mg):aH P w K mg base aM 1 f fd ["_law_turn_here"] Ih:=by
 refine F.ok X6 (λvs H Q E h=>?_) (λaC A outer s H vs Q E hr h=>?_)
 ·obtain⟨a,xs,rfl,_⟩:=h;rfl
 obtain⟨a,xs,rfl,hA,lx,fx,q⟩:=h;refine⟨_,(au (aF (eN (tK) rfl bl.mV mQ (aa (iW (x:="_law_at") (fr:=[("_law_turn_here",0)]) (cl:=[("_law_turn_here",s.heap.objs.size+1)]) rfl ⟨by with_unfolding_all rfl,⟨rfl,trivial⟩,rfl,by decide+kernel,rfl,by decide+kernel,rfl,⟨⟨rfl,.inl rfl,.inl rfl,rfl⟩,trivial⟩,by decide+kernel⟩ (pW rfl bl.jM (aa (bL (c9 (K:=K) rfl) rfl bl.cU cT (aa (pv 0) ae)) ae)) (λ_ _ _ _=>mS) (λ_ _ _ _=>(MA (pv 1) (aa (pv 0) ae)))) ae)))),?_⟩;have el:(xs.map V.int).length=xs.length:=Ya _;refine⟨_,rfl,a,_,rfl,.inr (aA.of hA),_,rfl,by rw[el];omega,by rw[el];omega,λD hD=>vY (lo:=0) (n:=(((xs.map V.int).length:Nat):Int).toNat)
   (λi zs H2=>ah H H2/\H2 D=some (.lst zs)/\zs=((inv xs).take i).map V.int) ⟨cy hD _,aZ,rfl⟩ ?_ ?_⟩
 ·rintro i zs H2 hi ⟨g2,h2,e2⟩;rw[Y8,el] at hi;rw[AG];have hx:=y6 (ON fx hi);have xO:=g2 _ _ hA;refine l_ (c8 ⟨_,rfl,a,xs,rfl,xO,_,rfl,(i:Int),jS (i:Int) xs,rfl,xO,hx.1,hx.2,h2,?_,λd o qd=>?_,aZ,?_⟩)
  ·rw[e2,Ya,Wd,fM];exact jJ (by omega)
  ·rw[a9 (bQ qd hD)];exact g2 d o qd
  ·rw[e2,OO hi,Yj];rfl
 ·rintro zs H2 ⟨g2,h2,e2⟩;refine⟨D,_,rfl,.inl ⟨aj.of h2,λt ht=>q t _ (g2.free ht) (g2.trans (cy ht _)) ?_⟩⟩;show upd H2 t (.tup zs) t=_;rw[aZ,e2,Y8,el,Wu (by rw[fM];omega)]
end
structure je(H0 H:Hp)(ps:bA)(d:Addr)(b:Nat)(kvs:List (Key×V))(L:Nat->List (Nat×List Int)):Prop where
 dict:H d=some (.dK kvs)
 len:kvs.length<=b
 new:H0 d=none
 at_:∀x:Nat,x<ps.length->(aS kvs (.inr (aq ps x))=none/\L x=[])\/∃(a:Addr) (es:List Addr),aS kvs (.inr (aq ps x))=some (.ref a)/\H0 a=none/\H a=some (.lst (es.map V.ref))/\(L x).length<=b/\Paired (λe (p:Nat×List Int)=>∃u,H e=some (.tup [.str (aq ps p.1),.ref u])/\bV H u p.2) es (L x)
 inj:∀(x y:Nat) (a:Addr),x<ps.length->y<ps.length->aS kvs (.inr (aq ps x))=some (.ref a)->aS kvs (.inr (aq ps y))=some (.ref a)->x=y
theorem rB(nd:(ps.map (·.1)).Nodup)(hi:i<ps.length)(hj:j<ps.length)(e:aq ps i=aq ps j):i=j:=by
 have h1:=rp nd hi;rw[e,rp nd hj] at h1
 grind
theorem je.same(g:ah H H')(h:je H0 H ps d b kvs L):je H0 H' ps d b kvs L:=by
 refine⟨g _ _ h.dict,h.len,h.new,λx hx=>?_,h.inj⟩;rcases h.at_ x hx with z|⟨a,es,h1,h2,h3,h4,h5⟩;·exact .inl z
 ·exact .inr ⟨a,es,h1,h2,g _ _ h3,h4,L2.Paired.bp h5 λ_ _ ⟨u,e1,e2⟩=>⟨u,g _ _ e1,g _ _ e2⟩⟩
theorem je.app(h:je H0 H ps d b kvs L)(hx:x<ps.length)(hv:aS kvs (.inr (aq ps x))=some (.ref a))(ha:H a=some (.lst ys))(he:H e=some (.tup [.str (aq ps y),.ref u]))(hu:bV H u t)(br:aw a H H')(qJ:H' a=some (.lst (ys++[.ref e]))):je H0 H' ps d (b+1) kvs (r8 L x (y,t)):=by
 have nt:∀{c:Addr} {xs:List V},H c=some (.tup xs)->c≠a:=λ{c xs} hc=>dE hc ha (λz=>by cases z);refine⟨br _ _ h.dict (dE h.dict ha (λz=>by cases z)),by have:=h.len;omega,h.new,λz hz=>?_,h.inj⟩;have en:∀{es:List Addr} {qs:List (Nat×List Int)},Paired (λe (p:Nat×List Int)=>∃u,H e=some (.tup [.str (aq ps p.1),.ref u])/\bV H u p.2) es qs->Paired (λe (p:Nat×List Int)=>∃u,H' e=some (.tup [.str (aq ps p.1),.ref u])/\bV H' u p.2) es qs:=λ{es qs} hp=>L2.Paired.bp hp λ_ _ ⟨u,e1,e2⟩=>⟨u,br _ _ e1 (nt e1),br _ _ e2 (nt e2)⟩;by_cases ez:z=x
 ·subst ez;rcases h.at_ z hz with⟨z1,_⟩|⟨a1,es,h1,h2,h3,h4,h5⟩;·grind
  ·obtain rfl:a1=a:=V.ref.inj (Yp (h1.symm.trans hv));rw[h3] at ha;obtain rfl:es.map V.ref=ys:=by injection ha with ha;injection ha
   refine .inr ⟨a1,es++[e],h1,h2,by rw[qJ,Yj];rfl,?_,?_⟩;·unfold r8;rw[if_pos rfl,Yi];show(L z).length+1<=b+1;omega
   ·unfold r8;rw[if_pos rfl];exact hE (F:=λe (p:Nat×List Int)=>∃u,H' e=some (.tup [.str (aq ps p.1),.ref u])/\bV H' u p.2) ⟨u,br _ _ he (nt he),br _ _ (show H u=some (.tup (t.map V.int)) from hu) (nt (show H u=some (.tup (t.map V.int)) from hu))⟩ (en h5)
 ·unfold r8;rw[if_neg ez];rcases h.at_ z hz with z1|⟨a1,es,h1,h2,h3,h4,h5⟩;·exact .inl z1
  ·refine .inr ⟨a1,es,h1,h2,br _ _ h3 (λq=>ez (h.inj z x a hz hx (by rw[←q];exact h1) hv)),by omega,en h5⟩
theorem je.K_(hb:je H0 Hb ps d b kvs L)(nd:(ps.map (·.1)).Nodup)(hx:x<ps.length)(g:ah Hb H)(np:Hb p=none)(sY:H0 p=none)(hv:aS kvs (.inr (aq ps x))=none)(hp:H p=some (.lst []))(br:aw d H H')(Ai:H' d=some (.dK (kvs++[(.inr (aq ps x),.ref p)]))):je H0 H' ps d (b+1) (kvs++[(.inr (aq ps x),.ref p)]) L:=by
 have h:=hb.same g;have nt:∀{c:Addr} {xs:List V},H c=some (.tup xs)->c≠d:=λ{c xs} hc=>dE hc h.dict (λz=>by cases z);have nl:∀{c:Addr} {xs:List V},H c=some (.lst xs)->c≠d:=λ{c xs} hc=>dE hc h.dict (λz=>by cases z);refine⟨Ai,by rw[Yi];have:=h.len;show kvs.length+1<=b+1;omega,h.new,λz hz=>?_,λz1 z2 a l1 l2 e1 e2=>?_⟩
 ·rw[t8 hv];by_cases ez:z=x
  ·rw[if_pos (by rw[ez])];rcases h.at_ z hz with⟨_,z2⟩|⟨a1,es,h1,_⟩;·exact .inr ⟨p,[],rfl,sY,br _ _ hp (nl hp),by rw[z2];exact Yw _,by rw[z2];exact .nil⟩
   ·rw[ez,hv] at h1;cases h1
  ·rw[if_neg (λq=>ez (rB nd hz hx (Wj q)))];rcases h.at_ z hz with z1|⟨a1,es,h1,h2,h3,h4,h5⟩;·exact .inl z1
   ·exact .inr ⟨a1,es,h1,h2,br _ _ h3 (nl h3),by omega,L2.Paired.bp h5 λ_ _ ⟨u,e1,e2⟩=>⟨u,br _ _ e1 (nt e1),br _ _ e2 (nt e2)⟩⟩
 ·have old:∀{z:Nat},z<ps.length->aS kvs (.inr (aq ps z))=some (.ref p)->False:=λ{z} hz e=>by
   rcases hb.at_ z hz with⟨z1,_⟩|⟨a1,es,h1,h2,h3,_⟩;·rw[z1] at e;cases e
   ·rw[e] at h1;obtain rfl:p=a1:=V.ref.inj (Yp h1);rw[np] at h3;cases h3
  rw[t8 hv] at e1 e2;by_cases q1:z1=x
  ·by_cases q2:z2=x;·rw[q1,q2]
   ·rw[if_pos (by rw[q1])] at e1;rw[if_neg (λq=>q2 (rB nd l2 hx (Wj q))),←e1] at e2;exact absurd e2 (old l2)
  ·rw[if_neg (λq=>q1 (rB nd l1 hx (Wj q)))] at e1;by_cases q2:z2=x
   ·rw[if_pos (by rw[q2])] at e2;rw[←e2] at e1;exact absurd e1 (old l1)
   ·rw[if_neg (λq=>q2 (rB nd l2 hx (Wj q)))] at e2;exact h.inj _ _ a l1 l2 e1 e2
theorem Oc(h2:∀H Q,Q (.ref d) H->hZ 2 σ H Q)(nd:(ps.map (·.1)).Nodup)(Bc:x<ps.length)(hi:∀H Q,Q (.str (aq ps x)) H->hZ i σ H Q)(hk:∀H Q,Q (.str (aq ps y)) H->hZ k σ H Q)(h:je H0 H ps d b kvs L)(g:ah H0 H)(lb:b<1000)
  (hx:∀(H1:Hp) (Q1:VK),ah H0 H1->(∀(u:Addr) (H2:Hp),ah H1 H2->bV H2 u t->Q1 (.ref u) H2)->tx σ H1 Q1)(q:∀(v:V) (Zhp:List (Key×V)) (H':Hp),ah H0 H'->je H0 H' ps d (b+2) Zhp (r8 L x (y,t))->Q v H'):xy K "list" OD (FP (hZ 2) (hZ i) (SR jR)) (iZ (wQ (iZ (hZ k) (iZ tx jR))) jR) σ H Q:=by
 have sz:(10000:Nat)<=sizeLine:=by rw[sizeLine_eq];omega
 have ln:=h.len;unfold xy FP;refine h2 _ _ ⟨d,rfl,.inl ⟨_,.inl h.dict⟩,hi _ _ ⟨by show 0<=sizeLine;exact Yw _,λp H1 np g1 hp=>⟨kvs,.inr (aq ps x),g1 _ _ h.dict,rfl,by omega,λv hv=>?_,λhv H2 b2 e2=>?_⟩⟩⟩
 ·rcases h.at_ x Bc with⟨z1,_⟩|⟨a,es,h3,h4,h5,h6,h7⟩;·grind
  obtain rfl:v=.ref a:=Yp (hv.symm.trans h3);have pl:=cN h7;refine⟨.inl ⟨rfl,_,aj.of (g1 _ _ h5)⟩,?_⟩;unfold iZ wQ;refine hk _ _ (hx _ _ (g.trans g1) λu H2 g2 hu=>⟨by show 2<=sizeLine;omega,λe H3 ne g3 he=>?_⟩);have dw:=(g1.trans g2).trans g3;refine⟨a,_,_,rfl,rfl,dw _ _ h5,by rw[Ya];omega,λH4 b4 e4=>?_⟩;have nn:=(h.same dw).app Bc h3 (dw _ _ h5) he (g3 _ _ hu) b4 e4;exact q _ _ H4 (λc o e=>b4 _ _ (dw _ _ (g _ _ e)) (bQ e h4)) ⟨nn.dict,by have:=nn.len;omega,nn.new,λz hz=>by
   rcases nn.at_ z hz with w|⟨a,es,w1,w2,w3,w4,w5⟩;·exact .inl w
   ·exact .inr ⟨a,es,w1,w2,w3,by omega,w5⟩,nn.inj⟩
 ·have sY:=g.free np;have dB:=b2 _ _ hp (dE hp (g1 _ _ h.dict) (λz=>by cases z));have gg:ah H0 H2:=λc o e=>b2 _ _ (g1 _ _ (g _ _ e)) (bQ e h.new);refine⟨.inl ⟨rfl,_,aj.of dB⟩,?_⟩;unfold iZ wQ;refine hk _ _ (hx _ _ gg λu H3 g3 hu=>⟨by show 2<=sizeLine;omega,λe H4 ne g4 he=>?_⟩);have Be:=g3.trans g4;refine⟨p,_,_,rfl,rfl,Be _ _ dB,by show 0<sizeLine;omega,λH5 b5 e5=>?_⟩;have vx:aS (kvs++[(Sum.inr (aq ps x),V.ref p)]) (.inr (aq ps x))=some (.ref p):=by rw[t8 hv,if_pos rfl]
  exact q _ _ H5 (λc o e=>b5 _ _ (Be _ _ (gg _ _ e)) (bQ e sY)) (((h.K_ nd Bc g1 np sY hv hp b2 e2).same Be).app Bc vx (Be _ _ dB) he (g4 _ _ hu) b5 e5)
def La(H:Hp)(ps:bA)(a:Addr)(c:Fc):Prop:=∃z:Int,H a=some (.tup [.int z,.str c.k,.str (aq ps c.one),kV (bu ps c)])
def FL(H:Hp)(ps:bA)(fa:Addr)(F:List Fc):Prop:=∃as:List Addr,H fa=some (.lst (as.map V.ref))/\Paired (La H ps) as F
abbrev uA(m f w s:Addr):List (Key×V):=[(.inr "mother",.ref m),(.inr "father",.ref f),(.inr "wed",.ref w),(.inr "sibling",.ref s)]
def gm(H:Hp)(td:Addr)(xs ys:List Int):Prop:=∃m f w s:Addr,H td=some (.dK (uA m f w s))/\bV H m (inv xs)/\bV H f (inv (bJ xs ys))/\bV H w ys/\bV H s (bF xs.length)
theorem FL.same(g:ah H H')(h:FL H ps fa F):FL H' ps fa F:=by
 obtain⟨as,h1,h2⟩:=h;exact⟨as,g _ _ h1,L2.Paired.bp h2 λ_ _ ⟨z,e⟩=>⟨z,g _ _ e⟩⟩
theorem gm.same(g:ah H H')(h:gm H td xs ys):gm H' td xs ys:=by
 obtain⟨m,f,w,s,h1,h2,h3,h4,h5⟩:=h;exact⟨m,f,w,s,g _ _ h1,g _ _ h2,g _ _ h3,g _ _ h4,g _ _ h5⟩
theorem gm.get(h:gm H td xs ys)(m:(k,tn)∈qo xs ys):∃kvs u,H td=some (.dK kvs)/\aS kvs (.inr k)=some (.ref u)/\bV H u tn:=by
 obtain⟨a,b,c,d,h1,h2,h3,h4,h5⟩:=h;simp only[Yt,Y3,or_false] at m;rcases m with⟨rfl,rfl⟩|⟨rfl,rfl⟩|⟨rfl,rfl⟩|⟨rfl,rfl⟩;·exact⟨_,a,h1,rfl,h2⟩
 ·exact⟨_,b,h1,rfl,h3⟩
 ·exact⟨_,c,h1,rfl,h4⟩
 ·exact⟨_,d,h1,rfl,h5⟩
inductive QO(vs:List V)(H:Hp)(Q:VK):Prop
 |mk (fa td:Addr) (ps:bA) (xs ys:List Int) (F:List Fc) (aB:vs=[.ref fa,.ref td]) (aT:FL H ps fa F) (ht:gm H td xs ys) (nd:(ps.map (·.1)).Nodup) (bq:∀c∈F,eA xs ys ps.length c) (bR:xs.length<=8) (cM:F.length<=64) (dZ:∀(d:Addr) (kvs:List (Key×V)) (L:Nat->List (Nat×List Int)) (H':Hp),ah H H'->je H H' ps d 300 kvs L->(∀x y t,(y,t)∈L x↔e_ F x y t)->Q (.ref d) H'):QO vs H Q
def Sa:Sp:=λvs H Q _=>QO vs H Q
section
theorem tW:aR ["_law_facts","_law_turns_here","_law_found","_law_number","_law_kind","_law_one","_law_other"] ["_law_facts","_law_turns_here"] (aJ EE):=⟨rfl,rfl,rfl,by decide+kernel,rfl,by decide+kernel,by decide+kernel⟩
theorem Zd9(F:aK K "_law_nets" "_law_nets" EE f fd)(qX:HasFn P w K mg base 1 "_law_inverse" ["_law_turn_here"] Ih)(bl:Bl mg):aH P w K mg base aM 2 f fd ["_law_facts","_law_turns_here"] Sa:=by
 refine F.ok tW (λvs H Q E h=>?_) (λaC A outer s H vs Q E hr h=>?_)
 ·obtain⟨fa,td,ps,xs,ys,F,rfl,_⟩:=h;rfl
 obtain⟨fa,td,ps,xs,ys,F,rfl,jo,ht,ku,fgA,n8,Bf,q⟩:=h;refine⟨_,(ak (a_ (i:=2) tW.nd rfl (Or.inl rfl) pY) (ak (eY PassesOwn.never rfl (d_ (K:=K) rfl (pv 0)) (iD (K:=K) (n:=4) rfl rfl (bN (a8 (i:=3) tW.nd rfl (Or.inl rfl)) (bN (a8 (i:=4) tW.nd rfl (Or.inl rfl)) (bN (a8 (i:=5) tW.nd rfl (Or.inl rfl)) (bN (a8 (i:=6) tW.nd rfl (Or.inl rfl)) iC))))) (au (aQ (aU kR (pv 4) bC (aP _)) (ak (bY (hX (K:=K) rfl (fQ plainAttrs_list PySem.F.slot_list_append PySem.F.type_list_append iu (Ey (pv 2) (pv 5) (de ae) ⟨rfl,rfl,rfl,rfl⟩) (aa (dz (aa (pv 6) (aa (dh (bH hr) (pv 1) (pv 4) (λ_ _=>rfl)) ae))) ae)))) (au (bY (hX (K:=K) rfl (fQ plainAttrs_list PySem.F.slot_list_append PySem.F.type_list_append iu (Ey (pv 2) (pv 6) (de ae) ⟨rfl,rfl,rfl,rfl⟩) (aa (dz (aa (pv 5) (aa (aW qX hr (by omega) rfl (aa (dh (bH hr) (pv 1) (pv 4) (λ_ _=>rfl)) ae)) ae))) ae)))))) aY))) (au (aF (pv 2))))),?_⟩;refine bW ?_;refine λd H1 nd g1 hd=>?_;obtain⟨as,cV,d7⟩:=id jo;have al:=cN d7;have sz:(10000:Nat)<=sizeLine:=by rw[sizeLine_eq];omega
 refine fw (λσ H6=>∃(kvs:List (Key×V)) (L:Nat->List (Nat×List Int)) (o1 o2 o3 o4:Option V),ah H H6/\je H H6 ps d 300 kvs L/\(∀x y t,(y,t)∈L x↔e_ F x y t)/\σ=[some (.ref fa),some (.ref td),some (.ref d),o1,o2,o3,o4]) (λlE d5=>?_) ?_
 ·refine⟨_,rfl,fa,rfl,⟨_,aj.of (g1 _ _ cV)⟩,hJ (K:=K) (a:=fa) (xs:=as.map V.ref) (λj σ H6=>∃(kvs:List (Key×V)) (L:Nat->List (Nat×List Int)) (o1 o2 o3 o4:Option V),ah H H6/\je H H6 ps d (4*j) kvs L/\(∀x y t,(y,t)∈L x↔e_ (F.take j) x y t)/\σ=[some (.ref fa),some (.ref td),some (.ref d),o1,o2,o3,o4])
   ⟨[],λ_=>[],none,none,none,none,g1,⟨hd,Yd _,nd,λx _=>.inl ⟨rfl,rfl⟩,λ_ _ _ _ _ e=>(nomatch e)⟩,λx y t=>⟨λz=>(nomatch z),λz=>absurd z ZcJ⟩,rfl⟩
   (λj σ H6 _ ⟨_,_,_,_,_,_,g,_⟩=>aj.of (g _ _ cV)) ?_ ?_⟩
  ·rintro j v σ H6 hj ⟨kvs,L,o1,o2,o3,o4,g,ne,ed,rfl⟩;rw[Yl] at hj;obtain⟨c0,ec,rfl⟩:∃c0,as[j]?=some c0/\V.ref c0=v:=by
    cases e:as[j]? with
    |none=>rw[e] at hj;cases hj
    |some c=>rw[e] at hj;exact⟨c,rfl,Yp hj⟩
   obtain⟨c,g_,z,hc⟩:=fV d7 ec;have mc:=Yh g_;have fg:=fgA c mc;have ok:=fg.ok;have jl:j<F.length:=(Yg.mp g_).1;have jH:F.take (j+1)=F.take j++[c]:=by rw[Y0,g_];rfl
   refine⟨c0,_,rfl,aA.of (g _ _ hc),rfl,_,_,rfl,bc ⟨_,_,rfl,bc ⟨_,_,rfl,bc ⟨_,_,rfl,bc ⟨rfl,?_⟩⟩⟩⟩⟩;have ev:∀b:Bool,decide (V.str c.k=V.str bG)=b->(b=true↔c.k=bG):=λb e=>by
    rw[←e,decide_eq_true_iff];exact⟨V.str.inj,λz=>by rw[z]⟩
   refine⟨_,rfl,rfl,_,rfl,?_⟩;refine bB (λcc=>?_) (λcc=>aX ?_)
   ·have ns:c.k≠bG:=λz=>by
     rw[(ev _ rfl).mpr z] at cc;cases cc
    obtain⟨tk,u,fE,vu,hu⟩:=ht.get (fg.uF ns);obtain⟨⟨o0,om⟩,ft,tl⟩:=ok.gf ns;have eo:kV (bu ps c)=.str (aq ps c.aE.toNat):=by rw[iz ns];rfl
    refine Oc (ps:=ps) (x:=c.one) (y:=c.aE.toNat) (t:=c.tn) (λ_ _ h=>⟨_,rfl,h⟩) ku ok.one (λ_ _ h=>⟨_,rfl,h⟩) (λ_ _ h=>⟨_,rfl,by rw[eo];exact h⟩) ne g (by omega) (λH2 Q2 g2 k2=>⟨_,rfl,_,rfl,td,.ref u,rfl,c5 (g2 _ _ fE) vu,k2 u H2 (ah.refl _) (g2 _ _ hu)⟩) λv2 Zii H2 g2 n2=>?_;refine Oc (ps:=ps) (x:=c.aE.toNat) (y:=c.one) (t:=inv c.tn) (λ_ _ h=>⟨_,rfl,h⟩) ku om (λ_ _ h=>⟨_,rfl,by rw[eo];exact h⟩) (λ_ _ h=>⟨_,rfl,h⟩) n2 g2 (by omega) (λH3 Q3 g3 k3=>⟨_,rfl,_,rfl,td,.ref u,rfl,c5 (g3 _ _ fE) vu,u,c.tn,rfl,g3 _ _ hu,by omega,ft,λw H4 _ g4 hw=>k3 w H4 g4 hw⟩) λv3 Zhq H3 g3 n3=>?_;refine⟨Zhq,_,_,_,_,_,g3,n3,λx y t=>?_,rfl⟩;rw[jH,qa,O0,O0,ed]
    grind
   ·have sd:c.k=bG:=by
     by_cases z:c.k=bG;·exact z
     ·cases e:decide (V.str c.k=V.str bG) with
      |true=>exact absurd ((ev _ e).mp rfl) z
      |false=>rw[e] at cc;exact absurd rfl cc
    refine⟨kvs,L,_,_,_,_,g,⟨ne.dict,by have:=ne.len;omega,ne.new,λz hz=>?_,ne.inj⟩,λx y t=>?_,rfl⟩
    ·rcases ne.at_ z hz with w|⟨a,es,w1,w2,w3,w4,w5⟩;·exact .inl w
     ·exact .inr ⟨a,es,w1,w2,w3,by omega,w5⟩
    ·rw[jH,qa,ed];exact⟨.inl,λh=>h.elim id λz=>absurd sd z.1⟩
  ·rintro σ H6 ⟨kvs,L,o1,o2,o3,o4,g,ne,ed,rfl⟩;rw[Ya,al] at ne;rw[Ya,al,We] at ed;refine d5 _ _ ⟨kvs,L,o1,o2,o3,o4,g,⟨ne.dict,by have:=ne.len;omega,ne.new,λz hz=>?_,ne.inj⟩,ed,rfl⟩;rcases ne.at_ z hz with w|⟨a,es,w1,w2,w3,w4,w5⟩;·exact .inl w
   ·exact .inr ⟨a,es,w1,w2,w3,by omega,w5⟩
 rintro σ H6 ⟨kvs,L,o1,o2,o3,o4,g,ne,ed,rfl⟩;exact⟨_,rfl,q d kvs L H6 g ne ed⟩
end
theorem Sb{t:List Int}{z:Int}(h0:0<=z)(h:z<t.length):dv (t.map V.int) z=some (.int (ap t z)):=m6 h0 h
def gN(ps:bA)(g:List (Nat×Int)):List (Key×V):=g.map λp=>(.inr (aq ps p.1),.int p.2)
def pK(ps:bA)(g:List (Nat×Int)):List V:=g.map λp=>.str (aq ps p.1)
theorem ZfC(ps:bA)(g:List (Nat×Int)):(gN ps g).length=g.length:=Ya _
theorem QP(ps:bA)(g:List (Nat×Int)):(pK ps g).length=g.length:=Ya _
theorem ql(nd:(ps.map (·.1)).Nodup)(hk:k<ps.length):∀{g:List (Nat×Int)},(∀p∈g,p.1<ps.length)->aS (gN ps g) (.inr (aq ps k))=(g.lookup k).map V.int
 |[],_=>rfl
 |p::g,lt=>by
  have e0:gN ps (p::g)=(Sum.inr (aq ps p.1),V.int p.2)::gN ps g:=rfl;rw[e0,Wt];by_cases e:k=p.1
  ·rw[beq_iff_eq.mpr e,fO (p:=((Sum.inr (aq ps p.1):Key),V.int p.2)) (by rw[e])];rfl
  ·rw[beq_eq_false_iff_ne.mpr e,fq (p:=((Sum.inr (aq ps p.1):Key),V.int p.2)) (λz=>e (rB nd hk (lt p Yk) (Wj (show(Sum.inr (aq ps p.1):Key)=Sum.inr (aq ps k) from z)).symm))];exact ql nd hk λq hq=>lt q (Yv _ hq)
theorem Zd_{ps:bA}{g:List (Nat×Int)}{r k:Nat}{v:Int}(h:g[r]?=some (k,v)):dv (pK ps g) (r:Int)=some (.str (aq ps k)):=hV (by unfold pK;rw[Yl,h];rfl)
def vD(ps:bA)(d fa fn aO:Addr)(x:Nat)(a:Int)(r:Nat)(o7 o8 o9 qR nU nW fJ:Option V):St:=[some (.ref d),some (.ref fa),some (.str (aq ps x)),some (.int a),some (.ref fn),some (.ref aO),some (.int (r:Int)),o7,o8,o9,qR,nU,nW,fJ]
def muC(m:Nat):St->Hp->Nat:=λσ _=>match List.getD (α:=Option V) σ 6 none with|some (V.int z)=>m+1-z.toNat|_=>0
inductive S8(H:Hp)(F:List Fc)(L:Nat->List (Nat×List Int))(n:Nat)(ps:bA)(d fa fn aO:Addr)(x:Nat)(a:Int)(σ:St)(H6:Hp):Prop
 |mk (g:List (Nat×Int)) (r:Nat) (o7 o8 o9:Option V) (aB:ah H H6) (aT:H6 fn=some (.dK (gN ps g))) (bq:H6 aO=some (.lst (pK ps g))) (bR:BF F n ps.length x a g) (cM:r<=g.length) (dZ:(∀r',r'<r->Cl L g r')) (ie:σ=vD ps d fa fn aO x a r o7 o8 o9 none none none none):S8 H F L n ps d fa fn aO x a σ H6
def Zhr(H:Hp)(F:List Fc)(L:Nat->List (Nat×List Int))(n:Nat)(ps:bA)(d fa fn aO:Addr)(x:Nat)(a:Int)(σ:St)(H6:Hp):Prop:=S8 H F L n ps d fa fn aO x a σ H6
inductive S9(H:Hp)(F:List Fc)(L:Nat->List (Nat×List Int))(n:Nat)(ps:bA)(d fa fn aO:Addr)(x:Nat)(a:Int)(σ:St)(H6:Hp):Prop
 |mk (g:List (Nat×Int)) (r:Nat) (o7 o8 o9:Option V) (aB:ah H H6) (aT:H6 fn=some (.dK (gN ps g))) (bq:BF F n ps.length x a g) (bR:(∀r',r'<g.length->Cl L g r')) (cM:σ=vD ps d fa fn aO x a r o7 o8 o9 none none none none):S9 H F L n ps d fa fn aO x a σ H6
def Zhs(H:Hp)(F:List Fc)(L:Nat->List (Nat×List Int))(n:Nat)(ps:bA)(d fa fn aO:Addr)(x:Nat)(a:Int)(σ:St)(H6:Hp):Prop:=S9 H F L n ps d fa fn aO x a σ H6
inductive Ul(H:Hp)(F:List Fc)(L:Nat->List (Nat×List Int))(n:Nat)(ps:bA)(d fa fn aO:Addr)(x:Nat)(a:Int)(r k:Nat)(v:Int)(g:List (Nat×Int))(al:Addr)(es:List Addr)(j:Nat)(σ:St)(H8:Hp):Prop
 |mk (g' tl:List (Nat×Int)) (o8 o9:Option V) (aB:ah H H8) (aT:H8 al=some (.lst (es.map V.ref))) (bq:H8 fn=some (.dK (gN ps g'))) (bR:H8 aO=some (.lst (pK ps g'))) (cM:BF F n ps.length x a g') (dZ:g'=g++tl) (ie:(∀q∈(L k).take j,g'.lookup q.1=some (ap q.2 v))) (ji:σ=vD ps d fa fn aO x a r (some (.str (aq ps k))) o8 o9 none none none none):Ul H F L n ps d fa fn aO x a r k v g al es j σ H8
def CIn(H:Hp)(F:List Fc)(L:Nat->List (Nat×List Int))(n:Nat)(ps:bA)(d fa fn aO:Addr)(x:Nat)(a:Int)(r k:Nat)(v:Int)(g:List (Nat×Int))(al:Addr)(es:List Addr)(j:Nat)(σ:St)(H8:Hp):Prop:=Ul H F L n ps d fa fn aO x a r k v g al es j σ H8
inductive S_(H:Hp)(F:List Fc)(L:Nat->List (Nat×List Int))(n:Nat)(ps:bA)(d fa fn aO:Addr)(x:Nat)(a:Int)(r k:Nat)(v:Int)(g:List (Nat×Int))(σ:St)(H8:Hp):Prop
 |mk (g' tl:List (Nat×Int)) (o8 o9:Option V) (aB:ah H H8) (aT:H8 fn=some (.dK (gN ps g'))) (bq:H8 aO=some (.lst (pK ps g'))) (bR:BF F n ps.length x a g') (cM:g'=g++tl) (dZ:(∀q∈L k,g'.lookup q.1=some (ap q.2 v))) (ie:σ=vD ps d fa fn aO x a r (some (.str (aq ps k))) o8 o9 none none none none):S_ H F L n ps d fa fn aO x a r k v g σ H8
def Zht(H:Hp)(F:List Fc)(L:Nat->List (Nat×List Int))(n:Nat)(ps:bA)(d fa fn aO:Addr)(x:Nat)(a:Int)(r k:Nat)(v:Int)(g:List (Nat×Int))(σ:St)(H8:Hp):Prop:=S_ H F L n ps d fa fn aO x a r k v g σ H8
inductive Ta(H:Hp)(F:List Fc)(n:Nat)(ps:bA)(d fa fn aO:Addr)(x:Nat)(a:Int)(r k y:Nat)(u:Addr)(g':List (Nat×Int))(al:Addr)(es:List Addr)(σ:St)(H9:Hp):Prop
 |mk (qS Lb:List (Nat×Int)) (v':Int) (aB:ah H H9) (aT:H9 al=some (.lst (es.map V.ref))) (bq:H9 fn=some (.dK (gN ps qS))) (bR:H9 aO=some (.lst (pK ps qS))) (cM:BF F n ps.length x a qS) (dZ:qS=g'++Lb) (ie:qS.lookup y=some v') (ji:σ=vD ps d fa fn aO x a r (some (.str (aq ps k))) (some (.str (aq ps y))) (some (.ref u)) none none none none):Ta H F n ps d fa fn aO x a r k y u g' al es σ H9
def Zhu(H:Hp)(F:List Fc)(n:Nat)(ps:bA)(d fa fn aO:Addr)(x:Nat)(a:Int)(r k y:Nat)(u:Addr)(g':List (Nat×Int))(al:Addr)(es:List Addr)(σ:St)(H9:Hp):Prop:=Ta H F n ps d fa fn aO x a r k y u g' al es σ H9
def Tb(ps:bA)(F:List Fc)(H6:Hp)(d fa fn aO:Addr)(x:Nat)(a:Int)(r:Nat)(g:List (Nat×Int))(o7 o8 o9:Option V)(σ:St)(H8:Hp):Prop:=H8=H6/\(∀c∈F,c.k=bG->∀u,g.lookup c.one=some u->u=c.aE)/\∃qR nU nW fJ:Option V,σ=vD ps d fa fn aO x a r o7 o8 o9 qR nU nW fJ
inductive Ni(vs:List V)(H:Hp)(Q:VK):Prop
 |mk (H0:Hp) (d fa:Addr) (kvs:List (Key×V)) (L:Nat->List (Nat×List Int)) (n:Nat) (ps:bA) (F:List Fc) (x:Nat) (a:Int) (aB:vs=[.ref d,.ref fa,.str (aq ps x),.int a]) (nd:(ps.map (·.1)).Nodup) (aT:je H0 H ps d 300 kvs L) (bq:(∀x y t,(y,t)∈L x↔e_ F x y t)) (bR:FL H ps fa F) (cM:(∀c∈F,dW n ps.length c)) (dZ:n<=8) (ie:ps.length<=100) (ji:F.length<=64) (qG:x<ps.length) (xG:(0<=a/\a<(n:Int))) (IT:((¬∃g,ju n F g/\g x=some a)->∀H',ah H H'->Q .ay H')) (T3:∀(p:Addr) (g:List (Nat×Int)) (H':Hp),ah H H'->H' p=some (.dK (gN ps g))->BF F n ps.length x a g->ju n F (λk=>g.lookup k)->Q (.ref p) H'):Ni vs H Q
def Od:Sp:=λvs H Q _=>Ni vs H Q
section
theorem kG:aR ["_law_nets_here","_law_facts","_law_name_here","_law_section","_law_found","_law_row_here","_law_at","_law_here","_law_that","_law_turn_here","_law_number","_law_kind","_law_one","_law_said"] ["_law_nets_here","_law_facts","_law_name_here","_law_section"] (aJ C6):=⟨rfl,rfl,rfl,by decide+kernel,rfl,by decide+kernel,by decide+kernel⟩
theorem ZaP(F:aK K "_law_carried" "_law_carried" C6 f fd)(bl:Bl mg):aH P w K mg base aM 1 f fd ["_law_nets_here","_law_facts","_law_name_here","_law_section"] Od:=by
 refine F.ok kG (λvs H Q E h=>?_) (λaC A outer s H vs Q E hr h=>?_)
 ·obtain⟨H0,d,fa,kvs,L,n,ps,F,x,a,rfl,_⟩:=h;rfl
 obtain⟨H0,d,fa,kvs,L,n,ps,F,x,a,rfl,ku,Aa,ed,jo,jk,n8,Um,Bf,hx,Zhv,q1,q2⟩:=h;refine⟨_,(ak (a_ (i:=4) kG.nd rfl (Or.inl rfl) (zk (jK (pv 2) (pv 3) zh) rfl rfl (λz=>nomatch z) (Jl rfl))) (ak (a_ (i:=5) kG.nd rfl (Or.inl rfl) (de (aa (pv 2) ae))) (ak (a_ (i:=6) kG.nd rfl (Or.inl rfl) aL) (ak (yW PassesOwn.never (aU lU (pv 6) (bL (c9 (K:=K) rfl) rfl bl.cU cT (aa (pv 5) ae)) (aP _)) (ak (a_ (i:=7) kG.nd rfl (Or.inl rfl) (bg (cA (K:=K) rfl) (pv 5) (pv 6) (λ_ _=>rfl))) (ak (eY PassesOwn.never rfl (d_ (K:=K) rfl (Zcc (bH hr) (pv 0) (pv 7) (de ae) ⟨rfl,rfl,rfl,rfl⟩)) (iD (K:=K) (n:=2) rfl rfl (bN (a8 (i:=8) kG.nd rfl (Or.inl rfl)) (bN (a8 (i:=9) kG.nd rfl (Or.inl rfl)) iC))) (ak (aQ (jN (mO (bH hr) (pv 8) (pv 4)) (by with_unfolding_all rfl)) (ak (ot (bH hr) (pv 4) (pv 8) (bg (gu (K:=K) rfl) (pv 9) (dh (bH hr) (pv 4) (pv 7) (λ_ _=>rfl)) (λ_ _=>rfl))) (au (bY (hX (K:=K) rfl (fQ plainAttrs_list PySem.F.slot_list_append PySem.F.type_list_append iu (pv 5) (aa (pv 8) ae)))))) aY) (au (aQ (aU kR (dh (bH hr) (pv 4) (pv 8) (λ_ _=>rfl)) (bg (gu (K:=K) rfl) (pv 9) (dh (bH hr) (pv 4) (pv 7) (λ_ _=>rfl)) (λ_ _=>rfl)) (aP _)) (au (aF lQ)) aY)))) (au (GU (i:=6) kG.nd rfl (Or.inl rfl) aL GV))))) (ak (eY PassesOwn.never rfl (d_ (K:=K) rfl (pv 1)) (iD (K:=K) (n:=4) rfl rfl (bN (a8 (i:=10) kG.nd rfl (Or.inl rfl)) (bN (a8 (i:=11) kG.nd rfl (Or.inl rfl)) (bN (a8 (i:=12) kG.nd rfl (Or.inl rfl)) (bN (a8 (i:=13) kG.nd rfl (Or.inl rfl)) iC))))) (au (aQ (PW.pt (pw_and (aU cg (pv 11) bC (aP _)) (pw_and (jN (zE (bH hr) (pv 12) (pv 4)) (by with_unfolding_all rfl)) (pw_and1 (aU kR (dh (bH hr) (pv 4) (pv 12) (λ_ _=>rfl)) (pv 13) (aP _)))))) (au (aF lQ)) aY))) (au (aF (pv 4)))))))),?_⟩;refine bW ?_;refine λfn Bg=>⟨_,rfl,_,rfl,aZ,[(.inr (aq ps x),.int a)],rfl,(by show 1<=15;omega),?_⟩;obtain⟨H1,qO⟩:∃H1,H1=upd (upd H fn (.dK [])) fn (.dK (oG [] [(.inr (aq ps x),.int a)])):=⟨_,rfl⟩;have g1:ah H H1:=λb o e=>by rw[qO,a9 (bQ e Bg),a9 (bQ e Bg)];exact e
 have h1:H1 fn=some (.dK (gN ps [(x,a)])):=by rw[qO,aZ];rfl
 rw[←qO];refine bW ?_;refine⟨_,rfl,by show 1<=sizeLine;rw[sizeLine_eq];omega,λaO H2 qT g2 yi=>?_⟩;refine setC ?_;have Uo:=g1.free qT;have fr_ne:fn≠aO:=λz=>by rw[←z,h1] at qT;cases qT
 have sz:(10000:Nat)<=sizeLine:=by rw[sizeLine_eq];omega
 have hdH:=Aa.dict;obtain⟨as,cV,d7⟩:=id jo;have al:=cN d7;refine fw (Zhs H F L n ps d fa fn aO x a) (λlE d5=>?_) ?_
 ·refine yX (Zhr H F L n ps d fa fn aO x a) (muC ps.length)
   ⟨[(x,a)],0,none,none,none,g1.trans g2,g2 _ _ h1,yi,bf0 hx Zhv,Yw _,λ_ z=>absurd z (Wm _),rfl⟩ ?_ ?_
  ·rintro σ H6 ⟨g,r,o7,o8,o9,g6,sZ,iQ,bf,rl,cl,rfl⟩;have kl:=QP ps g;have gl:=bf.len;refine⟨_,rfl,_,rfl,aO,_,rfl,.inl (aj.of iQ),_,_,rfl,rfl,_,rfl,?_⟩;rw[kl];refine bB (λc=>?_) (λc=>?_)
   ·have nX:r<g.length:=by have:=of_decide_eq_true c;omega
    obtain⟨k,v,Lc⟩:∃(k:Nat) (v:Int),g[r]?=some (k,v):=⟨g[r].1,g[r].2,Yb nX⟩;have WD:(k,v)∈g:=Yh Lc;have lkv:g.lookup k=some v:=mem_lookup bf.nd WD;obtain⟨km,v0,vn⟩:=bf.lt _ WD;have WE:=g6 _ _ hdH;refine bW ?_;refine⟨_,rfl,_,rfl,aO,_,_,_,rfl,rfl,aj.of iQ,Zd_ Lc,?_⟩;refine fw (Zht H F L n ps d fa fn aO x a r k v g) (λyd lH=>?_) ?_
    ·refine⟨_,rfl,d,rfl,.inl ⟨_,.inl WE⟩,_,rfl,by show 0<=sizeLine;exact Yw _,λe0 H7 yj g7 xX=>?_⟩;have fn7:=g7 _ _ sZ;have rw7:=g7 _ _ iQ;have nf0:e0≠fn:=λz=>by rw[z,sZ] at yj;cases yj
     have nr0:e0≠aO:=λz=>by rw[z,iQ] at yj;cases yj
     obtain⟨al,es,eal,Bh,Zhw,Zhx,WG⟩:∃(al:Addr) (es:List Addr),(aS kvs (.inr (aq ps k))).getD (.ref e0)=.ref al/\H7 al=some (.lst (es.map V.ref))/\al≠fn/\al≠aO/\Paired (λe (p:Nat×List Int)=>∃u,H e=some (.tup [.str (aq ps p.1),.ref u])/\bV H u p.2) es (L k):=by
      rcases Aa.at_ k km with⟨z1,z2⟩|⟨a1,es,w1,w2,w3,w4,w5⟩;·exact⟨e0,[],by rw[z1];rfl,xX,nf0,nr0,by rw[z2];exact .nil⟩
      ·exact⟨a1,es,by rw[w1];rfl,g7 _ _ (g6 _ _ w3),bQ w3 Bg,bQ w3 Uo,w5⟩
     have esl:=cN WG;refine⟨_,c5 (g7 _ _ WE) rfl,al,eal,⟨_,aj.of Bh⟩,hJ (K:=K) (a:=al) (xs:=es.map V.ref) (CIn H F L n ps d fa fn aO x a r k v g al es)
      ⟨g,[],o8,o9,g6.trans g7,Bh,fn7,rw7,bf,by rw[Y5],λq hq=>(nomatch hq),rfl⟩ (λj σ H8 _ ⟨_,_,_,_,_,h,_,_,_,_,_,_⟩=>aj.of h) ?_ ?_⟩
     ·rintro j w σ H8 hj ⟨g',tl,p8,p9,g8,IY,jF,fU,nY,eg,eW,rfl⟩;rw[Yl] at hj;obtain⟨e,ee,rfl⟩:∃e,es[j]?=some e/\V.ref e=w:=by
       cases z:es[j]? with
       |none=>rw[z] at hj;cases hj
       |some c=>rw[z] at hj;exact⟨c,rfl,Yp hj⟩
      obtain⟨⟨y,t⟩,WH,u,he,hu⟩:=fV WG ee;have IZ:e_ F k y t:=(ed _ _ _).mp (Yh WH);obtain⟨_,ym,ft,tl8⟩:=wo jk IZ;have Le:g'.lookup k=some v:=by rw[eg];exact yB lkv
      have vb:v<(t.length:Int):=by rw[tl8];exact vn
      have gl8:=nY.len;have he8:H8 e=some (.tup [.str (aq ps y),.ref u]):=g8 _ _ he;have K6:(L k).take (j+1)=(L k).take j++[(y,t)]:=by rw[Y0,WH];rfl
      refine⟨e,_,rfl,aA.of he8,rfl,_,_,rfl,bc ⟨_,_,rfl,bc ⟨rfl,?_⟩⟩⟩;refine oF (Zhu H F n ps d fa fn aO x a r k y u g' al es) (λnR eS=>?_) ?_
      ·refine⟨_,rfl,_,rfl,fn,_,rfl,c5 jF (ql ku ym λp hp=>(nY.lt p hp).1),_,rfl,?_⟩;cases ly:g'.lookup y with
       |none=>
        refine c8 ?_;refine⟨_,rfl,_,rfl,_,rfl,fn,.int v,rfl,c5 jF (by rw[ql ku km λp hp=>(nY.lt p hp).1,Le];rfl),u,_,_,_,rfl,rfl,aA.of (g8 _ _ hu),Sb v0 vb,_,rfl,_,rfl,fn,_,.inr (aq ps y),rfl,jF,rfl,by rw[ZfC];omega,λH9 b9 e9=>?_⟩;have vn0:aS (gN ps g') (.inr (aq ps y))=none:=by rw[ql ku ym λp hp=>(nY.lt p hp).1,ly];rfl
        rw[kJ _ vn0] at e9;have jq:=b9 _ _ fU (λz=>fr_ne z.symm);refine⟨_,rfl,.inl ⟨rfl,_,aj.of jq⟩,_,rfl,aO,_,_,rfl,rfl,jq,by rw[QP];omega,λmC pL ka=>?_⟩;refine eS _ _ ⟨g'++[(y,ap t v)],[(y,ap t v)],ap t v,λc o z=>pL _ _ (b9 _ _ (g8 _ _ z) (bQ z Bg)) (bQ z Uo),pL _ _ (b9 _ _ IY Zhw) Zhx,?_,?_,nY.add jk IZ Le ly,rfl,M_ ly,rfl⟩;·rw[pL _ _ e9 fr_ne,gN,gN,Yj];rfl
        ·rw[ka,pK,pK,Yj];rfl
       |some v'=>
        refine cz (aX ?_);exact eS _ _ ⟨g',[],v',g8,IY,jF,fU,nY,by rw[Y5],ly,rfl⟩
      ·rintro σ H9 ⟨qS,Lb,v',g9,Zhy,nS,jq,Bi,Lf,lv,rfl⟩;have WI:qS.lookup k=some v:=by rw[Lf];exact yB Le
       refine⟨_,rfl,_,rfl,fn,.int v',rfl,c5 nS (by rw[ql ku ym λp hp=>(Bi.lt p hp).1,lv];rfl),_,rfl,_,rfl,_,rfl,fn,.int v,rfl,c5 nS (by rw[ql ku km λp hp=>(Bi.lt p hp).1,WI];rfl),u,_,_,_,rfl,rfl,aA.of (g9 _ _ hu),Sb v0 vb,rfl,_,rfl,?_⟩;refine bB (λc=>?_) (λc=>aX ?_)
       ·refine q1 (Bi.Zgk IZ WI lv λz=>?_) H9 g9;rw[z] at c;simp at c
       ·have ev:v'=ap t v:=by
         by_cases z:v'=ap t v;·exact z
         ·exact absurd (by simp[z]) c
        refine⟨qS,tl++Lb,_,_,g9,Zhy,nS,jq,Bi,by rw[Lf,eg,W4],λq hq=>?_,rfl⟩;rw[K6] at hq;rcases Yr.mp hq with hq|hq;·rw[Lf];exact yB (eW q hq)
        ·rw[Ye] at hq;rw[hq,lv,ev]
     ·rintro σ H8 ⟨g',tl,p8,p9,g8,IY,jF,fU,nY,eg,eW,rfl⟩;rw[Ya,esl,We] at eW;exact lH _ _ ⟨g',tl,p8,p9,g8,jF,fU,nY,eg,eW,rfl⟩
    ·rintro σ H8 ⟨g',tl,p8,p9,g8,jF,fU,nY,eg,eW,rfl⟩;have rr:r<(g++tl).length:=by rw[Yi];omega
     have ge:(g++tl)[r]?=some (k,v):=by rw[Y6 nX];exact Lc
     have lC:((r:Int)+1)=((r+1:Nat):Int):=by omega
     refine⟨_,rfl,_,_,rfl,rfl,?_⟩;refine⟨⟨g',r+1,some (.str (aq ps k)),p8,p9,g8,jF,fU,nY,by rw[eg];exact rr,λr' h'=>?_,rfl⟩,?_⟩
     ·rw[eg];by_cases z:r'=r
      ·subst z;intro p hp qq hq;rw[ge] at hp;cases hp;rw[←eg];exact eW qq hq
      ·exact(cl r' (by omega)).app (by omega)
     ·show ps.length+1-((r:Int)+1).toNat<ps.length+1-((r:Int)).toNat;omega
   ·have re:¬((r:Int)<(g.length:Int)):=λz=>c (decide_eq_true z);exact d5 _ _ ⟨g,r,o7,o8,o9,g6,sZ,bf,λr' h'=>cl r' (by omega),rfl⟩
  ·rintro σ H6 Q1 Q2 mo ⟨v1,w1,v2,w2,v3,v4,w3,w4,v5,v6,w5,w6,v7,w7,h⟩;exact⟨v1,w1,v2,w2,v3,v4,w3,w4,v5,v6,w5,w6,v7,w7,mo _ _ h⟩
 rintro σ H6 ⟨g,r,o7,o8,o9,g6,sZ,bf,cl,rfl⟩;refine fw (Tb ps F H6 d fa fn aO x a r g o7 o8 o9) (λlE d5=>?_) ?_
 ·refine⟨_,rfl,fa,rfl,⟨_,aj.of (g6 _ _ cV)⟩,hJ (K:=K) (a:=fa) (xs:=as.map V.ref) (λj=>Tb ps (F.take j) H6 d fa fn aO x a r g o7 o8 o9)
   ⟨rfl,λc hc=>(nomatch hc),none,none,none,none,rfl⟩ (λj σ H8 _ ⟨e,_⟩=>by rw[e];exact aj.of (g6 _ _ cV)) ?_ ?_⟩
  ·rintro j v σ H8 hj ⟨rfl,sd,qR,nU,nW,fJ,rfl⟩;rw[Yl] at hj;obtain⟨c0,ec,rfl⟩:∃c0,as[j]?=some c0/\V.ref c0=v:=by
    cases e:as[j]? with
    |none=>rw[e] at hj;cases hj
    |some c=>rw[e] at hj;exact⟨c,rfl,Yp hj⟩
   obtain⟨c,g_,z,hc⟩:=fV d7 ec;have mc:=Yh g_;have jH:F.take (j+1)=F.take j++[c]:=by rw[Y0,g_];rfl
   refine⟨c0,_,rfl,aA.of (g6 _ _ hc),rfl,_,_,rfl,bc ⟨_,_,rfl,bc ⟨_,_,rfl,bc ⟨_,_,rfl,bc ⟨rfl,?_⟩⟩⟩⟩⟩;have ev:∀b:Bool,decide (V.str c.k=V.str bG)=b->(b=true↔c.k=bG):=λb e=>by
    rw[←e,decide_eq_true_iff];exact⟨V.str.inj,λz=>by rw[z]⟩
   have pM:(c.k=bG->∀u,g.lookup c.one=some u->u=c.aE)->∃qR nU nW fJ:Option V,(H8=H8/\∀c∈F.take (j+1),c.k=bG->∀u,g.lookup c.one=some u->u=c.aE)/\True:=λh=>⟨none,none,none,none,⟨rfl,λc' m'=>by
    rw[jH] at m';rcases Yr.mp m' with m'|m';·exact sd c' m'
    ·rw[Ye] at m';rw[m'];exact h⟩,trivial⟩
   refine⟨_,rfl,rfl,_,rfl,bB (λcc=>?_) (λcc=>?_)⟩
   ·have sk:=(ev _ rfl).mp cc;have eo:kV (bu ps c)=.int c.aE:=by rw[mP sk];rfl
    refine⟨_,rfl,_,rfl,fn,_,rfl,c5 sZ (ql ku (jk c mc).one λp hp=>(bf.lt p hp).1),_,rfl,?_⟩;cases lk:g.lookup c.one with
    |none=>
     refine cz (cz (aX ?_));obtain⟨_,_,_,_,⟨_,h⟩,_⟩:=pM λ_ u e=>by rw[lk] at e;cases e
     exact⟨rfl,h,_,_,_,_,rfl⟩
    |some u=>
     refine c8 ?_;refine⟨_,rfl,_,rfl,fn,.int u,rfl,c5 sZ (by rw[ql ku (jk c mc).one λp hp=>(bf.lt p hp).1,lk];rfl),_,rfl,by rw[eo];rfl,_,rfl,bB (λc2=>?_) (λc2=>aX ?_)⟩
     ·refine q1 (bf.Zfy mc sk lk λz=>?_) H8 g6;rw[z,eo] at c2;simp at c2
     ·have eu:u=c.aE:=by
       by_cases z:u=c.aE;·exact z
       ·exact absurd (by rw[eo];simp[z]) c2
      obtain⟨_,_,_,_,⟨_,h⟩,_⟩:=pM λ_ u' e=>by rw[lk] at e;rw[←Yp e];exact eu
      exact⟨rfl,h,_,_,_,_,rfl⟩
   ·refine cz (aX ?_);obtain⟨_,_,_,_,⟨_,h⟩,_⟩:=pM λz=>absurd ((ev _ rfl).mpr z) cc;exact⟨rfl,h,_,_,_,_,rfl⟩
  ·rintro σ H8 ⟨rfl,sd,qR,nU,nW,fJ,rfl⟩;rw[Ya,al,We] at sd;exact d5 _ _ ⟨rfl,sd,qR,nU,nW,fJ,rfl⟩
 rintro σ H8 ⟨rfl,sd,qR,nU,nW,fJ,rfl⟩;exact⟨_,rfl,q2 fn g H8 g6 sZ bf (bf.done ed cl sd)⟩
end
inductive QQ(vs:List V)(H:Hp)(Q:VK):Prop
 |mk (fa td:Addr) (ps:bA) (xs ys:List Int) (F:List Fc) (x:Nat) (aB:vs=[.ref fa,.ref td,.str (aq ps x)]) (aT:FL H ps fa F) (ht:gm H td xs ys) (nd:(ps.map (·.1)).Nodup) (bq:∀c∈F,eA xs ys ps.length c) (bR:xs.length<=8) (cM:ps.length<=100) (dZ:F.length<=64) (ie:x<ps.length) (ji:∀(p:Addr) (H':Hp),H p=none->ah H H'->H' p=some (.lst ((c7 F xs.length x).map V.int))->Q (.ref p) H'):QQ vs H Q
def Hi:Sp:=λvs H Q _=>QQ vs H Q
inductive Po(vs:List V)(H:Hp)(Q:VK):Prop
 |mk (a b:Addr) (xs ys:List Int) (aB:vs=[.ref a,.ref b]) (aT:bV H a xs) (bq:bV H b ys) (bR:m9 xs ys) (cM:∀(p:Addr) (H':Hp),H p=none->ah H H'->gm H' p xs ys->Q (.ref p) H'):Po vs H Q
def QR:Sp:=λvs H Q _=>Po vs H Q
section
theorem MJ:aR ["_law_facts","_law_turns_here","_law_name_here","_law_nets_here"] ["_law_facts","_law_turns_here","_law_name_here"] (aJ EF):=⟨rfl,rfl,rfl,by decide+kernel,rfl,by decide+kernel,by decide+kernel⟩
open Classical in
theorem Zea(F:aK K "_law_room" "_law_room" EF f fd)(EV:HasFn P w K mg base 2 "_law_nets" ["_law_facts","_law_turns_here"] Sa)(De:HasFn P w K mg base 1 "_law_carried" ["_law_nets_here","_law_facts","_law_name_here","_law_section"] Od)(bl:Bl mg):aH P w K mg base aM 3 f fd ["_law_facts","_law_turns_here","_law_name_here"] Hi:=by
 refine F.ok MJ (λvs H Q E h=>?_) (λaC A outer s H vs Q E hr h=>?_)
 ·obtain⟨fa,td,ps,xs,ys,F,x,rfl,_⟩:=h;rfl
 obtain⟨fa,td,ps,xs,ys,F,x,rfl,jo,ht,ku,fg,n8,Um,Bf,hx,q⟩:=h;refine⟨_,(ak (a_ (i:=3) MJ.nd rfl (Or.inr rfl) (aW EV hr (by omega) rfl (aa (pv 0) (aa (pv 1) ae)))) (au (aF (iW (x:="_law_at") (fr:=[("_law_nets_here",3),("_law_name_here",2),("_law_facts",0)]) (cl:=[("_law_nets_here",s.heap.objs.size+1+1+1),("_law_name_here",s.heap.objs.size+1+1),("_law_facts",s.heap.objs.size+1)]) rfl ⟨by with_unfolding_all rfl,⟨rfl,⟨rfl,⟨rfl,trivial⟩⟩⟩,rfl,by decide+kernel,rfl,by decide+kernel,rfl,⟨⟨rfl,.inl rfl,.inl rfl,rfl⟩,⟨⟨rfl,.inl rfl,.inl rfl,rfl⟩,⟨⟨rfl,.inl rfl,.inl rfl,rfl⟩,trivial⟩⟩⟩,by decide+kernel⟩ (pW rfl bl.jM (aa (bL (c9 (K:=K) rfl) rfl bl.cU cT (aa (dh (bH hr) (pv 1) bC (λ_ _=>rfl)) ae)) ae)) (λ_ _ _ _=>uo (aU ze (aW De hr (by omega) rfl (aa (pv 1) (aa (pv 3) (aa (pv 2) (aa (pv 0) ae))))) lQ (aP _))) (λ_ _ _ _=>(pv 0)))))),?_⟩;refine bW ?_;refine⟨_,rfl,_,rfl,fa,td,ps,xs,ys,F,rfl,jo,ht,ku,fg,n8,Bf,λd kvs L H1 g1 Aa ed=>?_⟩;obtain⟨_,_,_,u0,fE,_,_,_,vE⟩:=id ht;obtain⟨n,en⟩:∃n,n=xs.length:=⟨_,rfl⟩;have jk:∀c∈F,dW n ps.length c:=λc hc=>by rw[en];exact(fg c hc).ok
 rw[←en] at vE n8 q;have ul:((bF n).map V.int).length=n:=by rw[Ya,eX]
 refine⟨_,rfl,td,.ref u0,rfl,c5 (g1 _ _ fE) rfl,u0,_,rfl,.inr (aA.of (g1 _ _ vE)),?_⟩;rw[ul];refine⟨(n:Int),rfl,by omega,by omega,λD hD=>?_⟩;refine ZO (lo:=0) (by omega) hD (λi=>decide (∃g,ju n F g/\g x=some (i:Int))) (λi=>V.int (i:Int)) (λi hi H2 g2 _ Kt Kf kt kf=>?_) λH2 g2 h2=>?_
 ·rw[AG];have qI:(i:Nat)<n:=by omega
  refine⟨_,rfl,_,rfl,_,rfl,_,rfl,H,d,fa,kvs,L,n,ps,F,x,(i:Int),rfl,ku,Aa.same g2,ed,(jo.same g1).same g2,jk,n8,Um,Bf,hx,⟨by omega,by omega⟩,λno H3 g3=>?_,λp gg H3 g3 VA bf cl=>?_⟩
  ·refine⟨rfl,_,rfl,?_⟩;rw[decide_eq_true (show V.ay=V.ay from rfl)];exact cz (kf H3 (decide_eq_false no) g3)
  ·refine⟨rfl,_,rfl,?_⟩;rw[decide_eq_false (show ¬V.ref p=V.ay from λz=>nomatch z)];exact c8 ⟨_,rfl,kt _ H3 (decide_eq_true ⟨_,cl,bf.hd⟩) g3 rfl⟩
 ·refine q D H2 (g1.free hD) (g1.trans g2) ?_;rw[h2,Y8];have e:c7 F n x=((List.range n).filter λi:Nat=>decide (∃g,ju n F g/\g x=some (i:Int))).map λi:Nat=>(i:Int):=by
   unfold c7 bF;rw[Js];rfl
  rw[e,Wc];rfl
theorem DF:aR ["_law_mother","_law_wife","_law_father","_law_alone"] ["_law_mother","_law_wife"] (aJ D4):=⟨rfl,rfl,rfl,by decide+kernel,rfl,by decide+kernel,by decide+kernel⟩
theorem ZcY(F:aK K "_law_turns" "_law_turns" D4 f fd)(qX:HasFn P w K mg base 1 "_law_inverse" ["_law_turn_here"] Ih)(Ek:HasFn P w K mg base 1 "_law_after" ["_law_first","_law_then"] (S7 K))(bl:Bl mg):aH P w K mg base aM 2 f fd ["_law_mother","_law_wife"] QR:=by
 refine F.ok DF (λvs H Q E h=>?_) (λaC A outer s H vs Q E hr h=>?_)
 ·obtain⟨a,b,xs,ys,rfl,_⟩:=h;rfl
 obtain⟨a,b,xs,ys,rfl,ha,hb,gl,q⟩:=h;obtain⟨fx,fy,le,l2,l8⟩:=id gl;refine⟨_,(ak (a_ (i:=2) DF.nd rfl (Or.inl rfl) (aW Ek hr (by omega) rfl (aa (pv 1) (aa (pv 0) ae)))) (ak (a_ (i:=3) DF.nd rfl (Or.inl rfl) (eN (XG rfl) rfl bl.mV mQ (aa (eN Dr rfl bl.jM uf (aa (bL (c9 (K:=K) rfl) rfl bl.cU cT (aa (pv 0) ae)) ae)) ae))) (au (aF (zk (jK bC (aW qX hr (by omega) rfl (aa (pv 0) ae)) (jK bC (aW qX hr (by omega) rfl (aa (pv 2) ae)) (jK bC (pv 1) (jK bC (pv 3) zh)))) rfl rfl (λz=>nomatch z) (Jl rfl)))))),?_⟩;refine bW ?_;have lv:∀x∈ys,0<=x/\x<(xs.length:Int):=λx hx=>by rw[le];exact qc fy hx
 refine⟨_,rfl,_,rfl,b,a,ys,xs,rfl,aA.of hb,aA.of ha,lv,by omega,λl H1 nl g1 hl=>?_⟩;refine bW ?_;have el:(xs.map V.int).length=xs.length:=Ya _;refine⟨_,rfl,a,_,rfl,.inr (aA.of (g1 _ _ ha)),_,rfl,λrg H2 nrg g2 hrg=>⟨rg,xs.length,rfl,by rw[hrg,el],by omega,λst H3 AK g3 ib=>?_⟩⟩;have dw:=g2.trans g3;intro d nd;have g4:=cy nd (.dK []);have Lg:upd H3 d (.dK []) d=some (.dK []):=aZ;generalize upd H3 d (.dK [])=H4 at g4 Lg⊢;have WJ:=dw.trans g4;have qU:=g1.trans WJ;refine⟨_,rfl,a,xs,rfl,qU _ _ ha,by omega,fx,λim H5 nim g5 Ky=>?_⟩;refine⟨_,rfl,l,bJ xs ys,rfl,g5 _ _ (WJ _ _ hl),by rw[q5];omega,FW fx fy (by omega),λjf H6 njf g6 Kz=>?_⟩;have yk:=g5.trans g6;refine⟨_,rfl,_,rfl,yk _ _ Lg,[(.inr "mother",.ref im),(.inr "father",.ref jf),(.inr "wed",.ref b),(.inr "sibling",.ref st)],rfl,by show 4<=15;decide,?_⟩;have b7:aw d H6 (upd H6 d (.dK (uA im jf b st))):=aw.put (aw.of (ah.refl _));have WK:upd H6 d (.dK (uA im jf b st)) d=some (.dK (uA im jf b st)):=aZ;have em:oG [] [((.inr "mother":Key),V.ref im),(.inr "father",.ref jf),(.inr "wed",.ref b),(.inr "sibling",.ref st)]=uA im jf b st:=rfl;rw[em];generalize upd H6 d (.dK (uA im jf b st))=H7 at b7 WK⊢;have tne:∀{c:Addr} {zs:List Int},bV H6 c zs->c≠d:=λh1 z=>by rw[bV,z,yk _ _ Lg] at h1;cases h1
 have k7:∀{c:Addr} {zs:List Int},bV H6 c zs->bV H7 c zs:=λh=>b7 _ _ h (tne h);refine q d H7 (g1.free (dw.free nd)) (λc o e=>b7 _ _ (yk _ _ (qU _ _ e)) (bQ e (g1.free (dw.free nd)))) ⟨im,jf,b,st,WK,k7 (g6 _ _ Ky),k7 Kz,k7 (yk _ _ (qU _ _ hb)),k7 (yk _ _ (g4 _ _ ib))⟩
end
theorem FL.get(h:FL H ps fa F):∃as:List Addr,H fa=some (.lst (as.map V.ref))/\as.length=F.length/\∀(H':Hp) (j:Nat) (v:V),ah H H'->(as.map V.ref)[j]?=some v->∃(c0:Addr) (c:Fc) (z:Int),v=.ref c0/\F[j]?=some c/\F.take (j+1)=F.take j++[c]/\H' c0=some (.tup [.int z,.str c.k,.str (aq ps c.one),kV (bu ps c)]):=by
 obtain⟨as,cV,d7⟩:=h;refine⟨as,cV,cN d7,λH' j v g hj=>?_⟩;rw[Yl] at hj;obtain⟨c0,ec,rfl⟩:∃c0,as[j]?=some c0/\V.ref c0=v:=by
  cases e:as[j]? with
  |none=>grind
  |some c=>grind
 obtain⟨c,g_,z,hc⟩:=fV d7 ec;exact⟨c0,c,z,rfl,g_,by rw[Y0,g_];rfl,g _ _ hc⟩
def mj(ps:bA)(k a:Str)(o:V)(c:Fc):Bool:=decide (c.k=k)&&((decide (aq ps c.one=a)&&(decide (kV (bu ps c)=o)||cO k))||(decide (k="sibling")&&(decide (kV (bu ps c)=.str a)&&decide (V.str (aq ps c.one)=o))))
def oP(ps:bA)(F:List Fc)(k a:Str)(o:V):Bool:=F.any (mj ps k a o)||(decide (k="sibling")&&decide (V.str a=o))
def Bt(t:TT)(σ:St)(H:Hp)(b:Bool):Prop:=∀k:Bool->Hp->Prop,(∀H',ah H H'->k b H')->t σ H k
def Vt(t:TE)(σ:St)(H:Hp)(v:V):Prop:=∀k:VK,(∀H',ah H H'->k v H')->t σ H k
section
variable {t u:TT}{e1 e2:TE}{σ:St}{H:Hp}{a b:Bool}{x y:V}
theorem Bt.and(h1:Bt t σ H a)(h2:∀H',a=true->ah H H'->Bt u σ H' b):Bt (To t u) σ H (a&&b):=λk hk=>h1 _ λH1 g1=>by
 cases a with
 |true=>exact c8 (h2 H1 rfl g1 _ λH2 g2=>hk H2 (g1.trans g2))
 |false=>grind
theorem Bt.or(h1:Bt t σ H a)(h2:∀H',a=false->ah H H'->Bt u σ H' b):Bt (UB t u) σ H (a||b):=λk hk=>h1 _ λH1 g1=>by
 cases a with
 |true=>grind
 |false=>exact cz (h2 H1 rfl g1 _ λH2 g2=>hk H2 (g1.trans g2))
theorem Vt.var(h:σ[i]?=some (some x)):Vt (hZ i) σ H x:=λ_ hk=>⟨x,h,hk H (ah.refl _)⟩
theorem Vt.c:Vt (tC x) σ H x:=λ_ hk=>hk H (ah.refl _)
theorem Vt.test(h:Vt e1 σ H (.bl b)):Bt (SF e1) σ H b:=λk hk=>h _ λH1 g1=>⟨b,rfl,hk H1 g1⟩
theorem Vt.eq(h1:Vt e1 σ H x)(h2:∀H',ah H H'->Vt e2 σ H' y)(sc:w8 x y=true):Vt (k_ UH e1 e2) σ H (.bl (decide (x=y))):=λk hk=>h1 _ λH1 g1=>h2 H1 g1 _ λH2 g2=>⟨sc,hk H2 (g1.trans g2)⟩
theorem Vt.ne(h1:Vt e1 σ H x)(h2:∀H',ah H H'->Vt e2 σ H' y)(sc:w8 x y=true):Vt (k_ UI e1 e2) σ H (.bl (!decide (x=y))):=λk hk=>h1 _ λH1 g1=>h2 H1 g1 _ λH2 g2=>⟨sc,hk H2 (g1.trans g2)⟩
theorem Vt.Up(h1:Vt e1 σ H (.bl a))(h2:∀H',a=true->ah H H'->Vt e2 σ H' (.bl b)):Vt (Sy e1 e2) σ H (.bl (a&&b)):=λk hk=>h1 _ λH1 g1=>⟨a,rfl,by
 cases a with
 |true=>exact c8 (h2 H1 rfl g1 _ λH2 g2=>hk H2 (g1.trans g2))
 |false=>exact cz (hk H1 g1)⟩
theorem Vt.orV(h1:Vt e1 σ H (.bl a))(h2:∀H',a=false->ah H H'->Vt e2 σ H' (.bl b)):Vt (Tp e1 e2) σ H (.bl (a||b)):=λk hk=>h1 _ λH1 g1=>⟨a,rfl,by
 cases a with
 |true=>grind
 |false=>exact cz (h2 H1 rfl g1 _ λH2 g2=>hk H2 (g1.trans g2))⟩
theorem Vt.Ii(h1:Vt e1 σ H (.str k)):Vt (k_ (xx K false) e1 (wQ (iZ (tC (V.str "mother")) (iZ (tC (V.str "father")) jR)))) σ H (.bl (cO k)):=λq hk=>h1 _ λH1 g1=>by
 refine⟨by show 2<=sizeLine;rw[sizeLine_eq];omega,λp H2 np g2 hp=>⟨p,_,rfl,.inr (aA.of hp),rfl,rfl,?_⟩⟩;have e:dI (V.str k) [V.str "mother",V.str "father"]=cO k:=by
  rw[Wf];unfold dI cO;rw[Jm,Jm,List.any_nil,Bool.or_false,J8,J8,decide_eq_true_iff,decide_eq_true_iff];show((("mother":Str)==k)=true\/(("father":Str)==k)=true)↔_
  grind
 rw[e];exact hk H2 (g1.trans g2)
end
def Flat(o:V):Prop:=(∃z,o=.int z)\/∃z,o=.str z
theorem zy(k:Key):Flat (kV k):=by
 cases k with
 |inl z=>exact .inl ⟨z,rfl⟩
 |inr z=>exact .inr ⟨z,rfl⟩
theorem yR(h1:Flat u)(h2:Flat v):w8 u v=true:=by
 rcases h1 with⟨_,rfl⟩|⟨_,rfl⟩<;>rcases h2 with⟨_,rfl⟩|⟨_,rfl⟩<;>rfl
inductive Pp(vs:List V)(H:Hp)(Q:VK):Prop
 |mk (fa:Addr) (ps:bA) (F:List Fc) (k a:Str) (o:V) (aB:vs=[.ref fa,.str k,.str a,o]) (aT:FL H ps fa F) (fo:Flat o) (q:∀H',ah H H'->Q (.bl (oP ps F k a o)) H'):Pp vs H Q
def QS:Sp:=λvs H Q _=>Pp vs H Q
inductive Pq(vs:List V)(H:Hp)(Q:VK):Prop
 |mk (sd:Addr) (ps:bA) (k:Str) (i j:Nat) (aB:vs=[.ref sd,.str k,.str (aq ps i),.str (aq ps j)]) (hs:H sd=some (.dK (gh ps))) (nd:(ps.map (·.1)).Nodup) (hi:i<ps.length) (hj:j<ps.length) (hk:k="mother"\/k="father"\/k="wed"\/k="sibling") (q:∀H',ah H H'->Q (.bl (kO k (fI ps i) (fI ps j))) H'):Pq vs H Q
def QT:Sp:=λvs H Q _=>Pq vs H Q
theorem Pr(ok:cH xs ys b):y∈fX b a↔∃c∈b.F,cO c.k=true/\aq b.ps c.one=a/\kV (bu b.ps c)=.str y:=by
 constructor
 ·intro h;obtain⟨v,hv,rfl⟩:=Yf.mp (show y∈(oH b a).map strOf from h);unfold oH at hv;obtain⟨k,_,e⟩:=Jg.mp hv;obtain⟨p,hp,h1,h2,h3,rfl,h5⟩:=QF ok e;have ns:p.2.k≠bG:=λz=>by
   rw[z] at h1;exact absurd h1 (by decide+kernel)
  exact⟨p.2,Yf.mpr ⟨p,hp,rfl⟩,h1,h3,by rw[iz ns];rfl⟩
 ·rintro⟨c,hc,h1,rfl,h3⟩;obtain⟨p,hp,rfl⟩:=Yf.mp (show c∈b.fs.map (·.2) from hc);have mm:(([.inr p.2.k,.inr (aq b.ps p.2.one)]:List Key),kV (bu b.ps p.2))∈cB b.ps b.fs:=Yf.mpr ⟨p,Yz.mpr ⟨hp,h1⟩,rfl⟩;have e:=Qu ok.pr mm;refine Yf.mpr ⟨.str y,?_,rfl⟩;unfold oH;refine Jg.mpr ⟨p.2.k,?_,by rw[e,h3]⟩;unfold cO at h1;rw[J8,decide_eq_true_iff,decide_eq_true_iff] at h1;rcases h1 with z|z<;>rw[z];·exact Yk
  ·exact Yv _ Yk
structure vF(b:BS)(a:Str)(ks:List Str):Prop where
 nd:ks.Nodup
 sd:∀k∈ks,fT b a k
 ma:a∈ks
theorem vF.len(u:vF b a ks)(ok:cH xs ys b)(ma:a∈b.ps.map (·.1)):ks.length<=b.ps.length:=by
 have:=u.nd.length_le_of_subset (l₂:=b.ps.map (·.1)) λk hk=>zb ok ma (u.sd k hk)
 grind
theorem vF.all(u:vF b a ks)(cl:∀r,r<ks.length->∀k,ks[r]?=some k->∀p∈fX b k,p∈ks)(z:Str):z∈ks↔fT b a z:=by
 refine⟨u.sd z,λh=>?_⟩;induction h with
 |refl=>exact u.ma
 |step _ hy ih=>
  obtain⟨r,hr,er⟩:=Wp.mp ih;exact cl r hr _ (by rw[Yb hr,er]) _ hy
inductive Tc(vs:List V)(H:Hp)(Q:VK):Prop
 |mk (fa:Addr) (xs ys:List Int) (b:BS) (a:Str) (aB:vs=[.ref fa,.str a]) (aT:FL H b.ps fa b.F) (ok:cH xs ys b) (ma:a∈b.ps.map (·.1)) (q:∀(p:Addr) (ks:List Str) (H':Hp),ah H H'->H' p=some (.lst (ks.map V.str))->(∀z,z∈ks↔fT b a z)->Q (.ref p) H'):Tc vs H Q
def Uq:Sp:=λvs H Q _=>Tc vs H Q
def muU(m:Nat):St->Hp->Nat:=λσ _=>match List.getD (α:=Option V) σ 3 none with|some (V.int z)=>m+1-z.toNat|_=>0
inductive WL(H:Hp)(b:BS)(a:Str)(fa aO:Addr)(σ:St)(H6:Hp):Prop
 |mk (ks:List Str) (r:Nat) (o4 o5 o6 o7:Option V) (g:ah H H6) (hr:H6 aO=some (.lst (ks.map V.str))) (up:vF b a ks) (rl:r<=ks.length) (cl:∀r',r'<r->∀k,ks[r']?=some k->∀p∈fX b k,p∈ks) (e:σ=[some (.ref fa),some (.str a),some (.ref aO),some (.int (r:Int)),o4,o5,o6,o7]):WL H b a fa aO σ H6
inductive Lh(H:Hp)(b:BS)(a:Str)(fa aO:Addr)(r:Nat)(qN:List Str)(k:Str)(j:Nat)(σ:St)(H6:Hp):Prop
 |mk (ks tl:List Str) (o4 o5 o6 o7:Option V) (g:ah H H6) (hr:H6 aO=some (.lst (ks.map V.str))) (up:vF b a ks) (ek:ks=qN++tl) (cl:∀c∈b.F.take j,cO c.k=true->aq b.ps c.one=k->∀y,kV (bu b.ps c)=.str y->y∈ks) (e:σ=[some (.ref fa),some (.str a),some (.ref aO),some (.int (r:Int)),o4,o5,o6,o7]):Lh H b a fa aO r qN k j σ H6
theorem ZaQ(h:Flat o):i4 o=true:=by
 rcases h with⟨_,rfl⟩|⟨_,rfl⟩<;>rfl
theorem ud(ks:List Str):(ks.map V.str).all i4=true:=by
 rw[Wr];intro v hv;obtain⟨k,_,rfl⟩:=Yf.mp hv;rfl
theorem Ab(y:Str)(ks:List Str):dI (.str y) (ks.map V.str)=true↔y∈ks:=by
 unfold dI;rw[J0];constructor
 ·rintro⟨v,hv,e⟩;obtain⟨k,hk,rfl⟩:=Yf.mp hv;have:(k==y)=true:=e
  grind
 ·intro h;exact⟨.str y,Yf.mpr ⟨y,h,rfl⟩,by show(y==y)=true;rw[beq_iff_eq]⟩
section
theorem vU:aR ["_law_facts","_law_kind","_law_one","_law_other","_law_number","_law_had","_law_here","_law_there"] ["_law_facts","_law_kind","_law_one","_law_other"] (aJ EH):=⟨rfl,rfl,rfl,by decide+kernel,rfl,by decide+kernel,by decide+kernel⟩
theorem Z2(F:aK K "_law_told" "_law_told" EH f fd):aH P w K mg base aM 1 f fd ["_law_facts","_law_kind","_law_one","_law_other"] QS:=by
 refine F.ok vU (λvs H Q E h=>?_) (λaC A outer s H vs Q E hr h=>?_)
 ·obtain⟨fa,ps,F,k,a,o,rfl,_⟩:=h;rfl
 obtain⟨fa,ps,F,k,a,o,rfl,jo,fo,q⟩:=h;refine⟨_,(ak (eY PassesOwn.never rfl (d_ (K:=K) rfl (pv 0)) (iD (K:=K) (n:=4) rfl rfl (bN (a8 (i:=4) vU.nd rfl (Or.inl rfl)) (bN (a8 (i:=5) vU.nd rfl (Or.inl rfl)) (bN (a8 (i:=6) vU.nd rfl (Or.inl rfl)) (bN (a8 (i:=7) vU.nd rfl (Or.inl rfl)) iC))))) (ak (aQ (PW.pt (pw_and (aU cg (pv 5) (pv 1) (aP _)) (pw_and (aU cg (pv 6) (pv 2) (aP _)) (pw_and1 (PW.pt (pw_or (aU cg (pv 7) (pv 3) (aP _)) (pw_or1 (aU (lu (K:=K) rfl) (pv 1) (dz (aa bC (aa bC ae))) (by with_unfolding_all rfl))))))))) (au (aF kQ)) aY) (au (aQ (PW.pt (pw_and (aU cg (pv 5) (pv 1) (aP _)) (pw_and (aU cg (pv 1) bC (aP _)) (pw_and (aU cg (pv 7) (pv 2) (aP _)) (pw_and1 (aU cg (pv 6) (pv 3) (aP _))))))) (au (aF kQ)) aY)))) (au (aF (oC (dQ cg (pv 1) bC (aP _)) (lR (dQ cg (pv 2) (pv 3) (aP _))))))),?_⟩;obtain⟨as,cV,al,gt⟩:=jo.get;refine fw (λσ H6=>ah H H6/\F.any (mj ps k a o)=false/\∃o4 o5 o6 o7:Option V,σ=[some (.ref fa),some (.str k),some (.str a),some o,o4,o5,o6,o7]) (λlE d5=>?_) ?_
 ·refine⟨_,rfl,fa,rfl,⟨_,aj.of cV⟩,hJ (K:=K) (a:=fa) (xs:=as.map V.ref) (λj σ H6=>ah H H6/\(F.take j).any (mj ps k a o)=false/\∃o4 o5 o6 o7:Option V,σ=[some (.ref fa),some (.str k),some (.str a),some o,o4,o5,o6,o7])
   ⟨ah.refl _,rfl,none,none,none,none,rfl⟩ (λj σ H6 _ ⟨g,_⟩=>aj.of (g _ _ cV)) ?_ ?_⟩
  ·rintro j v σ H6 hj ⟨g,no,o4,o5,o6,o7,rfl⟩;obtain⟨c0,c,z,rfl,g_,jH,hc⟩:=gt H6 j v g hj;have hit:mj ps k a o c=true->oP ps F k a o=true:=λh=>by
    unfold oP;rw[J0.mpr ⟨c,Yh g_,h⟩];rfl
   refine⟨c0,_,rfl,aA.of hc,rfl,_,_,rfl,bc ⟨_,_,rfl,bc ⟨_,_,rfl,bc ⟨_,_,rfl,bc ⟨rfl,?_⟩⟩⟩⟩⟩;refine oF (λσ H7=>ah H H7/\(decide (c.k=k)&&(decide (aq ps c.one=a)&&(decide (kV (bu ps c)=o)||cO k)))=false/\σ=[some (.ref fa),some (.str k),some (.str a),some o,some (.int z),some (.str c.k),some (.str (aq ps c.one)),some (kV (bu ps c))]) (λnR eS=>?_) ?_
   ·refine(Bt.and (Vt.test (Vt.eq (x:=.str c.k) (y:=.str k) (Vt.var rfl) (λ_ _=>Vt.var rfl) rfl)) λ_ _ _=>Bt.and (Vt.test (Vt.eq (x:=.str (aq ps c.one)) (y:=.str a) (Vt.var rfl) (λ_ _=>Vt.var rfl) rfl)) λ_ _ _=>Bt.or (Vt.test (Vt.eq (x:=kV (bu ps c)) (y:=o) (Vt.var rfl) (λ_ _=>Vt.var rfl) (yR (zy _) fo))) λ_ _ _=>Vt.test (Vt.Ii (k:=k) (Vt.var rfl))) _ λH7 g7=>?_;rw[dM,dM];refine bB (λcc=>?_) (λcc=>?_)
    ·have:=hit (by unfold mj;rw[Wk] at cc⊢;exact⟨cc.1,by rw[cc.2];rfl⟩);rw[this] at q;exact q H7 (g.trans g7)
    ·exact aX (eS _ _ ⟨g.trans g7,W5.mpr cc,rfl⟩)
   ·rintro σ H7 ⟨g7,no1,rfl⟩;refine(Bt.and (Vt.test (Vt.eq (x:=.str c.k) (y:=.str k) (Vt.var rfl) (λ_ _=>Vt.var rfl) rfl)) λ_ _ _=>Bt.and (Vt.test (Vt.eq (x:=.str k) (y:=.str "sibling") (Vt.var rfl) (λ_ _=>Vt.c) rfl)) λ_ _ _=>Bt.and (Vt.test (Vt.eq (x:=kV (bu ps c)) (y:=.str a) (Vt.var rfl) (λ_ _=>Vt.var rfl) (yR (zy _) (.inr ⟨_,rfl⟩)))) λ_ _ _=>Vt.test (Vt.eq (x:=.str (aq ps c.one)) (y:=o) (Vt.var rfl) (λ_ _=>Vt.var rfl) (yR (.inr ⟨_,rfl⟩) fo))) _ λH8 g8=>?_;rw[dM,dM];refine bB (λcc=>?_) (λcc=>aX ?_)
    ·have:=hit (by unfold mj;rw[Wk] at cc⊢;exact⟨cc.1,by rw[cc.2,Bool.or_true]⟩);rw[this] at q;exact q H8 (g7.trans g8)
    ·refine⟨g7.trans g8,?_,_,_,_,_,rfl⟩;rw[jH,List.any_append,no,J4,Jm,List.any_nil,Bool.or_false];unfold mj;rw[Bool.and_or_distrib_left,no1,J4];exact W5.mpr cc
  ·rintro σ H6 ⟨g,no,o4,o5,o6,o7,rfl⟩;rw[Ya,al,We] at no;exact d5 _ _ ⟨g,no,o4,o5,o6,o7,rfl⟩
 rintro σ H6 ⟨g,no,o4,o5,o6,o7,rfl⟩;refine(Vt.Up (Vt.eq (x:=.str k) (y:=.str "sibling") (Vt.var rfl) (λ_ _=>Vt.c) rfl) λ_ _ _=>Vt.eq (x:=.str a) (y:=o) (Vt.var rfl) (λ_ _=>Vt.var rfl) (yR (.inr ⟨_,rfl⟩) fo)) _ λH7 g7=>?_;have e:=q H7 (g.trans g7);unfold oP at e;rw[no,J4] at e;rw[dM];exact e
theorem Zr:aR ["_law_sides","_law_kind","_law_one","_law_other"] ["_law_sides","_law_kind","_law_one","_law_other"] (aJ D5):=⟨rfl,rfl,rfl,by decide+kernel,rfl,by decide+kernel,by decide+kernel⟩
theorem Zs(F:aK K "_law_sided" "_law_sided" D5 f fd):aH P w K mg base aM 1 f fd ["_law_sides","_law_kind","_law_one","_law_other"] QT:=by
 refine F.ok Zr (λvs H Q E h=>?_) (λaC A outer s H vs Q E hr h=>?_)
 ·obtain⟨sd,ps,k,i,j,rfl,_⟩:=h;rfl
 obtain⟨sd,ps,k,i,j,rfl,hs,nd,hi,hj,hk,q⟩:=h;refine⟨_,(ak (aQ (aU cg (pv 1) bC (aP _)) (au (aF (dQ cg (dh (bH hr) (pv 0) (pv 3) (λ_ _=>rfl)) bC (aP _)))) aY) (ak (aQ (aU cg (pv 1) bC (aP _)) (au (aF (dQ cg (dh (bH hr) (pv 0) (pv 3) (λ_ _=>rfl)) bC (aP _)))) aY) (au (aF (Hs (dQ kR (pv 1) bC (aP _)) (lR (oC (dQ cg (dh (bH hr) (pv 0) (pv 2) (λ_ _=>rfl)) bC (aP _)) (lR (dQ cg (dh (bH hr) (pv 0) (pv 3) (λ_ _=>rfl)) bC (aP _)))))))))),?_⟩;have gj:=c5 hs (oz nd hj);refine⟨_,rfl,rfl,_,rfl,?_⟩;rw[dM];refine bB (λcc=>?_) (λcc=>aX ?_)
 ·have e:k="mother":=of_decide_eq_true cc;refine⟨_,rfl,_,rfl,sd,_,rfl,gj,rfl,?_⟩;rw[dM];unfold kO at q;rw[if_pos e] at q;exact q H (ah.refl _)
 have n1:k≠"mother":=λz=>cc (decide_eq_true z);refine⟨_,rfl,rfl,_,rfl,?_⟩;rw[dM];refine bB (λcc=>?_) (λcc=>aX ?_)
 ·have e:k="father":=of_decide_eq_true cc;refine⟨_,rfl,_,rfl,sd,_,rfl,gj,rfl,?_⟩;rw[dM];unfold kO at q;rw[if_neg n1,if_pos e] at q;exact q H (ah.refl _)
 have n2:k≠"father":=λz=>cc (decide_eq_true z);have e3:(!decide (k="wed"))=decide (k="sibling"):=by
  rcases hk with z|z|z|z;·exact absurd z n1
  ·exact absurd z n2
  ·rw[z];decide+kernel
  ·rw[z];decide+kernel
 refine(Vt.orV (a:=decide (k="sibling")) (b:=decide (fI ps i="man")&&decide (fI ps j="woman")) ?_ λH1 _ g1=>Vt.Up (a:=decide (fI ps i="man")) ?_ λH2 _ g2=>?_) _ λH' g'=>?_
 ·rw[←e3,←dM];exact Vt.ne (Vt.var rfl) (λ_ _=>Vt.c) rfl
 ·rw[←dM];exact Vt.eq (λk hk=>⟨_,rfl,_,rfl,sd,_,rfl,c5 (g1 _ _ hs) (oz nd hi),hk _ (ah.refl _)⟩) (λ_ _=>Vt.c) rfl
 ·rw[←dM];exact Vt.eq (λk hk=>⟨_,rfl,_,rfl,sd,_,rfl,c5 (g2 _ _ (g1 _ _ hs)) (oz nd hj),hk _ (ah.refl _)⟩) (λ_ _=>Vt.c) rfl
 ·unfold kO at q;rw[if_neg n1,if_neg n2] at q;exact q H' g'
theorem pZ:aR ["_law_facts","_law_name_here","_law_row_here","_law_at","_law_number","_law_kind","_law_one","_law_other"] ["_law_facts","_law_name_here"] (aJ FV):=⟨rfl,rfl,rfl,by decide+kernel,rfl,by decide+kernel,by decide+kernel⟩
theorem ZbM(F:aK K "_law_up" "_law_up" FV f fd)(bl:Bl mg):aH P w K mg base aM 1 f fd ["_law_facts","_law_name_here"] Uq:=by
 refine F.ok pZ (λvs H Q E h=>?_) (λaC A outer s H vs Q E hr h=>?_)
 ·obtain⟨fa,xs,ys,b,a,rfl,_⟩:=h;rfl
 obtain⟨fa,xs,ys,b,a,rfl,jo,ok,ma,q⟩:=h;refine⟨_,(ak (a_ (i:=2) pZ.nd rfl (Or.inl rfl) (de (aa (pv 1) ae))) (ak (a_ (i:=3) pZ.nd rfl (Or.inl rfl) aL) (ak (yW PassesOwn.never (aU lU (pv 3) (bL (c9 (K:=K) rfl) rfl bl.cU cT (aa (pv 2) ae)) (aP _)) (ak (eY PassesOwn.never rfl (d_ (K:=K) rfl (pv 0)) (iD (K:=K) (n:=4) rfl rfl (bN (a8 (i:=4) pZ.nd rfl (Or.inl rfl)) (bN (a8 (i:=5) pZ.nd rfl (Or.inl rfl)) (bN (a8 (i:=6) pZ.nd rfl (Or.inl rfl)) (bN (a8 (i:=7) pZ.nd rfl (Or.inl rfl)) iC))))) (au (aQ (PW.pt (pw_and (aU (lu (K:=K) rfl) (pv 5) (dz (aa bC (aa bC ae))) (by with_unfolding_all rfl)) (pw_and (aU cg (pv 6) (bg (cA (K:=K) rfl) (pv 2) (pv 3) (λ_ _=>rfl)) (aP _)) (pw_and1 (aU (ux (K:=K) rfl) (pv 7) (pv 2) (by with_unfolding_all rfl)))))) (au (bY (hX (K:=K) rfl (fQ plainAttrs_list PySem.F.slot_list_append PySem.F.type_list_append iu (pv 2) (aa (pv 7) ae))))) aY))) (au (GU (i:=3) pZ.nd rfl (Or.inl rfl) aL GV)))) (au (aF (pv 2)))))),?_⟩;have sz:(10000:Nat)<=sizeLine:=by rw[sizeLine_eq];omega
 obtain⟨as,cV,al,gt⟩:=jo.get;have s_:=ok.m;refine bW ?_;refine⟨_,rfl,by show 1<=sizeLine;omega,λaO H1 qT g1 yi=>?_⟩;refine setC ?_;refine fw (λσ H6=>∃ks:List Str,ah H H6/\H6 aO=some (.lst (ks.map V.str))/\(∀z,z∈ks↔fT b a z)/\∃o3 o4 o5 o6 o7:Option V,σ=[some (.ref fa),some (.str a),some (.ref aO),o3,o4,o5,o6,o7]) (λlE d5=>?_) ?_
 ·refine yX (WL H b a fa aO) (muU b.ps.length) ⟨[a],0,none,none,none,none,g1,yi,⟨Yy.mpr ⟨(λz=>nomatch z),Ws⟩,λk hk=>by rw[Ye.mp hk];exact .refl,Yk⟩,Yw _,λr hr=>absurd hr (Wm _),rfl⟩ ?_ ?_
  ·rintro σ H6 ⟨ks,r,o4,o5,o6,o7,g6,iQ,up,rl,cl,rfl⟩;have kl:(ks.map V.str).length=ks.length:=Ya _;have gl:=up.len ok ma;refine⟨_,rfl,_,rfl,aO,_,rfl,.inl (aj.of iQ),_,_,rfl,rfl,_,rfl,?_⟩;rw[kl];refine bB (λc=>?_) (λc=>?_)
   ·have nX:r<ks.length:=by have:=of_decide_eq_true c;omega
    obtain⟨k,ek⟩:∃k,ks[r]?=some k:=⟨_,Yb nX⟩;have mk:k∈ks:=Yh ek;refine fw (Lh H b a fa aO r ks k b.F.length) (λyd lH=>?_) ?_
    ·refine⟨_,rfl,fa,rfl,⟨_,aj.of (g6 _ _ cV)⟩,hJ (K:=K) (a:=fa) (xs:=as.map V.ref) (Lh H b a fa aO r ks k) ⟨ks,[],o4,o5,o6,o7,g6,iQ,up,by rw[Y5],λc hc=>(nomatch hc),rfl⟩ (λj σ H8 _ ⟨_,_,_,_,_,_,g,_,_,_,_,_⟩=>aj.of (g _ _ cV)) ?_ ?_⟩
     ·rintro j v σ H8 hj ⟨eV,tl,p4,p5,p6,p7,g8,fU,iq,e8,eW,rfl⟩;obtain⟨c0,c,z,rfl,g_,jH,hc⟩:=gt H8 j v g8 hj;have mc:c∈b.F:=Yh g_;have vG:eV[r]?=some k:=by rw[e8,Y6 nX];exact ek
      have gl8:=iq.len ok ma;refine⟨c0,_,rfl,aA.of hc,rfl,_,_,rfl,bc ⟨_,_,rfl,bc ⟨_,_,rfl,bc ⟨_,_,rfl,bc ⟨rfl,?_⟩⟩⟩⟩⟩;refine(Bt.and (Vt.test (Vt.Ii (k:=c.k) (Vt.var rfl))) λHA _ gA=>Bt.and (Vt.test (Vt.eq (x:=.str (aq b.ps c.one)) (y:=.str k) (Vt.var rfl) (λHB gB kk hk=>⟨_,rfl,_,rfl,aO,_,_,_,rfl,rfl,aj.of (gB _ _ (gA _ _ fU)),hV (by rw[Yl,vG];rfl),hk _ (ah.refl _)⟩) rfl)) λHB _ gB=>Vt.test (b:=!dI (kV (bu b.ps c)) (eV.map V.str)) λkk hk=>⟨_,rfl,_,rfl,aO,_,rfl,.inl (aj.of (gB _ _ (gA _ _ fU))),ZaQ (zy _),ud _,hk _ (ah.refl _)⟩) _ λH9 g9=>?_;rw[dM];have pM:∀jG:List Str,(∀x∈eV,x∈jG)->(cO c.k=true->aq b.ps c.one=k->∀y,kV (bu b.ps c)=.str y->y∈jG)->∀c'∈b.F.take (j+1),cO c'.k=true->aq b.ps c'.one=k->∀y,kV (bu b.ps c')=.str y->y∈jG:=λjG sub hh c' m' h1 h2 y h3=>by
       rw[jH] at m';rcases Yr.mp m' with m'|m';·exact sub _ (eW c' m' h1 h2 y h3)
       ·rw[Ye.mp m'] at h1 h2 h3;exact hh h1 h2 y h3
      refine bB (λcc=>?_) (λcc=>aX ?_)
      ·rw[Wk,Wk,decide_eq_true_iff] at cc;obtain⟨c1,c2,c3⟩:=cc;have ns:c.k≠bG:=λz=>by rw[z] at c1;exact absurd c1 (by decide+kernel)
       have eo:kV (bu b.ps c)=.str (aq b.ps c.aE.toNat):=by rw[iz ns];rfl
       have jq:=g9 _ _ fU;refine⟨_,rfl,.inl ⟨rfl,_,aj.of jq⟩,_,rfl,aO,_,_,rfl,rfl,jq,by rw[Ya];omega,λmC pL ka=>?_⟩;have no:aq b.ps c.aE.toNat∉eV:=λz=>by
        rw[eo,(Ab _ _).mpr z] at c3;cases c3
       refine⟨eV++[aq b.ps c.aE.toNat],tl++[aq b.ps c.aE.toNat],_,_,_,_,λd o e=>pL _ _ (g9 _ _ (g8 _ _ e)) (bQ e qT),by rw[ka,Yj,eo];rfl,⟨?_,λx hx=>?_,Yo _ iq.ma⟩,by rw[e8,W4],pM _ (λx hx=>Yo _ hx) λ_ _ y hy=>?_,rfl⟩
       ·refine Wg.mpr ⟨iq.nd,by simp,λu hu w hw z=>?_⟩;rw[Ye] at hw;rw[z,hw] at hu;exact no hu
       ·rcases Yr.mp hx with hx|hx;·exact iq.sd x hx
        ·rw[Ye.mp hx];exact .step (iq.sd k (Yh vG)) ((Pr ok).mpr ⟨c,mc,c1,c2,eo⟩)
       ·rw[eo] at hy;rw[←V.str.inj hy];exact Yq _ Yk
      ·refine⟨eV,tl,_,_,_,_,g8.trans g9,g9 _ _ fU,iq,e8,pM _ (λ_ h=>h) λh1 h2 y h3=>?_,rfl⟩;rw[h1,Jt,decide_eq_true h2,Jt,h3] at cc;by_cases z:y∈eV;·exact z
       ·exact absurd (by rw[W5.mpr (λw=>z ((Ab _ _).mp w))];rfl) cc
     ·grind
    ·rintro σ H8 ⟨eV,tl,p4,p5,p6,p7,g8,fU,iq,e8,eW,rfl⟩;rw[We] at eW;have vG:eV[r]?=some k:=by rw[e8,Y6 nX];exact ek
     refine⟨_,rfl,_,_,rfl,rfl,?_⟩;refine⟨⟨eV,r+1,p4,p5,p6,p7,g8,fU,iq,by rw[e8,Yi];omega,λr' h' x hx p hp=>?_,rfl⟩,?_⟩
     ·by_cases z:r'=r
      ·rw[z,vG] at hx;cases hx;obtain⟨c,mc,h1,h2,h3⟩:=(Pr ok).mp hp;exact eW c mc h1 h2 p h3
      ·rw[e8,Y6 (by omega)] at hx;rw[e8];exact Yo _ (cl r' (by omega) x hx p hp)
     ·show b.ps.length+1-((r:Int)+1).toNat<b.ps.length+1-((r:Int)).toNat;omega
   ·have re:¬((r:Int)<(ks.length:Int)):=λz=>c (decide_eq_true z);exact d5 _ _ ⟨ks,g6,iQ,up.all (λr' h'=>cl r' (by omega)),_,_,_,_,_,rfl⟩
  ·rintro σ H6 Q1 Q2 mo ⟨v1,w1,v2,w2,v3,v4,w3,w4,v5,v6,w5,w6,v7,w7,h⟩;exact⟨v1,w1,v2,w2,v3,v4,w3,w4,v5,v6,w5,w6,v7,w7,mo _ _ h⟩
 rintro σ H6 ⟨ks,g6,iQ,al,o3,o4,o5,o6,o7,rfl⟩;exact⟨_,rfl,q aO ks H6 g6 iQ al⟩
end
open Classical in
noncomputable def m_ (n:Nat) (b:BS) (c:Fc):Str:=if c.k≠bG/\kO c.k (fI b.ps c.one) (fI b.ps c.aE.toNat)=false then"wrong side" else if oP b.ps b.F c.k (aq b.ps c.one) (kV (bu b.ps c))=true then"told twice" else if cO c.k=true/\fT b (aq b.ps c.aE.toNat) (aq b.ps c.one) then"own elder" else if c7 (b.F++[c]) n c.one=[] then"barred" else""
inductive QU(vs:List V)(H:Hp)(Q:VK):Prop
 |mk (sd fa td ff:Addr) (xs ys:List Int) (b:BS) (c:Fc) (aB:vs=[.ref sd,.ref fa,.ref td,.ref ff]) (hs:H sd=some (.dK (gh b.ps))) (hf:FL H b.ps fa b.F) (ht:gm H td xs ys) (hc:H ff=some (.tup [.str c.k,.str (aq b.ps c.one),kV (bu b.ps c)])) (ok:cH xs ys b) (fg:eA xs ys b.ps.length c) (q:∀H',ah H H'->Q (.str (m_ xs.length b c)) H'):QU vs H Q
def Se:Sp:=λvs H Q _=>QU vs H Q
theorem ZfD(fg:eA xs ys m c)(ns:c.k≠bG):c.k="mother"\/c.k="father"\/c.k="wed"\/c.k="sibling":=by
 have h:=fg.uF ns
 grind
section
theorem yC:aR ["_law_sides","_law_facts","_law_turns_here","_law_fact_here","_law_kind","_law_one","_law_other"] ["_law_sides","_law_facts","_law_turns_here","_law_fact_here"] (aJ EI):=⟨rfl,rfl,rfl,by decide+kernel,rfl,by decide+kernel,by decide+kernel⟩
open Classical in
theorem Z3(F:aK K "_law_word" "_law_word" EI f fd)(El:HasFn P w K mg base 1 "_law_sided" ["_law_sides","_law_kind","_law_one","_law_other"] QT)(EW:HasFn P w K mg base 1 "_law_told" ["_law_facts","_law_kind","_law_one","_law_other"] QS)(F5:HasFn P w K mg base 1 "_law_up" ["_law_facts","_law_name_here"] Uq)(t4:HasFn P w K mg base 3 "_law_room" ["_law_facts","_law_turns_here","_law_name_here"] Hi)(bl:Bl mg):aH P w K mg base aM 4 f fd ["_law_sides","_law_facts","_law_turns_here","_law_fact_here"] Se:=by
 refine F.ok yC (λvs H Q E h=>?_) (λaC A outer s H vs Q E hr h=>?_)
 ·obtain⟨sd,fa,td,ff,xs,ys,b,c,rfl,_⟩:=h;rfl
 obtain⟨sd,fa,td,ff,xs,ys,b,c,rfl,hs,hf,ht,hc,ok,fg,q⟩:=h;have hu:=hr.uw;refine⟨_,(ak (m5 (pv 3) (iD (K:=K) (n:=3) rfl rfl (bN (a8 (i:=4) yC.nd rfl (Or.inl rfl)) (bN (a8 (i:=5) yC.nd rfl (Or.inl rfl)) (bN (a8 (i:=6) yC.nd rfl (Or.inl rfl)) iC))))) (ak (aQ (aU cg (pv 4) bC (aP _)) (ak (aQ (jN (mO (bH hr) (pv 5) (pv 0)) (by with_unfolding_all rfl)) (au (aF bC)) aY) (au (aQ (PW.pt (pw_or (aU lU (pv 6) aL (aP _)) (pw_or1 (aU ZfQ (pv 6) (bL (c9 (K:=K) rfl) rfl bl.cU cT (aa (dh (bH hr) (pv 2) bC (λ_ _=>rfl)) ae)) (aP _))))) (au (aF bC)) aY))) (ak (aQ (jN (mO (bH hr) (pv 4) (pv 2)) (by with_unfolding_all rfl)) (au (aF bC)) aY) (ak (aQ (PW.pt (pw_or (jN (mO (bH hr) (pv 5) (pv 0)) (by with_unfolding_all rfl)) (pw_or1 (jN (mO (bH hr) (pv 6) (pv 0)) (by with_unfolding_all rfl))))) (au (aF bC)) aY) (au (aQ (jO (fC (aW El hr (by omega) rfl (aa (pv 0) (aa (pv 4) (aa (pv 5) (aa (pv 6) ae))))))) (au (aF bC)) aY))))) (ak (aQ (fC (aW EW hr (by omega) rfl (aa (pv 1) (aa (pv 4) (aa (pv 5) (aa (pv 6) ae)))))) (au (aF bC)) aY) (ak (aQ (PW.pt (pw_and (aU (lu (K:=K) rfl) (pv 4) (dz (aa bC (aa bC ae))) (by with_unfolding_all rfl)) (pw_and1 (aU (lu (K:=K) rfl) (pv 5) (aW F5 hr (by omega) rfl (aa (pv 1) (aa (pv 6) ae))) (by with_unfolding_all rfl))))) (au (aF bC)) aY) (ak (aQ (aU (Rt hu) (aW t4 hr (by omega) rfl (aa (bj wk (pv 1) (de (aa (dz (aa (bj zB aL aL) (aa (pv 4) (aa (pv 5) (aa (pv 6) ae))))) ae))) (aa (pv 2) (aa (pv 5) ae)))) (de ae) (aP _)) (au (aF bC)) aY) (au (aF bC))))))),?_⟩;have sz:(10000:Nat)<=sizeLine:=by rw[sizeLine_eq];omega
 have one:=fg.ok.one;have g1:=oz ok.nm one;refine⟨_,rfl,ff,_,rfl,aA.of hc,rfl,_,_,rfl,bc ⟨_,_,rfl,bc ⟨_,_,rfl,bc ⟨rfl,?_⟩⟩⟩⟩;dsimp only;refine oF (λσ H7=>ah H H7/\¬(c.k≠bG/\kO c.k (fI b.ps c.one) (fI b.ps c.aE.toNat)=false)/\σ=[some (.ref sd),some (.ref fa),some (.ref td),some (.ref ff),some (.str c.k),some (.str (aq b.ps c.one)),some (kV (bu b.ps c))]) (λnR eS=>?_) ?_
 ·refine⟨_,rfl,rfl,_,rfl,?_⟩;rw[dM];refine bB (λcc=>?_) (λcc=>?_)
  ·have sk:c.k=bG:=of_decide_eq_true cc;have eo:kV (bu b.ps c)=.int c.aE:=by rw[mP sk];rfl
   refine⟨_,rfl,_,rfl,sd,_,rfl,c5 hs g1,_,rfl,cz (aX ?_)⟩;obtain⟨s0,s1⟩:=fg.IW sk;obtain⟨_,_,_,u0,fE,_,_,_,vE⟩:=id ht;refine(Bt.or (a:=decide (c.aE<0)) (b:=decide ((((bF xs.length).map V.int).length:Int)<=c.aE)) (λk hk=>⟨_,rfl,c.aE,0,eo,rfl,_,rfl,hk _ (ah.refl _)⟩) λH1 _ g1 k hk=>⟨_,rfl,_,rfl,td,.ref u0,rfl,c5 (g1 _ _ fE) rfl,u0,_,rfl,.inr (aA.of (g1 _ _ vE)),c.aE,_,eo,rfl,_,rfl,hk _ (ah.refl _)⟩) _ λH2 g2=>?_;rw[decide_eq_false (by omega),decide_eq_false (by rw[Ya,eX];omega)];exact cz (aX (eS _ _ ⟨g2,λz=>z.1 sk,rfl⟩))
  ·have ns:c.k≠bG:=λz=>cc (decide_eq_true z);have eo:kV (bu b.ps c)=.str (aq b.ps c.aE.toNat):=by rw[iz ns];rfl
   obtain⟨tk,u,fE,vu,_⟩:=ht.get (fg.uF ns);have g2:=oz ok.nm (fg.ok.gf ns).1.2;refine⟨_,rfl,_,rfl,td,_,rfl,c5 fE vu,_,rfl,cz (aX ?_)⟩;refine(Bt.or (a:=false) (b:=false) (λk hk=>⟨_,rfl,_,rfl,sd,_,rfl,c5 hs g1,_,rfl,hk _ (ah.refl _)⟩) λH1 _ g1 k hk=>⟨_,rfl,_,rfl,sd,some (.str (fI b.ps c.aE.toNat)),rfl,(by rw[eo];exact c5 (g1 _ _ hs) g2),_,rfl,hk _ (ah.refl _)⟩) _ λH2 g2=>cz (aX ?_);refine⟨_,rfl,_,rfl,_,rfl,_,rfl,sd,b.ps,c.k,c.one,c.aE.toNat,by rw[eo];rfl,g2 _ _ hs,ok.nm,one,(fg.ok.gf ns).1.2,ZfD fg ns,λH3 g3=>⟨_,rfl,?_⟩⟩;cases es:kO c.k (fI b.ps c.one) (fI b.ps c.aE.toNat) with
   |true=>exact cz (aX (eS _ _ ⟨g2.trans g3,λz=>by rw[es] at z;exact absurd z.2 (by decide),rfl⟩))
   |false=>
    refine c8 ?_;have e:m_ xs.length b c="wrong side":=if_pos ⟨ns,es⟩;rw[e] at q;exact q _ (g2.trans g3)
 rintro σ H7 ⟨g7,nw,rfl⟩;refine⟨_,rfl,_,rfl,_,rfl,_,rfl,fa,b.ps,b.F,c.k,aq b.ps c.one,kV (bu b.ps c),rfl,hf.same g7,zy _,λH8 g8=>⟨_,rfl,?_⟩⟩;have Li:=g7.trans g8;unfold m_ at q;rw[if_neg nw] at q;refine bB (λct=>?_) (λct=>aX ?_)
 ·rw[if_pos ct] at q;exact q _ Li
 rw[if_neg ct] at q;refine(Bt.and (b:=decide (fT b (aq b.ps c.aE.toNat) (aq b.ps c.one))) (Vt.test (Vt.Ii (k:=c.k) (Vt.var rfl))) λH9 ip g9 k hk=>?_) _ λH9 g9=>?_
 ·have ns:c.k≠bG:=λz=>by rw[z] at ip;exact absurd ip (by decide+kernel)
  have eo:kV (bu b.ps c)=.str (aq b.ps c.aE.toNat):=by rw[iz ns];rfl
  refine⟨_,rfl,_,rfl,_,rfl,fa,xs,ys,b,aq b.ps c.aE.toNat,by rw[eo];rfl,hf.same (Li.trans g9),ok,GC (fg.ok.gf ns).1.2,λp ks H' g' hp al=>⟨p,_,rfl,.inl (aj.of hp),rfl,ud _,_,rfl,?_⟩⟩;have e:dI (V.str (aq b.ps c.one)) (ks.map V.str)=decide (fT b (aq b.ps c.aE.toNat) (aq b.ps c.one)):=by
   rw[Wf,decide_eq_true_iff,Ab,al]
  rw[e];exact hk _ g'
 have Bj:=Li.trans g9;refine bB (λcu=>?_) (λcu=>aX ?_)
 ·rw[Wk,decide_eq_true_iff] at cu;rw[if_pos cu] at q;exact q _ Bj
 rw[Wk,decide_eq_true_iff] at cu;rw[if_neg cu] at q;obtain⟨as,cV,d7⟩:=hf.same Bj;have al:=cN d7;have fl:=ok.fl;have Fl:b.F.length=b.fs.length:=Ya _;refine⟨_,rfl,_,_,rfl,rfl,_,rfl,_,rfl,_,rfl,by show 4<=sizeLine;omega,λt Ht nt gt Lj=>⟨by show 1<=sizeLine;omega,λl Hl nl gl hl=>⟨fa,l,_,_,rfl,rfl,gl _ _ (gt _ _ cV),hl,by rw[Ya];show _+1<=_;omega,λp Hp np gp hp=>⟨_,rfl,_,rfl,?_⟩⟩⟩⟩;have Lk:=(gt.trans gl).trans gp;refine⟨p,td,b.ps,xs,ys,b.F++[c],c.one,rfl,⟨as++[t],by rw[hp,Yj];rfl,hE (F:=La Hp b.ps) ⟨-1,gp _ _ (gl _ _ Lj)⟩ (L2.Paired.bp d7 λ_ _ ⟨z,e⟩=>⟨z,Lk _ _ e⟩)⟩,ht.same (Bj.trans Lk),ok.nm,λc' qB=>?_,ok.gd.2.2.2.2,by have:=ok.m;omega,by rw[Yi];show _+1<=64;omega,one,λpr Hr npr gr hr2=>⟨by show 0<=sizeLine;omega,λe He ne ge he=>⟨pr,e,_,[],rfl,rfl,aj.of (ge _ _ hr2),aj.of he,_,rfl,?_⟩⟩⟩
 ·rcases Yr.mp qB with h|h
  ·obtain⟨pp,vH,rfl⟩:=Yf.mp (show c'∈b.fs.map (·.2) from h);exact ok.fg pp vH
  ·rw[Ye.mp h];exact fg
 have gE:=(Bj.trans Lk).trans (gr.trans ge);refine bB (λcr=>?_) (λcr=>aX ?_)
 ·rw[if_pos (of_decide_eq_true cr)] at q;exact q _ gE
 ·rw[if_neg (λz=>cr (decide_eq_true z))] at q;exact q _ gE
end
theorem QV(a b:Str):(L2.qu a b=a/\L2.qv a b=b)\/(L2.qu a b=b/\L2.qv a b=a):=by
 unfold L2.qu L2.qv;by_cases h1:b.cps.toList<a.cps.toList;·grind
 ·rw[if_neg h1];by_cases h2:a.cps.toList<b.cps.toList;·grind
  ·rw[if_neg h2];have e2:a=b:=by
    cases a with|mk ca=>cases b with|mk cb=>
     grind
   grind
theorem Pt{b:BS}{c:Fc}(h:oP b.ps b.F c.k (aq b.ps c.one) (kV (bu b.ps c))=false):fF b.ps c∉b.keys/\(cO c.k=true->[.inr c.k,.inr (aq b.ps c.one)]∉(cB b.ps b.fs).map (·.1))/\¬(c.k="sibling"/\V.str (aq b.ps c.one)=kV (bu b.ps c)):=by
 unfold oP at h;rw[Bool.or_eq_false_iff] at h;obtain⟨h1,h2⟩:=h;have no:∀p∈b.fs,mj b.ps c.k (aq b.ps c.one) (kV (bu b.ps c)) p.2=false:=λp hp=>by
  have:=UJ.mp h1 p.2 (Yf.mpr ⟨p,hp,rfl⟩);exact W5.mpr this
 have Zhz:∀{u v:Key},u=v->kV u=kV v:=λe=>by rw[e]
 refine⟨λhk=>?_,λip hp=>?_,λ⟨e1,e2⟩=>?_⟩
 ·obtain⟨p,hp,e⟩:=Yf.mp hk;have n:=no p hp;have hit:p.2.k=c.k->((aq b.ps p.2.one=aq b.ps c.one/\bu b.ps p.2=bu b.ps c)\/(c.k="sibling"/\bu b.ps p.2=.inr (aq b.ps c.one)/\Sum.inr (aq b.ps p.2.one)=bu b.ps c))->False:=λe1 e2=>by
   have:mj b.ps c.k (aq b.ps c.one) (kV (bu b.ps c)) p.2=true:=by
    unfold mj;rw[decide_eq_true e1,Jt];rcases e2 with⟨e2,e3⟩|⟨e2,e3,e4⟩;·rw[decide_eq_true e2,decide_eq_true (Zhz e3)];rfl
    ·rw[decide_eq_true e2,decide_eq_true (show kV (bu b.ps p.2)=.str (aq b.ps c.one) by rw[e3];rfl),decide_eq_true (show V.str (aq b.ps p.2.one)=kV (bu b.ps c) by rw[←e4];rfl)];simp
   rw[this] at n;cases n
  unfold fF at e;cases nZ:bu b.ps p.2 with
  |inl z1=>
   cases mJ:bu b.ps c with
   |inl z2=>
    rw[nZ,mJ] at e;injection e with e1 e;injection e with e2 e;injection e with e3 _;exact hit (Wj e1) (.inl ⟨Wj e2,by rw[nZ,mJ,e3]⟩)
   |inr z2=>
    rw[nZ,mJ] at e;unfold keyOf at e;dsimp only at e;split at e
    ·injection e with e1 e;injection e with e2 e;injection e with e3 _;cases e3
    ·injection e with e1 e;injection e with e2 e;injection e with e3 _;cases e3
  |inr z1=>
   cases mJ:bu b.ps c with
   |inl z2=>
    rw[nZ,mJ] at e;unfold keyOf at e;dsimp only at e;split at e
    ·injection e with e1 e;injection e with e2 e;injection e with e3 _;cases e3
    ·injection e with e1 e;injection e with e2 e;injection e with e3 _;cases e3
   |inr z2=>
    rw[nZ,mJ] at e;have ek:p.2.k=c.k:=by
     unfold keyOf at e;dsimp only at e;split at e<;>split at e<;>(injection e with e1 _;exact Wj e1)
    unfold keyOf at e;dsimp only at e;rw[ek] at e;by_cases sb:c.k="sibling"
    ·rw[if_pos sb,if_pos sb] at e;injection e with _ e;injection e with e2 e;injection e with e3 _;have e2:=Wj e2;have e3:=Wj e3;refine hit ek ?_;rcases QV (aq b.ps p.2.one) z1 with⟨m1,m2⟩|⟨m1,m2⟩<;>rcases QV (aq b.ps c.one) z2 with⟨m3,m4⟩|⟨m3,m4⟩<;>rw[m1,m3] at e2<;>rw[m2,m4] at e3;·exact .inl ⟨e2,by rw[nZ,mJ,e3]⟩
     ·exact .inr ⟨sb,by rw[nZ,e3],by rw[mJ,e2]⟩
     ·exact .inr ⟨sb,by rw[nZ,e2],by rw[mJ,e3]⟩
     ·exact .inl ⟨e3,by rw[nZ,mJ,e2]⟩
    ·rw[if_neg sb,if_neg sb] at e;injection e with _ e;injection e with e2 e;injection e with e3 _;exact hit ek (.inl ⟨Wj e2,by rw[nZ,mJ,e3]⟩)
 ·obtain⟨q,hq,e⟩:=Yf.mp hp;unfold cB at hq;obtain⟨p,hp,rfl⟩:=Yf.mp hq;obtain⟨pC,dB⟩:=Yz.mp hp;have n:=no p pC;injection e with e1 e;injection e with e2 _;unfold mj at n;rw[decide_eq_true (Wj e1),decide_eq_true (Wj e2),ip] at n;simp at n
 ·rw[decide_eq_true e1,decide_eq_true e2] at h2;cases h2
theorem ZbN(ok:cH xs ys b)(fg:eA xs ys b.ps.length c)(h:c7 (b.F++[c]) xs.length c.one≠[]):∃f,lF xs.length b.ps.length f/\∀c'∈b.F++[c],fh f c':=by
 obtain⟨a,ha⟩:=List.exists_mem_of_ne_nil _ h;obtain⟨_,g,cl,hg⟩:=NX.mp ha;obtain⟨f0,inr,sat⟩:=ok.lv;have jk:∀c'∈b.F++[c],dW xs.length b.ps.length c':=λc' qB=>by
  rcases Yr.mp qB with h|h
  ·obtain⟨pp,vH,rfl⟩:=Yf.mp (show c'∈b.fs.map (·.2) from h);exact(ok.fg pp vH).ok
  ·rw[Ye.mp h];exact fg.ok
 obtain⟨f,h1,h2,_⟩:=Mv jk inr (λc' qB=>by
  rcases Yr.mp qB with h|h;·grind
  ·rw[Ye.mp h];exact .inl rfl) cl hg
 grind
theorem QW{xs:List Int}{b:BS}{c:Fc}(h:m_ xs.length b c=""):¬(c.k≠bG/\kO c.k (fI b.ps c.one) (fI b.ps c.aE.toNat)=false)/\oP b.ps b.F c.k (aq b.ps c.one) (kV (bu b.ps c))=false/\¬(cO c.k=true/\fT b (aq b.ps c.aE.toNat) (aq b.ps c.one))/\c7 (b.F++[c]) xs.length c.one≠[]:=by
 unfold m_ at h;by_cases h1:c.k≠bG/\kO c.k (fI b.ps c.one) (fI b.ps c.aE.toNat)=false;·rw[if_pos h1] at h;exact absurd h (by decide+kernel)
 rw[if_neg h1] at h;by_cases h2:oP b.ps b.F c.k (aq b.ps c.one) (kV (bu b.ps c))=true;·rw[if_pos h2] at h;exact absurd h (by decide+kernel)
 rw[if_neg h2] at h;by_cases h3:cO c.k=true/\fT b (aq b.ps c.aE.toNat) (aq b.ps c.one);·rw[if_pos h3] at h;exact absurd h (by decide+kernel)
 rw[if_neg h3] at h;by_cases h4:c7 (b.F++[c]) xs.length c.one=[];·rw[if_pos h4] at h;exact absurd h (by decide+kernel)
 grind
theorem F6{xs ys:List Int}{b:BS}{c:Fc}(ok:cH xs ys b)(fg:eA xs ys b.ps.length c)(lim:b.fs.length<63)(h:m_ xs.length b c=""):z_ xs ys b c:=by
 obtain⟨_,h2,_,h4⟩:=QW h;obtain⟨k1,k2,_⟩:=Pt h2;exact⟨fg,k1,k2,ZbN ok fg h4,lim⟩
theorem ZcZ{xs ys:List Int}{b:BS}{c:Fc}(ok:cH xs ys b)(fg:eA xs ys b.ps.length c)(lim:b.fs.length<63)(h:m_ xs.length b c="")(ns:c.k≠bG):Ig xs ys b c:=by
 obtain⟨h1,h2,h3,_⟩:=QW h;obtain⟨k1,k2,k3⟩:=Pt h2;have eo:=iz (ps:=b.ps) ns;refine⟨F6 ok fg lim h,ns,?_,⟨k2,λ_=>⟨?_,λ⟨e1,e2⟩=>k3 ⟨e1,by rw[eo,e2];rfl⟩⟩⟩,λip an=>h3 ⟨ip,an⟩⟩;·grind
 ·rw[←eo];exact k1
def iR(ps:bA):List V:=ps.map λp=>.str p.1
theorem mY(ps:bA):(iR ps).length=ps.length:=Ya _
theorem ZfE{ps:bA}{z:Int}(h0:0<=z)(h:z<(ps.length:Int)):dv (iR ps) z=some (.str (aq ps z.toNat)):=by
 obtain⟨k,rfl⟩:∃k:Nat,z=(k:Int):=⟨z.toNat,by omega⟩;refine hV ?_;unfold iR aq
 grind
theorem wI{z:Int}{n:Nat}(h:0<n):0<=z % (n:Int)/\z % (n:Int)<(n:Int):=⟨Jc _ (by omega),W1 _ (by omega)⟩
theorem Vt.GG{K:PySem.W.Frag}{e:TE}{σ:St}{H:Hp}{nl:Addr}{ps:bA}{z:Int}{i:Nat}(hi:σ[i]?=some (some (.ref nl)))(hn:H nl=some (.lst (iR ps)))(p0:0<ps.length)(he:Vt e σ H (.int z)):Vt (k_ (w_ K) (hZ i) (k_ (rI (λ_ j=>0<j) λi j=>V.int (i % j)) e (qE (zZ K) (iZ (hZ i) jR)))) σ H (.str (aq ps (z % (ps.length:Int)).toNat)):=λk hk=>⟨_,hi,he _ λH1 g1=>by
 have l:=mY ps;have m:=wI (z:=z) p0;exact⟨_,hi,nl,_,rfl,.inl (aj.of (g1 _ _ hn)),_,_,rfl,rfl,by omega,nl,_,_,_,rfl,rfl,aj.of (g1 _ _ hn),by rw[l];exact ZfE m.1 m.2,hk H1 g1⟩⟩
inductive QX(vs:List V)(H:Hp)(Q:VK):Prop
 |mk (nl sd:Addr) (ps:bA) (z:Int) (s:Str) (aB:vs=[.ref nl,.ref sd,.int z,.str s]) (hn:H nl=some (.lst (iR ps))) (hs:H sd=some (.dK (gh ps))) (nd:(ps.map (·.1)).Nodup) (p0:0<ps.length) (pm:ps.length<=100) (q:∀i,i<ps.length->∀H',ah H H'->Q (.str (aq ps i)) H'):QX vs H Q
def Sf:Sp:=λvs H Q _=>QX vs H Q
theorem Zc0(xs ys:List Int){d:Int}(h:0<=d/\d<4):∃(k:Str) (tn:List Int) (w:Str),dv [V.str "mother",V.str "father",V.str "wed",V.str "sibling"] d=some (.str k)/\(k,tn)∈qo xs ys/\dv [V.str "woman",V.str "man",V.str "woman",V.str ""] d=some (.str w):=by
 have:d=0\/d=1\/d=2\/d=3:=by omega
 rcases this with rfl|rfl|rfl|rfl;·exact⟨_,inv xs,_,rfl,by simp,rfl⟩
 ·exact⟨_,inv (bJ xs ys),_,rfl,by simp,rfl⟩
 ·exact⟨_,ys,_,rfl,by simp,rfl⟩
 ·exact⟨_,bF xs.length,_,rfl,by simp,rfl⟩
inductive QY(vs:List V)(H:Hp)(Q:VK):Prop
 |mk (nl sd dr:Addr) (ps:bA) (xs ys:List Int) (d0 d1 d2 d3 d4:Int) (aB:vs=[.ref nl,.ref sd,.ref dr,.int (xs.length:Int)]) (hn:H nl=some (.lst (iR ps))) (hs:H sd=some (.dK (gh ps))) (nd:(ps.map (·.1)).Nodup) (p0:0<ps.length) (pm:ps.length<=100) (hd:H dr=some (.lst ([d0,d1,d2,d3,d4].map V.int))) (b4:0<=d4/\d4<4) (gd:m9 xs ys) (q:∀c,eA xs ys ps.length c->∀(ff:Addr) (H':Hp),H ff=none->ah H H'->H' ff=some (.tup [.str c.k,.str (aq ps c.one),kV (bu ps c)])->Q (.ref ff) H'):QY vs H Q
def Sg:Sp:=λvs H Q _=>QY vs H Q
section
theorem MK:aR ["_law_names","_law_sides","_law_at","_law_side","_law_k"] ["_law_names","_law_sides","_law_at","_law_side"] (aJ EJ):=⟨rfl,rfl,rfl,by decide+kernel,rfl,by decide+kernel,by decide+kernel⟩
theorem Z4(F:aK K "_law_pick" "_law_pick" EJ f fd)(bl:Bl mg):aH P w K mg base aM 1 f fd ["_law_names","_law_sides","_law_at","_law_side"] Sf:=by
 refine F.ok MK (λvs H Q E h=>?_) (λaC A outer s H vs Q E hr h=>?_)
 ·obtain⟨nl,sd,ps,z,sx,rfl,_⟩:=h;rfl
 obtain⟨nl,sd,ps,z,sx,rfl,hn,hs,nd,p0,pm,q⟩:=h;refine⟨_,(ak (eY PassesOwn.never rfl (pW rfl bl.jM (aa (bL (c9 (K:=K) rfl) rfl bl.cU cT (aa (pv 0) ae)) ae)) (a8 (i:=4) MK.nd rfl (Or.inl rfl)) (au (aQ (PW.pt (pw_or (aU cg (pv 3) bC (aP _)) (pw_or1 (aU cg (dh (bH hr) (pv 1) (bg (cA (K:=K) rfl) (pv 0) (bj eO (bj iY (pv 2) (pv 4)) (bL (c9 (K:=K) rfl) rfl bl.cU cT (aa (pv 0) ae))) (λ_ _=>rfl)) (λ_ _=>rfl)) (pv 3) (aP _))))) (au (aF (bg (cA (K:=K) rfl) (pv 0) (bj eO (bj iY (pv 2) (pv 4)) (bL (c9 (K:=K) rfl) rfl bl.cU cT (aa (pv 0) ae))) (λ_ _=>rfl)))) aY))) (au (aF (bg (cA (K:=K) rfl) (pv 0) (bj eO (pv 2) (bL (c9 (K:=K) rfl) rfl bl.cU cT (aa (pv 0) ae))) (λ_ _=>rfl))))),?_⟩;have Bk:=mY ps;have at_:∀z:Int,(z % (ps.length:Int)).toNat<ps.length:=λz=>by have:=wI (z:=z) p0;omega
 refine fw (λσ H6=>ah H H6/\∃o4:Option V,σ=[some (.ref nl),some (.ref sd),some (.int z),some (.str sx),o4]) (λlE d5=>?_) ?_
 ·refine⟨_,rfl,nl,_,rfl,.inl (aj.of hn),_,rfl,by omega,by omega,E9 (lo:=0) (n:=(((iR ps).length:Nat):Int).toNat) (λ_ σ H6=>ah H H6/\∃o4:Option V,σ=[some (.ref nl),some (.ref sd),some (.int z),some (.str sx),o4]) ⟨ah.refl _,none,rfl⟩ ?_ (λσ H6 h=>d5 _ _ h)⟩;rintro j σ H6 hj ⟨g6,o4,rfl⟩;rw[AG];have vt:∀H7,ah H6 H7->Vt _ _ H7 _:=λH7 g7=>Vt.GG (K:=K) (i:=0) (σ:=[some (.ref nl),some (.ref sd),some (.int z),some (.str sx),some (.int (j:Int))]) (z:=z+(j:Int)) (e:=k_ (qD λi j=>V.int (i+j)) (hZ 2) (hZ 4)) rfl (g7 _ _ (g6 _ _ hn)) p0 (λk hk=>⟨_,rfl,_,rfl,_,_,rfl,rfl,hk _ (ah.refl _)⟩);refine(Bt.or (Vt.test (Vt.eq (Vt.var rfl) (λ_ _=>Vt.c) rfl)) λH7 _ g7=>Vt.test (Vt.eq (x:=.str (fI ps ((z+(j:Int)) % (ps.length:Int)).toNat)) (y:=.str sx) (λk hk=>⟨_,rfl,vt H7 g7 _ λH8 g8=>⟨sd,_,rfl,c5 (g8 _ _ (g7 _ _ (g6 _ _ hs))) (oz nd (at_ _)),hk H8 g8⟩⟩) (λ_ _=>Vt.var rfl) rfl)) _ λH9 g9=>?_;refine bB (λ_=>?_) (λ_=>aX ⟨g6.trans g9,_,rfl⟩);exact vt H9 g9 _ λHA gA=>q _ (at_ _) HA ((g6.trans g9).trans gA)
 rintro σ H6 ⟨g6,o4,rfl⟩;exact Vt.GG (K:=K) (i:=0) (z:=z) rfl (g6 _ _ hn) p0 (Vt.var rfl) _ λHA gA=>q _ (at_ _) HA (g6.trans gA)
theorem vV:aR ["_law_names","_law_sides","_law_drawn","_law_size","_law_kind","_law_one","_law_want"] ["_law_names","_law_sides","_law_drawn","_law_size"] (aJ EK):=⟨rfl,rfl,rfl,by decide+kernel,rfl,by decide+kernel,by decide+kernel⟩
theorem Z5(F:aK K "_law_fact" "_law_fact" EK f fd)(yJ:HasFn P w K mg base 1 "_law_pick" ["_law_names","_law_sides","_law_at","_law_side"] Sf)(bl:Bl mg):aH P w K mg base aM 2 f fd ["_law_names","_law_sides","_law_drawn","_law_size"] Sg:=by
 refine F.ok vV (λvs H Q E h=>?_) (λaC A outer s H vs Q E hr h=>?_)
 ·obtain⟨nl,sd,dr,ps,xs,ys,d0,d1,d2,d3,d4,rfl,_⟩:=h;rfl
 obtain⟨nl,sd,dr,ps,xs,ys,d0,d1,d2,d3,d4,rfl,hn,hs,nd,p0,pm,hd,b4,gd,q⟩:=h;refine⟨_,(ak (a_ (i:=4) vV.nd rfl (Or.inl rfl) (bg (cA (K:=K) rfl) (de (aa bC (aa bC (aa bC (aa bC ae))))) (bg (cA (K:=K) rfl) (pv 2) aL (λ_ _=>rfl)) (λ_ _=>rfl))) (ak (a_ (i:=5) vV.nd rfl (Or.inl rfl) (bg (cA (K:=K) rfl) (pv 0) (bj eO (bg (cA (K:=K) rfl) (pv 2) aL (λ_ _=>rfl)) (bL (c9 (K:=K) rfl) rfl bl.cU cT (aa (pv 0) ae))) (λ_ _=>rfl))) (ak (aQ (aU Hu (bg (cA (K:=K) rfl) (pv 2) aL (λ_ _=>rfl)) aL (aP _)) (au (aF (dz (aa bC (aa (pv 5) (aa (bj eO (bg (cA (K:=K) rfl) (pv 2) aL (λ_ _=>rfl)) (pv 3)) ae)))))) aY) (ak (aQ (aU cg (pv 4) bC (aP _)) (au (a_ (i:=5) vV.nd rfl (Or.inl rfl) (aW yJ hr (by omega) rfl (aa (pv 0) (aa (pv 1) (aa (bg (cA (K:=K) rfl) (pv 2) aL (λ_ _=>rfl)) (aa bC ae))))))) aY) (ak (a_ (i:=6) vV.nd rfl (Or.inl rfl) (bg (cA (K:=K) rfl) (de (aa bC (aa bC (aa bC (aa bC ae))))) (bg (cA (K:=K) rfl) (pv 2) aL (λ_ _=>rfl)) (λ_ _=>rfl))) (au (aF (dz (aa (pv 4) (aa (pv 5) (aa (aW yJ hr (by omega) rfl (aa (pv 0) (aa (pv 1) (aa (bg (cA (K:=K) rfl) (pv 2) aL (λ_ _=>rfl)) (aa (pv 6) ae))))) ae))))))))))),?_⟩;have sz:(10000:Nat)<=sizeLine:=by rw[sizeLine_eq];omega
 obtain⟨k,tn,wt,ek,hk,ew⟩:=Zc0 xs ys b4;have at_:∀z:Int,(z % (ps.length:Int)).toNat<ps.length:=λz=>by have:=wI (z:=z) p0;omega
 obtain⟨_,_,_,l2,l8⟩:=id gd;have ZhA:(0:Int)<(xs.length:Int):=by omega
 refine bW ?_;refine⟨by show 4<=sizeLine;omega,λkl H1 nkl g1 Az=>⟨_,rfl,dr,_,_,_,rfl,rfl,aj.of (g1 _ _ hd),rfl,kl,_,_,_,rfl,rfl,aj.of Az,ek,?_⟩⟩;refine bW ?_;have lH:=g1 _ _ hn;refine Vt.GG (K:=K) (i:=0) (z:=d1) rfl lH p0 (λkk hk=>⟨_,rfl,dr,_,_,_,rfl,rfl,aj.of (g1 _ _ hd),rfl,hk _ (ah.refl _)⟩) _ λH2 g2=>?_;have lI:=g1.trans g2;refine⟨_,rfl,dr,_,_,_,rfl,rfl,aj.of (lI _ _ hd),rfl,_,_,rfl,rfl,_,rfl,bB (λ_=>?_) (λ_=>aX ?_)⟩
 ·refine⟨_,rfl,_,rfl,dr,_,_,_,rfl,rfl,aj.of (lI _ _ hd),rfl,_,rfl,_,_,rfl,rfl,ZhA,by show 3<=sizeLine;omega,λff H3 Bm g3 tD=>?_⟩;have mm:=wI (z:=d3) (n:=xs.length) (by omega);exact q ⟨bG,(d1 % (ps.length:Int)).toNat,d3 % (xs.length:Int),[]⟩ ⟨⟨at_ _,λz=>absurd rfl z⟩,.inl rfl,λ_=>mm⟩ ff H3 (lI.free Bm) (lI.trans g3) (by rw[tD,mP rfl];rfl)
 have nk:k≠bG:=λz=>ZaI (z▸hk);refine oF (λσ H6=>ah H H6/\∃i:Nat,i<ps.length/\σ=[some (.ref nl),some (.ref sd),some (.ref dr),some (.int (xs.length:Int)),some (.str k),some (.str (aq ps i)),none]) (λnR eS=>?_) ?_
 ·refine⟨_,rfl,rfl,_,rfl,bB (λ_=>?_) (λ_=>aX (eS _ _ ⟨lI,_,at_ _,rfl⟩))⟩;refine⟨_,rfl,_,rfl,_,rfl,dr,_,_,_,rfl,rfl,aj.of (lI _ _ hd),rfl,nl,sd,ps,d1,"man",rfl,lI _ _ hn,lI _ _ hs,nd,p0,pm,λi hi H3 g3=>bc (eS _ _ ⟨lI.trans g3,i,hi,rfl⟩)⟩
 rintro σ H6 ⟨g6,i,hi,rfl⟩;refine bW ?_;refine⟨by show 4<=sizeLine;omega,λwl H7 V5 g7 xA=>⟨_,rfl,dr,_,_,_,rfl,rfl,aj.of (g7 _ _ (g6 _ _ hd)),rfl,wl,_,_,_,rfl,rfl,aj.of xA,ew,?_⟩⟩;have yn:=g6.trans g7;refine⟨_,rfl,_,rfl,_,rfl,_,rfl,_,rfl,dr,_,_,_,rfl,rfl,aj.of (yn _ _ hd),rfl,_,rfl,nl,sd,ps,d2,wt,rfl,yn _ _ hn,yn _ _ hs,nd,p0,pm,λj hj H8 g8=>⟨by show 3<=sizeLine;omega,λff H9 Bm g9 tD=>?_⟩⟩;obtain⟨ft,tl⟩:=ZcO gd hk;exact q ⟨k,i,(j:Int),tn⟩ ⟨⟨hi,λ_=>⟨⟨by show(0:Int)<=(j:Int);omega,hj⟩,ft,tl⟩⟩,.inr hk,λz=>absurd z nk⟩ ff H9 (yn.free (g8.free Bm)) ((yn.trans g8).trans g9) (by rw[tD,iz nk];rfl)
end
def kz(n:Nat):List Nat:=if n<10 then[48+n] else[48+n/10,48+n % 10]
def kA(n:Nat):Str:=.ofString (toString (n:Int))
theorem GH:∀n<61,(kA n).cps.toList=kz n:=by decide+kernel
def fK(k z:Nat):Nat:=if z/3 % 3=1 then 9 else(k*z+z) % 5
def kB(m:Nat):Str:=Txt.mul "q" (m:Int)
theorem Zeb:∀m<10,(kB m).cps.toList=List.replicate m 113:=by decide+kernel
def tE:Str:="abcdefghijklmnopqrstuvwxyz"
theorem Hj:∀i<26,dv tE.cps.toList ((i:Nat):Int)=some (97+i):=by decide+kernel
def pN(i:Nat):Str:=⟨#[97+i]⟩
def dk(z k:Nat):Str:=if z % 3=0 then(pN ((k*7+z) % 26)++kA (k/26))++kB (fK k z) else if z % 3=1 then(pN (z % 26)++kB (fK k z))++kA ((k*17+z) % 61) else(pN (z % 26)++kA ((k*17+z) % 61))++kB (fK k z)
theorem Hk(k z:Nat):fK k z<10:=by
 unfold fK;split<;>omega
theorem uv(a b:Str):(a++b).cps.toList=a.cps.toList++b.cps.toList:=Array.toList_append
theorem Fv(z k:Nat)(hk:k<60):(dk z k).cps.toList=if z % 3=0 then[97+(k*7+z) % 26,48+k/26]++List.replicate (fK k z) 113 else if z % 3=1 then(97+z % 26)::(List.replicate (fK k z) 113++kz ((k*17+z) % 61)) else(97+z % 26)::(kz ((k*17+z) % 61)++List.replicate (fK k z) 113):=by
 have f:=Zeb _ (Hk k z);unfold dk;split
 ·rw[uv,uv,f,GH _ (by omega)];unfold kz;rw[if_pos (by omega)];rfl
 split
 ·rw[uv,uv,f,GH _ (by omega)];rfl
 ·rw[uv,uv,f,GH _ (by omega)];rfl
def Ll(l:List Nat):Nat:=l.foldl (λa c=>10*a+(c-48)) 0
theorem zS:Ll (kz n)=n:=by
 unfold kz;split
 ·show 10*0+(48+n-48)=n;omega
 ·show 10*(10*0+(48+n/10-48))+(48+n % 10-48)=n;omega
theorem Sh(h:n<61):∀c∈kz n,48<=c/\c<58:=by
 unfold kz
 grind
theorem yK(h:n<61):(kz n).filter (λc=>decide (c<58))=kz n:=List.filter_eq_self.mpr λc hc=>decide_eq_true (Sh h c hc).2
theorem yL(m:Nat):(List.replicate m 113).filter (λc=>decide (c<58))=[]:=by
 grind
theorem ZbO(hk:k<60)(AY:k'<60)(e:dk z k=dk z k'):k=k':=by
 have e:(dk z k).cps.toList=(dk z k').cps.toList:=by rw[e]
 rw[Fv z k hk,Fv z k' AY] at e;by_cases h0:z % 3=0
 ·rw[if_pos h0,if_pos h0] at e;injection e with e1 e;injection e with e2 _;omega
 rw[if_neg h0,if_neg h0] at e;have key:(k*17+z) % 61=(k'*17+z) % 61->k=k':=λh=>by omega
 by_cases h1:z % 3=1
 ·rw[if_pos h1,if_pos h1] at e;injection e with _ e;have e2:=congrArg (List.filter λc=>decide (c<58)) e;rw[Wh,Wh,yL,yL,yK (by omega),yK (by omega),U7,U7] at e2;have e3:=congrArg Ll e2;rw[zS,zS] at e3;exact key e3
 ·rw[if_neg h1,if_neg h1] at e;injection e with _ e;have e2:=congrArg (List.filter λc=>decide (c<58)) e;rw[Wh,Wh,yL,yL,yK (by omega),yK (by omega),Y5,Y5] at e2;have e3:=congrArg Ll e2;rw[zS,zS] at e3;exact key e3
theorem Si:∀i<26,fS oy (97+i)=true/\fS lT (97+i)=true:=by decide+kernel
theorem Sj:∀i<10,fS lT (48+i)=true:=by decide+kernel
theorem ZhB:fS lT 113=true:=by decide+kernel
theorem ZaR(hk:k<60):rQ (dk z k)=true/\(dk z k).length<=12:=by
 have fl:=Hk k z;have rep:(List.replicate (fK k z) 113).all (fS lT)=true:=Wr.mpr λc hc=>by rw[List.eq_of_mem_replicate hc];exact ZhB
 have dg:∀n,n<61->(kz n).all (fS lT)=true/\(kz n).length<=2:=λn hn=>by
  refine⟨Wr.mpr λc hc=>?_,?_⟩
  ·have:=Sh hn c hc;have e:=Sj (c-48) (by omega)
   grind
  ·unfold kz;split<;>simp
 have len:(dk z k).length=(dk z k).cps.toList.length:=rfl;have c:=Fv z k hk;have main:∃(i:Nat) (r:List Nat),i<26/\(dk z k).cps.toList=(97+i)::r/\r.length<=11/\r.all (fS lT)=true:=by
  by_cases h0:z % 3=0
  ·rw[if_pos h0] at c;refine⟨_,_,by omega,c,?_,?_⟩
   ·show((48+k/26)::List.replicate (fK k z) 113).length<=11
    grind
   ·show((48+k/26)::List.replicate (fK k z) 113).all (fS lT)=true;rw[Jd,rep,Sj _ (by omega)];rfl
  grind
 obtain⟨i,r,hi,e,lr,ar⟩:=main;have A3:(dk z k).length<=12:=by
  grind
 refine⟨?_,A3⟩;rw[N6 e,decide_eq_true A3,(Si i hi).1,Jd,(Si i hi).2,ar];rfl
theorem Zec:∀m<10,(kB m).length<=9:=by decide+kernel
theorem QZ:∀n<61,(kA n).length<=2:=by decide+kernel
theorem GI(a b:Str):(a++b).length=a.length+b.length:=Array.size_append
inductive Q0(vs:List V)(H:Hp)(Q:VK):Prop
 |mk (k z:Nat) (aB:vs=[.int (k:Int),.int (z:Int)]) (hk:k<60) (hz:z<97) (q:Q (.str (dk z k)) H):Q0 vs H Q
def Sk:Sp:=λvs H Q _=>Q0 vs H Q
section
theorem vW:aR ["_law_k","_law_salt","_law_letters","_law_fill","_law_number"] ["_law_k","_law_salt"] (aJ EG):=⟨rfl,rfl,rfl,by decide+kernel,rfl,by decide+kernel,by decide+kernel⟩
theorem Z6(F:aK K "_law_name" "_law_name" EG f fd)(bl:Bl mg):aH P w K mg base aM 1 f fd ["_law_k","_law_salt"] Sk:=by
 refine F.ok vW (λvs H Q E h=>?_) (λaC A outer s H vs Q E hr h=>?_)
 ·obtain⟨k,z,rfl,_⟩:=h;rfl
 obtain⟨k,z,rfl,hk,hz,q⟩:=h;refine⟨_,(ak (a_ (i:=2) vW.nd rfl (Or.inl rfl) bC) (ak (a_ (i:=3) vW.nd rfl (Or.inl rfl) (bj Qc bC (bj eO (bj iY (bj oE (pv 0) (pv 1)) (pv 1)) aL))) (ak (a_ (i:=4) vW.nd rfl (Or.inl rfl) (bj eO (bj iY (bj oE (pv 0) aL) (pv 1)) aL)) (ak (aQ (aU cg (bj eO (bj zd (pv 1) aL) aL) aL (aP _)) (au (a_ (i:=3) vW.nd rfl (Or.inl rfl) (bj Qc bC aL))) aY) (ak (aQ (aU cg (bj eO (pv 1) aL) aL (aP _)) (au (aF (bj tX (bj tX (bg wy (pv 2) (bj eO (bj iY (bj oE (pv 0) aL) (pv 1)) aL) (λ_ _=>rfl)) (eN Dp rfl bl.wM wA (aa (bj zd (pv 0) aL) ae))) (pv 3)))) aY) (ak (aQ (aU cg (bj eO (pv 1) aL) aL (aP _)) (au (aF (bj tX (bj tX (bg wy (pv 2) (bj eO (pv 1) aL) (λ_ _=>rfl)) (pv 3)) (eN Dp rfl bl.wM wA (aa (pv 4) ae))))) aY) (au (aF (bj tX (bj tX (bg wy (pv 2) (bj eO (pv 1) aL) (λ_ _=>rfl)) (eN Dp rfl bl.wM wA (aa (pv 4) ae))) (pv 3)))))))))),?_⟩;have cm:wZ (k:Int) (z:Int):=.inl ⟨by omega,by omega⟩;have WM:∀j:Int,wZ (k:Int) j:=λj=>.inl ⟨by omega,by omega⟩;have c3:IC (z:Int) 3:=⟨by omega,by omega⟩;have c26:IC (k:Int) 26:=⟨by omega,by omega⟩;have sz:(10000:Nat)<=sizeLine:=by rw[sizeLine_eq];omega
 have WN:((k:Int)*17+(z:Int)) % 61=(((k*17+z) % 61:Nat):Int):=by omega
 have m26:((k:Int)*7+(z:Int)) % 26=(((k*7+z) % 26:Nat):Int):=by omega
 have WO:(z:Int) % 26=((z % 26:Nat):Int):=by omega
 have d26:(k:Int)/26=((k/26:Nat):Int):=by omega
 have e5:((k:Int)*(z:Int)+(z:Int)) % 5=(((k*z+z) % 5:Nat):Int):=by rw[Int.natCast_emod,Int.natCast_add,Int.natCast_mul];rfl
 refine setC ?_;refine bW ?_;refine⟨_,rfl,_,rfl,_,_,rfl,rfl,cm,_,rfl,_,_,rfl,rfl,_,_,rfl,rfl,by omega,"q",(k*z+z) % 5,rfl,congrArg V.int e5,by decide+kernel,by omega,?_⟩;refine bW ?_;refine⟨_,rfl,_,_,rfl,rfl,WM _,_,rfl,_,_,rfl,rfl,_,_,rfl,rfl,by omega,?_⟩;refine oF (λσ H6=>H6=H/\σ=[some (.int (k:Int)),some (.int (z:Int)),some (.str tE),some (.str (kB (fK k z))),some (.int (((k*17+z) % 61:Nat):Int))]) (λnR eS=>?_) ?_
 ·refine⟨_,rfl,_,_,rfl,rfl,c3,_,_,rfl,rfl,by omega,rfl,_,rfl,bB (λc=>?_) (λc=>aX ?_)⟩
  ·have c:=V.int.inj (of_decide_eq_true c);have c1:z/3 % 3=1:=by omega
   have fe:fK k z=9:=if_pos c1;refine⟨"q",9,rfl,rfl,by decide+kernel,by omega,bc (eS _ _ ⟨rfl,?_⟩)⟩;rw[fe,←WN];rfl
  ·have c1:¬z/3 % 3=1:=λw=>c (decide_eq_true (congrArg V.int (by omega)));have fe:fK k z=(k*z+z) % 5:=if_neg c1;refine eS _ _ ⟨rfl,?_⟩;rw[fe,←WN];rfl
 rintro σ H6 ⟨rfl,rfl⟩;have ls:=Zec _ (Hk k z);have ll:tE.length<=sizeLine:=Y4 (show tE.length<=100 by decide+kernel) (by omega);have lg:∀n:Nat,n<61->(n:Int).natAbs.log2<1920:=λn hn=>W8 (Nat.log2_le_self _) (by omega);refine⟨_,rfl,_,_,rfl,rfl,by omega,rfl,_,rfl,bB (λc=>?_) (λc=>aX ?_)⟩
 ·have h0:z % 3=0:=by have:=V.int.inj (of_decide_eq_true c);omega
  have ld:=QZ (k/26) (by omega);refine⟨_,rfl,_,rfl,_,_,rfl,rfl,WM _,_,rfl,_,_,rfl,rfl,_,_,rfl,rfl,by omega,tE,_,_,rfl,congrArg V.int m26,ll,Hj _ (by omega),_,rfl,_,_,rfl,rfl,c26,((k/26:Nat):Int),congrArg (λi=>[V.int i]) d26,lg _ (by omega),_,_,rfl,rfl,?_,_,rfl,_,_,rfl,rfl,?_,?_⟩
  ·show 1+(kA (k/26)).length<=sizeLine;omega
  ·show(pN ((k*7+z) % 26)++kA (k/26)).length+(kB (fK k z)).length<=sizeLine;rw[GI];show 1+_+_<=_;omega
  ·have e:dk z k=(pN ((k*7+z) % 26)++kA (k/26))++kB (fK k z):=if_pos h0;rw[e] at q;exact q
 have h0:¬z % 3=0:=λw=>c (decide_eq_true (congrArg V.int (by omega)));have ld:=QZ ((k*17+z) % 61) (by omega);refine⟨_,rfl,_,_,rfl,rfl,by omega,rfl,_,rfl,bB (λc=>?_) (λc=>aX ?_)⟩
 ·have h1:z % 3=1:=by have:=V.int.inj (of_decide_eq_true c);omega
  refine⟨_,rfl,_,rfl,_,_,rfl,rfl,by omega,tE,_,_,rfl,congrArg V.int WO,ll,Hj _ (by omega),_,rfl,_,_,rfl,rfl,?_,_,rfl,_,rfl,lg _ (by omega),_,_,rfl,rfl,?_,?_⟩
  ·show 1+(kB (fK k z)).length<=sizeLine;omega
  ·show(pN (z % 26)++kB (fK k z)).length+(kA ((k*17+z) % 61)).length<=sizeLine;rw[GI];show 1+_+_<=_;omega
  ·have e:dk z k=(pN (z % 26)++kB (fK k z))++kA ((k*17+z) % 61):=(if_neg h0).trans (if_pos h1);rw[e] at q;exact q
 have h1:¬z % 3=1:=λw=>c (decide_eq_true (congrArg V.int (by omega)));refine⟨_,rfl,_,rfl,_,_,rfl,rfl,by omega,tE,_,_,rfl,congrArg V.int WO,ll,Hj _ (by omega),_,rfl,_,rfl,lg _ (by omega),_,_,rfl,rfl,?_,_,rfl,_,_,rfl,rfl,?_,?_⟩
 ·show 1+(kA ((k*17+z) % 61)).length<=sizeLine;omega
 ·show(pN (z % 26)++kA ((k*17+z) % 61)).length+(kB (fK k z)).length<=sizeLine;rw[GI];show 1+_+_<=_;omega
 ·have e:dk z k=(pN (z % 26)++kA ((k*17+z) % 61))++kB (fK k z):=(if_neg h0).trans (if_neg h1);rw[e] at q;exact q
end
inductive Sl(C CL CJ:Addr)(vs:List V)(H:Hp)(Q:VK):Prop
 |mk (l:BL) (b:BS) (xs ys:List Int) (c:Fc) (ff:Addr) (aB:vs=[.ref l.h,.ref ff]) (ba:bw H C CL CJ l xs ys b) (ok:cH xs ys b) (hf:H ff=some (.tup [.str c.k,.str (aq b.ps c.one),kV (bu b.ps c)])) (fg:eA xs ys b.ps.length c) (lim:b.fs.length<63) (hw:m_ xs.length b c="") (dl:b.dn.length<200) (q:∀(l':BL) (H':Hp),cj H H' l l'->bw H' C CL CJ l' xs ys (b.wV c)->Q (.int (b.co:Int)) H'):Sl C CL CJ vs H Q
def Td(C CL CJ:Addr):Sp:=λvs H Q _=>Sl C CL CJ vs H Q
structure fL(C CL CJ:Addr)(H:Hp)(xs ys:List Int)(z j:Nat)(td:Addr)(l:BL)(b:BS)(nl sd fl st:Addr):Prop where
 ba:bw H C CL CJ l xs ys b
 ok:cH xs ys b
 names:H nl=some (.lst (iR b.ps))
 n1:nl∉l.fp
 cY:H sd=some (.dK (gh b.ps))
 n2:sd∉l.fp
 facts:∃as:List Addr,H fl=some (.lst (as.map V.ref))/\Paired (eQ H b.ps) as b.fs
 n3:fl∉l.fp
 tup:H st=some (.tup [.ref nl,.ref sd,.ref fl,.int (b.co:Int)])
 turns:gm H td xs ys
 n4:td∉l.fp
 nm:b.ps.map (·.1)=(List.range b.ps.length).map (dk z)
 so:(b.fs.map (·.1)).Pairwise (·<·)
 cp:b.ps.length<=j
 cf:b.fs.length<=j
 cd:b.dn.length<=j
section
variable {H H':Hp}{xs ys:List Int}{z j:Nat}{td:Addr}{l l':BL}{b b':BS}{nl sd fl st:Addr}
theorem fL.same(g:ah H H')(s:fL C CL CJ H xs ys z j td l b nl sd fl st):fL C CL CJ H' xs ys z j td l b nl sd fl st:=
 ⟨s.ba.same g,s.ok,g _ _ s.names,s.n1,g _ _ s.cY,s.n2,let⟨as,h1,h2⟩:=s.facts;⟨as,g _ _ h1,L2.Paired.bp h2 λ_ _ e=>g _ _ e⟩,s.n3,g _ _ s.tup,s.turns.same g,s.n4,s.nm,s.so,s.cp,s.cf,s.cd⟩
theorem fL.more(s:fL C CL CJ H xs ys z j td l b nl sd fl st):fL C CL CJ H xs ys z (j+1) td l b nl sd fl st:=
 ⟨s.ba,s.ok,s.names,s.n1,s.cY,s.n2,s.facts,s.n3,s.tup,s.turns,s.n4,s.nm,s.so,Wy s.cp,Wy s.cf,Wy s.cd⟩
theorem fL.FL(s:fL C CL CJ H xs ys z j td l b nl sd fl st):FL H b.ps fl b.F:=by
 obtain⟨as,h1,h2⟩:=s.facts;refine⟨as,h1,?_⟩;have:∀{as:List Addr} {fs:List (Nat×Fc)},Paired (eQ H b.ps) as fs->Paired (La H b.ps) as (fs.map (·.2)):=λh=>by
  induction h with
  |nil=>exact .nil
  |cons e _ ih=>exact .cons ⟨_,e⟩ ih
 exact this h2
theorem cj.off(w:cj H H' l l')(h:H a=some o)(n:a∉l.fp):H' a=some o/\a∉l'.fp:=
 ⟨w.out _ _ h n,λz=>(w.grow a z).elim n λq=>by rw[h] at q;cases q⟩
theorem cj.bV(w:cj H H' l l')(ba:bw H C CL CJ l xs ys b)(h:H a=some (.tup us)):H' a=some (.tup us):=w.out _ _ h (ba.tup h)
theorem cj.gm(w:cj H H' l l')(ba:bw H C CL CJ l xs ys b)(h:gm H td xs ys)(n:td∉l.fp):gm H' td xs ys:=by
 obtain⟨m,f,w1,s,h1,h2,h3,h4,h5⟩:=h;exact⟨m,f,w1,s,w.out _ _ h1 n,w.bV ba h2,w.bV ba h3,w.bV ba h4,w.bV ba h5⟩
theorem yS(w:cj H H' l l')(ba:bw H C CL CJ l xs ys b)(h:Paired (eQ H ps) as fs):Paired (eQ H' ps) as fs:=L2.Paired.bp h λ_ _ e=>w.bV ba e
theorem bw.fresh(ba:bw H C CL CJ l xs ys b)(h:H a=none):a∉l.fp:=λz=>ba.there z h
theorem eQ.ext(fg:eA xs ys ps.length p.2)(h:eQ H ps a p):eQ H (ps++[(n,s)]) a p:=by
 have e1:∀i,i<ps.length->aq (ps++[(n,s)]) i=aq ps i:=λi hi=>by
  unfold aq
  grind
 unfold eQ d9 at h⊢;have e2:bu (ps++[(n,s)]) p.2=bu ps p.2:=by
  by_cases k:p.2.k=bG;·rw[mP k,mP k]
  ·rw[iz k,iz k,e1 _ (fg.ok.gf k).1.2]
 rw[e1 _ fg.ok.one,e2];exact h
theorem fL.fresh(s:fL C CL CJ H xs ys z j td l b nl sd fl st)(h60:j<60)(iS:Str)(hs:Hg iS=true):IX b (dk z b.ps.length) iS:=by
 have c:=s.cp;obtain⟨f1,f2⟩:=ZaR (k:=b.ps.length) (by omega);refine⟨f1,hs,λm=>?_,by omega,by omega⟩;rw[s.nm] at m;obtain⟨i,hi,e⟩:=Yf.mp m;have hi:=Y7.mp hi;have:=ZbO (by omega) (by omega) e;omega
theorem nm_more(h:b.ps.map (·.1)=(List.range b.ps.length).map (dk z))(s:Str):(b.ps++[(dk z b.ps.length,s)]).map (·.1)=(List.range (b.ps++[(dk z b.ps.length,s)]).length).map (dk z):=by
 rw[Yj,h,Yi];show _++[dk z b.ps.length]=(List.range (b.ps.length+1)).map (dk z);rw[Jk,Yj];rfl
end
inductive Pu(C CL CJ:Addr)(vs:List V)(H:Hp)(Q:VK):Prop
 |mk (xs ys:List Int) (z j:Nat) (cell:Int) (td:Addr) (l:BL) (b:BS) (nl sd fl st:Addr) (aB:vs=[.ref l.h,.ref st,.int cell,.ref td,.int (z:Int)]) (si:fL C CL CJ H xs ys z j td l b nl sd fl st) (hz:z<97) (hj:j<60) (q:∀(l':BL) (b':BS) (kC iS jr aI:Addr) (H':Hp),cj H H' l l'->fL C CL CJ H' xs ys z (j+1) td l' b' kC iS jr aI->0<b'.ps.length->Q (.ref aI) H'):Pu C CL CJ vs H Q
def Q4(C CL CJ:Addr):Sp:=λvs H Q _=>Pu C CL CJ vs H Q
theorem Z7{P Q:α->β->Prop}(h:∀a b,b∈bs->P a b->Q a b)(p:Paired P as bs):Paired Q as bs:=by
 induction p with
 |nil=>exact .nil
 |cons e _ ih=>exact .cons (h _ _ Yk e) (ih λa b hb=>h a b (Yv _ hb))
theorem ZaS(fs:List α)(p:α->Bool):((List.range fs.length).filter λi=>(fs[i]?.map p).getD false).map (λi=>fs[i]?)=(fs.filter p).map some:=by
 have e:(List.range fs.length).map (λi=>fs[i]?)=fs.map some:=Ww λi=>by
  grind
 have h:=Js (f:=λi=>fs[i]?) (l:=List.range fs.length) (p:=λo:Option α=>(o.map p).getD false);rw[e,Js] at h;exact h.symm
theorem Q5:∀{l:List (Nat×α)},(l.map (·.1)).Nodup->∀{p q:Nat×α},p∈l->q∈l->p.1=q.1->p=q
 |[],_,_,_,h,_,_=>nomatch h
 |a::l,nd,p,q,hp,hq,e=>by
  obtain⟨n1,n2⟩:=Yy.mp (show(a.1::l.map (·.1)).Nodup from nd);rcases Yt.mp hp with e1|h1<;>rcases Yt.mp hq with e2|h2;·rw[e1,e2]
  ·grind
  ·grind
  ·exact Q5 n2 h1 h2 e
theorem Sm(ks:List Key):(ks.map kV).all nL=true:=by
 rw[Wr];intro v hv;obtain⟨k,_,rfl⟩:=Yf.mp hv;cases k<;>rfl
theorem Zed:∃s:Str,dv [V.str "man",V.str "woman"] (d % 2)=some (.str s)/\Hg s=true:=by
 have:d % 2=0\/d % 2=1:=by omega
 rcases this with e|e<;>rw[e];·exact⟨_,rfl,by decide+kernel⟩
 ·exact⟨_,rfl,by decide+kernel⟩
section
theorem ZaT:aR ["_law_book","_law_fact_here"] ["_law_book","_law_fact_here"] (aJ Fo):=⟨rfl,rfl,rfl,by decide+kernel,rfl,by decide+kernel,by decide+kernel⟩
theorem ZaU(F:aK K "_law_put" "_law_put" Fo f fd)(DG:cq P w K mg base 12 "say" C ["self","name","section"] (R_ C CL CJ))(DH:cq P w K mg base 12 "tie" C ["self","kind","one","other"] (R9 C CL CJ)):aH P w K mg base aM 13 f fd ["_law_book","_law_fact_here"] (Td C CL CJ):=by
 refine F.ok ZaT (λvs H Q E h=>?_) (λaC A outer s H vs Q E hr h=>?_)
 ·obtain⟨l,b,xs,ys,c,ff,rfl,_⟩:=h;rfl
 obtain⟨l,b,xs,ys,c,ff,rfl,ba,ok,hf,fg,lim,hw,dl,q⟩:=h;refine⟨_,(ak (aQ (aU cg (bg (gu (K:=K) rfl) (pv 1) aL (λ_ _=>rfl)) bC (aP _)) (au (aF (cK DG hr (by omega) (pv 0) (aa (bg (gu (K:=K) rfl) (pv 1) aL (λ_ _=>rfl)) (aa (bg (gu (K:=K) rfl) (pv 1) aL (λ_ _=>rfl)) ae))))) aY) (au (aF (cK DH hr (by omega) (pv 0) (aa (bg (gu (K:=K) rfl) (pv 1) aL (λ_ _=>rfl)) (aa (bg (gu (K:=K) rfl) (pv 1) aL (λ_ _=>rfl)) (aa (bg (gu (K:=K) rfl) (pv 1) aL (λ_ _=>rfl)) ae))))))),?_⟩;obtain⟨dx,ho⟩:=ba.obj;refine⟨_,rfl,ff,_,_,_,rfl,rfl,aA.of hf,rfl,rfl,_,rfl,?_⟩;rw[dM];refine bB (λcc=>?_) (λcc=>aX ?_)
 ·have sk:c.k=bG:=of_decide_eq_true cc;have eo:kV (bu b.ps c)=.int c.aE:=by rw[mP sk];rfl
  exact⟨_,rfl,l.h,dx,_,rfl,ho,rfl,_,rfl,ff,_,_,_,rfl,rfl,aA.of hf,rfl,_,rfl,ff,_,_,_,rfl,rfl,aA.of hf,rfl,l,b,xs,ys,c,by rw[eo];rfl,ba,ok,⟨F6 ok fg lim hw,sk⟩,dl,λl' H' wt Lm=>q l' H' wt Lm⟩
 ·have ns:c.k≠bG:=λz=>cc (decide_eq_true z);have eo:kV (bu b.ps c)=.str (aq b.ps c.aE.toNat):=by rw[iz ns];rfl
  exact⟨_,rfl,l.h,dx,_,rfl,ho,rfl,_,rfl,ff,_,_,_,rfl,rfl,aA.of hf,rfl,_,rfl,ff,_,_,_,rfl,rfl,aA.of hf,rfl,_,rfl,ff,_,_,_,rfl,rfl,aA.of hf,rfl,l,b,xs,ys,c,by rw[eo];rfl,ba,ok,ZcZ ok fg lim hw ns,dl,λl' H' wt Lm=>q l' H' wt Lm⟩
theorem lM:aR ["_law_book","_law_state","_law_cell_here","_law_turns_here","_law_salt","_law_names","_law_sides","_law_facts","_law_after_here","_law_drawn","_law_name_here","_law_side","_law_fact_here","_law_out"] ["_law_book","_law_state","_law_cell_here","_law_turns_here","_law_salt"] (aJ EL):=⟨rfl,rfl,rfl,by decide+kernel,rfl,by decide+kernel,by decide+kernel⟩
theorem Z8(F:aK K "_law_step" "_law_step" EL f fd)(tV:HasFn P w K mg base 1 "_law_draws" ["_law_cell_here","_law_parts"] (Gw K))(EX:HasFn P w K mg base 1 "_law_name" ["_law_k","_law_salt"] Sk)(EY:HasFn P w K mg base 2 "_law_fact" ["_law_names","_law_sides","_law_drawn","_law_size"] Sg)(EZ:HasFn P w K mg base 4 "_law_word" ["_law_sides","_law_facts","_law_turns_here","_law_fact_here"] Se)(Fw:HasFn P w K mg base 13 "_law_put" ["_law_book","_law_fact_here"] (Td C CL CJ))(Cn:cq P w K mg base 11 "person" C ["self","name","side"] (Pd C CL CJ))(Df:cq P w K mg base 11 "take" C ["self","number"] (R6 C CL CJ))(bl:Bl mg):aH P w K mg base aM 14 f fd ["_law_book","_law_state","_law_cell_here","_law_turns_here","_law_salt"] (Q4 C CL CJ):=by
 refine F.ok lM (λvs H Q E h=>?_) (λaC A outer s H vs Q E hr h=>?_)
 ·obtain⟨xs,ys,z,j,cell,td,l,b,nl,sd,fl,st,rfl,_⟩:=h;rfl
 obtain⟨xs,ys,z,j,cell,td,l,b,nl,sd,fl,st,rfl,si,hz,hj,q⟩:=h;have hu:=hr.uw;refine⟨_,(ak (m5 (pv 1) (iD (K:=K) (n:=4) rfl rfl (bN (a8 (i:=5) lM.nd rfl (Or.inl rfl)) (bN (a8 (i:=6) lM.nd rfl (Or.inl rfl)) (bN (a8 (i:=7) lM.nd rfl (Or.inl rfl)) (bN (a8 (i:=8) lM.nd rfl (Or.inl rfl)) iC)))))) (ak (a_ (i:=9) lM.nd rfl (Or.inl rfl) (aW tV hr (by omega) rfl (aa (pv 2) (aa (de (aa aL (aa aL (aa aL (aa aL (aa aL ae)))))) ae)))) (ak (aQ (PW.pt (pw_or (aU lU (bL (c9 (K:=K) rfl) rfl bl.cU cT (aa (pv 5) ae)) aL (aP _)) (pw_or1 (aU lU (bg (cA (K:=K) rfl) (pv 9) aL (λ_ _=>rfl)) aL (aP _))))) (ak (a_ (i:=10) lM.nd rfl (Or.inl rfl) (aW EX hr (by omega) rfl (aa (bL (c9 (K:=K) rfl) rfl bl.cU cT (aa (pv 5) ae)) (aa (pv 4) ae)))) (ak (a_ (i:=11) lM.nd rfl (Or.inl rfl) (bg (cA (K:=K) rfl) (de (aa bC (aa bC ae))) (bj eO (bg (cA (K:=K) rfl) (pv 9) aL (λ_ _=>rfl)) aL) (λ_ _=>rfl))) (ak (bY (cK Cn hr (by omega) (pv 0) (aa (pv 10) (aa (pv 11) ae)))) (ak (a_ (i:=6) lM.nd rfl (Or.inl rfl) (eN ZQ rfl bl.ZeJ ZdC (aa (pv 6) ae))) (ak (ot (bH hr) (pv 6) (pv 10) (pv 11)) (au (aF (dz (aa (bj wk (pv 5) (de (aa (pv 10) ae))) (aa (pv 6) (aa (pv 7) (aa (pv 8) ae)))))))))))) aY) (ak (aQ (aU lU (bg (cA (K:=K) rfl) (pv 9) aL (λ_ _=>rfl)) aL (aP _)) (ak (a_ (i:=12) lM.nd rfl (Or.inl rfl) (aW EY hr (by omega) rfl (aa (pv 5) (aa (pv 6) (aa (pv 9) (aa (bL (c9 (K:=K) rfl) rfl bl.cU cT (aa (dh (bH hr) (pv 3) bC (λ_ _=>rfl)) ae)) ae)))))) (ak (aQ (aU kR (aW EZ hr (by omega) rfl (aa (pv 6) (aa (pv 7) (aa (pv 3) (aa (pv 12) ae))))) bC (aP _)) (au (aF (pv 1))) aY) (ak (bY (aW Fw hr (by omega) rfl (aa (pv 0) (aa (pv 12) ae)))) (au (aF (dz (aa (pv 5) (aa (pv 6) (aa (bj wk (pv 7) (de (aa (bj Zdg (dz (aa (pv 8) ae)) (pv 12)) ae))) (aa (bj iY (pv 8) aL) ae)))))))))) aY) (ak (aQ (aU (Qa (K:=K) rfl (Zfc hu)) (pv 7) (de ae) (aP _)) (au (aF (pv 1))) aY) (ak (a_ (i:=13) lM.nd rfl (Or.inr rfl) (bg (cA (K:=K) rfl) (pv 7) (bj eO (bg (cA (K:=K) rfl) (pv 9) aL (λ_ _=>rfl)) (bL (c9 (K:=K) rfl) rfl bl.cU cT (aa (pv 7) ae))) (λ_ _=>rfl))) (ak (bY (cK Df hr (by omega) (pv 0) (aa (bg (gu (K:=K) rfl) (pv 13) aL (λ_ _=>rfl)) ae))) (au (aF (dz (aa (pv 5) (aa (pv 6) (aa (iW (x:="_law_one") (fr:=[("_law_out",13)]) (cl:=[("_law_out",s.heap.objs.size+1)]) rfl ⟨by with_unfolding_all rfl,⟨rfl,trivial⟩,rfl,by decide+kernel,rfl,by decide+kernel,rfl,⟨⟨rfl,.inl rfl,.inl rfl,rfl⟩,trivial⟩,by decide+kernel⟩ (d_ (K:=K) rfl (pv 7)) (λ_ _ _ _=>uo (aU (Zfo (K:=K) rfl hu) (pv 0) (pv 1) (aP _))) (λ_ _ _ _=>(pv 0))) (aa (pv 8) ae)))))))))))))),?_⟩;have sz:(10000:Nat)<=sizeLine:=by rw[sizeLine_eq];omega
 refine⟨_,rfl,st,_,rfl,aA.of si.tup,rfl,_,_,rfl,bc ⟨_,_,rfl,bc ⟨_,_,rfl,bc ⟨_,_,rfl,bc ⟨rfl,?_⟩⟩⟩⟩⟩;dsimp only;refine bW ?_;refine⟨_,rfl,by show 5<=sizeLine;omega,λpp H1 np g1 hp=>⟨cell,pp,[16,61,59,8,4],rfl,aj.of hp,by decide,by decide,λdr ds H2 nd g2 h2 bd=>?_⟩⟩;obtain⟨d0,d1,d2,d3,d4,rfl,_,_,_,_,b4⟩:=ZdJ bd;have lI:=g1.trans g2;have s2:=si.same lI;obtain⟨dx,ho⟩:=s2.ba.obj;have Bk:=mY b.ps;have cp:=si.cp;have cf:=si.cf;have cd:=si.cd;have s_:=si.ok.m;have f63:=si.ok.fl;have ix:∀{i:Int} {v:Int} {H9:Hp},ah H2 H9->dv ([d0,d1,d2,d3,d4].map V.int) i=some (.int v)->∀σ:St,σ[9]?=some (some (.ref dr))->Vt (k_ (w_ K) (hZ 9) (tC (V.int i))) σ H9 (.int v):=λg e σ hσ kk hk=>⟨_,hσ,dr,_,_,_,rfl,rfl,aj.of (g _ _ h2),e,hk _ (ah.refl _)⟩;refine(Bt.or (a:=decide (((iR b.ps).length:Int)<2)) (b:=decide (d0<5)) (λkk hk=>⟨_,rfl,nl,_,rfl,.inl (aj.of s2.names),_,_,rfl,rfl,_,rfl,hk _ (ah.refl _)⟩) λH3 _ g3 kk hk=>ix g3 rfl _ rfl _ λH4 g4=>⟨_,_,rfl,rfl,_,rfl,hk _ g4⟩) _ λH3 g3=>?_;have s3:=s2.same g3;have jD:=lI.trans g3;rw[Bk];refine bB (λcc=>?_) (λcc=>aX ?_)
 ·refine bW ?_;refine⟨_,rfl,nl,_,rfl,.inl (aj.of s3.names),_,rfl,b.ps.length,z,by rw[Bk];rfl,by omega,hz,?_⟩;refine bW ?_;obtain⟨sx,es,so⟩:=Zed (d:=d1);refine⟨by show 2<=sizeLine;omega,λsl H4 KP g4 hsl=>ix (g3.trans g4) rfl _ rfl _ λH5 g5=>⟨_,_,rfl,rfl,by omega,sl,_,_,_,rfl,rfl,aj.of (g5 _ _ hsl),es,?_⟩⟩;have s5:=(s3.same g4).same g5;have Bn:=(jD.trans g4).trans g5;obtain⟨Ln,Lo⟩:=s5.ba.obj;refine⟨_,rfl,l.h,Ln,_,rfl,Lo,rfl,_,rfl,_,rfl,l,b,xs,ys,dk z b.ps.length,sx,rfl,s5.ba,s5.ok,s5.fresh hj sx so,by omega,λl' H6 wt pO=>?_⟩;have Lp:=s5.fresh hj sx so;dsimp only;refine bW ?_;have off:=λ{a:Addr} {o:HO} (h:H5 a=some o) (n:a∉l.fp)=>wt.off h n;obtain⟨yo,Ac⟩:=off s5.cY s5.n2;obtain⟨yp,Ad⟩:=off s5.names s5.n1;obtain⟨as,vI,d7⟩:=s5.facts;obtain⟨vJ,I0⟩:=off vI s5.n3;refine⟨_,rfl,sd,_,rfl,yo,λs' H7 df g7 pB=>?_⟩;have vn:aS (gh b.ps) (.inr (dk z b.ps.length))=none:=pR λhm=>Lp.new (by
   obtain⟨p,hp,e⟩:=Yf.mp hm;obtain⟨p',hp',rfl⟩:=Yf.mp hp;exact Yf.mpr ⟨p',hp',Wj e⟩)
  refine⟨_,rfl,_,rfl,_,rfl,s',_,.inr (dk z b.ps.length),rfl,pB,rfl,by rw[Ya];omega,λH8 b8 e8=>?_⟩;have kF:ah H6 H8:=λc o e=>b8 _ _ (g7 _ _ e) (bQ e df);rw[kJ _ vn] at e8;refine⟨_,rfl,_,rfl,by show 1<=sizeLine;omega,λt H9 nt g9 ht=>⟨nl,t,_,_,rfl,rfl,g9 _ _ (kF _ _ yp),ht,by rw[Bk];show _+1<=_;omega,λn' HA nn' gA uP=>⟨_,rfl,_,rfl,_,rfl,by show 4<=sizeLine;omega,λaI HB AK gB ib=>?_⟩⟩⟩;have yq:=(g9.trans gA).trans gB;have lJ:=kF.trans yq;have pe:(b.Ic (dk z b.ps.length) sx).ps=b.ps++[(dk z b.ps.length,sx)]:=rfl;obtain⟨tm,tf,tw,ts,fE,_⟩:=id s5.turns;refine q l' (b.Ic (dk z b.ps.length) sx) n' s' fl aI HB ((cj.after Bn wt).same lJ) ⟨pO.same lJ,si.ok.Zhh Lp.new Lp.lim (Yd _) (by rw[Yi];show _+1<=200;omega) (Yw _),?_,((pO.same kF).same g9).fresh nn',?_,pO.fresh df,⟨as,lJ _ _ vJ,?_⟩,I0,ib,(wt.gm s5.ba s5.turns s5.n4).same lJ,(off fE s5.n4).2,nm_more si.nm sx,si.so,?_,Wy cf,?_⟩ (by rw[pe,Yi];exact Nat.succ_pos _)
  ·rw[gB _ _ uP,pe,iR,iR,Yj];rfl
  ·rw[yq _ _ e8,pe];show _=some (HO.dK ((b.ps++[(dk z b.ps.length,sx)]).map _));rw[Yj];rfl
  ·have:=yS wt s5.ba d7;refine Z7 (λa p hp e=>?_) this;exact eQ.ext (si.ok.fg p hp) (lJ _ _ e)
  ·rw[pe,Yi];show _+1<=_;omega
  ·show(b.dn++[_]).length<=_;rw[Yi];show _+1<=_;omega
 have p0:0<b.ps.length:=by
  rw[J8,decide_eq_true_iff] at cc;omega
 refine⟨_,rfl,dr,_,_,_,rfl,rfl,aj.of (g3 _ _ h2),rfl,_,_,rfl,rfl,_,rfl,?_⟩;refine bB (λcc2=>?_) (λcc2=>aX ?_)
 ·refine bW ?_;obtain⟨tm,tf,tw,u0,fE,_,_,_,vE⟩:=id s3.turns;refine⟨_,rfl,_,rfl,_,rfl,_,rfl,td,.ref u0,rfl,c5 fE rfl,u0,_,rfl,.inr (aA.of vE),nl,sd,dr,b.ps,xs,ys,d0,d1,d2,d3,d4,by rw[Ya,eX];rfl,s3.names,s3.cY,si.ok.nm,p0,by omega,g3 _ _ h2,b4,si.ok.gd,λc fg ff H4 Bm g4 tD=>?_⟩;have s4:=s3.same g4;refine⟨_,rfl,_,rfl,_,rfl,_,rfl,sd,fl,td,ff,xs,ys,b,c,rfl,s4.cY,s4.FL,s4.turns,tD,si.ok,fg,λH5 g5=>⟨rfl,_,rfl,?_⟩⟩;have s5:=s4.same g5;have Bn:=(jD.trans g4).trans g5;rw[dM];refine bB (λcw=>?_) (λcw=>aX ?_);·exact⟨_,rfl,q l b nl sd fl st H5 (cj.of Bn) s5.more p0⟩
  have hw:m_ xs.length b c="":=by
   by_cases e:m_ xs.length b c="";·exact e
   ·rw[decide_eq_false e] at cw;exact absurd rfl cw
  have nf:=F6 si.ok fg (by omega) hw;refine⟨_,rfl,_,rfl,l,b,xs,ys,c,ff,rfl,s5.ba,si.ok,g5 _ _ tD,fg,by omega,hw,by omega,λl' H6 wt pO=>?_⟩;have off:=λ{a:Addr} {o:HO} (h:H5 a=some o) (n:a∉l.fp)=>wt.off h n;obtain⟨yo,Ac⟩:=off s5.cY s5.n2;obtain⟨yp,Ad⟩:=off s5.names s5.n1;obtain⟨as,vI,d7⟩:=s5.facts;obtain⟨vJ,I0⟩:=off vI s5.n3;have ff6:=wt.bV s5.ba (g5 _ _ tD);have al:=cN d7;refine⟨_,rfl,_,rfl,_,rfl,_,rfl,by show 1<=sizeLine;omega,λt1 H7 nt1 g7 Lj=>⟨_,rfl,t1,ff,_,_,rfl,rfl,aA.of Lj,aA.of (g7 _ _ ff6),by simp,by show 1+3<=sizeLine;omega,λe=>(by cases e),λ_ t2 nt2=>?_⟩⟩;obtain⟨H8,e8⟩:∃H8,H8=upd H7 t2 (.tup ([V.int (b.co:Int)]++[V.str c.k,V.str (aq b.ps c.one),kV (bu b.ps c)])):=⟨_,rfl⟩;have g8:ah H7 H8:=by rw[e8];exact cy nt2 _
  have ht2:eQ H8 b.ps t2 (b.co,c):=by
   show H8 t2=_;rw[e8,aZ];rfl
  rw[←e8];have kF:=g7.trans g8;refine⟨by show 1<=sizeLine;omega,λl1 H9 nl1 g9 hl1=>⟨fl,l1,_,_,rfl,rfl,g9 _ _ (kF _ _ vJ),hl1,by rw[Ya];show _+1<=_;omega,λjr HA ZhC gA ZhD=>⟨_,rfl,_,_,rfl,rfl,by show 4<=sizeLine;omega,λaI HB AK gB ib=>?_⟩⟩⟩;have yq:=(g9.trans gA).trans gB;have lJ:=kF.trans yq;obtain⟨tm,tf,tw,ts,I_,_⟩:=id s5.turns;have WQ:=si.ok.lt;refine q l' (b.wV c) nl sd jr aI HB ((cj.after Bn wt).same lJ) ⟨pO.same lJ,?_,lJ _ _ yp,Ad,lJ _ _ yo,Ac,⟨as++[t2],?_,?_⟩,((pO.same kF).same g9).fresh ZhC,ib,(wt.gm s5.ba s5.turns s5.n4).same lJ,(off I_ s5.n4).2,si.nm,?_,Wy cp,?_,?_⟩ p0
  ·exact si.ok.Zhi fg (λm=>by
    obtain⟨p,hp,e⟩:=Yf.mp m;have:=WQ p hp;omega) nf.nk nf.np nf.lv (by omega) (co:=b.co+1) (JG _) (Je _) (by rw[Yi];show _+1<=200;omega) (Yw _)
  ·rw[gB _ _ ZhD,Yj];rfl
  ·exact hE (F:=eQ HB b.ps) (yq _ _ ht2) (L2.Paired.bp (yS wt s5.ba d7) λ_ _ e=>lJ _ _ e)
  ·show((b.fs++[(b.co,c)]).map (·.1)).Pairwise _;rw[Yj];refine List.pairwise_append.mpr ⟨si.so,by simp,λu hu v hv=>?_⟩;obtain⟨p,hp,rfl⟩:=Yf.mp hu;have:v=b.co:=by simpa using hv
   rw[this];exact WQ p hp
  ·show(b.fs++[_]).length<=_;rw[Yi];show _+1<=_;omega
  ·show(b.dn++[_]).length<=_;rw[Yi];show _+1<=_;omega
 obtain⟨as,vI,d7⟩:=s3.facts;have al:=cN d7;refine⟨_,rfl,by show 0<=sizeLine;omega,λe0 H4 yj g4 xX=>⟨fl,e0,_,rfl,rfl,aj.of (g4 _ _ vI),aj.of xX,_,rfl,bB (λce=>?_) (λce=>aX ?_)⟩⟩;·exact⟨_,rfl,q l b nl sd fl st H4 (cj.of (jD.trans g4)) (s3.same g4).more p0⟩
 refine bW ?_;have s4:=s3.same g4;have f0:0<as.length:=by
  cases e:as with
  |nil=>rw[e] at ce;exact absurd rfl ce
  |cons _ _=>exact Nat.succ_pos _
 have mi:=wI (z:=d1) f0;refine⟨_,rfl,ix (g3.trans g4) rfl _ rfl _ λH5 g5=>?_⟩;have s5:=s4.same g5;have JA:=g5 _ _ (g4 _ _ vI);obtain⟨i,ei⟩:∃i:Nat,d1 % (as.length:Int)=(i:Int):=⟨(d1 % (as.length:Int)).toNat,by omega⟩;have hi:i<as.length:=by omega
 obtain⟨ao,WR⟩:∃ao,as[i]?=some ao:=⟨_,Yb hi⟩;obtain⟨⟨z0,c0⟩,WS,K8⟩:=fV d7 WR;have Ur:=g5 _ _ (g4 _ _ K8);refine⟨_,rfl,fl,_,rfl,.inl (aj.of JA),_,_,rfl,rfl,by rw[Ya];omega,fl,_,_,.ref ao,rfl,rfl,aj.of JA,?_,?_⟩
 ·rw[Ya,ei];exact hV (by rw[Yl,WR];rfl)
 obtain⟨Ln,Lo⟩:=s5.ba.obj;refine⟨_,rfl,l.h,Ln,_,rfl,Lo,rfl,_,rfl,ao,_,_,_,rfl,rfl,aA.of Ur,rfl,l,b,xs,ys,z0,c0,rfl,s5.ba,si.ok,Yh WS,by omega,λl' H6 wt pO=>?_⟩;have off:=λ{a:Addr} {o:HO} (h:H5 a=some o) (n:a∉l.fp)=>wt.off h n;obtain⟨yo,Ac⟩:=off s5.cY s5.n2;obtain⟨yp,Ad⟩:=off s5.names s5.n1;obtain⟨vJ,I0⟩:=off JA s5.n3;have ZhE:Paired (eQ H5 b.ps) as b.fs:=L2.Paired.bp d7 λ_ _ e=>g5 _ _ (g4 _ _ e);have Us:=yS wt s5.ba ZhE;have al5:=cN d7;have ao6:=wt.bV s5.ba Ur;refine⟨_,rfl,_,rfl,_,rfl,fl,rfl,⟨_,aj.of vJ⟩,λD hD=>?_⟩;have qe:∀p∈b.fs,p.1=z0->p=(z0,c0):=λp hp e=>Q5 si.ok.zs hp (Yh WS) e;refine yE (K:=K) (aj.of vJ) (by rw[Ya];omega) hD (λi=>(b.fs[i]?.map λp=>decide (p.1≠z0)).getD false) (λi y _=>∃a,as[i]?=some a/\y=.ref a) (λ_ _ _ _ _ h=>h) (λi v hi H7 g7 _ Kt Kf kt kf=>?_) λus H7 g7 h7 pr=>?_
 ·rw[Yl] at hi;obtain⟨a,ea,rfl⟩:∃a,as[i]?=some a/\V.ref a=v:=by
   cases e:as[i]? with
   |none=>rw[e] at hi;cases hi
   |some c=>rw[e] at hi;exact⟨c,rfl,Yp hi⟩
  obtain⟨p,ep,hp⟩:=fV Us ea;have mp:=Yh ep;have pb:(b.fs[i]?.map λp=>decide (p.1≠z0)).getD false=decide (p.1≠z0):=by rw[ep];rfl
  rw[pb] at kt kf;refine⟨_,rfl,_,rfl,a,ao,_,_,rfl,rfl,aA.of (g7 _ _ hp),aA.of (g7 _ _ ao6),Sm _,Sm _,_,rfl,?_⟩;have ed:(!decide ((d9 b.ps p.1 p.2).map kV=(d9 b.ps z0 c0).map kV))=decide (p.1≠z0):=by
   by_cases e:p.1=z0
   ·rw[qe p mp e];simp
   ·rw[decide_eq_true e,decide_eq_false (λh=>e ?_)];·rfl
    ·injection h with h1 _;have:=V.int.inj h1;omega
  show(if(!decide ((d9 b.ps p.1 p.2).map kV=(d9 b.ps z0 c0).map kV))=true then _ else _);rw[ed];cases e:decide (p.1≠z0) with
  |true=>exact c8 ⟨_,rfl,kt _ H7 e (ah.refl _) ⟨a,ea,rfl⟩⟩
  |false=>exact cz (kf H7 e (ah.refl _))
 rw[Ya,al5] at pr;obtain⟨iO,rfl,ZhF⟩:∃iO:List Addr,us=iO.map V.ref/\Paired (eQ H7 b.ps) iO (cW z0 b.fs):=by
  have aux:∀{ys:List V} {is:List Nat} {gs:List (Nat×Fc)},Paired (λy i=>∃a,as[i]?=some a/\y=.ref a) ys is->is.map (λi=>b.fs[i]?)=gs.map some->∃as:List Addr,ys=as.map V.ref/\Paired (eQ H7 b.ps) as gs:=by
   intro ys is gs pr;induction pr generalizing gs with
   |nil=>
    intro e;cases gs with
    |nil=>exact⟨[],rfl,.nil⟩
    |cons _ _=>cases e
   |cons f _ ih=>
    intro e;cases gs with
    |nil=>cases e
    |cons g gs=>
     obtain⟨a,e1,e2⟩:=f;obtain⟨p,ep,hp⟩:=fV Us e1;injection e with e4 e5;obtain⟨as,r1,r2⟩:=ih e5;exact⟨a::as,by rw[e2,r1];rfl,.cons (by rw[←Yp (ep.symm.trans e4)];exact g7 _ _ hp) r2⟩
  exact aux pr (ZaS b.fs λp=>decide (p.1≠z0))
 refine⟨_,rfl,by show 4<=sizeLine;omega,λaI H8 AK g8 ib=>?_⟩;have kF:=g7.trans g8;obtain⟨tm,tf,tw,ts,I_,_⟩:=id s5.turns;have sub:(cW z0 b.fs).Sublist b.fs:=List.filter_sublist;refine q l' (b.without z0 c0) nl sd D aI H8 ((cj.after (((jD.trans g4).trans g5)) wt).same kF) ⟨pO.same kF,si.ok.drop z0 (Yd _) (by rw[Yi];show _+1<=200;omega) (Yw _),kF _ _ yp,Ad,kF _ _ yo,Ac,⟨iO,g8 _ _ h7,L2.Paired.bp ZhF λ_ _ e=>g8 _ _ e⟩,pO.fresh hD,ib,(wt.gm s5.ba s5.turns s5.n4).same kF,(off I_ s5.n4).2,si.nm,si.so.sublist (sub.map _),Wy cp,Wy (Y4 sub.length_le cf),?_⟩ p0;show(b.dn++[_]).length<=_;rw[Yi];show _+1<=_;omega
end
theorem cH.nil(gd:m9 xs ys):cH xs ys ⟨[],[],0,[],[]⟩:=
 ⟨gd,Ws,Yw _,Yw _,λ_ h=>(nomatch h),Ws,λ_ h=>(nomatch h),Ws,Ws,⟨λ_=>0,λ_ h=>absurd h (Wm _),λ_ h=>(nomatch h)⟩,Yw _,Yw _⟩
inductive Q6(C CL CJ:Addr)(vs:List V)(H:Hp)(Q:VK):Prop
 |mk (xs ys:List Int) (z:Nat) (ca td:Addr) (l:BL) (b:BS) (cs:List Int) (aB:vs=[.ref l.h,.ref ca,.ref td,.int (z:Int)]) (ba:bw H C CL CJ l xs ys b) (eb:b=⟨[],[],0,[],[]⟩) (gd:m9 xs ys) (hc:H ca=some (.lst (cs.map V.int))) (nc:ca∉l.fp) (ht:gm H td xs ys) (nt:td∉l.fp) (hz:z<97) (lc:cs.length<=59) (q:∀(l':BL) (b':BS) (kC iS jr aI:Addr) (H':Hp),cj H H' l l'->fL C CL CJ H' xs ys z 59 td l' b' kC iS jr aI->Q (.ref aI) H'):Q6 C CL CJ vs H Q
def Sn(C CL CJ:Addr):Sp:=λvs H Q _=>Q6 C CL CJ vs H Q
section
theorem yD:aR ["_law_book","_law_cells","_law_turns_here","_law_salt","_law_state","_law_cell_here"] ["_law_book","_law_cells","_law_turns_here","_law_salt"] (aJ EM):=⟨rfl,rfl,rfl,by decide+kernel,rfl,by decide+kernel,by decide+kernel⟩
theorem Z9(F:aK K "_law_grow" "_law_grow" EM f fd)(E1:HasFn P w K mg base 14 "_law_step" ["_law_book","_law_state","_law_cell_here","_law_turns_here","_law_salt"] (Q4 C CL CJ))(bl:Bl mg):aH P w K mg base aM 15 f fd ["_law_book","_law_cells","_law_turns_here","_law_salt"] (Sn C CL CJ):=by
 refine F.ok yD (λvs H Q E h=>?_) (λaC A outer s H vs Q E hr h=>?_)
 ·obtain⟨xs,ys,z,ca,td,l,b,cs,rfl,_⟩:=h;rfl
 obtain⟨xs,ys,z,ca,td,l,b,cs,rfl,ba,rfl,gd,hc,nc,ht,nt,hz,lc,q⟩:=h;refine⟨_,(ak (a_ (i:=4) yD.nd rfl (Or.inl rfl) (dz (aa (de ae) (aa pY (aa (de ae) (aa aL ae)))))) (ak (eY PassesOwn.never rfl (d_ (K:=K) rfl (pv 1)) (a8 (i:=5) yD.nd rfl (Or.inl rfl)) (au (a_ (i:=4) yD.nd rfl (Or.inl rfl) (aW E1 hr (by omega) rfl (aa (pv 0) (aa (pv 4) (aa (pv 5) (aa (pv 2) (aa (pv 3) ae))))))))) (au (aF (pv 4))))),?_⟩;have sz:(10000:Nat)<=sizeLine:=by rw[sizeLine_eq];omega
 refine bW ?_;refine⟨by show 0<=sizeLine;omega,λnl H1 n1 g1 h1=>?_⟩;refine λsd H2 n2 g2 h2=>?_;refine⟨by show 0<=sizeLine;omega,λfl H3 n3 g3 h3=>⟨by show 4<=sizeLine;omega,λst H4 n4 g4 h4=>?_⟩⟩;have qU:=((g1.trans g2).trans g3).trans g4;have cv:=ba.same g1;have mI:=cv.same g2;have si:fL C CL CJ H4 xs ys z 0 td l ⟨[],[],0,[],[]⟩ nl sd fl st:=⟨ba.same qU,cH.nil gd,g4 _ _ (g3 _ _ (g2 _ _ h1)),ba.fresh n1,g4 _ _ (g3 _ _ h2),cv.fresh n2,⟨[],g4 _ _ h3,.nil⟩,mI.fresh n3,h4,ht.same qU,nt,rfl,List.Pairwise.nil,Yw _,Yw _,Yw _⟩;refine fw (λσ H6=>∃(l':BL) (b':BS) (kC iS jr aI:Addr) (o5:Option V),cj H H6 l l'/\fL C CL CJ H6 xs ys z 59 td l' b' kC iS jr aI/\σ=[some (.ref l.h),some (.ref ca),some (.ref td),some (.int (z:Int)),some (.ref aI),o5]) (λlE d5=>?_) ?_
 ·refine⟨_,rfl,ca,rfl,⟨_,aj.of (qU _ _ hc)⟩,hJ (K:=K) (a:=ca) (xs:=cs.map V.int) (λj σ H6=>∃(l':BL) (b':BS) (kC iS jr aI:Addr) (o5:Option V),cj H H6 l l'/\fL C CL CJ H6 xs ys z j td l' b' kC iS jr aI/\σ=[some (.ref l.h),some (.ref ca),some (.ref td),some (.int (z:Int)),some (.ref aI),o5])
   ⟨l,_,nl,sd,fl,st,none,cj.of qU,si,rfl⟩ (λj σ H6 _ ⟨_,_,_,_,_,_,_,wt,_⟩=>aj.of (wt.off hc nc).1) ?_ ?_⟩
  ·rintro j v σ H6 hj ⟨l',b',kC,iS,jr,aI,o5,wt,s6,rfl⟩;obtain⟨x,rfl,hx⟩:=mU hj;have jl:j<cs.length:=(Yg.mp hx).1;refine bc ?_;rw[←wt.h];refine⟨_,rfl,_,rfl,_,rfl,_,rfl,_,rfl,xs,ys,z,j,x,td,l',b',kC,iS,jr,aI,rfl,s6,hz,by omega,λl2 b2 KU Ke fl2 fk H7 wt7 s7 _=>bc ⟨l2,b2,KU,Ke,fl2,fk,_,wt.trans wt7,s7,rfl⟩⟩
  ·rintro σ H6 ⟨l',b',kC,iS,jr,aI,o5,wt,s6,rfl⟩;rw[Ya] at s6;exact d5 _ _ ⟨l',b',kC,iS,jr,aI,o5,wt,⟨s6.ba,s6.ok,s6.names,s6.n1,s6.cY,s6.n2,s6.facts,s6.n3,s6.tup,s6.turns,s6.n4,s6.nm,s6.so,Y4 s6.cp lc,Y4 s6.cf lc,Y4 s6.cd lc⟩,rfl⟩
 rintro σ H6 ⟨l',b',kC,iS,jr,aI,o5,wt,s6,rfl⟩;exact⟨_,rfl,q l' b' kC iS jr aI H6 wt s6⟩
end
theorem fL.ZhG{C CL CJ:Addr}{H H':Hp}{xs ys:List Int}{z j:Nat}{td:Addr}{l l':BL}{b:BS}{nl sd fl st:Addr}(s:fL C CL CJ H xs ys z j td l b nl sd fl st)(w:cj H H' l l')(ba:bw H' C CL CJ l' xs ys b):fL C CL CJ H' xs ys z j td l' b nl sd fl st:=by
 obtain⟨a1,c1⟩:=w.off s.names s.n1;obtain⟨a2,c2⟩:=w.off s.cY s.n2;obtain⟨as,h1,h2⟩:=s.facts;obtain⟨a3,c3⟩:=w.off h1 s.n3;obtain⟨_,_,_,_,fE,_⟩:=id s.turns;exact⟨ba,s.ok,a1,c1,a2,c2,⟨as,a3,yS w s.ba h2⟩,c3,w.bV s.ba s.tup,w.gm s.ba s.turns s.n4,(w.off fE s.n4).2,s.nm,s.so,s.cp,s.cf,s.cd⟩
theorem fL.good{C CL CJ:Addr}{H:Hp}{xs ys:List Int}{z j:Nat}{td:Addr}{l:BL}{b:BS}{nl sd fl st:Addr}(s:fL C CL CJ H xs ys z j td l b nl sd fl st):(∀c∈b.F,eA xs ys b.ps.length c)/\b.F.length<=64:=by
 refine⟨λc hc=>?_,?_⟩
 ·obtain⟨p,hp,rfl⟩:=Yf.mp (show c∈b.fs.map (·.2) from hc);exact s.ok.fg p hp
 ·show(b.fs.map (·.2)).length<=64;rw[Ya];exact Wy s.ok.fl
theorem Zc1(h:xs.length<=63):(oS xs (some 4) none).length<=59:=by
 unfold oS;have e:HT.gP xs.length 0 (some 4)=min 4 xs.length:=HT.Zde _ _ 4
 grind
theorem wq{ps:bA}{j:Nat}(h:j<ps.length):(iR ps)[j]?=some (.str (aq ps j)):=by
 unfold iR aq;rw[Yl,Yb h,Yn,Yb h];rfl
theorem ML(p:Paired R as bs)(h:a∈as):∃b∈bs,R a b:=by
 induction p with
 |nil=>cases h
 |cons e _ ih=>grind
inductive Oe(C CL CJ:Addr)(vs:List V)(H:Hp)(Q:VK):Prop
 |mk (l:BL) (b:BS) (xs ys:List Int) (i:Nat) (aB:vs=[.ref l.h,.str (aq b.ps i)]) (ba:bw H C CL CJ l xs ys b) (nm:(b.ps.map (·.1)).Nodup) (hi:i<b.ps.length) (q:Q (.int (i:Int)) H):Oe C CL CJ vs H Q
def F7(C CL CJ:Addr):Sp:=λvs H Q _=>Oe C CL CJ vs H Q
inductive Px(C CL CJ:Addr)(vs:List V)(H:Hp)(Q:VK):Prop
 |mk (l:BL) (b:BS) (xs ys:List Int) (i:Nat) (aB:vs=[.ref l.h,.str (aq b.ps i)]) (ba:bw H C CL CJ l xs ys b) (ok:cH xs ys b) (hi:i<b.ps.length) (q:∀(l':BL) (H1:Hp) (p:Addr) (H':Hp),cj H H1 l l'->bw H1 C CL CJ l' xs ys b->(l.rk≠.ay->H1=H/\l'=l)->H1 p=none->ah H1 H'->H' p=some (.lst ((c7 b.F xs.length i).map V.int))->Q (.ref p) H'):Px C CL CJ vs H Q
def Q7(C CL CJ:Addr):Sp:=λvs H Q _=>Px C CL CJ vs H Q
section
theorem Xm:aR ["self","name"] ["self","name"] (aJ BN):=⟨rfl,rfl,rfl,by decide+kernel,rfl,by decide+kernel,by decide+kernel⟩
theorem Z_(F:aK K "place_of" "Hearth.place_of" BN f fd)(hc:fP K C):aH P w K mg base aM 1 f fd ["self","name"] (F7 C CL CJ):=by
 refine F.ok Xm (λvs H Q E h=>?_) (λaC A outer s H vs Q E hr h=>?_)
 ·obtain⟨l,b,xs,ys,i,rfl,_⟩:=h;rfl
 obtain⟨l,b,xs,ys,i,rfl,ba,nm,hi,q⟩:=h;refine⟨_,(ak (aQ (jN (mO (bH hr) (pv 1) (aV (K:=K) rfl (pv 0) rfl)) (by with_unfolding_all rfl)) fN aY) (au (aF (dh (bH hr) (aV (K:=K) rfl (pv 0) rfl) (pv 1) (λ_ _=>rfl))))),?_⟩;obtain⟨dx,h1⟩:=ba.obj;have pg:=rp nm hi;exact⟨_,rfl,_,rfl,l.h,C,dx,_,_,rfl,h1,hc.cls,hc.q_,rfl,l.pl,some _,rfl,c5 ba.places pg,_,rfl,cz (aX ⟨_,rfl,l.h,C,dx,_,_,rfl,h1,hc.cls,hc.q_,rfl,_,rfl,l.pl,_,rfl,c5 ba.places pg,q⟩)⟩
theorem ZaV:aR ["hearth","name"] ["hearth","name"] (aJ Fj):=⟨rfl,rfl,rfl,by decide+kernel,rfl,by decide+kernel,by decide+kernel⟩
theorem ZaW(F:aK K "open_of" "open_of" Fj f fd)(og:cq P w K mg base 8 "joins" C ["self"] (zx C CL CJ))(tH:cq P w K mg base 1 "place_of" C ["self","name"] (F7 C CL CJ))(jI:cq P w K mg base 2 "open_at" CJ ["self","one"] (we CJ)):aH P w K mg base aM 9 f fd ["hearth","name"] (Q7 C CL CJ):=by
 refine F.ok ZaV (λvs H Q E h=>?_) (λaC A outer s H vs Q E hr h=>?_)
 ·obtain⟨l,b,xs,ys,i,rfl,_⟩:=h;rfl
 obtain⟨l,b,xs,ys,i,rfl,ba,ok,hi,q⟩:=h;refine⟨_,(au (aF (cK jI hr (by omega) (qi og hr (by omega) (pv 0)) (aa (cK tH hr (by omega) (pv 0) (aa (pv 1) ae)) ae)))),?_⟩;obtain⟨dx,ho⟩:=ba.obj;refine⟨_,rfl,l.h,dx,_,rfl,ho,rfl,l,b,xs,ys,rfl,ba,ok,λl' jl st H1 w1 cv e1 e2 ja me len fH sm=>?_⟩;obtain⟨dy,hj⟩:=ja.obj;obtain⟨nP,pE⟩:=cv.obj;rw[w1.h] at pE;have iN:i<st.hd.length:=by rw[len];exact hi
 have one:=me.wf.one ok.gd.2.2.2.2 iN;refine⟨jl.J,dy,_,rfl,hj,rfl,_,rfl,l.h,nP,_,rfl,pE,rfl,_,rfl,l',b,xs,ys,i,by rw[w1.h];rfl,cv,ok.nm,hi,jl,st,xs.length,i,_,_,_,rfl,ja,one.hd,one.ld,one.fr,one.fD,one.iM,λp ns H2 np g2 pm so hp=>?_⟩;rw[me.opn iN pm so] at hp;exact q l' H1 p H2 w1 cv sm np g2 hp
end
def cD(hd:Nat->Nat):Nat->List (Nat×List Nat)
 |0=>[]
 |j+1=>match(cD hd j).lookup (hd j) with
  |some is=>cX (hd j) (is++[j]) (cD hd j)
  |none=>cD hd j++[(hd j,[j])]
def jT(hd:Nat->Nat)(j x:Nat):List Nat:=(List.range j).filter λk=>decide (hd k=x)
open Classical in
noncomputable def qp (hd:Nat->Nat) (j:Nat):List Nat:=(List.range j).filter λi=>decide (∀k,k<i->hd k≠hd i)
theorem Nj{hd:Nat->Nat}{g:Nat->List Nat}{x:Nat}:∀{R:List Nat},((R.map λi=>(hd i,g (hd i))).lookup x=some (g x)/\x∈R.map hd)\/((R.map λi=>(hd i,g (hd i))).lookup x=none/\x∉R.map hd)
 |[]=>.inr ⟨rfl,by simp⟩
 |i::R=>by
  rw[Wl,Wl,Wt];by_cases e:x=hd i
  ·rw[beq_iff_eq.mpr e];exact .inl ⟨by rw[e],by rw[e];exact Yk⟩
  ·rw[beq_eq_false_iff_ne.mpr e];rcases Nj (hd:=hd) (g:=g) (x:=x) (R:=R) with⟨a,b⟩|⟨a,b⟩;·exact .inl ⟨a,Yv _ b⟩
   ·exact .inr ⟨a,λz=>(Yt.mp z).elim e b⟩
theorem Fx(hd:Nat->Nat)(j x:Nat):jT hd (j+1) x=jT hd j x++if hd j=x then[j] else[]:=by
 unfold jT;rw[Jk,Wh,Wo];by_cases e:hd j=x;·rw[if_pos (decide_eq_true e),if_pos e];rfl
 ·rw[if_neg (by rw[decide_eq_false e];exact Ym),if_neg e];rfl
open Classical in
theorem Py{hd:Nat->Nat}{j x:Nat}:x∈(qp hd j).map hd↔∃k,k<j/\hd k=x:=by
 unfold qp;constructor
 ·intro h;obtain⟨i,hi,rfl⟩:=Yf.mp h;exact⟨i,Y7.mp (Yz.mp hi).1,rfl⟩
 ·rintro⟨k,hk,rfl⟩;induction k using Nat.strongRecOn with
  |ind k ih=>
   by_cases r:∀i,i<k->hd i≠hd k;·exact Yf.mpr ⟨k,Yz.mpr ⟨Y7.mpr hk,decide_eq_true r⟩,rfl⟩
   ·have⟨i,hi,e⟩:∃i,i<k/\hd i=hd k:=by
     by_cases z:∃i,i<k/\hd i=hd k;·exact z
     ·exact absurd (λi hi e=>z ⟨i,hi,e⟩) r
    rw[←e];exact ih i hi (by omega)
open Classical in
theorem Q8(hd:Nat->Nat):∀j,cD hd j=(qp hd j).map λi=>(hd i,jT hd j (hd i))
 |0=>rfl
 |j+1=>by
  have ih:=Q8 hd j;have er:qp hd (j+1)=qp hd j++if ∀k,k<j->hd k≠hd j then[j] else[]:=by
   unfold qp;rw[Jk,Wh,Wo];by_cases e:∀k,k<j->hd k≠hd j;·rw[if_pos (decide_eq_true e),if_pos e];rfl
   ·rw[if_neg (by rw[decide_eq_false e];exact Ym),if_neg e];rfl
  show(match(cD hd j).lookup (hd j) with|some is=>cX (hd j) (is++[j]) (cD hd j)|none=>cD hd j++[(hd j,[j])])=_;rw[ih];rcases Nj (hd:=hd) (g:=jT hd j) (x:=hd j) (R:=qp hd j) with⟨a,b⟩|⟨a,b⟩
  ·rw[a,er,if_neg (λh=>by obtain⟨k,hk,e⟩:=Py.mp b;exact h k hk e),Y5];show cX (hd j) (jT hd j (hd j)++[j]) _=_;unfold cX;rw[Wc];refine Wn λi _=>?_;show(if hd i=hd j then(hd i,jT hd j (hd j)++[j]) else(hd i,jT hd j (hd i)))=(hd i,jT hd (j+1) (hd i));rw[Fx];by_cases e:hd i=hd j;·rw[if_pos e,if_pos e.symm,e]
   ·rw[if_neg e,if_neg (λz=>e z.symm),Y5]
  ·have no:∀k,k<j->hd k≠hd j:=λk hk e=>b (Py.mpr ⟨k,hk,e⟩);rw[a,er,if_pos no,Yj];show _++[(hd j,[j])]=_++[(hd j,jT hd (j+1) (hd j))];have ec:jT hd j (hd j)=[]:=List.filter_eq_nil_iff.mpr λk hk=>by
    rw[decide_eq_true_iff];exact no k (Y7.mp hk)
   rw[Fx,if_pos rfl,ec]
   congr 1
   refine Wn λi hi=>?_;rw[Fx,if_neg (λz=>b (Yf.mpr ⟨i,hi,z.symm⟩)),Y5]
open Classical in
noncomputable def nC (F:List Fc) (m:Nat):List (List Nat):=((List.range m).filter λi=>decide (∀k,k<i->¬cC F k i)).map λi=>(List.range m).filter λk=>decide (cC F i k)
open Classical in
theorem Zc2{n:Nat}{st:JS}{F:List Fc}(me:dG n st F):(cD st.ag st.hd.length).map (·.2)=nC F st.hd.length:=by
 rw[Q8,Wc];unfold nC qp;have e1:(List.range st.hd.length).filter (λi=>decide (∀k,k<i->st.ag k≠st.ag i))=(List.range st.hd.length).filter λi=>decide (∀k,k<i->¬cC F k i):=Jx λi hi=>by
  have im:=Y7.mp hi;rw[Wf,decide_eq_true_iff,decide_eq_true_iff];exact⟨λh j hj c=>h j hj ((me.conn j i (by omega) im).mpr c),λh j hj z=>h j hj ((me.conn j i (by omega) im).mp z)⟩
 rw[e1];refine Wn λi hi=>?_;have im:=Y7.mp (Yz.mp hi).1;show jT st.ag st.hd.length (st.ag i)=_;unfold jT;refine Jx λk hk=>?_;have km:=Y7.mp hk;rw[Wf,decide_eq_true_iff,decide_eq_true_iff];exact⟨λe=>(me.conn i k im km).mp e.symm,λc=>((me.conn i k im km).mpr c).symm⟩
inductive Of(C:Addr)(vs:List V)(H:Hp)(Q:VK):Prop
 |mk (l:JL) (st:JS) (n i a:Nat) (aB:vs=[.ref l.J,.int (i:Int)]) (aT:cI H C n l st) (bq:st.hd[i]?=some a) (cM:Q (.int (a:Int)) H):Of C vs H Q
def Pz(C:Addr):Sp:=λvs H Q _=>Of C vs H Q
def dH(ps:bA)(is:List Nat):List V:=is.map λi=>.str (aq ps i)
inductive Og(C CL CJ:Addr)(vs:List V)(H:Hp)(Q:VK):Prop
 |mk (l:BL) (b:BS) (xs ys:List Int) (aB:vs=[.ref l.h]) (ba:bw H C CL CJ l xs ys b) (ok:cH xs ys b) (q:∀(l':BL) (H1:Hp) (p:Addr) (as:List Addr) (H':Hp),cj H H1 l l'->bw H1 C CL CJ l' xs ys b->l'.rk≠.ay->(l.rk≠.ay->H1=H/\l'=l)->H1 p=none->ah H1 H'->H' p=some (.lst (as.map V.ref))->Paired (λa is=>H' a=some (.lst (dH b.ps is))) as (nC b.F b.ps.length)->(∀a∈as,H1 a=none)->(p::as).Nodup->Q (.ref p) H'):Og C CL CJ vs H Q
def PB(C CL CJ:Addr):Sp:=λvs H Q _=>Og C CL CJ vs H Q
structure k9(ps:bA)(H0:Hp)(d:Addr)(gs:List (Nat×List Nat))(as:List Addr)(H':Hp):Prop where
 kp:∀c o,H0 c=some o->c≠d->H' c=some o
 dict:H' d=some (.dK (bh (gs.map (·.1)) as))
 pr:Paired (λa (g:Nat×List Nat)=>H' a=some (.lst (dH ps g.2))) as gs
 new:∀a∈as,H0 a=none
 nd:as.Nodup
theorem k9.to{ps:bA}{H0 H' H2:Hp}{d:Addr}{gs:List (Nat×List Nat)}{as:List Addr}(h:k9 ps H0 d gs as H')(g:ah H' H2):k9 ps H0 d gs as H2:=⟨λc o e n=>g _ _ (h.kp c o e n),g _ _ h.dict,L2.Paired.bp h.pr λ_ _ e=>g _ _ e,h.new,h.nd⟩
theorem Zc3{gs:List (Nat×List Nat)}{as:List Addr}{k:Nat}(h:k∉gs.map (·.1))(l:as.length=gs.length):aS (bh (gs.map (·.1)) as) (.inl (k:Int))=none:=pR λm=>h (by
 rw[Nc (by rw[Ya,l])] at m;obtain⟨z,hz,e⟩:=Yf.mp m;obtain⟨y,hy,rfl⟩:=Yf.mp hz;have:y=k:=by have:=J7 e;omega
 rw[←this];exact hy)
theorem Nk:∀{ks:List Nat} {as:List Addr},ks.length=as.length->(bh ks as).map (·.2)=as.map V.ref
 |[],[],_=>rfl
 |k::ks,a::as,h=>by
  show V.ref a::(bh ks as).map (·.2)=_;rw[Nk (Nat.succ.inj h)];rfl
 |[],_::_,h=>nomatch h
 |_::_,[],h=>nomatch h
theorem ZaX{P:Addr->List Nat->Prop}{as:List Addr}{gs:List (Nat×List Nat)}(h:Paired (λa (g:Nat×List Nat)=>P a g.2) as gs):Paired P as (gs.map (·.2)):=by
 induction h with
 |nil=>exact .nil
 |cons r _ ih=>exact .cons r ih
theorem Fy(hd:Nat->Nat):∀j,((cD hd j).map (·.1)).Nodup
 |0=>Ws
 |j+1=>by
  show((match(cD hd j).lookup (hd j) with|some is=>cX (hd j) (is++[j]) (cD hd j)|none=>cD hd j++[(hd j,[j])]:List (Nat×List Nat)).map (λp=>p.1)).Nodup;cases e:(cD hd j).lookup (hd j) with
  |some is=>rw[oj];exact Fy hd j
  |none=>
   rw[Yj];exact Wg.mpr ⟨Fy hd j,by simp,λa ha b hb z=>Mm e (by have q:b=hd j:=Ye.mp hb;rw[←q,←z];exact ha)⟩
theorem F8(hd:Nat->Nat):∀j,(cD hd j).length<=j/\∀g∈cD hd j,g.2.length<=j
 |0=>⟨Yd _,λ_ h=>nomatch h⟩
 |j+1=>by
  obtain⟨h1,h2⟩:=F8 hd j;show((match(cD hd j).lookup (hd j) with|some is=>cX (hd j) (is++[j]) (cD hd j)|none=>cD hd j++[(hd j,[j])]).length<=j+1)/\∀g∈(match(cD hd j).lookup (hd j) with|some is=>cX (hd j) (is++[j]) (cD hd j)|none=>cD hd j++[(hd j,[j])]),g.2.length<=j+1;cases e:(cD hd j).lookup (hd j) with
  |some is=>
   refine⟨by show(cX _ _ _).length<=_;unfold cX;rw[Ya];omega,λg hg=>?_⟩;obtain⟨p,hp,rfl⟩:=Yf.mp (show g∈(cD hd j).map _ from hg);have:=h2 p hp;have:=h2 _ (lookup_mem e);by_cases c:p.1=hd j;·rw[if_pos c];show(is++[j]).length<=_;rw[Yi];simp at this⊢;omega
   ·rw[if_neg c];omega
  |none=>
   refine⟨by show(_++[_]).length<=_;rw[Yi];show _+1<=_;omega,λg hg=>?_⟩;rcases Yr.mp hg with z|z;·have:=h2 g z;omega
   ·rw[Ye.mp z];show 1<=_;omega
theorem k9.has{ps:bA}{H0 H' H2:Hp}{d a:Addr}{hd:Nat->Nat}{j:Nat}{as:List Addr}{is:List Nat}(h:k9 ps H0 d (cD hd j) as H')(e:(cD hd j).lookup (hd j)=some is)(hv:aS (bh ((cD hd j).map (·.1)) as) (.inl (hd j:Int))=some (.ref a))(ma:a∈as)(ha:H' a=some (.lst (dH ps is)))(br:aw a H' H2)(ea:H2 a=some (.lst (dH ps is++[.str (aq ps j)]))):k9 ps H0 d (cD hd (j+1)) as H2:=by
 have eg:cD hd (j+1)=cX (hd j) (is++[j]) (cD hd j):=by
  show(match(cD hd j).lookup (hd j) with|some is=>cX (hd j) (is++[j]) (cD hd j)|none=>cD hd j++[(hd j,[j])])=_;rw[e]
 rw[eg];refine⟨λc o q n=>br _ _ (h.kp c o q n) (bQ q (h.new a ma)),?_,?_,h.new,h.nd⟩
 ·rw[oj];exact br _ _ h.dict (dE h.dict ha (λz=>by cases z))
 ·refine M7 (F:=λa (g:Nat×List Nat)=>H' a=some (.lst (dH ps g.2))) (m:=a) (λk=>?_) h.pr h.nd (Fy hd j) hv λc p q _ nc=>br _ _ q nc;rw[ea];unfold dH;rw[Yj];rfl
theorem k9.K_{ps:bA}{H0 H' H2 H3:Hp}{d p:Addr}{hd:Nat->Nat}{j:Nat}{as:List Addr}(h:k9 ps H0 d (cD hd j) as H')(e:(cD hd j).lookup (hd j)=none)(np:H' p=none)(k2:∀c o,H' c=some o->c≠d->H2 c=some o)(ed:H2 d=some (.dK (bh ((cD hd j).map (·.1)) as++[(.inl (hd j:Int),.ref p)])))(br:aw p H2 H3)(ep:H3 p=some (.lst [.str (aq ps j)])):k9 ps H0 d (cD hd (j+1)) (as++[p]) H3:=by
 have eg:cD hd (j+1)=cD hd j++[(hd j,[j])]:=by
  show(match(cD hd j).lookup (hd j) with|some is=>cX (hd j) (is++[j]) (cD hd j)|none=>cD hd j++[(hd j,[j])])=_;rw[e]
 have pd:p≠d:=λz=>by rw[z,h.dict] at np;cases np
 have sY:H0 p=none:=by
  cases z:H0 p with
  |none=>rfl
  |some o=>rw[h.kp p o z pd] at np;cases np
 rw[eg];refine⟨λc o q n=>br _ _ (k2 _ _ (h.kp c o q n) n) (bQ q sY),?_,?_,λa ha=>?_,?_⟩
 ·rw[Yj];show _=some (HO.dK (bh ((cD hd j).map (·.1)++[hd j]) (as++[p])));rw[←v8 _ _ (by rw[Ya];exact(cN h.pr).symm)];exact br _ _ ed (λz=>pd z.symm)
 ·refine hE (F:=λa (g:Nat×List Nat)=>H3 a=some (.lst (dH ps g.2))) ep (L2.Paired.bp h.pr λc g q=>br _ _ (k2 _ _ q (dE q h.dict (λz=>by cases z))) (λz=>by rw[z] at q;rw[q] at np;cases np))
 ·rcases Yr.mp ha with z|z;·exact h.new a z
  ·rw[Ye.mp z];exact sY
 ·refine Wg.mpr ⟨h.nd,by simp,λa ha b hb z=>?_⟩;rw[Ye.mp hb] at z;obtain⟨g,_,q⟩:=ML h.pr ha;rw[z] at q;rw[q] at np;cases np
section
theorem XB:aR ["self","one"] ["self","one"] (aJ Cc):=⟨rfl,rfl,rfl,by decide+kernel,rfl,by decide+kernel,by decide+kernel⟩
theorem ZaY(F:aK K "head_of" "Joins.head_of" Cc f fd)(jc:lS K C):aH P w K mg base aM 1 f fd ["self","one"] (Pz C):=by
 refine F.ok XB (λvs H Q E h=>?_) (λaC A outer s H vs Q E hr h=>?_)
 ·obtain⟨l,st,n,i,a,rfl,_⟩:=h;rfl
 obtain⟨l,st,n,i,a,rfl,ja,hi,q⟩:=h;refine⟨_,(au (aF (bg (cA (K:=K) rfl) (aV (K:=K) rfl (pv 0) rfl) (pv 1) (λ_ _=>rfl)))),?_⟩;obtain⟨dx,ho⟩:=ja.obj;exact⟨_,rfl,l.J,C,dx,_,_,rfl,ho,jc.cls,jc.jt,rfl,_,rfl,l.ha,_,_,_,rfl,rfl,aj.of ja.heads,mX hi,q⟩
theorem yT:aR ["hearth","joins","found","name"] ["hearth"] (aJ FU):=⟨rfl,rfl,rfl,by decide+kernel,rfl,by decide+kernel,by decide+kernel⟩
theorem ZbP(F:aK K "groups" "groups" FU f fd)(og:cq P w K mg base 8 "joins" C ["self"] (zx C CL CJ))(oa:cq P w K mg base 1 "people" C ["self"] (y_ C CL CJ))(tH:cq P w K mg base 1 "place_of" C ["self","name"] (F7 C CL CJ))(Co:cq P w K mg base 1 "head_of" CJ ["self","one"] (Pz CJ))(bl:Bl mg):aH P w K mg base aM 9 f fd ["hearth"] (PB C CL CJ):=by
 refine F.ok yT (λvs H Q E h=>?_) (λaC A outer s H vs Q E hr h=>?_)
 ·obtain⟨l,b,xs,ys,rfl,_⟩:=h;rfl
 obtain⟨l,b,xs,ys,rfl,ba,ok,q⟩:=h;refine⟨_,(ak (a_ (i:=1) yT.nd rfl (Or.inl rfl) (qi og hr (by omega) (pv 0))) (ak (a_ (i:=2) yT.nd rfl (Or.inl rfl) pY) (ak (eY PassesOwn.never rfl (d_ (K:=K) rfl (qi oa hr (by omega) (pv 0))) (a8 (i:=3) yT.nd rfl (Or.inl rfl)) (au (bY (hX (K:=K) rfl (fQ plainAttrs_list PySem.F.slot_list_append PySem.F.type_list_append iu (Ey (pv 2) (cK Co hr (by omega) (pv 1) (aa (cK tH hr (by omega) (pv 0) (aa (pv 3) ae)) ae)) (de ae) ⟨rfl,rfl,rfl,rfl⟩) (aa (pv 3) ae)))))) (au (aF (eN (ZR rfl) rfl bl.rF ra (aa (ZdG (pv 2)) ae))))))),?_⟩;have sz:(10000:Nat)<=sizeLine:=by rw[sizeLine_eq];omega
 have s_:=ok.m;obtain⟨dx,ho⟩:=ba.obj;refine bW ?_;refine⟨_,rfl,l.h,dx,_,rfl,ho,rfl,l,b,xs,ys,rfl,ba,ok,λl' jl st H1 w1 cv e1 e2 ja me len fH sm=>?_⟩;refine bW ?_;refine λd H2 nd g2 hd2=>?_;have mI:=cv.same g2;obtain⟨vv,sC⟩:=mI.obj;rw[w1.h] at sC;have base:∀{H3:Hp} {gs:List (Nat×List Nat)} {as:List Addr} {H':Hp},ah H1 H3->k9 b.ps H3 d gs as H'->ah H1 H':=λdw gi c o e=>gi.kp c o (dw _ _ e) (bQ e nd);refine fw (λσ H'=>∃(H3:Hp) (as:List Addr) (o3:Option V),ah H1 H3/\k9 b.ps H3 d (cD st.ag b.ps.length) as H'/\σ=[some (.ref l.h),some (.ref jl.J),some (.ref d),o3]) (λlE d5=>?_) ?_
 ·refine⟨_,rfl,l.h,vv,_,rfl,sC,rfl,l',b,xs,ys,by rw[w1.h];rfl,mI,λnp H3 yr g3 yt=>⟨np,rfl,⟨_,aj.of yt⟩,?_⟩⟩;have dw:=g2.trans g3;have npd:np≠d:=λz=>by rw[z,hd2] at yr;cases yr
  refine hJ (K:=K) (a:=np) (xs:=b.ps.map λp=>V.str p.1) (λj σ H'=>∃(as:List Addr) (o3:Option V),k9 b.ps H3 d (cD st.ag j) as H'/\σ=[some (.ref l.h),some (.ref jl.J),some (.ref d),o3])
   ⟨[],none,⟨λ_ _ e _=>e,g3 _ _ hd2,.nil,(λ_ h=>nomatch h),Ws⟩,rfl⟩ (λj σ H' _ ⟨_,_,gi,_⟩=>aj.of (gi.kp _ _ yt npd)) ?_ ?_
  ·rintro j v σ H4 hj ⟨as,o3,gi,rfl⟩;have jm:j<b.ps.length:=by
    have:=(Yg.mp hj).1;rw[Ya] at this;exact this
   obtain rfl:V.str (aq b.ps j)=v:=Yp ((wq jm).symm.trans hj);have jm':j<st.hd.length:=by omega
   refine bc ?_;have vq:=cv.same (base dw gi);have WT:=ja.same (base dw gi);obtain⟨dx4,WU⟩:=vq.obj;rw[w1.h] at WU;obtain⟨dy4,hj4⟩:=WT.obj;have ehd:st.hd[j]?=some (st.ag j):=(me.wf.one ok.gd.2.2.2.2 jm').hd;have gl:=(F8 st.ag j).1;have pl:=cN gi.pr;refine⟨_,rfl,d,rfl,.inl ⟨_,.inl gi.dict⟩,_,rfl,jl.J,dy4,_,rfl,hj4,rfl,_,rfl,l.h,dx4,_,rfl,WU,rfl,_,rfl,l',b,xs,ys,j,by rw[w1.h];rfl,vq,ok.nm,jm,jl,st,xs.length,j,st.ag j,rfl,WT,ehd,?_⟩;refine⟨by show 0<=sizeLine;omega,λp H5 tF g5 Lq=>⟨_,.inl (st.ag j:Int),g5 _ _ gi.dict,rfl,by unfold bh;rw[Ya,W6,Ya];omega,λv hv=>?_,λhv H6 b6 e6=>?_⟩⟩
   ·cases el:(cD st.ag j).lookup (st.ag j) with
    |none=>rw[Zc3 (Mm el) pl] at hv;cases hv
    |some is=>
     obtain⟨a,ma,va,ha⟩:=lN (f:=λis:List Nat=>HO.lst (dH b.ps is)) gi.pr el;obtain rfl:v=.ref a:=Yp (hv.symm.trans va);refine⟨.inl ⟨rfl,_,aj.of (g5 _ _ ha)⟩,_,rfl,a,_,_,rfl,rfl,g5 _ _ ha,?_,λH6 b6 e6=>?_⟩
     ·have:=(F8 st.ag j).2 _ (lookup_mem el);unfold dH;rw[Ya];simp only at this;omega
     ·exact⟨as,_,(gi.to g5).has el hv ma (g5 _ _ ha) b6 e6,rfl⟩
   ·cases el:(cD st.ag j).lookup (st.ag j) with
    |some is=>
     obtain⟨a,ma,va,ha⟩:=lN (f:=λis:List Nat=>HO.lst (dH b.ps is)) gi.pr el;rw[va] at hv;cases hv
    |none=>
     have pd:p≠d:=λz=>by rw[z,gi.dict] at tF;cases tF
     have vK:=b6 _ _ Lq pd;refine⟨.inl ⟨rfl,_,aj.of (xs:=[]) vK⟩,_,rfl,p,_,_,rfl,rfl,vK,by show 0<sizeLine;omega,λH7 b7 e7=>?_⟩;exact⟨as++[p],_,gi.K_ el tF (λc o e n=>b6 _ _ (g5 _ _ e) n) e6 b7 e7,rfl⟩
  ·rintro σ H4 ⟨as,o3,gi,rfl⟩;rw[Ya] at gi;exact d5 _ _ ⟨H3,as,o3,dw,gi,rfl⟩
 rintro σ H4 ⟨H3,as,o3,dw,gi,rfl⟩;have pl:=cN gi.pr;refine⟨_,rfl,d,_,rfl,gi.dict,λv nv=>⟨v,d,_,rfl,aZ,by rw[a9 (λz=>by rw[←z,gi.dict] at nv;cases nv)];exact gi.dict,λp H5 tF g5 hp=>?_⟩⟩;have g4:ah H4 H5:=(cy nv _).trans g5;rw[Nk (by rw[Ya];exact pl.symm)] at hp;have u_:H4 p=none:=(cy nv _).free tF;refine q l' H1 p as H5 w1 cv (by rw[e1];exact λz=>nomatch z) sm ((base dw gi).free u_) ((base dw gi).trans g4) hp ?_ (λa ha=>dw.free (gi.new a ha)) (Yy.mpr ⟨λm=>?_,gi.nd⟩)
 ·have e:=Zc2 me;rw[len] at e;rw[←e];exact ZaX (P:=λa is=>H5 a=some (.lst (dH b.ps is))) (L2.Paired.bp gi.pr λ_ _ e=>g4 _ _ e)
 ·obtain⟨g,_,e⟩:=ML gi.pr m;rw[e] at u_;cases u_
end
noncomputable def jU (F:List Fc) (n m:Nat):List (Nat×Int):=(List.range m).filterMap λi=>if(c7 F n i).length=1 then some (i,(c7 F n i).getD 0 0) else none
theorem wa(F:List Fc)(n j:Nat):jU F n (j+1)=jU F n j++if(c7 F n j).length=1 then[(j,(c7 F n j).getD 0 0)] else[]:=by
 unfold jU;rw[Jk,List.filterMap_append]
 congr 1
 by_cases e:(c7 F n j).length=1<;>simp[e]
theorem F9(F:List Fc)(n:Nat):∀j,(jU F n j).length<=j
 |0=>Yd _
 |j+1=>by
  rw[wa,Yi];have:=F9 F n j;by_cases e:(c7 F n j).length=1<;>simp[e]<;>omega
def oQ(ps:bA)(p:Nat×Int):List V:=[.str (aq ps p.1),.int p.2]
inductive Nl(C CL CJ:Addr)(vs:List V)(H:Hp)(Q:VK):Prop
 |mk (l:BL) (b:BS) (xs ys:List Int) (aB:vs=[.ref l.h]) (ba:bw H C CL CJ l xs ys b) (ok:cH xs ys b) (rk:l.rk≠.ay) (q:∀(p:Addr) (as:List Addr) (H':Hp),H p=none->ah H H'->H' p=some (.lst (as.map V.ref))->Paired (λa q=>H' a=some (.tup (oQ b.ps q))) as (jU b.F xs.length b.ps.length)->Q (.ref p) H'):Nl C CL CJ vs H Q
def Oh(C CL CJ:Addr):Sp:=λvs H Q _=>Nl C CL CJ vs H Q
section
theorem yM:aR ["hearth","pairs","name","sections"] ["hearth"] (aJ Fm):=⟨rfl,rfl,rfl,by decide+kernel,rfl,by decide+kernel,by decide+kernel⟩
theorem ZaZ(F:aK K "settled" "settled" Fm f fd)(Fz:HasFn P w K mg base 9 "open_of" ["hearth","name"] (Q7 C CL CJ))(oa:cq P w K mg base 1 "people" C ["self"] (y_ C CL CJ))(bl:Bl mg):aH P w K mg base aM 10 f fd ["hearth"] (Oh C CL CJ):=by
 refine F.ok yM (λvs H Q E h=>?_) (λaC A outer s H vs Q E hr h=>?_)
 ·obtain⟨l,b,xs,ys,rfl,_⟩:=h;rfl
 obtain⟨l,b,xs,ys,rfl,ba,ok,rk,q⟩:=h;refine⟨_,(ak (a_ (i:=1) yM.nd rfl (Or.inl rfl) (de ae)) (ak (eY PassesOwn.never rfl (d_ (K:=K) rfl (qi oa hr (by omega) (pv 0))) (a8 (i:=2) yM.nd rfl (Or.inl rfl)) (ak (a_ (i:=3) yM.nd rfl (Or.inl rfl) (aW Fz hr (by omega) rfl (aa (pv 0) (aa (pv 2) ae)))) (au (aQ (aU cg (bL (c9 (K:=K) rfl) rfl bl.cU cT (aa (pv 3) ae)) aL (aP _)) (au (bY (hX (K:=K) rfl (fQ plainAttrs_list PySem.F.slot_list_append PySem.F.type_list_append iu (pv 1) (aa (dz (aa (pv 2) (aa (bg (cA (K:=K) rfl) (pv 3) aL (λ_ _=>rfl)) ae))) ae))))) aY)))) (au (aF (pv 1))))),?_⟩;have sz:(10000:Nat)<=sizeLine:=by rw[sizeLine_eq];omega
 have s_:=ok.m;refine bW ?_;refine⟨by show 0<=sizeLine;omega,λpp H1 Lr g1 vH=>?_⟩;refine fw (λσ H'=>∃(as:List Addr) (o2 o3:Option V),ah H H'/\H' pp=some (.lst (as.map V.ref))/\Paired (λa q=>H' a=some (.tup (oQ b.ps q))) as (jU b.F xs.length b.ps.length)/\σ=[some (.ref l.h),some (.ref pp),o2,o3]) (λlE d5=>?_) ?_
 ·have cv:=ba.same g1;obtain⟨nP,pE⟩:=cv.obj;refine⟨_,rfl,l.h,nP,_,rfl,pE,rfl,l,b,xs,ys,rfl,cv,λnp H3 yr g3 yt=>⟨np,rfl,⟨_,aj.of yt⟩,?_⟩⟩;have ZhH:np≠pp:=λz=>by rw[z,vH] at yr;cases yr
  refine hJ (K:=K) (a:=np) (xs:=b.ps.map λp=>V.str p.1) (λj σ H'=>∃(as:List Addr) (o2 o3:Option V),(∀c o,H3 c=some o->c≠pp->H' c=some o)/\H' pp=some (.lst (as.map V.ref))/\Paired (λa q=>H' a=some (.tup (oQ b.ps q))) as (jU b.F xs.length j)/\σ=[some (.ref l.h),some (.ref pp),o2,o3])
   ⟨[],none,none,(λ_ _ e _=>e),g3 _ _ vH,.nil,rfl⟩ (λj σ H' _ ⟨_,_,_,kp,_⟩=>aj.of (kp _ _ yt ZhH)) ?_ ?_
  ·rintro j v σ H4 hj ⟨as,o2,o3,kp,kq,pr,rfl⟩;have jm:j<b.ps.length:=by
    have:=(Yg.mp hj).1;rw[Ya] at this;exact this
   obtain rfl:V.str (aq b.ps j)=v:=Yp ((wq jm).symm.trans hj);have g4:ah H H4:=λc o e=>kp c o (g3 _ _ (g1 _ _ e)) (bQ e Lr);have vq:=ba.same g4;have sl:=F9 b.F xs.length j;have pl:=cN pr;refine bc ?_;refine bW ?_;refine⟨_,rfl,_,rfl,l,b,xs,ys,j,rfl,vq,ok,jm,λl' H5 p H6 _ _ sm tF g6 hp=>?_⟩;obtain⟨rfl,rfl⟩:=sm rk;have Ls:((c7 b.F xs.length j).map V.int).length=(c7 b.F xs.length j).length:=Ya _;refine⟨_,rfl,p,_,rfl,.inl (aj.of hp),rfl,_,rfl,?_⟩;rw[Ls];refine bB (λcc=>?_) (λcc=>aX ?_)
   ·have e1:(c7 b.F xs.length j).length=1:=by
     have:=V.int.inj (of_decide_eq_true cc);omega
    have Lu:dv ((c7 b.F xs.length j).map V.int) 0=some (.int ((c7 b.F xs.length j).getD 0 0)):=by
     match e:c7 b.F xs.length j,e1 with
     |[u],_=>rfl
    have vK:=g6 _ _ kq;refine⟨_,rfl,.inl ⟨rfl,_,aj.of vK⟩,_,rfl,_,rfl,p,_,_,_,rfl,rfl,aj.of hp,Lu,by show 2<=sizeLine;omega,λt H7 nt g7 ht=>⟨pp,_,_,rfl,rfl,g7 _ _ vK,by rw[Ya];omega,λH8 b8 e8=>?_⟩⟩;have tp:t≠pp:=λz=>by rw[z,vK] at nt;cases nt
    refine⟨as++[t],_,_,λc o e n=>b8 _ _ (g7 _ _ (g6 _ _ (kp c o e n))) n,by rw[e8,Yj];rfl,?_,rfl⟩;rw[wa,if_pos e1];exact hE (F:=λa q=>H8 a=some (.tup (oQ b.ps q))) (b8 _ _ ht tp) (L2.Paired.bp pr λa q e=>b8 _ _ (g7 _ _ (g6 _ _ e)) (dE e kq (λz=>by cases z)))
   ·have e1:¬(c7 b.F xs.length j).length=1:=λz=>cc (decide_eq_true (by rw[z];rfl));refine⟨as,_,_,λc o e n=>g6 _ _ (kp c o e n),g6 _ _ kq,?_,rfl⟩;rw[wa,if_neg e1,Y5];exact L2.Paired.bp pr λa q e=>g6 _ _ e
  ·rintro σ H4 ⟨as,o2,o3,kp,kq,pr,rfl⟩;rw[Ya] at pr;exact d5 _ _ ⟨as,o2,o3,λc o e=>kp c o (g3 _ _ (g1 _ _ e)) (bQ e Lr),kq,pr,rfl⟩
 rintro σ H4 ⟨as,o2,o3,g4,kq,pr,rfl⟩;exact⟨_,rfl,q pp as H4 Lr g4 kq pr⟩
end
structure mK(F:List Fc)(m i:Nat)(is:List Nat):Prop where
 nd:is.Nodup
 lt:∀k∈is,k<m
 cn:∀k∈is,cC F i k
 ma:i∈is
def gn(ps:bA)(is:List Nat):List Str:=is.map (aq ps)
theorem uB{ps:bA}(nd:(ps.map (·.1)).Nodup){is:List Nat}(lt:∀k∈is,k<ps.length){y:Nat}(hy:y<ps.length):dI (.str (aq ps y)) ((gn ps is).map V.str)=true↔y∈is:=by
 rw[Ab];refine⟨λh=>?_,λh=>Yf.mpr ⟨y,h,rfl⟩⟩;obtain⟨k,hk,e⟩:=Yf.mp h;rw[←rB nd (lt k hk) hy e];exact hk
theorem mK.add{F:List Fc}{m i:Nat}{is:List Nat}(u:mK F m i is){k y:Nat}(mk:k∈is)(hy:y<m)(ny:y∉is)(e:∃t,e_ F k y t):mK F m i (is++[y]):=by
 obtain⟨t,e⟩:=e;refine⟨Wg.mpr ⟨u.nd,by simp,λa ha b hb z=>ny (by rw[←Ye.mp hb,←z];exact ha)⟩,λk' h=>?_,λk' h=>?_,Yo _ u.ma⟩
 ·rcases Yr.mp h with h|h;·exact u.lt k' h
  ·rw[Ye.mp h];exact hy
 ·rcases Yr.mp h with h|h;·exact u.cn k' h
  ·rw[Ye.mp h];exact .step (u.cn k mk) e
def tG(F:List Fc)(k:Nat)(is:List Nat):Prop:=∀c∈F,c.k≠bG->(c.one=k->c.aE.toNat∈is)/\(c.aE.toNat=k->c.one∈is)
theorem tG.more{F:List Fc}{k:Nat}{is js:List Nat}(h:tG F k is)(s:∀x∈is,x∈js):tG F k js:=λc mc ns=>⟨λe=>s _ ((h c mc ns).1 e),λe=>s _ ((h c mc ns).2 e)⟩
theorem mK.all{F:List Fc}{m i:Nat}{is:List Nat}(u:mK F m i is)(cl:∀r,r<is.length->∀k,is[r]?=some k->tG F k is)(z:Nat):z∈is↔cC F i z:=by
 refine⟨u.cn z,λh=>?_⟩;induction h with
 |refl=>exact u.ma
 |step _ e ih=>
  obtain⟨r,hr,er⟩:=Wp.mp ih;obtain⟨c,mc,ns,h⟩:=e;have q:=cl r hr _ (by rw[Yb hr,er]) c mc ns;rcases h with⟨rfl,rfl,_⟩|⟨rfl,rfl,_⟩;·exact q.1 rfl
  ·exact q.2 rfl
theorem ZbQ{f:Nat->V}:∀{us:List V} {is:List Nat},Paired (λy i=>y=f i) us is->us=is.map f:=λh=>by
 induction h with
 |nil=>rfl
 |cons e _ ih=>rw[e,ih];rfl
open Classical in
noncomputable def nE (F:List Fc) (m i:Nat):List Nat:=(List.range m).filter λk=>decide (cC F i k)
inductive Oi(vs:List V)(H:Hp)(Q:VK):Prop
 |mk (fa nl:Addr) (xs ys:List Int) (b:BS) (i:Nat) (aB:vs=[.ref fa,.str (aq b.ps i),.ref nl]) (aT:FL H b.ps fa b.F) (ok:cH xs ys b) (hi:i<b.ps.length) (hn:H nl=some (.lst (iR b.ps))) (q:∀(p:Addr) (H':Hp),H p=none->ah H H'->H' p=some (.lst (dH b.ps (nE b.F b.ps.length i)))->Q (.ref p) H'):Oi vs H Q
def PD:Sp:=λvs H Q _=>Oi vs H Q
def muG(m:Nat):St->Hp->Nat:=λσ _=>match List.getD (α:=Option V) σ 4 none with|some (V.int z)=>m+1-z.toNat|_=>0
def Bo(fa nl aO:Addr)(a:Str)(r:Nat)(o5 o6 o7 o8:Option V):St:=[some (.ref fa),some (.str a),some (.ref nl),some (.ref aO),some (.int (r:Int)),o5,o6,o7,o8]
inductive WV(H:Hp)(b:BS)(i:Nat)(fa nl aO:Addr)(σ:St)(H6:Hp):Prop
 |mk (is:List Nat) (r:Nat) (o5 o6 o7 o8:Option V) (g:ah H H6) (hr:H6 aO=some (.lst ((gn b.ps is).map V.str))) (up:mK b.F b.ps.length i is) (rl:r<=is.length) (cl:∀r',r'<r->∀k,is[r']?=some k->tG b.F k is) (e:σ=Bo fa nl aO (aq b.ps i) r o5 o6 o7 o8):WV H b i fa nl aO σ H6
inductive Lv(H:Hp)(b:BS)(i:Nat)(fa nl aO:Addr)(r:Nat)(WW:List Nat)(k j:Nat)(σ:St)(H6:Hp):Prop
 |mk (is tl:List Nat) (o5 o6 o7 o8:Option V) (g:ah H H6) (hr:H6 aO=some (.lst ((gn b.ps is).map V.str))) (up:mK b.F b.ps.length i is) (ek:is=WW++tl) (cl:tG (b.F.take j) k is) (e:σ=Bo fa nl aO (aq b.ps i) r o5 o6 o7 o8):Lv H b i fa nl aO r WW k j σ H6
section
theorem pS:aR ["_law_facts","_law_name_here","_law_names","_law_row_here","_law_at","_law_number","_law_kind","_law_one","_law_other"] ["_law_facts","_law_name_here","_law_names"] (aJ D6):=⟨rfl,rfl,rfl,by decide+kernel,rfl,by decide+kernel,by decide+kernel⟩
open Classical in
theorem ZbR(F:aK K "_law_group" "_law_group" D6 f fd)(bl:Bl mg):aH P w K mg base aM 1 f fd ["_law_facts","_law_name_here","_law_names"] PD:=by
 refine F.ok pS (λvs H Q E h=>?_) (λaC A outer s H vs Q E hr h=>?_)
 ·obtain⟨fa,nl,xs,ys,b,i,rfl,_⟩:=h;rfl
 obtain⟨fa,nl,xs,ys,b,i,rfl,jo,ok,hi,hn,q⟩:=h;refine⟨_,(ak (a_ (i:=3) pS.nd rfl (Or.inr rfl) (de (aa (pv 1) ae))) (ak (a_ (i:=4) pS.nd rfl (Or.inl rfl) aL) (ak (yW PassesOwn.never (aU lU (pv 4) (bL (c9 (K:=K) rfl) rfl bl.cU cT (aa (pv 3) ae)) (aP _)) (ak (eY PassesOwn.never rfl (d_ (K:=K) rfl (pv 0)) (iD (K:=K) (n:=4) rfl rfl (bN (a8 (i:=5) pS.nd rfl (Or.inl rfl)) (bN (a8 (i:=6) pS.nd rfl (Or.inl rfl)) (bN (a8 (i:=7) pS.nd rfl (Or.inl rfl)) (bN (a8 (i:=8) pS.nd rfl (Or.inl rfl)) iC))))) (au (aQ (aU kR (pv 6) bC (aP _)) (ak (aQ (PW.pt (pw_and (aU cg (pv 7) (bg (cA (K:=K) rfl) (pv 3) (pv 4) (λ_ _=>rfl)) (aP _)) (pw_and1 (aU (ux (K:=K) rfl) (pv 8) (pv 3) (by with_unfolding_all rfl))))) (au (bY (hX (K:=K) rfl (fQ plainAttrs_list PySem.F.slot_list_append PySem.F.type_list_append iu (pv 3) (aa (pv 8) ae))))) aY) (au (aQ (PW.pt (pw_and (aU cg (pv 8) (bg (cA (K:=K) rfl) (pv 3) (pv 4) (λ_ _=>rfl)) (aP _)) (pw_and1 (aU (ux (K:=K) rfl) (pv 7) (pv 3) (by with_unfolding_all rfl))))) (au (bY (hX (K:=K) rfl (fQ plainAttrs_list PySem.F.slot_list_append PySem.F.type_list_append iu (pv 3) (aa (pv 7) ae))))) aY))) aY))) (au (GU (i:=4) pS.nd rfl (Or.inl rfl) aL GV)))) (au (aF (iW (x:="_law_one") (fr:=[("_law_row_here",3)]) (cl:=[("_law_row_here",s.heap.objs.size+1)]) rfl ⟨by with_unfolding_all rfl,⟨rfl,trivial⟩,rfl,by decide+kernel,rfl,by decide+kernel,rfl,⟨⟨rfl,.inl rfl,.inl rfl,rfl⟩,trivial⟩,by decide+kernel⟩ (d_ (K:=K) rfl (pv 2)) (λ_ _ _ _=>uo (aU (lu (K:=K) rfl) (pv 0) (pv 1) (by with_unfolding_all rfl))) (λ_ _ _ _=>(pv 0)))))))),?_⟩;have sz:(10000:Nat)<=sizeLine:=by rw[sizeLine_eq];omega
 obtain⟨as,cV,al,gt⟩:=jo.get;have s_:=ok.m;have len:∀{is:List Nat},mK b.F b.ps.length i is->is.length<=b.ps.length:=λu=>tO u.nd u.lt;refine bW ?_;refine⟨_,rfl,by show 1<=sizeLine;omega,λaO H1 qT g1 yi=>?_⟩;refine setC ?_;refine fw (λσ H6=>∃is:List Nat,ah H H6/\H6 aO=some (.lst ((gn b.ps is).map V.str))/\(∀k∈is,k<b.ps.length)/\(∀z,z∈is↔cC b.F i z)/\∃(r:Nat) (o5 o6 o7 o8:Option V),σ=Bo fa nl aO (aq b.ps i) r o5 o6 o7 o8) (λlE d5=>?_) ?_
 ·refine yX (WV H b i fa nl aO) (muG b.ps.length) ⟨[i],0,none,none,none,none,g1,yi,⟨Yy.mpr ⟨(λz=>nomatch z),Ws⟩,λk hk=>by rw[Ye.mp hk];exact hi,λk hk=>by rw[Ye.mp hk];exact .refl,Yk⟩,Yw _,λr hr=>absurd hr (Wm _),rfl⟩ ?_ ?_
  ·rintro σ H6 ⟨is,r,o5,o6,o7,o8,g6,iQ,up,rl,cl,rfl⟩;have kl:((gn b.ps is).map V.str).length=is.length:=by unfold gn;rw[Ya,Ya]
   refine⟨_,rfl,_,rfl,aO,_,rfl,.inl (aj.of iQ),_,_,rfl,rfl,_,rfl,?_⟩;rw[kl];refine bB (λc=>?_) (λc=>?_)
   ·have nX:r<is.length:=by have:=of_decide_eq_true c;omega
    obtain⟨k,ek⟩:∃k,is[r]?=some k:=⟨_,Yb nX⟩;have km:=up.lt k (Yh ek);refine fw (Lv H b i fa nl aO r is k b.F.length) (λyd lH=>?_) ?_
    ·refine⟨_,rfl,fa,rfl,⟨_,aj.of (g6 _ _ cV)⟩,hJ (K:=K) (a:=fa) (xs:=as.map V.ref) (Lv H b i fa nl aO r is k) ⟨is,[],o5,o6,o7,o8,g6,iQ,up,by rw[Y5],(λc hc=>nomatch hc),rfl⟩ (λj σ H8 _ ⟨_,_,_,_,_,_,g,_,_,_,_,_⟩=>aj.of (g _ _ cV)) ?_ ?_⟩
     ·rintro j v σ H8 hj ⟨n5,tl,p5,p6,p7,p8,g8,fU,iq,e8,eW,rfl⟩;obtain⟨c0,c,z,rfl,g_,jH,hc⟩:=gt H8 j v g8 hj;have mc:c∈b.F:=Yh g_;have fg:eA xs ys b.ps.length c:=by
       obtain⟨p,hp,rfl⟩:=Yf.mp (show c∈b.fs.map (·.2) from mc);exact ok.fg p hp
      refine⟨c0,_,rfl,aA.of hc,rfl,_,_,rfl,bc ⟨_,_,rfl,bc ⟨_,_,rfl,bc ⟨_,_,rfl,bc ⟨rfl,?_⟩⟩⟩⟩⟩;refine⟨_,rfl,rfl,_,rfl,?_⟩;by_cases ns:c.k=bG
      ·refine bB (λcc=>absurd ns ?_) (λ_=>aX ?_)
       ·intro z';rw[z'] at cc;exact absurd cc (by decide+kernel)
       ·refine⟨n5,tl,_,_,_,_,g8,fU,iq,e8,λc' m' n'=>?_,rfl⟩;rw[jH] at m';rcases Yr.mp m' with m'|m';·exact eW c' m' n'
        ·rw[Ye.mp m'] at n';exact absurd ns n'
      have eo:kV (bu b.ps c)=.str (aq b.ps c.aE.toNat):=by rw[iz ns];rfl
      have om:=(fg.ok.gf ns).1.2;have on:=fg.ok.one;refine bB (λ_=>?_) (λcc=>absurd (by rw[decide_eq_false (λz'=>ns (V.str.inj z'))];rfl) cc);rw[eo];have So:∀{dX:List Nat},(∃tl,dX=is++tl)->dv ((gn b.ps dX).map V.str) (r:Int)=some (.str (aq b.ps k)):=λ{dX} ⟨pP,e9⟩=>hV (by
       unfold gn;rw[Yl,Yl,e9,Y6 nX,ek];rfl)
      have Bp:∀{x:Nat},x<b.ps.length->(aq b.ps x=aq b.ps k↔x=k):=λhx=>⟨rB ok.nm hx km,λe=>by rw[e]⟩;have put:∀{x y:Nat} {dX pP:List Nat},mK b.F b.ps.length i dX->dX=is++pP->y<b.ps.length->(∃t,e_ b.F x y t)->x=k->y∉dX->mK b.F b.ps.length i (dX++[y]):=λ{x y dX pP} u9 e9 hy ed ex ny=>u9.add (k:=x) (by rw[ex,e9];exact Yo _ (Yh ek)) hy ny ed;have WX:∀(dX:List Nat) (y:Nat),(gn b.ps dX).map V.str++[.str (aq b.ps y)]=(gn b.ps (dX++[y])).map V.str:=λdX y=>by unfold gn;rw[Yj,Yj];rfl
      refine oF (λσ H9=>∃dX pP:List Nat,ah H H9/\H9 aO=some (.lst ((gn b.ps dX).map V.str))/\mK b.F b.ps.length i dX/\dX=is++pP/\(∀x∈n5,x∈dX)/\(c.one=k->c.aE.toNat∈dX)/\σ=Bo fa nl aO (aq b.ps i) r (some (.int z)) (some (.str c.k)) (some (.str (aq b.ps c.one))) (some (.str (aq b.ps c.aE.toNat)))) (λnR eS=>?_) ?_
      ·refine(Bt.and (Vt.test (Vt.eq (x:=.str (aq b.ps c.one)) (y:=.str (aq b.ps k)) (Vt.var rfl) (λHB gB kk hk=>⟨_,rfl,_,rfl,aO,_,_,_,rfl,rfl,aj.of (gB _ _ fU),So ⟨tl,e8⟩,hk _ (ah.refl _)⟩) rfl)) λHB _ gB=>Vt.test (b:=!dI (.str (aq b.ps c.aE.toNat)) ((gn b.ps n5).map V.str)) λkk hk=>⟨_,rfl,_,rfl,aO,_,rfl,.inl (aj.of (gB _ _ fU)),rfl,ud _,hk _ (ah.refl _)⟩) _ λH9 g9=>?_;rw[dM];have jq:=g9 _ _ fU;have l8:=len iq;refine bB (λcc=>?_) (λcc=>aX ?_)
       ·rw[Wk,decide_eq_true_iff] at cc;have ny:c.aE.toNat∉n5:=λm=>by rw[(uB ok.nm iq.lt om).mpr m] at cc;exact absurd cc.2 (by decide)
        refine⟨_,rfl,.inl ⟨rfl,_,aj.of jq⟩,_,rfl,aO,_,_,rfl,rfl,jq,by unfold gn;rw[Ya,Ya];omega,λmC pL ka=>eS _ _ ⟨n5++[c.aE.toNat],tl++[c.aE.toNat],λd o e=>pL _ _ (g9 _ _ (g8 _ _ e)) (bQ e qT),by rw[ka,WX],put iq e8 om ⟨_,c,mc,ns,.inl ⟨rfl,rfl,rfl⟩⟩ ((Bp on).mp cc.1) ny,by rw[e8,W4],λx hx=>Yo _ hx,λ_=>Yq _ Yk,rfl⟩⟩
       ·refine eS _ _ ⟨n5,tl,g8.trans g9,jq,iq,e8,λ_ h=>h,λe=>?_,rfl⟩;by_cases m:c.aE.toNat∈n5;·exact m
        ·exact absurd (by rw[decide_eq_true ((Bp on).mpr e),W5.mpr (λw'=>m ((uB ok.nm iq.lt om).mp w'))];rfl) cc
      ·rintro _ H9 ⟨dX,pP,g9,jq,yu,e9,sub,d1,rfl⟩;refine(Bt.and (Vt.test (Vt.eq (x:=.str (aq b.ps c.aE.toNat)) (y:=.str (aq b.ps k)) (Vt.var rfl) (λHB gB kk hk=>⟨_,rfl,_,rfl,aO,_,_,_,rfl,rfl,aj.of (gB _ _ jq),So ⟨pP,e9⟩,hk _ (ah.refl _)⟩) rfl)) λHB _ gB=>Vt.test (b:=!dI (.str (aq b.ps c.one)) ((gn b.ps dX).map V.str)) λkk hk=>⟨_,rfl,_,rfl,aO,_,rfl,.inl (aj.of (gB _ _ jq)),rfl,ud _,hk _ (ah.refl _)⟩) _ λHA gA=>?_;rw[dM];have Lw:=gA _ _ jq;have l9:=len yu;have pM:∀isA:List Nat,(∀x∈dX,x∈isA)->(c.aE.toNat=k->c.one∈isA)->tG (b.F.take (j+1)) k isA:=λisA s2 d2 c' m' n'=>by
        rw[jH] at m';rcases Yr.mp m' with m'|m';·exact⟨λe=>s2 _ (sub _ ((eW c' m' n').1 e)),λe=>s2 _ (sub _ ((eW c' m' n').2 e))⟩
        ·rw[Ye.mp m'];exact⟨λe=>s2 _ (d1 e),d2⟩
       refine bB (λcc=>?_) (λcc=>aX ?_)
       ·rw[Wk,decide_eq_true_iff] at cc;have ny:c.one∉dX:=λm=>by rw[(uB ok.nm yu.lt on).mpr m] at cc;exact absurd cc.2 (by decide)
        refine⟨_,rfl,.inl ⟨rfl,_,aj.of Lw⟩,_,rfl,aO,_,_,rfl,rfl,Lw,by unfold gn;rw[Ya,Ya];omega,λmC pL ka=>⟨dX++[c.one],pP++[c.one],_,_,_,_,λd o e=>pL _ _ (gA _ _ (g9 _ _ e)) (bQ e qT),by rw[ka,WX],put yu e9 on ⟨_,c,mc,ns,.inr ⟨rfl,rfl,rfl⟩⟩ ((Bp om).mp cc.1) ny,by rw[e9,W4],pM _ (λx hx=>Yo _ hx) (λ_=>Yq _ Yk),rfl⟩⟩
       ·refine⟨dX,pP,_,_,_,_,g9.trans gA,Lw,yu,e9,pM _ (λ_ h=>h) (λe=>?_),rfl⟩;by_cases m:c.one∈dX;·exact m
        ·exact absurd (by rw[decide_eq_true ((Bp om).mpr e),W5.mpr (λw'=>m ((uB ok.nm yu.lt on).mp w'))];rfl) cc
     ·rintro σ H8 h;rw[Ya,al] at h;exact lH _ _ h
    ·rintro σ H8 ⟨n5,tl,p5,p6,p7,p8,g8,fU,iq,e8,eW,rfl⟩;rw[We] at eW;refine⟨_,rfl,_,_,rfl,rfl,?_⟩;refine⟨⟨n5,r+1,p5,p6,p7,p8,g8,fU,iq,by rw[e8,Yi];omega,λr' h' x hx=>?_,rfl⟩,?_⟩
     ·by_cases z:r'=r
      ·have vG:n5[r]?=some k:=by rw[e8,Y6 nX];exact ek
       rw[z,vG] at hx;cases hx;exact eW
      ·rw[e8,Y6 (by omega)] at hx;exact(cl r' (by omega) x hx).more λy hy=>by rw[e8];exact Yo _ hy
     ·show b.ps.length+1-((r:Int)+1).toNat<b.ps.length+1-((r:Int)).toNat;have:=len up;omega
   ·have re:¬((r:Int)<(is.length:Int)):=λz=>c (decide_eq_true z);exact d5 _ _ ⟨is,g6,iQ,up.lt,up.all (λr' h'=>cl r' (by omega)),r,_,_,_,_,rfl⟩
  ·rintro σ H6 Q1 Q2 mo ⟨v1,w1,v2,w2,v3,v4,w3,w4,v5,v6,w5,w6,v7,w7,h⟩;exact⟨v1,w1,v2,w2,v3,v4,w3,w4,v5,v6,w5,w6,v7,w7,mo _ _ h⟩
 rintro σ H6 ⟨is,g6,iQ,ilt,al,r,o5,o6,o7,o8,rfl⟩;refine⟨_,rfl,nl,rfl,⟨_,aj.of (g6 _ _ hn)⟩,λD hD=>?_⟩;refine yE (K:=K) (aj.of (g6 _ _ hn)) (by rw[mY];omega) hD (λk=>decide (cC b.F i k)) (λk y _=>y=.str (aq b.ps k)) (λ_ _ _ _ _ h=>h) (λk v hk H2 g2 _ Kt Kf kt kf=>?_) λus HU gU hU pr=>?_
 ·have km:k<b.ps.length:=by
   have:=(Yg.mp hk).1;rw[mY] at this;exact this
  obtain rfl:V.str (aq b.ps k)=v:=Yp ((wq km).symm.trans hk);have e:dI (.str (aq b.ps k)) ((gn b.ps is).map V.str)=decide (cC b.F i k):=by rw[Wf,uB ok.nm ilt km,al,decide_eq_true_iff]
  refine⟨_,rfl,_,rfl,aO,_,rfl,.inl (aj.of (g2 _ _ iQ)),rfl,ud _,_,rfl,?_⟩;rw[if_neg Ym,e];exact bB (λcc=>⟨_,rfl,kt _ _ cc (ah.refl _) rfl⟩) (λcc=>kf _ (W5.mpr cc) (ah.refl _))
 ·have eu:=ZbQ pr;rw[mY] at eu;rw[eu] at hU;exact q D HU (g6.free hD) (g6.trans gU) hU
end
theorem Zc4{P:Nat->Prop}:∀{m:Nat},P m->∃i,i<=m/\P i/\∀j,j<i->¬P j:=λ{m} h=>by
 induction m using Nat.strongRecOn with
 |ind m ih=>
  by_cases z:∃j,j<m/\P j
  ·obtain⟨j,jm,pj⟩:=z;obtain⟨i,a,b,c⟩:=ih j jm pj;exact⟨i,by omega,b,c⟩
  ·exact⟨m,Yd _,h,λj hj pj=>z ⟨j,hj,pj⟩⟩
open Classical in
noncomputable def fY (F:List Fc) (m j:Nat):List (List Nat):=((List.range j).filter λi=>decide (∀k,k<i->¬cC F k i)).map (nE F m)
open Classical in
theorem F_(F:List Fc)(m j:Nat):fY F m (j+1)=fY F m j++if ∀k,k<j->¬cC F k j then[nE F m j] else[]:=by
 unfold fY;rw[Jk,Wh,Wo,Yj];by_cases e:∀k,k<j->¬cC F k j;·rw[if_pos (decide_eq_true e),if_pos e];rfl
 ·rw[if_neg (by rw[decide_eq_false e];exact Ym),if_neg e];rfl
open Classical in
theorem Zee{F:List Fc}{m j k:Nat}(hk:k<m):k∈(fY F m j).flatten↔∃r,r<j/\cC F r k:=by
 unfold fY nE;rw[List.mem_flatten];constructor
 ·rintro⟨is,h1,h2⟩;obtain⟨i,hi,rfl⟩:=Yf.mp h1;exact⟨i,Y7.mp (Yz.mp hi).1,of_decide_eq_true (Yz.mp h2).2⟩
 ·rintro⟨r,hr,c⟩;obtain⟨i,ir,ci,lst⟩:=Zc4 (P:=λi=>cC F i k) c;exact⟨_,Yf.mpr ⟨i,Yz.mpr ⟨Y7.mpr (by omega),decide_eq_true λt ht ct=>lst t ht (ct.trans ci)⟩,rfl⟩,Yz.mpr ⟨Y7.mpr hk,decide_eq_true ci⟩⟩
open Classical in
theorem ZfF{F:List Fc}{m j k:Nat}(h:k∈(fY F m j).flatten):k<m:=by
 unfold fY nE at h;obtain⟨is,h1,h2⟩:=List.mem_flatten.mp h;obtain⟨i,hi,rfl⟩:=Yf.mp h1;exact Y7.mp (Yz.mp h2).1
open Classical in
theorem Ga(F:List Fc)(m i:Nat):(nE F m i).length<=m:=by
 unfold nE;have:=Wi (λk=>decide (cC F i k)) (List.range m);rw[Jw] at this;exact this
open Classical in
theorem Q9(F:List Fc)(m:Nat):∀j,(fY F m j).length<=j/\(fY F m j).flatten.length<=j*m
 |0=>⟨Yd _,Yw _⟩
 |j+1=>by
  obtain⟨h1,h2⟩:=Q9 F m j;have:=Ga F m j;rw[F_,Nat.succ_mul];by_cases e:∀k,k<j->¬cC F k j
  ·have e2:([nE F m j]:List (List Nat)).flatten.length=(nE F m j).length:=by simp
   rw[if_pos e,Yi,List.flatten_append,Yi,e2];show _+1<=_/\_;omega
  ·rw[if_neg e,Y5];omega
theorem Sq(ps:bA)(is:List Nat):dH ps is=(gn ps is).map V.str:=by unfold dH gn;rw[Wc];rfl
theorem Zef{α:Type}(xs:List α)(x:α):dv (xs++[x]) (-1)=some x:=by
 unfold dv jX;rw[Yi,if_neg (by decide),if_pos (by simp;omega)];show(xs++[x])[((-1:Int)+((xs.length+1:Nat):Int)).toNat]?=some x;rw[show((-1:Int)+((xs.length+1:Nat):Int)).toNat=xs.length by omega];simp
def Lx(ps:bA)(gs:List (List Nat)):Dt:=.lst (gs.map λis=>.lst (is.map λi=>.str (aq ps i)))
theorem Sr{H:Hp}{m:Nat}(ps:bA):∀is:List Nat,Paired (At H m) (dH ps is) (is.map λi=>Dt.str (aq ps i))
 |[]=>.nil
 |i::is=>.cons (RC _) (Sr ps is)
theorem Zeg{H:Hp}{ps:bA}{as:List Addr}{gs:List (List Nat)}(h:Paired (λa is=>H a=some (.lst (dH ps is))) as gs)(l:∀is∈gs,is.length<=1000):Paired (At H 2) (as.map V.ref) (gs.map λis=>Dt.lst (is.map λi=>.str (aq ps i))):=by
 induction h with
 |nil=>exact .nil
 |cons e _ ih=>exact .cons (G3 e (by rw[Ya];exact l _ Yk) (Sr ps _)) (ih λis h=>l is (Yv _ h))
def Ly(ps:bA)(qs:List (Nat×Int)):Dt:=.lst (qs.map λq=>.tup [.str (aq ps q.1),.int q.2])
theorem Zeh{H:Hp}{ps:bA}{as:List Addr}{qs:List (Nat×Int)}(h:Paired (λa q=>H a=some (.tup (oQ ps q))) as qs):Paired (At H 2) (as.map V.ref) (qs.map λq=>Dt.tup [.str (aq ps q.1),.int q.2]):=by
 induction h with
 |nil=>exact .nil
 |cons e _ ih=>exact .cons (ZeX e (by show 2<=1000;decide) (.cons (RC _) (.cons (L2.ZeW _) .nil))) ih
theorem Em{α β:Type}{P Q:α->β->Prop}:∀{as:List α} {bs:List β},Paired P as bs->(∀a b,a∈as->P a b->Q a b)->Paired Q as bs
 |_,_,.nil,_=>.nil
 |_,_,.cons r t,h=>.cons (h _ _ Yk r) (Em t λa b m=>h a b (Yv _ m))
def zT(K:PySem.W.Frag):Sp:=λvs H Q _=>∃(a:Addr) (ns:List Int),vs=[.ref a]/\aj K H a (ns.map V.int)/\ns.length<=63/\∀H',Q (.bl true) H'
def vL(s1 m wi td h nl sd fl:Addr)(n z co:Int)(nU nW fJ o14 mM o16 pQ:Option V):St:=[some (.ref s1),some (.int n),some (.ref m),some (.ref wi),some (.ref td),some (.int z),some (.ref h),some (.ref nl),some (.ref sd),some (.ref fl),some (.int co),nU,nW,fJ,o14,mM,o16,pQ]
section
theorem eZ:aR ["_law_script","_law_size","_law_mother","_law_wife","_law_turns_here","_law_salt","_law_book","_law_names","_law_sides","_law_facts","_law_after_here","_law_due","_law_seen","_law_name_here","_law_told_here","_law_group_here","_law_alone","_law_room_here"] ["_law_script"] (aJ rO):=⟨rfl,rfl,rfl,by decide+kernel,rfl,by decide+kernel,by decide+kernel⟩
open Classical in
theorem ZfG(F:aK K "law" "law" rO f fd)(t6:HasFn P w K mg base 1 "_law_cell" ["_law_script","_law_k"] (Rx K))(yU:HasFn P w K mg base 2 "_law_row" ["_law_cell_here","_law_size"] S6)(En:HasFn P w K mg base 2 "_law_turns" ["_law_mother","_law_wife"] QR)(pU:HasFn P w K mg base 4 "_law_same" ["_law_found","_law_due"] (rG 4))(t4:HasFn P w K mg base 3 "_law_room" ["_law_facts","_law_turns_here","_law_name_here"] Hi)(E2:HasFn P w K mg base 15 "_law_grow" ["_law_book","_law_cells","_law_turns_here","_law_salt"] (Sn C CL CJ))(Eo:HasFn P w K mg base 1 "_law_group" ["_law_facts","_law_name_here","_law_names"] PD)(zc:HasFn P w K mg base 9 "groups" ["hearth"] (PB C CL CJ))(yV:HasFn P w K mg base 10 "settled" ["hearth"] (Oh C CL CJ))
  (FA:HasFn P w K mg base 7 "land_of" ["mother","wife"] (OS CL))(Gb:wO P w K mg base 1 "Hearth" C ["self","land"] (QE C CL CJ))(bl:Bl mg):aH P w K mg base (nK P w) 16 f fd ["_law_script"] (zT K):=by
 refine F.okX eZ (λvs H Q E h=>?_) (λaC A outer s H vs Q E hr h=>?_)
 ·obtain⟨a,ns,rfl,_⟩:=h;rfl
 obtain⟨a,ns,rfl,hs,hlen,q⟩:=h;have hu:=hr.uw;refine⟨_,(ak (a_ (i:=0) eZ.nd rfl (Or.inl rfl) (Oq (OC (K:=K) rfl) (pv 0) PX (PY aL))) (ak (a_ (i:=1) eZ.nd rfl (Or.inl rfl) (bj iY aL (bj eO (aW t6 hr (by omega) rfl (aa (pv 0) (aa aL ae))) aL))) (ak (a_ (i:=2) eZ.nd rfl (Or.inl rfl) (aW yU hr (by omega) rfl (aa (aW t6 hr (by omega) rfl (aa (pv 0) (aa aL ae))) (aa (pv 1) ae)))) (ak (a_ (i:=3) eZ.nd rfl (Or.inl rfl) (aW yU hr (by omega) rfl (aa (aW t6 hr (by omega) rfl (aa (pv 0) (aa aL ae))) (aa (pv 1) ae)))) (ak (a_ (i:=4) eZ.nd rfl (Or.inl rfl) (aW En hr (by omega) rfl (aa (pv 2) (aa (pv 3) ae)))) (ak (a_ (i:=5) eZ.nd rfl (Or.inl rfl) (bj eO (aW t6 hr (by omega) rfl (aa (pv 0) (aa aL ae))) aL)) (ak (a_ (i:=6) eZ.nd rfl (Or.inl rfl) (Hv Gb hr (by omega) rfl (aa (aW FA hr (by omega) rfl (aa (pv 2) (aa (pv 3) ae))) ae))) (ak (m5 (aW E2 hr (by omega) rfl (aa (pv 6) (aa (Oq (OC (K:=K) rfl) (pv 0) (PY aL) PX) (aa (pv 4) (aa (pv 5) ae))))) (iD (K:=K) (n:=4) rfl rfl (bN (a8 (i:=7) eZ.nd rfl (Or.inl rfl)) (bN (a8 (i:=8) eZ.nd rfl (Or.inl rfl)) (bN (a8 (i:=9) eZ.nd rfl (Or.inl rfl)) (bN (a8 (i:=10) eZ.nd rfl (Or.inl rfl)) iC)))))) (ak (a_ (i:=11) eZ.nd rfl (Or.inl rfl) (de ae)) (ak (a_ (i:=12) eZ.nd rfl (Or.inl rfl) (de ae)) (ak (eY IK rfl (d_ (K:=K) rfl (pv 7)) (a8 (i:=13) eZ.nd rfl (Or.inl rfl)) (au (aQ (aU (ux (K:=K) rfl) (pv 13) (pv 12) (by with_unfolding_all rfl)) (ak (bY (hX (K:=K) rfl (fQ plainAttrs_list PySem.F.slot_list_append PySem.F.type_list_append iu (pv 11) (aa (aW Eo hr (by omega) rfl (aa (pv 9) (aa (pv 13) (aa (pv 7) ae)))) ae)))) (au (a_ (i:=12) eZ.nd rfl (Or.inl rfl) (bj wk (pv 12) (bg (cA (K:=K) rfl) (pv 11) (ZfP Zeu aL) (λ_ _=>rfl)))))) aY))) (ak (a_ (i:=14) eZ.nd rfl (Or.inl rfl) (aW zc hr (by omega) rfl (aa (pv 6) ae))) (ak (aQ (jO (fC (aW pU hr (by omega) rfl (aa (pv 14) (aa (pv 11) ae))))) (au (aF kQ)) aY) (ak (eY IK rfl (d_ (K:=K) rfl (pv 14)) (a8 (i:=15) eZ.nd rfl (Or.inl rfl)) (au (bY (hX (K:=K) rfl (fQ plainAttrs_list PySem.F.slot_list_append PySem.F.type_list_append iu (pv 15) (aa bC ae)))))) (ak (a_ (i:=16) eZ.nd rfl (Or.inl rfl) (de ae)) (ak (eY IK rfl (d_ (K:=K) rfl (pv 7)) (a8 (i:=13) eZ.nd rfl (Or.inl rfl)) (ak (a_ (i:=17) eZ.nd rfl (Or.inl rfl) (aW t4 hr (by omega) rfl (aa (pv 9) (aa (pv 4) (aa (pv 13) ae))))) (au (aQ (aU cg (bL (c9 (K:=K) rfl) rfl bl.cU cT (aa (pv 17) ae)) aL (aP _)) (au (bY (hX (K:=K) rfl (fQ plainAttrs_list PySem.F.slot_list_append PySem.F.type_list_append iu (pv 16) (aa (dz (aa (pv 13) (aa (bg (cA (K:=K) rfl) (pv 17) aL (λ_ _=>rfl)) ae))) ae))))) aY)))) (ak (a_ (i:=14) eZ.nd rfl (Or.inl rfl) (aW yV hr (by omega) rfl (aa (pv 6) ae))) (ak (aQ (jO (fC (aW pU hr (by omega) rfl (aa (pv 14) (aa (pv 16) ae))))) (au (aF kQ)) aY) (ak (bY (hX (K:=K) rfl (fQ plainAttrs_list PySem.F.slot_list_append PySem.F.type_list_append iu (pv 14) (aa (dz (aa bC (aa aL ae))) ae)))) (au (aF (oC (aW pU hr (by omega) rfl (aa (aW zc hr (by omega) rfl (aa (pv 6) ae)) (aa (pv 11) ae))) (lR (aW pU hr (by omega) rfl (aa (aW yV hr (by omega) rfl (aa (pv 6) ae)) (aa (pv 16) ae)))))))))))))))))))))))))),?_⟩;have sz:(10000:Nat)<=sizeLine:=by rw[sizeLine_eq];omega
 obtain⟨ms,em⟩:=Ov ns none (some 63);have lms:ms.length<=ns.length:=by
  have:=My (ns.map V.int) none (some 63);rw[em,Ya,Ya] at this;exact this
 obtain⟨cs,ec⟩:=Ov ms (some 4) none;have lcs:cs.length<=59:=by
  have:=Zc1 (xs:=ms.map V.int) (by rw[Ya];omega);rw[ec,Ya] at this;exact this
 refine bW ?_;refine⟨_,rfl,_,rfl,a,_,rfl,hs,λs1 H0 n1 g0 vM=>?_⟩;rw[em] at vM;refine bW ?_;refine⟨_,rfl,s1,ms,0,rfl,aj.of vM,Int.le_refl 0,λc0=>⟨_,_,rfl,rfl,(by show(0:Int)<7;decide),_,_,rfl,rfl,?_⟩⟩;try dsimp only
 have m0:=Jc c0 (show(7:Int)≠0 by decide);have m1:=W1 c0 (show(0:Int)<7 by decide);obtain⟨n,en⟩:∃n:Nat,2+c0 % 7=(n:Int):=⟨(2+c0 % 7).toNat,by omega⟩;rw[en];have n2:2<=n:=by omega
 have n8:n<=8:=by omega
 refine bW ?_;refine⟨_,rfl,s1,ms,1,rfl,aj.of vM,by decide,λc1=>⟨_,rfl,c1,n,rfl,by omega,by omega,λm xs H1 nm g1 hM px=>?_⟩⟩;refine bW ?_;refine⟨_,rfl,s1,ms,2,rfl,aj.of (g1 _ _ vM),by decide,λc2=>⟨_,rfl,c2,n,rfl,by omega,by omega,λwi ys H2 nw g2 hW py=>?_⟩⟩;have lx:xs.length=n:=by rw[px.length_eq,eX]
 have ly:ys.length=n:=by rw[py.length_eq,eX]
 have gd:m9 xs ys:=⟨rb px,rb py,by omega,by omega,by omega⟩;refine bW ?_;refine⟨_,rfl,_,rfl,m,wi,xs,ys,rfl,g2 _ _ hM,hW,gd,λtd H3 ntd g3 ht=>?_⟩;have jD:=(g1.trans g2).trans g3;refine bW ?_;refine⟨_,rfl,s1,ms,3,rfl,aj.of (jD _ _ vM),by decide,λc3=>⟨_,_,rfl,rfl,(by show(0:Int)<97;decide),?_⟩⟩;try dsimp only
 have z0:=Jc c3 (show(97:Int)≠0 by decide);have z1:=W1 c3 (show(0:Int)<97 by decide);obtain⟨z,ez⟩:∃z:Nat,c3 % 97=(z:Int):=⟨(c3 % 97).toNat,by omega⟩;rw[ez];have hz:z<97:=by omega
 refine bW ?_;refine⟨_,rfl,_,rfl,m,wi,xs,ys,rfl,g3 _ _ (g2 _ _ hM),g3 _ _ hW,gd.1,gd.2.1,gd.2.2.1,gd.2.2.2.1,gd.2.2.2.2,λLd H4 g4 la=>λx dx nx xP nd=>?_⟩;have xQ:upd H4 dx (.own x) x=none:=by rw[a9 (λz=>nd z.symm)];exact nx
 obtain⟨H5,e5⟩:∃H5,H5=upd (upd H4 dx (.own x)) x (.ins C dx []):=⟨_,rfl⟩;have g5:ah H4 H5:=by rw[e5];exact(cy xP _).trans (cy xQ _)
 have hx5:H5 x=some (.ins C dx []):=by rw[e5];exact aZ
 rw[←e5];refine⟨x,dx,Ld,xs,ys,rfl,hx5,la.same g5,λl H6 eh A5 b6 ba=>⟨rfl,?_⟩⟩;subst eh;have keep:∀{a:Addr} {o:HO},H4 a=some o->H6 a=some o/\a∉l.fp:=λ{a o} e=>by
  have na:a≠l.h:=bQ e nx;refine⟨b6 _ _ (g5 _ _ e) na,λz=>?_⟩;have:=A5 a z na;rw[g5 _ _ e] at this;cases this
 have hs4:=g4 _ _ (jD _ _ vM);have ht4:=ht.same g4;obtain⟨tm,tf,tw,ts,fE,q1,q2,q3,q4⟩:=ht4;have ht6:gm H6 td xs ys:=⟨tm,tf,tw,ts,(keep fE).1,(keep q1).1,(keep q2).1,(keep q3).1,(keep q4).1⟩;refine⟨_,rfl,_,rfl,_,rfl,s1,_,rfl,aj.of (keep hs4).1,λca H7 nca g7 hca=>⟨_,rfl,_,rfl,xs,ys,z,ca,td,l,⟨[],[],0,[],[]⟩,cs,rfl,ba.same g7,rfl,gd,by rw[hca,ec],ba.fresh nca,ht6.same g7,(keep fE).2,hz,lcs,λl2 b nl sd fl st H8 wt si=>?_⟩⟩;refine⟨st,_,rfl,aA.of si.tup,rfl,_,_,rfl,bc ⟨_,_,rfl,bc ⟨_,_,rfl,bc ⟨_,_,rfl,bc ⟨rfl,?_⟩⟩⟩⟩⟩;dsimp only;have eh:=wt.h;have f63:=si.ok.fl;have s_:=si.ok.m;have ok:=si.ok;refine bW ?_;refine⟨by show 0<=sizeLine;omega,λdu H9 yc g9 WY=>?_⟩;refine bW ?_;refine⟨by show 0<=sizeLine;omega,λse HA Bb gA hse=>?_⟩;have ZhI:se≠du:=λz=>by rw[z,WY] at Bb;cases Bb
 have dl:=Q9 b.F b.ps.length;have mm:b.ps.length*b.ps.length<=4096:=Jy s_ s_;refine fw (λσ H'=>∃(as:List Addr) (iT:Addr) (fJ:Option V),ah H8 H'/\H' du=some (.lst (as.map V.ref))/\Paired (λa is=>H' a=some (.lst (dH b.ps is))) as (fY b.F b.ps.length b.ps.length)/\(∀a∈as,a≠du/\H8 a=none)/\σ=vL s1 m wi td l.h nl sd fl n z b.co (some (.ref du)) (some (.ref iT)) fJ none none none none) (λlE d5=>?_) ?_
 ·have siA:=si.same (g9.trans gA);refine⟨_,rfl,nl,rfl,⟨_,aj.of siA.names⟩,hJ (K:=K) (a:=nl) (xs:=iR b.ps) (λj σ H'=>∃(as:List Addr) (iT:Addr) (fJ:Option V),ah H8 H'/\H' du=some (.lst (as.map V.ref))/\Paired (λa is=>H' a=some (.lst (dH b.ps is))) as (fY b.F b.ps.length j)/\(∀a∈as,a≠du/\H8 a=none)/\H' iT=some (.lst (dH b.ps (fY b.F b.ps.length j).flatten))/\iT≠du/\σ=vL s1 m wi td l.h nl sd fl n z b.co (some (.ref du)) (some (.ref iT)) fJ none none none none)
   ⟨[],se,none,g9.trans gA,gA _ _ WY,.nil,(λ_ h=>nomatch h),hse,ZhI,rfl⟩ (λj σ H' _ ⟨_,_,_,g,_⟩=>aj.of (g _ _ si.names)) ?_ ?_⟩
  ·rintro j v σ HB hj ⟨as,iT,fJ,gB,qz,pr,na,Ae,Lz,rfl⟩;have jm:j<b.ps.length:=by
    have:=(Yg.mp hj).1;rw[mY] at this;exact this
   obtain rfl:V.str (aq b.ps j)=v:=Yp ((wq jm).symm.trans hj);have yv:=si.same gB;have pl:=cN pr;have dj:=dl j;have jmm:j*b.ps.length<=4096:=Y4 (Jy (Ji jm) (Yd _)) mm;refine bc ?_;refine⟨_,rfl,_,rfl,iT,_,rfl,.inl (aj.of Ae),rfl,by rw[Sq];exact ud _,_,rfl,?_⟩;have WZ:dI (.str (aq b.ps j)) (dH b.ps (fY b.F b.ps.length j).flatten)=true↔∃r,r<j/\cC b.F r j:=by
    rw[Sq,uB ok.nm (λk hk=>ZfF hk) jm,Zee jm]
   rw[if_pos rfl];refine bB (λcc=>?_) (λcc=>aX ?_)
   ·have rep:∀k,k<j->¬cC b.F k j:=λk hk c=>by rw[WZ.mpr ⟨k,hk,c⟩] at cc;cases cc
    have es:fY b.F b.ps.length (j+1)=fY b.F b.ps.length j++[nE b.F b.ps.length j]:=by rw[F_,if_pos rep]
    refine⟨_,rfl,.inl ⟨rfl,_,aj.of qz⟩,_,rfl,_,rfl,_,rfl,fl,nl,xs,ys,b,j,rfl,yv.FL,ok,jm,yv.names,λp HD np gD hp=>⟨du,_,_,rfl,rfl,gD _ _ qz,by rw[Ya];omega,λHE bE eE=>?_⟩⟩;have W_:p≠du:=λz=>by rw[z,qz] at np;cases np
    have Xa:=bE _ _ hp W_;have ZhJ:=bE _ _ (gD _ _ Ae) Lz;have LA:HE du=some (.lst ((as++[p]).map V.ref)):=by rw[eE,Yj];rfl
    dsimp only;refine⟨_,rfl,_,rfl,_,rfl,du,_,_,.ref p,rfl,rfl,aj.of LA,by rw[Yj];exact Zef _ _,iT,p,_,_,rfl,rfl,ZhJ,Xa,?_,λse2 HF nF gF hF=>bc ?_⟩
    ·unfold dH;rw[Ya,Ya];have:=Ga b.F b.ps.length j;omega
    refine⟨as++[p],se2,_,λc o e=>gF _ _ (bE _ _ (gD _ _ (gB _ _ e)) (bQ e yc)),gF _ _ LA,?_,λa ha=>?_,?_,(λz=>by rw[z,LA] at nF;cases nF),rfl⟩
    ·rw[es];exact hE (F:=λa is=>HF a=some (.lst (dH b.ps is))) (gF _ _ Xa) (Em pr λa is ma e=>gF _ _ (bE _ _ (gD _ _ e) (na a ma).1))
    ·rcases Yr.mp ha with h|h;·exact na a h
     ·rw[Ye.mp h];exact⟨W_,gB.free np⟩
    ·rw[hF,es,List.flatten_append];unfold dH;rw[Yj];simp
   ·have no:¬∀k,k<j->¬cC b.F k j:=λh=>by
     have:dI (.str (aq b.ps j)) (dH b.ps (fY b.F b.ps.length j).flatten)=true:=by
      cases e:dI (.str (aq b.ps j)) (dH b.ps (fY b.F b.ps.length j).flatten) with
      |true=>rfl
      |false=>rw[e] at cc;exact absurd rfl cc
     obtain⟨r,hr,c⟩:=WZ.mp this;exact h r hr c
    have es:fY b.F b.ps.length (j+1)=fY b.F b.ps.length j:=by rw[F_,if_neg no,Y5]
    exact⟨as,iT,_,gB,qz,by rw[es];exact pr,na,by rw[es];exact Ae,Lz,rfl⟩
  ·rintro σ HB ⟨as,iT,fJ,gB,qz,pr,na,Ae,Lz,rfl⟩;rw[mY] at pr;exact d5 _ _ ⟨as,iT,fJ,gB,qz,pr,na,rfl⟩
 rintro σ HB ⟨da,iT,fJ,gB,qz,dpr,na,rfl⟩;have yv:=si.same gB;have dm:=dl b.ps.length;have Ut:∀is∈nC b.F b.ps.length,is.length<=1000:=λis h=>by
  obtain⟨i,_,rfl⟩:=Yf.mp h;have:=Ga b.F b.ps.length i;exact Y4 this (by omega)
 have gl:(nC b.F b.ps.length).length<=1000:=Y4 dm.1 (by omega);have Bq:∀{H:Hp} {p:Addr} {as:List Addr},H p=some (.lst (as.map V.ref))->Paired (λa is=>H a=some (.lst (dH b.ps is))) as (nC b.F b.ps.length)->At H 3 (.ref p) (Lx b.ps (nC b.F b.ps.length)):=λh pr=>G3 h (by rw[Ya];exact gl) (Zeg pr Ut);have sl:=F9 b.F xs.length;have atS:∀{H:Hp} {p:Addr} {as:List Addr},H p=some (.lst (as.map V.ref))->Paired (λa q=>H a=some (.tup (oQ b.ps q))) as (jU b.F xs.length b.ps.length)->At H 3 (.ref p) (Ly b.ps (jU b.F xs.length b.ps.length)):=λh pr=>G3 h (by rw[Ya];have:=sl b.ps.length;omega) (Zeh pr);refine bW ?_;refine⟨_,rfl,l2,b,xs,ys,by rw[eh];rfl,yv.ba,ok,λl3 HG p as HH wG Br rk _ np gG hp pr new nd=>?_⟩;have LB:=yv.ZhG wG Br;have e3:l3.h=l.h:=wG.h.trans eh;have Uu:=(wG.off qz (si.ba.fresh yc)).1;have Uv:Paired (λa is=>HG a=some (.lst (dH b.ps is))) da (nC b.F b.ps.length):=Em dpr λa is ma e=>(wG.off e (si.ba.fresh (na a ma).2)).1;refine⟨_,rfl,_,rfl,_,_,Lx b.ps (nC b.F b.ps.length),3,rfl,rfl,Bq hp pr,Bq (gG _ _ Uu) (L2.Paired.bp Uv λ_ _ e=>gG _ _ e),λHI gI=>⟨_,rfl,cz (aX ?_)⟩⟩;obtain⟨npa,ZhK⟩:=Yy.mp nd;refine fw (λσ H'=>ah HG H'/\∃mM:Option V,σ=vL s1 m wi td l.h nl sd fl n z b.co (some (.ref du)) (some (.ref iT)) fJ (some (.ref p)) mM none none) (λyd lH=>?_) ?_
 ·refine⟨_,rfl,p,rfl,⟨_,aj.of (gI _ _ hp)⟩,hJ (K:=K) (a:=p) (xs:=as.map V.ref) (λj σ H'=>(∀c o,HI c=some o->c∉as.take j->H' c=some o)/\∃mM:Option V,σ=vL s1 m wi td l.h nl sd fl n z b.co (some (.ref du)) (some (.ref iT)) fJ (some (.ref p)) mM none none)
   ⟨(λ_ _ e _=>e),none,rfl⟩ (λj σ H' _ ⟨kp,_⟩=>aj.of (kp _ _ (gI _ _ hp) (λm=>npa (J3 m)))) ?_ ?_⟩
  ·rintro j v σ HJ hj ⟨kp,mM,rfl⟩;rw[Yl] at hj;obtain⟨a,ea,rfl⟩:∃a,as[j]?=some a/\V.ref a=v:=by
    cases e:as[j]? with
    |none=>rw[e] at hj;cases hj
    |some c=>rw[e] at hj;exact⟨c,rfl,Yp hj⟩
   obtain⟨is,eis,ha⟩:=fV pr ea;have jH:as.take (j+1)=as.take j++[a]:=by rw[Y0,ea];rfl
   have Xb:=kp _ _ (gI _ _ ha) (λm=>by
    have jl:=(Yg.mp ea).1;have K2:(as.take j++[a]).Nodup:=by rw[←jH];exact(List.take_sublist _ _).nodup ZhK
    exact(Wg.mp K2).2.2 a m a Yk rfl)
   refine bc ?_;refine⟨_,rfl,.inl ⟨rfl,_,aj.of Xb⟩,a,_,_,rfl,rfl,Xb,?_,λHK bK eK=>⟨λc o e n=>?_,_,rfl⟩⟩
   ·have:=Ut is (Yh eis);unfold dH;rw[Ya];omega
   ·rw[jH,Yr,not_or] at n;exact bK _ _ (kp c o e n.1) (λz=>n.2 (by rw[z];exact Yk))
  ·rintro σ HJ ⟨kp,mM,rfl⟩;exact lH _ _ ⟨λc o e=>kp c o (gI _ _ (gG _ _ e)) (λm=>by have:=new c (J3 m);rw[e] at this;cases this),mM,rfl⟩
 rintro σ HJ ⟨gJ,mM,rfl⟩;refine bW ?_;refine⟨by show 0<=sizeLine;omega,λal HL nal gL Bh=>?_⟩;refine fw (λσ H'=>∃(gY:List Addr) (mN pQ:Option V),ah HG H'/\H' al=some (.lst (gY.map V.ref))/\Paired (λa q=>H' a=some (.tup (oQ b.ps q))) gY (jU b.F xs.length b.ps.length)/\σ=vL s1 m wi td l.h nl sd fl n z b.co (some (.ref du)) (some (.ref iT)) mN (some (.ref p)) mM (some (.ref al)) pQ) (λnR eS=>?_) ?_
 ·have g0:∀{H':Hp},(∀c o,HL c=some o->c≠al->H' c=some o)->ah HG H':=λkp c o e=>kp c o (gL _ _ (gJ _ _ e)) (bQ (gJ _ _ e) nal);have siL:=LB.same (gJ.trans gL);refine⟨_,rfl,nl,rfl,⟨_,aj.of siL.names⟩,hJ (K:=K) (a:=nl) (xs:=iR b.ps) (λj σ H'=>∃(gY:List Addr) (mN pQ:Option V),(∀c o,HL c=some o->c≠al->H' c=some o)/\H' al=some (.lst (gY.map V.ref))/\Paired (λa q=>H' a=some (.tup (oQ b.ps q))) gY (jU b.F xs.length j)/\σ=vL s1 m wi td l.h nl sd fl n z b.co (some (.ref du)) (some (.ref iT)) mN (some (.ref p)) mM (some (.ref al)) pQ)
   ⟨[],fJ,none,(λ_ _ e _=>e),Bh,.nil,rfl⟩ (λj σ H' _ ⟨_,_,_,kp,_⟩=>aj.of (LB.same (g0 kp)).names) ?_ ?_⟩
  ·rintro j v σ HM hj ⟨gY,mN,pQ,kp,sf,mF,rfl⟩;have jm:j<b.ps.length:=by
    have:=(Yg.mp hj).1;rw[mY] at this;exact this
   obtain rfl:V.str (aq b.ps j)=v:=Yp ((wq jm).symm.trans hj);have Bs:=LB.same (g0 kp);have slj:=sl j;have pl:=cN mF;refine bc ?_;refine bW ?_;refine⟨_,rfl,_,rfl,_,rfl,fl,td,b.ps,xs,ys,b.F,j,rfl,Bs.FL,Bs.turns,ok.nm,Bs.good.1,gd.2.2.2.2,by omega,Bs.good.2,jm,λrm HN nrm gN Xc=>?_⟩;have Ls:((c7 b.F xs.length j).map V.int).length=(c7 b.F xs.length j).length:=Ya _;refine⟨_,rfl,rm,_,rfl,.inl (aj.of Xc),rfl,_,rfl,?_⟩;rw[Ls];have Af:=gN _ _ sf;refine bB (λcc=>?_) (λcc=>aX ?_)
   ·have e1:(c7 b.F xs.length j).length=1:=by
     have:=V.int.inj (of_decide_eq_true cc);omega
    have Lu:dv ((c7 b.F xs.length j).map V.int) 0=some (.int ((c7 b.F xs.length j).getD 0 0)):=by
     match e:c7 b.F xs.length j,e1 with
     |[u],_=>rfl
    refine⟨_,rfl,.inl ⟨rfl,_,aj.of Af⟩,_,rfl,_,rfl,rm,_,_,_,rfl,rfl,aj.of Xc,Lu,by show 2<=sizeLine;omega,λt HO nt gO ht=>⟨al,_,_,rfl,rfl,gO _ _ Af,by rw[Ya];omega,λHP bP eP=>?_⟩⟩;have tp:t≠al:=λz=>by rw[z,Af] at nt;cases nt
    refine⟨gY++[t],_,_,λc o e n=>bP _ _ (gO _ _ (gN _ _ (kp c o e n))) n,by rw[eP,Yj];rfl,?_,rfl⟩;rw[wa,if_pos e1];exact hE (F:=λa q=>HP a=some (.tup (oQ b.ps q))) (bP _ _ ht tp) (L2.Paired.bp mF λa q e=>bP _ _ (gO _ _ (gN _ _ e)) (dE e sf (λz=>by cases z)))
   ·have e1:¬(c7 b.F xs.length j).length=1:=λz=>cc (decide_eq_true (by rw[z];rfl));refine⟨gY,_,_,λc o e n=>gN _ _ (kp c o e n),Af,?_,rfl⟩;rw[wa,if_neg e1,Y5];exact L2.Paired.bp mF λa q e=>gN _ _ e
  ·rintro σ HM ⟨gY,mN,pQ,kp,sf,mF,rfl⟩;rw[mY] at mF;exact eS _ _ ⟨gY,mN,pQ,g0 kp,sf,mF,rfl⟩
 rintro σ HM ⟨gY,mN,pQ,gM,sf,mF,rfl⟩;refine bW ?_;refine⟨_,rfl,l3,b,xs,ys,by rw[e3];rfl,Br.same gM,ok,rk,λp2 as3 HQ sL gQ dB Xd=>?_⟩;refine⟨_,rfl,_,rfl,_,_,Ly b.ps (jU b.F xs.length b.ps.length),3,rfl,rfl,atS dB Xd,atS (gQ _ _ sf) (L2.Paired.bp mF λ_ _ e=>gQ _ _ e),λHR gR=>⟨_,rfl,cz (aX ?_)⟩⟩;have Uw:=gR _ _ dB;refine⟨_,rfl,.inl ⟨rfl,_,aj.of Uw⟩,by show 2<=sizeLine;omega,λt HS nt gS ht=>⟨p2,_,_,rfl,rfl,gS _ _ Uw,by rw[Ya,cN Xd];have:=sl b.ps.length;omega,λHT bT eT=>?_⟩⟩;have LC:ah HM HT:=λc o e=>bT _ _ (gS _ _ (gR _ _ (gQ _ _ e))) (bQ e sL);have Bu:=gM.trans LC;dsimp only;refine⟨_,rfl,l3,b,xs,ys,by rw[e3];rfl,Br.same Bu,ok,λl4 HU p4 as4 HV _ _ rk4 sm4 u_ g4 kq pr4 _ _=>?_⟩;obtain⟨rfl,rfl⟩:=sm4 rk;refine⟨_,rfl,_,_,Lx b.ps (nC b.F b.ps.length),3,rfl,rfl,Bq kq pr4,Bq (g4 _ _ (Bu _ _ Uu)) (L2.Paired.bp Uv λ_ _ e=>g4 _ _ (Bu _ _ e)),λHW gW=>⟨true,rfl,c8 ?_⟩⟩;have gGW:=(Bu.trans g4).trans gW;refine⟨_,rfl,l4,b,xs,ys,by rw[e3];rfl,Br.same gGW,ok,rk,λp5 as5 HX tF gX Lq pr5=>?_⟩;exact⟨_,rfl,_,_,Ly b.ps (jU b.F xs.length b.ps.length),3,rfl,rfl,atS Lq pr5,atS (gX _ _ (gW _ _ (g4 _ _ (LC _ _ sf)))) (L2.Paired.bp mF λ_ _ e=>gX _ _ (gW _ _ (g4 _ _ (LC _ _ e)))),λHZ _=>q HZ⟩
end
theorem all_mk{l:PySem.W.OpenLaw}{w:World}{K:PySem.W.Frag}{h:Heap}{mg:Str->Option Value}{fa:Addr}
  {f1 f2 f3 f4 f5 f6 f7 f8 f9 Aw f11 f12 f13 f14 f15 f16 f17 f18 f19 f20 f21 f22 f23 f24 f25 f26 f27 f28 f29 f30 f31 f32 f33 f34 f35 f36 f37 f38 f39 f40 f41 f42 f43 f44 f45 f46 f47 f48 f49 f50 f51:Addr}
  {YQ:Tok}
  {Zt:Tok}
  {XR:Tok}
  {ZbS:Tok}
  {Zu:Tok}
  {lK:Addr}
  {dF:Addr}{Za0:Option Addr}{Za1:Array (Option Value)}{Za2:Nat}{Zv:Tok}{Zw:Tok}
  {ZfH:Tok}
  {Zc5:Tok}
  {Xk:Tok}
  {Xs:Tok}
  {Zei:Tok}
  {Za3:Tok}
  {b_:Addr}{Zaa Zab:Addr}
  {bM:Addr}{Zx Zac Zad Zae XS Zy XC YR X7 Xf Zz XT:Addr}
  {bZ:Addr}{YS XU ZA ZC YT YU XW XD YV ZD Xn Xl X8 XE X9 XX Xo Xt Xu:Addr}
  (X:K.In h)(G:h.Ns mainGlobals mg)(cV:mg "law"=some (.ref fa))
  (p1:aG K "is_turn" Fg f1)
  (p2:aG K "still" Gx f2)
  (p3:aG K "behind" FR f3)
  (p4:aG K "back" G6 f4)
  (p5:aG K "check_turn" Du f5)
  (p6:aG K "check_rows" Dv f6)
  (p7:aG K "check_parents" B_ f7)
  (p8:aG K "land_of" Fh f8)
  (p9:aG K "followed" EA f9)
  (LD:aG K "turned_back" C4 Aw)
  (LF:aG K "lines_up" EB f11)
  (LG:aG K "is_tie" FT f12)
  (mN:aG K "tie_turn" EC f13)
  (LH:aG K "fact_key" ED f14)
  (LI:aG K "keep_fact" DY f15)
  (LJ:aG K "fact_fits" DZ f16)
  (LK:aG K "is_name" Fi f17)
  (LL:aG K "check_person" Cz f18)
  (LM:aG K "check_tie" D0 f19)
  (LN:aG K "sides_fit" D1 f20)
  (LO:aG K "told_already" CA f21)
  (LP:aG K "check_elders" CB f22)
  (LQ:aG K "check_saying" CC f23)
  (LR:aG K "check_section" Ca f24)
  (LS:aG K "is_person" D2 f25)
  (LU:aG K "open_of" Fj f26)
  (LV:aG K "groups" FU f27)
  (LW:aG K "settled" Fm f28)
  (LX:aG K "_law_cell" M4 f29)
  (LY:aG K "_law_draws" MD f30)
  (LZ:aG K "_law_turn" M5 f31)
  (L0:aG K "_law_row" Fn f32)
  (L1:aG K "_law_inverse" C5 f33)
  (L3:aG K "_law_after" D3 f34)
  (L4:aG K "_law_turns" D4 f35)
  (L5:aG K "_law_same" yF f36)
  (L6:aG K "_law_nets" EE f37)
  (L7:aG K "_law_carried" C6 f38)
  (L8:aG K "_law_room" EF f39)
  (L9:aG K "_law_name" EG f40)
  (L_:aG K "_law_up" FV f41)
  (Ma:aG K "_law_told" EH f42)
  (Mb:aG K "_law_sided" D5 f43)
  (Mc:aG K "_law_word" EI f44)
  (Md:aG K "_law_pick" EJ f45)
  (Me:aG K "_law_fact" EK f46)
  (Mf:aG K "_law_put" Fo f47)
  (Mg:aG K "_law_step" EL f48)
  (Mh:aG K "_law_grow" EM f49)
  (Mi:aG K "_law_group" D6 f50)
  (Mj:aG K "law" rO f51)
  (Ij:nsIn K mainGlobals "len"=some none)
  (Ik:nsIn K mainGlobals "abs"=some none)
  (Hm:nsIn K mainGlobals "list"=some none)
  (GJ:nsIn K mainGlobals "range"=some none)
  (GK:nsIn K mainGlobals "tuple"=some none)
  (Il:nsIn K mainGlobals "any"=some none)
  (Im:nsIn K mainGlobals "all"=some none)
  (DI:nsIn K mainGlobals "isinstance"=some none)
  (Hn:nsIn K mainGlobals "bool"=some none)
  (Io:nsIn K mainGlobals "int"=some none)
  (Ip:nsIn K mainGlobals "str"=some none)
  (Gd:nsIn K mainGlobals "sorted"=some none)
  (Iq:nsIn K mainGlobals "min"=some none)
  (Ir:nsIn K mainGlobals "max"=some none)
  (Iu:nsIn K mainGlobals "sum"=some none)
  (Ho:nsIn K mainGlobals "dict"=some none)
  (E3:nsIn K mainGlobals "reversed"=some none)
  (DJ:nsIn K mainGlobals "ValueError"=some none)
  (Dg:nsIn K mainGlobals "LEAST_SIZE"=some (some (.int (2) YQ)))
  (DK:nsIn K mainGlobals "MOST_SIZE"=some (some (.int (8) Zt)))
  (Cp:nsIn K mainGlobals "LONGEST_NAME"=some (some (.int (12) XR)))
  (FC:nsIn K mainGlobals "PUT_IN"=some (some (.int (1) ZbS)))
  (DL:nsIn K mainGlobals "TAKEN_OUT"=some (some (.int (-1) Zu)))
  (CQ:nsIn K mainGlobals "TIE_LETTERS"=some (some (.ref lK)))
  (yw:PyProof.Rows.KTD.tabLook PyProof.Rows.KTD.flatLooks (λb=>K.lookup b) lK [("mother",PyData.str "m"),("father",PyData.str "f"),("wed",PyData.str "w"),("sibling",PyData.str "s")]=true)
  (E4:nsIn K mainGlobals "PARENTS"=some (some (.ref dF)))
  (E5:K.lookup dF=some ⟨.type "tuple",Za0,.seq #[.str "mother" Zv,.str "father" Zw] Za2,Za1⟩)
  (Hq:nsIn K mainGlobals "MAN"=some (some (.str "man" ZfH)))
  (Ge:nsIn K mainGlobals "WOMAN"=some (some (.str "woman" Zc5)))
  (BA:nsIn K mainGlobals "LETTERS_OF_NAMES"=some (some (.str "abcdefghijklmnopqrstuvwxyz" Xk)))
  (BP:nsIn K mainGlobals "SIGNS_OF_NAMES"=some (some (.str "abcdefghijklmnopqrstuvwxyz0123456789" Xs)))
  (GL:nsIn K mainGlobals "SAID"=some (some (.str "said" Zei)))
  (E6:nsIn K mainGlobals "SIBLING"=some (some (.str "sibling" Za3)))
  (GN:nsIn K mainGlobals "Land"=some (some (.ref b_)))
  (GO:makesIn K b_=true)
  (GP:keepIn K (.ref b_)=true)
  (Gf:plainGet K b_ Str.empty=true)
  (GQ:hasDictIn K b_=true)
  (Gg:plainOver K b_=true)
  (GR:PySem.W.findIn K (.ref b_) "__setattr__"=some (some (.builtin "object.__setattr__")))
  (DM:PySem.W.findIn K (.ref b_) "size"=some none)
  (CS:PySem.W.findIn K (.ref b_) "mother"=some none)
  (CT:PySem.W.findIn K (.ref b_) "father"=some none)
  (DN:PySem.W.findIn K (.ref b_) "wife"=some none)
  (Dh:PySem.W.findIn K (.ref b_) "steps"=some none)
  (Ep:bo K b_ "__init__" "Land.__init__" D7 Zaa)
  (Es:bo K b_ "step" "Land.step" D8 Zab)
  (Gh:nsIn K mainGlobals "Joins"=some (some (.ref bM)))
  (Gi:makesIn K bM=true)
  (Gj:keepIn K (.ref bM)=true)
  (FD:plainGet K bM Str.empty=true)
  (Gk:hasDictIn K bM=true)
  (FE:plainOver K bM=true)
  (Gm:PySem.W.findIn K (.ref bM) "__setattr__"=some (some (.builtin "object.__setattr__")))
  (Di:PySem.W.findIn K (.ref bM) "size"=some none)
  (CU:PySem.W.findIn K (.ref bM) "heads"=some none)
  (CV:PySem.W.findIn K (.ref bM) "leads"=some none)
  (B3:PySem.W.findIn K (.ref bM) "members"=some none)
  (Dj:PySem.W.findIn K (.ref bM) "free"=some none)
  (DO:bo K bM "__init__" "Joins.__init__" Dw Zx)
  (Et:bo K bM "add" "Joins.add" D9 Zac)
  (Eu:bo K bM "tie" "Joins.tie" D_ Zad)
  (Ew:bo K bM "say" "Joins.say" Ea Zae)
  (Cq:bo K bM "open_at" "Joins.open_at" Cb XS)
  (DP:bo K bM "left" "Joins.left" Dx Zy)
  (B4:bo K bM "together" "Joins.together" BV XC)
  (Dk:bo K bM "pairs" "Joins.pairs" C7 YR)
  (CW:bo K bM "narrow" "Joins.narrow" CD X7)
  (Bx:bo K bM "bring_together" "Joins.bring_together" Bv Xf)
  (DQ:bo K bM "move" "Joins.move" Dy Zz)
  (Cr:bo K bM "head_of" "Joins.head_of" Cc XT)
  (FG:nsIn K mainGlobals "Hearth"=some (some (.ref bZ)))
  (FH:makesIn K bZ=true)
  (FI:keepIn K (.ref bZ)=true)
  (E7:plainGet K bZ Str.empty=true)
  (FJ:hasDictIn K bZ=true)
  (E8:plainOver K bZ=true)
  (FK:PySem.W.findIn K (.ref bZ) "__setattr__"=some (some (.builtin "object.__setattr__")))
  (CY:PySem.W.findIn K (.ref bZ) "land"=some none)
  (Cs:PySem.W.findIn K (.ref bZ) "sides"=some none)
  (B5:PySem.W.findIn K (.ref bZ) "places"=some none)
  (Ct:PySem.W.findIn K (.ref bZ) "facts"=some none)
  (Cu:PySem.W.findIn K (.ref bZ) "known"=some none)
  (BQ:PySem.W.findIn K (.ref bZ) "parents"=some none)
  (B6:PySem.W.findIn K (.ref bZ) "coming"=some none)
  (CZ:PySem.W.findIn K (.ref bZ) "done"=some none)
  (B7:PySem.W.findIn K (.ref bZ) "undone"=some none)
  (BI:PySem.W.findIn K (.ref bZ) "reckoned"=some none)
  (Dl:bo K bZ "__init__" "Hearth.__init__" C8 YS)
  (Cv:bo K bZ "person" "Hearth.person" Cd XU)
  (DR:bo K bZ "tie" "Hearth.tie" Dz ZA)
  (DS:bo K bZ "say" "Hearth.say" DA ZC)
  (Dm:bo K bZ "keep" "Hearth.keep" C9 YT)
  (Dn:bo K bZ "take" "Hearth.take" C_ YU)
  (Cw:bo K bZ "people" "Hearth.people" Ce XW)
  (B8:bo K bZ "side_of" "Hearth.side_of" BW XD)
  (Mr:bo K bZ "kept" "Hearth.kept" YF YV)
  (DT:bo K bZ "has" "Hearth.has" DB ZD)
  (BJ:bo K bZ "parent_of" "Hearth.parent_of" BC Xn)
  (BB:bo K bZ "parents_of" "Hearth.parents_of" By Xl)
  (C0:bo K bZ "joins" "Hearth.joins" CF X8)
  (B9:bo K bZ "do_deed" "Hearth.do_deed" BX XE)
  (C1:bo K bZ "shift" "Hearth.shift" CG X9)
  (Cy:bo K bZ "put_in" "Hearth.put_in" Cf XX)
  (BK:bo K bZ "note_fact" "Hearth.note_fact" BD Xo)
  (BR:bo K bZ "take_out" "Hearth.take_out" BM Xt)
  (BU:bo K bZ "place_of" "Hearth.place_of" BN Xu)
  :∃fd:FuncData,(∀(s:Shared) (v:Value),BindsTo s fd ⟨[v],[]⟩ [("_law_script",v)])/\∀base:Heap,K.In base->base.Ns mainGlobals mg->aH l.prog w K mg base (nK l.prog w) 16 fa fd ["_law_script"] (zT K):=by
 obtain @⟨od,an,sl,oc,kV,dc,pm,cd,ct,ax,lx,cx,kx⟩:=Mj;have e:=cV.symm.trans (mg_of X G ax);cases e;have bl:Bl mg:=⟨mg_none_of X G Ij,mg_none_of X G Ik,mg_none_of X G Hm,mg_none_of X G GJ,mg_none_of X G GK,mg_none_of X G Il,mg_none_of X G Im,mg_none_of X G DI,mg_none_of X G Hn,mg_none_of X G Io,mg_none_of X G Ip,mg_none_of X G Gd,mg_none_of X G Iq,mg_none_of X G Ir,mg_none_of X G Iu,mg_none_of X G Ho,mg_none_of X G E3,mg_none_of X G DJ⟩;have DC:=mg_of X G Dg;have Eb:=mg_of X G DK;have CK:=mg_of X G Cp;have ow:=mg_of X G FC;have Eh:=mg_of X G DL;have tL:=mg_of X G CQ;have iU:=mg_of X G E4;have wb:∀H,aA K H dF [.str "mother",.str "father"]:=λ_=>.inr ⟨_,_,_,E5,rfl,rfl,by show 2<=sizeLine;decide,(.cons ⟨_,rfl⟩ (.cons ⟨_,rfl⟩ .nil))⟩;have rR:=mg_of X G Hq;have rA:=mg_of X G Ge;have BG:=mg_of X G BA;have B0:=mg_of X G BP;have kN:=mg_of X G GL;have oq:=mg_of X G E6;have ZfI:=mg_of X G GN;have Ss:fZ K b_:=⟨Gf,GQ,Gg,GR⟩;have Zej:=mg_of X G Gh;have kM:fZ K bM:=⟨FD,Gk,FE,Gm⟩;have Zc6:=mg_of X G FG;have gq:fZ K bZ:=⟨E7,FJ,E8,FK⟩;refine⟨fnOf "law" "law" (oA rO) (lP rO) (aJ rO) .none kV dc pm an cd ct,λs v=>.of_eq rfl,λbase _ _=>?_⟩;have F:=wz (st:=rO) lx cx kx;have D:nM l.prog w K mg base:=⟨X,G⟩;have lc:uE K b_:=⟨Ss,DM,CS,CT,DN,Dh⟩;have jc:lS K bM:=⟨kM,Di,CU,CV,B3,Dj⟩;have hc:fP K bZ:=⟨gq,CY,Cs,B5,Ct,Cu,BQ,B6,CZ,B7,BI⟩;have t6:=D.d LX (λ_ F=>ZdH F bl.cU);have tV:=D.d LY (λ_ F=>Zcv F bl.ZfZ);have t_:=D.d p1 (λ_ F=>ZaA F bl);have pV:=D.d p9 (λ_ F=>ZU F bl);have oh:=D.d LD (λ_ F=>X3 F bl);have uq:=D.d p2 (λ_ F=>Zcy F bl);have Ed:=D.m Ss Es (λ_ F=>ZdN F lc);have GD:=D.i (y:="Joins") Zej Gi Gj DO (λ_ F=>ZcC F jc bl);have tI:=D.m kM B4 (λ_ F=>ZV F jc bl);have jI:=D.m kM Cq (λ_ F=>ZaE F jc bl);have tJ:=D.m kM CW (λ_ F=>ZbC F jc bl);have ui:=D.d LG (λ_ F=>ZbH F tL yw);have oi:=D.d LH (λ_ F=>ZZ F oq bl);have oa:=D.m gq Cw (λ_ F=>ZbI (CL:=b_) (CJ:=bM) F hc bl);have qV:=D.m gq B8 (λ_ F=>ZaJ (CL:=b_) (CJ:=bM) F hc bl);have tS:=D.d LS (λ_ F=>Zj F bl);have BH:=D.m gq BJ (λ_ F=>Zk (CL:=b_) (CJ:=bM) F hc);have Bz:=D.m gq BB (λ_ F=>YM (CL:=b_) (CJ:=bM) F hc iU wb);have Ft:=D.d LK (λ_ F=>ZaM F CK BG B0 bl);have Gb:=D.i (y:="Hearth") Zc6 FH FI Dl (λ_ F=>ZcW (CL:=b_) (CJ:=bM) F hc);have Ei:=D.d LN (λ_ F=>Zm F rR rA oq);have Cm:=D.d LR (λ_ F=>XA (C:=bZ) (CL:=b_) (CJ:=bM) F hc lc bl);have Ek:=D.d L3 (λ_ F=>Zq F bl);have qX:=D.d L1 (λ_ F=>ZaO F bl);have De:=D.d L7 (λ_ F=>ZaP F bl);have EW:=D.d Ma (λ_ F=>Z2 F);have El:=D.d Mb (λ_ F=>Zs F);have F5:=D.d L_ (λ_ F=>ZbM F bl);have yJ:=D.d Md (λ_ F=>Z4 F bl);have EX:=D.d L9 (λ_ F=>Z6 F bl);have tH:=D.m gq BU (λ_ F=>Z_ (CL:=b_) (CJ:=bM) F hc);have Co:=D.m kM Cr (λ_ F=>ZaY F jc);have Eo:=D.d Mi (λ_ F=>ZbR F bl);have EU:=D.d LZ (λ_ F=>ZdI F bl.rF bl.jM bl.mV);have pU:HasFn l.prog w K mg base 4 "_law_same" ["_law_found","_law_due"] (rG 4):=let⟨_,F,b,k,m⟩:=D.p (ps:=["_law_found","_law_due"]) L5;⟨_,_,Qg F b k m bl 4,b,k,m⟩;have qY:=D.d p5 (λ_ F=>Zfs F t_);have tN:=D.d p6 (λ_ F=>ZdL F t_ DC Eb bl);have tT:=D.m kM Et (λ_ F=>Zft F jc uq bl);have Ee:=D.m kM Ew (λ_ F=>Zfu F jI tJ bl);have yx:=D.m kM DQ (λ_ F=>ZdP F jc pV oh bl);have Dd:=D.m kM Dk (λ_ F=>ZcG F jc tI jI bl);have tZ:=D.d mN (λ_ F=>ZX (CL:=b_) F tL yw lc ui Ed);have tQ:=D.m gq DT (λ_ F=>ZfA (CL:=b_) (CJ:=bM) F hc oi);have BE:=D.m gq BK (λ_ F=>Zd1 (CL:=b_) (CJ:=bM) F hc iU wb oi);have BO:=D.m gq BR (λ_ F=>Z0 (CL:=b_) (CJ:=bM) F hc iU wb tS oi);have CM:=D.d LL (λ_ F=>XJ (C:=bZ) (CL:=b_) (CJ:=bM) F Ft rR rA oa);have ET:=D.d LF (λ_ F=>Z1 (C:=bZ) (CL:=b_) (CJ:=bM) F Bz);have yU:=D.d L0 (λ_ F=>ZaN F tV EU bl);have EV:=D.d L6 (λ_ F=>Zd9 F qX bl);have En:=D.d L4 (λ_ F=>ZcY F qX Ek bl);have EY:=D.d Me (λ_ F=>Z5 F yJ bl);have uh:=D.d p3 (λ_ F=>Zgi F qY pV bl);have wF:=D.d p4 (λ_ F=>Zgj F qY oh bl);have Bw:=D.m kM Bx (λ_ F=>ZcF F jc oh yx bl);have tP:=D.m kM DP (λ_ F=>ZdQ F Dd bl);have CN:=D.d LO (λ_ F=>Zd5 (C:=bZ) (CL:=b_) (CJ:=bM) F oq iU wb BH tQ);have CO:=D.d LP (λ_ F=>XN (C:=bZ) (CL:=b_) (CJ:=bM) F ET);have CP:=D.d LQ (λ_ F=>XQ (C:=bZ) (CL:=b_) (CJ:=bM) F kN qV Cm tQ);have t4:=D.d L8 (λ_ F=>Zea F EV De bl);have Cg:=D.d p7 (λ_ F=>ZaB F uh bl);have Ef:=D.m kM Eu (λ_ F=>Zfx F jc tP tI Bw tJ bl);have Eg:=D.d LJ (λ_ F=>Zh (CL:=b_) (CJ:=bM) F kN tZ jI tP);have Ej:=D.d LM (λ_ F=>Zo (C:=bZ) (CL:=b_) (CJ:=bM) F iU wb ui Ei qV CN CO);have EZ:=D.d Mc (λ_ F=>Z3 F El EW F5 t4 bl);have G8:=D.i (y:="Land") ZfI GO GP Ep (λ_ F=>ZdM F lc tN Cg wF uq bl);have tU:=D.d LI (λ_ F=>Zg (CL:=b_) (CJ:=bM) F kN tZ Ee Ef);have FA:=D.d p8 (λ_ F=>ZaD (C:=b_) F tN uh G8);have Cj:=D.m gq Cy (λ_ F=>ZbK (CL:=b_) (CJ:=bM) F hc tS tT BE tU bl);have og:=D.m gq C0 (λ_ F=>ZcU (CL:=b_) (CJ:=bM) F hc lc GD tT tU);have CI:=D.m gq C1 (λ_ F=>ZcT (CL:=b_) (CJ:=bM) F hc ow Cj BO);have Fz:=D.d LU (λ_ F=>ZaW (C:=bZ) (CL:=b_) (CJ:=bM) F og tH jI);have zc:=D.d LV (λ_ F=>ZbP (C:=bZ) (CL:=b_) (CJ:=bM) F og oa tH Co bl);have n_:=D.m gq B9 (λ_ F=>ZaK (CL:=b_) (CJ:=bM) F hc CI);have yV:=D.d LW (λ_ F=>ZaZ (C:=bZ) (CL:=b_) (CJ:=bM) F Fz oa bl);have Cn:=D.m gq Cv (λ_ F=>ZbL (CL:=b_) (CJ:=bM) F hc ow CM n_);have tM:=D.m gq Dm (λ_ F=>Zd3 (CL:=b_) (CJ:=bM) F hc ow Eg og n_);have Df:=D.m gq Dn (λ_ F=>Zd4 (CL:=b_) (CJ:=bM) F hc Eh n_);have DH:=D.m gq DR (λ_ F=>Zd6 (CL:=b_) (CJ:=bM) F hc Ej tM);have DG:=D.m gq DS (λ_ F=>Zd7 (CL:=b_) (CJ:=bM) F hc kN CP tM);have Fw:=D.d Mf (λ_ F=>ZaU (C:=bZ) (CL:=b_) (CJ:=bM) F DG DH);have E1:=D.d Mg (λ_ F=>Z8 (C:=bZ) (CL:=b_) (CJ:=bM) F tV EX EY EZ Fw Cn Df bl);have E2:=D.d Mh (λ_ F=>Z9 (C:=bZ) (CL:=b_) (CJ:=bM) F E1 bl);exact ZfG F t6 yU En pU t4 E2 Eo zc yV FA Gb bl
theorem walk{l:PySem.W.OpenLaw}{q:Program}{loose:List Str}{XP:(Str->Option Value)->Heap->Prop}{YP:World->Heap->Prop}{d:DefRec}{K:Params->PySem.W.Frag}(hn:l.most=some 63)(xB:d.params.defaults=[])
  (hY:∀(w:World) (h:Heap),YP w h->(K w.params).In h)
  (F:∀(w:World) (mg:Str->Option Value) (fa:Addr) (h:Heap),(K w.params).In h->h.Ns mainGlobals mg->mg d.name=some (.ref fa)->
   ∃fd:FuncData,(∀(s:Shared) (u:Value),BindsTo s fd ⟨[u],[]⟩ [("_law_script",u)])/\∀base:Heap,(K w.params).In base->base.Ns mainGlobals mg->aH l.prog w (K w.params) mg base (nK l.prog w) 16 fa fd ["_law_script"] (zT (K w.params))):
  PySem.W.WalkO q loose XP YP l.row.toRowW d [] (λf vs=>PySem.call f vs):=
 L2.Zdl (n:=63) (k:=16) (x:="_law_script") (CX:=λw=>nK l.prog w) (sp:=λw=>zT (K w.params)) hn (by decide) xB ⟨rfl,by decide,by decide,rfl⟩ hY F (λ_ _ a ns hl _ hS=>⟨a,ns,rfl,hS,hl,λ_=>rfl⟩) λ_ _ _ _ _ h=>by obtain⟨_,_,_,_,_,_,_,_,_,_,_,_,_,_,z⟩:=h;exact z
end Ko
namespace PySem.W.Fast
def tw599091978234078538:=0
def tw7260363886209276905:=0
def tw9563759019661871200:=0
def tw15629669725994298560:=0
def tw14785748566959690048:=0
def tw2952836435528748416:=0
def tw10845537328513976032:=0
def tw11040756695905505345:=0
def tw10061924957256684929:=0
def tw6479990524272803266:=0
def tw15392775634673762114:=0
def tw13301750944678554819:=0
def tw13341006671855892741:=0
def tw13430043930151068393:=0
def tw6499860420276511914:=0
def tw14903307746856212042:=0
def tw10749002751047398154:=0
def tw8983692058066581581:=0
def tw1514880947668798605:=0
def tw307321973325413901:=0
def tw8291162169391559790:=0
def tw1965768425642287310:=0
def tw5810578497240205102:=0
def tw15615625593676768816:=0
def tw15149401574145131120:=0
def tw15737192365206332016:=0
def tw2088863667838409937:=0
def tw11795506238738055153:=0
def tw14115016102102966706:=0
def tw17174115684955637170:=0
def tw12027943503276383859:=0
def tw266361342721396595:=0
def tw12047583529114102292:=0
def tw1393826926797528724:=0
def tw14007921286097960660:=0
def tw15811684534444778613:=0
def tw4069355214200597269:=0
def tw15374306986751407029:=0
def tw11965827235082203830:=0
def tw16465557902729885654:=0
def tw12837032830164318198:=0
def tw13080982850177434680:=0
def tw6277334809380070584:=0
def tw2878172951269111224:=0
def tw6205433528344286713:=0
def tw8122136054463912729:=0
def tw11351038484259853241:=0
def tw16754164831188566426:=0
def tw8978675796481348250:=0
def tw386581380317480155:=0
def tw569411877308814843:=0
def tw13301729570677090876:=0
def tw7471752781827865308:=0
def tw2229929943693858748:=0
def tw14111693379782809181:=0
def tw5950670614506800797:=0
def tw5851558038965293438:=0
def tw2827948709938615807:=0
def tw6506970684341153695:=0
def tw1618486841179253006:=0
def tw1281268046889623432:=0
def tw4698690239006317161:=0
def tw17528429206701390213:=0
def tw11704661011547540621:=0
def tw17342398775053986090:=0
def tw13131636476594341857:=0
def tw15029026299595779107:=0
def tw15193868295696875207:=0
def tw6789618326388090880:=0
def tw213259670269490723:=0
def tw1249847799380093533:=0
def tw7549226962274161629:=0
def tw11548665247698839059:=0
def tw8279537240294120193:=0
def tw924215552479537881:=0
def tw11378827492320196214:=0
def tw2927161762848462210:=0
def tw5172045850410550275:=0
def tw9783064951388836295:=0
def tw15426551337216092753:=0
def tw4515249047988578601:=0
def tw1206456095853521745:=0
def tw9264115246454952188:=0
def tw17547940983749396864:=0
def tw8527261643879966030:=0
def tw13059119631504515387:=0
def tw17912504426213176487:=0
def tw12020559146608818230:=0
def tw12285404004421049029:=0
def tw14679082359116972893:=0
def tw11410524931483797700:=0
def tw2763641247947229145:=0
def tw16505964536817850994:=0
def tw2497024209027290399:=0
def tw14170986715699101019:=0
def tw4685128351514917834:=0
def tw9536055600391653285:=0
def tw4480991667107291010:=0
def tw17358757161714294899:=0
def tw11529182046104353046:=0
def tw3759908956279911830:=0
def tw10375468421355920236:=0
def tw9857124134807379784:=0
def tw4016661153983538645:=0
def tw2356559846796781935:=0
def tw9224163059564616140:=0
def tw4273549418052562931:=0
def tw553467199132969800:=0
def tw2792696486507665467:=0
def tw15001879146582788497:=0
def tw425577073570178678:=0
def tw8565381591325917511:=0
def tw5200271063901940983:=0
def tw13203671505713434565:=0
def tw17193861359392294171:=0
def tw15661790963870315625:=0
def tw12611589477355019697:=0
def tw10292504576870924050:=0
def tw3124177272020975814:=0
def tw5264984807185218849:=0
def tw9679160441043007758:=0
def tw1411727860124774308:=0
def tw14829312837307241686:=0
def tw18108598384185421736:=0
def tw14326173221073232491:=0
def tw8475828010839226883:=0
def tw7370676771749510078:=0
def tw12036164795890299505:=0
def tw12285233962964586477:=0
def tw9856266628383654087:=0
def tw3578896745039952195:=0
def tw12051323986673447581:=0
def tw13268906302643692046:=0
def tw5062784715943698682:=0
def tw1143482025380530920:=0
def tw12924404646452936705:=0
def tw15198141109796854492:=0
def tw14299965377897173391:=0
def tw14753064539887200451:=0
def tw1845164297227314090:=0
def tw6386866417247157327:=0
def tw8011378125154733957:=0
def tw6886574020236279133:=0
def tw16897658015627422853:=0
def tw3672375588204837679:=0
def tw12353742628756837472:=0
def tw1584382973536463427:=0
def tw8240538509132801489:=0
def tw3319147848807141375:=0
def tw17900853995891308546:=0
def tw7816510660925965008:=0
def tw14772649103641348148:=0
def tw14793308638707117645:=0
def tw18048784784125119148:=0
def tw17286880073713597192:=0
def tw1125945151810028579:=0
def tw16874333965172703578:=0
def tw2015547858416370976:=0
def tw17869656790002599689:=0
def tw4178790843404344791:=0
def tw7435111758010587781:=0
def tw12520047947687159021:=0
def tw8145318401047618842:=0
def tw15757756164966500931:=0
def tw3983048654533074969:=0
def tw11428212333019716988:=0
def tw6937395569451459271:=0
def tw1693832133503653131:=0
def tw261614954349764039:=0
def tw23903317371801605:=0
def tw2248729428675619016:=0
def tw8092374263651878783:=0
def tw14809831110927873937:=0
def tw10666829022960209740:=0
def tw6792154390475988488:=0
def tw10426078631525390902:=0
def tw17310860016544355623:=0
def tw10160348297172413817:=0
def tw17649964717918611962:=0
def tw10165744674496333854:=0
def tw2110812988579933906:=0
def tw15432231285513709048:=0
def tw3980032890729474688:=0
def tw11127699226889804841:=0
def tw14345460263089529116:=0
def tw614993129173904921:=0
def tw12860135947693287289:=0
def tw9709258927509862730:=0
def tw5964567575489079182:=0
def tw5679821461987888882:=0
def tw15335655673284081746:=0
def tw17458841242107594980:=0
def tw7161394989294396963:=0
def tw22447755145062137:=0
def tw5913863086644425412:=0
def tw11865266335968087397:=0
def tw8893844252371134613:=0
def tw4654772899327055276:=0
def tw7493780734417060596:=0
def tw9887335824242578693:=0
def tw13113049561448315157:=0
def tw9508855292790128705:=0
def tw11726947226613919650:=0
def tw2801225783009230936:=0
def tw9479782273675542747:=0
def tw12801535870223933974:=0
def tw3464451373019410599:=0
def tw11399253914088247097:=0
def tw12771543154063665073:=0
def tw2972920654663004931:=0
def tw15298757778067074863:=0
def tw3678488098319989344:=0
def tw17876014518584929833:=0
def tw3363122743541350033:=0
def tw17327685413883321882:=0
def tw10390232103026017240:=0
def tw14947163046441590701:=0
def tw7255876780528567222:=0
def tw14659495046242707835:=0
def tw16834376964736426252:=0
def tw15046994810938377144:=0
def tw14419100740109818256:=0
def tw14621469528019122558:=0
def tw9230668797171607211:=0
def tw4288728279671290978:=0
def tw12177178808169817908:=0
def tw7017438553167707216:=0
def tw9308037620604283606:=0
def tw15593685063876920002:=0
def tw14007412826360226208:=0
def tw16232735549943499951:=0
def tw15884963451631444089:=0
def tw16791206921356974858:=0
def tw11129938470524803966:=0
def tw9771160174776122867:=0
def tw7492629624424318374:=0
def tw6957107821604949992:=0
def tw14626956556823062662:=0
def tw11318263802626551795:=0
def tw587732594009770452:=0
def tw2057069568904749835:=0
def tw15453118803658692449:=0
def tw14260609615213413846:=0
def tw13835905745042884642:=0
def tw233768787957567811:=0
def tw5100293625589785154:=0
def tw6856580667877844722:=0
def tw13281436133536485423:=0
def tw3122272269071937520:=0
def tw8915768172380850679:=0
def tw10917767977224235330:=0
def tw16539824256827862369:=0
def tw4334133543699221901:=0
def tw17774863229128823316:=0
def tw1346900225540433665:=0
def tw10379262407181104861:=0
def tw10996634394643936861:=0
def tw14308012599132924589:=0
def tw6523090183039557376:=0
def tw11957886717898577536:=0
def tw8333421522204981423:=0
def tw3984286153857485071:=0
def tw7891817222454883198:=0
def tw4800107682169923318:=0
def tw2073434221511653187:=0
def tw4984388790340602327:=0
def tw9387457134971641650:=0
def tw7702944962569247870:=0
def tw11333547515558832873:=0
def tw9185101732354332046:=0
def tw15052504273181873913:=0
def tw1351266658731666624:=0
def tw3530990743035623093:=0
def tw10468882470421734341:=0
def tw10841997113790206752:=0
def tw3430566852681664594:=0
def tw6899865214983682197:=0
def tw16299632755133540703:=0
def tw9549753721830543512:=0
def tw12604488889556233494:=0
def tw15245953429358923609:=0
def tw12093803865145249397:=0
def tw14660867717692357435:=0
def tw3181200736718003326:=0
def tw14238314320126049790:=0
def tw8784323020394954635:=0
def tw2294569318677683913:=0
def tw13039491550854408935:=0
def tw9573509511630216577:=0
def tw8466865552732052603:=0
def tw7445478716870034552:=0
def tw6431441684900280866:=0
def tw16222404686801760595:=0
def tw15263753043038286519:=0
def tw12948196453297208449:=0
def tw11333036722733691648:=0
def tw14973178027897338695:=0
def tw9514786975248207957:=0
def tw13360552365968546570:=0
def tw3795835262797801197:=0
def tw6988893084398838615:=0
def tw10774265850802877458:=0
def tw3968487294757817011:=0
def tw9038915833914125631:=0
def tw17106990804997403660:=0
def tw8724677445765884842:=0
def tw16239561555382141434:=0
def tw5557314489028490255:=0
def tw10070378497748047954:=0
def tw4606405898787215168:=0
def tw10504117266971605893:=0
def tw15969023712064215563:=0
def tw9368415460814509285:=0
def tw9153339747385403577:=0
def tw14492941320725896091:=0
def tw5119196411950478309:=0
def tw4428808093323140141:=0
def tw11520673366927867073:=0
def tw6297963848721634910:=0
def tw16235013523509530602:=0
def tw9434084685387942659:=0
def tw13421398084016396667:=0
def tw10191366166507923153:=0
def tw17329021756683803608:=0
def tw14472892430997523600:=0
def tw2398136182737957751:=0
def tw12141873388865839468:=0
def tw4737815685400918163:=0
def tw1317662171559913492:=0
def tw9138519698143638904:=0
def tw8175955767160605368:=0
def tw16009184998137858020:=0
def tw8616706799748452627:=0
def tw13418516976040444517:=0
def tw1972385308616573325:=0
def tw5089387040464043927:=0
def tw2471186364826279536:=0
def tw2202793478559175797:=0
def tw14071872584411111890:=0
def tw2560435174741827955:=0
def tw10034741573151436342:=0
def tw9565641980482958409:=0
def tw18361890386231886251:=0
def tw13974999915839649086:=0
def tw9521915995804914082:=0
def tw5595127993337556706:=0
def tw55172298746506889:=0
def tw3944030209380638905:=0
def tw2107155560489485779:=0
def tw12778352782711018082:=0
def tw12497943907424615297:=0
def tw10242807311867938562:=0
def tw8378586723230787966:=0
def tw6583080719955261300:=0
def tw1539345729533827529:=0
def tw803091788925749075:=0
def tw6792729972488665858:=0
def tw444604784030600246:=0
def tw3971365511638622138:=0
def tw1865259523290488546:=0
def tw16940671571819605599:=0
def tw14943886920551373029:=0
def tw14681737142646108683:=0
def tw2024567779357815175:=0
def tw3762037902761149173:=0
def tw7103501000542360416:=0
def tw1120685331566633562:=0
def tw7488178486406373992:=0
def tw6253091986516353448:=0
def tw18277793428203302970:=0
def tw10769455729659762025:=0
def tw11654199724059637552:=0
def tw9497973213008111310:=0
def tw114607649473756741:=0
def tw5403087747350001271:=0
def tw4527183008988786128:=0
def tw6359811155140906230:=0
def tw6269685992115773184:=0
def tw622871867838710215:=0
end PySem.W.Fast
open PySem PySem.W PyProof.Rows
set_option maxRecDepth 100000 in
set_option maxHeartbeats 0 in
theorem PySem.Challenge.cw_kinhearth_k33_groups_and_settled_ones_holds : PySem.Challenge.rw_kinhearth_k33_groups_and_settled_ones.Holds := by
 w_on; o_law; k_head; (case hw=>w_witness2)
 k_fill
 refine Ko.walk (l:=PySem.Challenge.rw_kinhearth_k33_groups_and_settled_ones) rfl rfl (λ w h Y=>kIn_of Y) ?F
 case F=>
  intro w mg fa h KX G xC
  refine' Ko.all_mk KX G xC ?p1 ?p2 ?p3 ?p4 ?p5 ?p6 ?p7 ?p8 ?p9 ?LD ?LF ?LG ?mN ?LH ?LI ?LJ ?LK ?LL ?LM ?LN ?LO ?LP ?LQ ?LR ?LS ?LU ?LV ?LW ?LX ?LY ?LZ ?L0 ?L1 ?L3 ?L4 ?L5 ?L6 ?L7 ?L8 ?L9 ?L_ ?Ma ?Mb ?Mc ?Md ?Me ?Mf ?Mg ?Mh ?Mi ?Mj ?Ij ?Ik ?Hm ?GJ ?GK ?Il ?Im ?DI ?Hn ?Io ?Ip ?Gd ?Iq ?Ir ?Iu ?Ho ?E3 ?DJ ?Dg ?DK ?Cp ?FC ?DL ?CQ ?yw ?E4 ?E5 ?Hq ?Ge ?BA ?BP ?GL ?E6 ?GN ?GO ?GP ?Gf ?GQ ?Gg ?GR ?DM ?CS ?CT ?DN ?Dh ?Ep ?Es ?Gh ?Gi ?Gj ?FD ?Gk ?FE ?Gm ?Di ?CU ?CV ?B3 ?Dj ?DO ?Et ?Eu ?Ew ?Cq ?DP ?B4 ?Dk ?CW ?Bx ?DQ ?Cr ?FG ?FH ?FI ?E7 ?FJ ?E8 ?FK ?CY ?Cs ?B5 ?Ct ?Cu ?BQ ?B6 ?CZ ?B7 ?BI ?Dl ?Cv ?DR ?DS ?Dm ?Dn ?Cw ?B8 ?Mr ?DT ?BJ ?BB ?C0 ?B9 ?C1 ?Cy ?BK ?BR ?BU
  (case p1=>apply L2.aG.mk<;>k_is)
  (case p2=>apply L2.aG.mk<;>k_is)
  (case p3=>apply L2.aG.mk<;>k_is)
  (case p4=>apply L2.aG.mk<;>k_is)
  (case p5=>apply L2.aG.mk<;>k_is)
  (case p6=>apply L2.aG.mk<;>k_is)
  (case p7=>apply L2.aG.mk<;>k_is)
  (case p8=>apply L2.aG.mk<;>k_is)
  (case p9=>apply L2.aG.mk<;>k_is)
  (case LD=>apply L2.aG.mk<;>k_is)
  (case LF=>apply L2.aG.mk<;>k_is)
  (case LG=>apply L2.aG.mk<;>k_is)
  (case mN=>apply L2.aG.mk<;>k_is)
  (case LH=>apply L2.aG.mk<;>k_is)
  (case LI=>apply L2.aG.mk<;>k_is)
  (case LJ=>apply L2.aG.mk<;>k_is)
  (case LK=>apply L2.aG.mk<;>k_is)
  (case LL=>apply L2.aG.mk<;>k_is)
  (case LM=>apply L2.aG.mk<;>k_is)
  (case LN=>apply L2.aG.mk<;>k_is)
  (case LO=>apply L2.aG.mk<;>k_is)
  (case LP=>apply L2.aG.mk<;>k_is)
  (case LQ=>apply L2.aG.mk<;>k_is)
  (case LR=>apply L2.aG.mk<;>k_is)
  (case LS=>apply L2.aG.mk<;>k_is)
  (case LU=>apply L2.aG.mk<;>k_is)
  (case LV=>apply L2.aG.mk<;>k_is)
  (case LW=>apply L2.aG.mk<;>k_is)
  (case LX=>apply L2.aG.mk<;>k_is)
  (case LY=>apply L2.aG.mk<;>k_is)
  (case LZ=>apply L2.aG.mk<;>k_is)
  (case L0=>apply L2.aG.mk<;>k_is)
  (case L1=>apply L2.aG.mk<;>k_is)
  (case L3=>apply L2.aG.mk<;>k_is)
  (case L4=>apply L2.aG.mk<;>k_is)
  (case L5=>apply L2.aG.mk<;>k_is)
  (case L6=>apply L2.aG.mk<;>k_is)
  (case L7=>apply L2.aG.mk<;>k_is)
  (case L8=>apply L2.aG.mk<;>k_is)
  (case L9=>apply L2.aG.mk<;>k_is)
  (case L_=>apply L2.aG.mk<;>k_is)
  (case Ma=>apply L2.aG.mk<;>k_is)
  (case Mb=>apply L2.aG.mk<;>k_is)
  (case Mc=>apply L2.aG.mk<;>k_is)
  (case Md=>apply L2.aG.mk<;>k_is)
  (case Me=>apply L2.aG.mk<;>k_is)
  (case Mf=>apply L2.aG.mk<;>k_is)
  (case Mg=>apply L2.aG.mk<;>k_is)
  (case Mh=>apply L2.aG.mk<;>k_is)
  (case Mi=>apply L2.aG.mk<;>k_is)
  (case Mj=>apply L2.aG.mk<;>k_is)
  (case Ij=>k_is)
  (case Ik=>k_is)
  (case Hm=>k_is)
  (case GJ=>k_is)
  (case GK=>k_is)
  (case Il=>k_is)
  (case Im=>k_is)
  (case DI=>k_is)
  (case Hn=>k_is)
  (case Io=>k_is)
  (case Ip=>k_is)
  (case Gd=>k_is)
  (case Iq=>k_is)
  (case Ir=>k_is)
  (case Iu=>k_is)
  (case Ho=>k_is)
  (case E3=>k_is)
  (case DJ=>k_is)
  (case Dg=>k_is)
  (case DK=>k_is)
  (case Cp=>k_is)
  (case FC=>k_is)
  (case DL=>k_is)
  (case CQ=>k_is)
  (case yw=>kernel_rfl)
  (case E4=>k_is)
  (case E5=>k_is)
  (case Hq=>k_is)
  (case Ge=>k_is)
  (case BA=>k_is)
  (case BP=>k_is)
  (case GL=>k_is)
  (case E6=>k_is)
  (case GN=>k_is)
  (case GO=>k_is)
  (case GP=>k_is)
  (case Gf=>k_is)
  (case GQ=>k_is)
  (case Gg=>k_is)
  (case GR=>k_is)
  (case DM=>k_is)
  (case CS=>k_is)
  (case CT=>k_is)
  (case DN=>k_is)
  (case Dh=>k_is)
  (case Ep=>apply L2.bo.mk<;>k_is)
  (case Es=>apply L2.bo.mk<;>k_is)
  (case Gh=>k_is)
  (case Gi=>k_is)
  (case Gj=>k_is)
  (case FD=>k_is)
  (case Gk=>k_is)
  (case FE=>k_is)
  (case Gm=>k_is)
  (case Di=>k_is)
  (case CU=>k_is)
  (case CV=>k_is)
  (case B3=>k_is)
  (case Dj=>k_is)
  (case DO=>apply L2.bo.mk<;>k_is)
  (case Et=>apply L2.bo.mk<;>k_is)
  (case Eu=>apply L2.bo.mk<;>k_is)
  (case Ew=>apply L2.bo.mk<;>k_is)
  (case Cq=>apply L2.bo.mk<;>k_is)
  (case DP=>apply L2.bo.mk<;>k_is)
  (case B4=>apply L2.bo.mk<;>k_is)
  (case Dk=>apply L2.bo.mk<;>k_is)
  (case CW=>apply L2.bo.mk<;>k_is)
  (case Bx=>apply L2.bo.mk<;>k_is)
  (case DQ=>apply L2.bo.mk<;>k_is)
  (case Cr=>apply L2.bo.mk<;>k_is)
  (case FG=>k_is)
  (case FH=>k_is)
  (case FI=>k_is)
  (case E7=>k_is)
  (case FJ=>k_is)
  (case E8=>k_is)
  (case FK=>k_is)
  (case CY=>k_is)
  (case Cs=>k_is)
  (case B5=>k_is)
  (case Ct=>k_is)
  (case Cu=>k_is)
  (case BQ=>k_is)
  (case B6=>k_is)
  (case CZ=>k_is)
  (case B7=>k_is)
  (case BI=>k_is)
  (case Dl=>apply L2.bo.mk<;>k_is)
  (case Cv=>apply L2.bo.mk<;>k_is)
  (case DR=>apply L2.bo.mk<;>k_is)
  (case DS=>apply L2.bo.mk<;>k_is)
  (case Dm=>apply L2.bo.mk<;>k_is)
  (case Dn=>apply L2.bo.mk<;>k_is)
  (case Cw=>apply L2.bo.mk<;>k_is)
  (case B8=>apply L2.bo.mk<;>k_is)
  (case Mr=>apply L2.bo.mk<;>k_is)
  (case DT=>apply L2.bo.mk<;>k_is)
  (case BJ=>apply L2.bo.mk<;>k_is)
  (case BB=>apply L2.bo.mk<;>k_is)
  (case C0=>apply L2.bo.mk<;>k_is)
  (case B9=>apply L2.bo.mk<;>k_is)
  (case C1=>apply L2.bo.mk<;>k_is)
  (case Cy=>apply L2.bo.mk<;>k_is)
  (case BK=>apply L2.bo.mk<;>k_is)
  (case BR=>apply L2.bo.mk<;>k_is)
  (case BU=>apply L2.bo.mk<;>k_is)
