import PyProof.Rows.All
import Wide.All
import OpenK.AllK
import Wide.FinOn
import Lean
import PyProof.EqAt
import PyProof.EqKinds
import PyProof.TupleCall
import PyProof.NeKinds
import PyProof.ConsumeWalk
import PyProof.ListRange
import PyProof.TupleOfSeq
import PyProof.Rows.SortWalk
import PyProof.CompFree
import PySem.Challenge.RW_kinhearth_k34_fewest_who_settle_all
set_option Elab.async false
set_option linter.all false
set_option maxRecDepth 100000
set_option maxHeartbeats 4000000
open PySem
open PySem.W (instObj methodObj lookIn plainGet hasDictIn handedIn plainGet_of isFn plainOver takerIn makesIn typeIn emptyDict keepIn kitOne kia_one kitx_list kitx_dict callWith_K methodCall_KW cellsFrom_some fnOf codeIn nsIn mg_of kIn_of)
open PySem.F (slot_tuple_add slot_dict_delitem slot_dict_pop slot_dict_get entry_dict_get plainAttrs_dict type_dict_get slot_dict_values plainAttrs_list)
abbrev Ya:=@List.length_map
abbrev Yb:=@List.getElem?_eq_getElem
abbrev Yc:=@Heap.get?_push_of_some
abbrev Yd:=@Nat.le_refl
abbrev Ye:=@List.mem_map
abbrev Yf:=@List.mem_cons_self
abbrev Yg:=@List.getElem?_map
abbrev Yh:=@List.getElem?_eq_some_iff
abbrev Yi:=@List.mem_of_getElem?
abbrev Yj:=@Bool.false_ne_true
abbrev Yk:=@List.length_append
abbrev Yl:=@List.getD_eq_getElem?_getD
abbrev Ym:=@List.mem_singleton
abbrev Yn:=@List.map_append
abbrev Yo:=@Heap.get?_push_size
abbrev Yp:=@List.mem_cons
abbrev Yq:=@Option.some.inj
abbrev Yr:=@List.mem_append_right
abbrev Ys:=@List.mem_append_left
abbrev Yt:=@List.mem_append
abbrev Yu:=@List.mem_cons_of_mem
abbrev Yv:=@List.size_toArray
abbrev Yw:=@Nat.zero_le
abbrev Yx:=@Heap.lt_size
abbrev Yy:=@List.mem_filter
abbrev Yz:=@List.nodup_cons
abbrev Y0:=@List.take_add_one
abbrev Y1:=@Nat.lt_of_lt_of_le
abbrev Y2:=@Nat.ne_of_lt
abbrev Y3:=@List.not_mem_nil
abbrev Y4:=@Nat.le_trans
abbrev Y5:=@Int.toNat_natCast
abbrev Y6:=@List.getElem?_eq_none
abbrev Y7:=@List.mem_range
abbrev Y8:=@List.append_nil
abbrev Y9:=@List.filter_append
abbrev Wa:=@List.map_map
abbrev Wb:=@List.filter_cons
abbrev Wc:=@Bool.eq_iff_iff
abbrev Wd:=@List.take_length
abbrev We:=@Array.getD_eq_getD_getElem?
abbrev Wf:=@List.length_take
abbrev Wg:=@Nat.lt_irrefl
abbrev Wh:=@List.length_filter_le
abbrev Wi:=@List.getElem?_append_left
abbrev Wj:=@List.map_congr_left
abbrev Wk:=@Sum.inr.inj
abbrev Wl:=@List.map_cons
abbrev Wm:=@Nat.not_lt_zero
abbrev Wn:=@Bool.and_eq_true
abbrev Wo:=@List.nodup_append
abbrev Wp:=@List.take_of_length_le
abbrev Wq:=@List.length_cons
abbrev Wr:=@List.all_eq_true
abbrev Ws:=@List.ext_getElem?
abbrev Wt:=@Int.emod_lt_of_pos
abbrev Wu:=@List.mem_iff_getElem
abbrev Wv:=@List.lookup_cons
abbrev Ww:=@List.nodup_iff_pairwise_ne
abbrev Wx:=@List.pairwise_map
abbrev Wy:=@Array.length_toList
abbrev Wz:=@List.filter_congr
abbrev W0:=@Nat.le_succ_of_le
abbrev W1:=@List.nodup_nil
abbrev W3:=@List.pairwise_iff_getElem
abbrev W4:=@List.length_replicate
abbrev W5:=@List.length_zip
abbrev W6:=@Nat.lt_succ_of_lt
abbrev W7:=@Int.emod_nonneg
abbrev W8:=@Nat.lt_succ_self
abbrev W9:=@Nat.lt_of_le_of_lt
abbrev Ja:=@List.filter_filter
abbrev Jb:=@Array.getElem?_eq_getElem
abbrev Jc:=@Option.isSome_iff_exists
abbrev Jd:=@List.length_set
abbrev Je:=@List.all_cons
abbrev Jf:=@List.getElem_mem
abbrev Jg:=@List.length_drop
abbrev Jh:=@Heap.size_push
abbrev Ji:=@List.mem_filterMap
abbrev Jj:=@Array.getElem?_toList
abbrev Jk:=@List.range_succ
abbrev Jl:=@Nat.le_of_ble_eq_true
abbrev Jm:=@List.filter_map
abbrev Jn:=@List.any_cons
abbrev Jo:=@Heap.get?_push_ne
abbrev Jp:=@List.append_assoc
abbrev Jq:=@List.getElem?_append_right
abbrev Jr:=@Array.perm_iff_toList_perm
abbrev Js:=@List.perm_ext_iff_of_nodup
abbrev Jt:=@List.filter_eq_self
abbrev Ju:=@Int.toNat_of_nonneg
abbrev Jv:=@Nat.le_of_lt
abbrev Jw:=@List.filter_cons_of_pos
abbrev Jx:=@Bool.true_and
abbrev Jy:=@Array.getElem?_eq_none
abbrev Jz:=@List.length_range
abbrev J0:=@Bool.eq_false_iff
abbrev J1:=@Heap.get?_update_self
abbrev J3:=@Int.zero_add
abbrev J4:=@List.Pairwise.and_mem
abbrev J5:=@List.any_eq_true
abbrev J6:=@Bool.false_or
abbrev J7:=@List.filterMap_cons
abbrev J8:=@List.find?_cons
abbrev J9:=@Sum.inl.inj
abbrev JD:=@Bool.or_eq_true
abbrev Az:=@Nat.ne_of_gt
abbrev S5:=@List.zip_cons_cons
abbrev Sl:=@List.any_eq_false
abbrev SF:=@Option.isSome_map
abbrev SE:=@List.cons_append
abbrev Th:=@List.mem_flatMap
abbrev G5:=@Nat.le_of_eq
abbrev Sn:=@List.of_mem_zip
abbrev Hk:=@Int.ne_of_gt
abbrev Ia:=@List.all_map
abbrev SR:=@List.nil_append
abbrev G6:=@Nat.le_succ
namespace L2
open PySem PySem.Spec PyProof.Rows
abbrev Key:=Sum Int Str
def rh:Key->Value->Bool
 |.inl k,v=>Value.isInt k v
 |.inr x,v=>Value.isStrOf x v
def ZeQ(w:World):Key->Int
 |.inl k=>hashInt k
 |.inr x=>hashStr w x
theorem kX:∀{k:Key} {v:Value},rh k v=true->(∃i t,k=Sum.inl i/\v=Value.int i t)\/(∃x t,k=Sum.inr x/\v=Value.str x t)
 |.inl i,v,h=>by
  obtain⟨t,e⟩:=Value.isInt_shape h
  grind
 |.inr x,v,h=>by
  obtain⟨t,e⟩:=Value.isStrOf_shape h
  grind
theorem Zm(i:Int)(t:Tok):rh (.inl i) (.int i t)=true:=by simp[rh,Value.isInt]
theorem Zn(x:Str)(t:Tok):rh (.inr x) (.str x t)=true:=by simp[rh,Value.isStrOf]
theorem ZcL(a b:Int):decide ((Sum.inl a:Key)=Sum.inl b)=(a==b):=by
 grind
theorem ZcM(a b:Str):decide ((Sum.inr a:Key)=Sum.inr b)=decide (a=b):=by
 grind
theorem ZcN(a:Int)(b:Str):decide ((Sum.inl a:Key)=Sum.inr b)=false:=decide_eq_false (λq=>nomatch q)
theorem ZcO(a:Str)(b:Int):decide ((Sum.inr a:Key)=Sum.inl b)=false:=decide_eq_false (λq=>nomatch q)
def de(prog:Program)(w:World):PySem.KeyKind prog w Key where
 is:=rh
 hash:=ZeQ w
 inj:=λv a b ha hb=>by
  rcases kX ha with⟨i,t,rfl,rfl⟩|⟨x,t,rfl,rfl⟩
  ·rcases kX hb with⟨j,u,rfl,e⟩|⟨y,u,rfl,e⟩;·injection e with e1 _;rw[e1]
   ·exact nomatch e
  ·rcases kX hb with⟨j,u,rfl,e⟩|⟨y,u,rfl,e⟩;·exact nomatch e
   ·injection e with e1 _;rw[e1]
 byValue:=λk v h=>by
  rcases kX h with⟨i,t,rfl,rfl⟩|⟨x,t,rfl,rfl⟩<;>rfl
 pyHash:=λhv h=>by
  rcases kX hv with⟨i,t,rfl,rfl⟩|⟨x,t,rfl,rfl⟩;·exact wpAny_pyHash_int h
  ·exact wpAny_pyHash_str h
 eqBool:=λhu hv h=>by
  rcases kX hu with⟨i,t,rfl,rfl⟩|⟨x,t,rfl,rfl⟩
  ·rcases kX hv with⟨j,u,rfl,rfl⟩|⟨y,u,rfl,rfl⟩;·rw[ZcL] at h;exact wpAny_eqBool_int h
   ·rw[ZcN] at h;exact SeqAt.EqAt.int_str i t y u _ _ _ _ h
  ·rcases kX hv with⟨j,u,rfl,rfl⟩|⟨y,u,rfl,rfl⟩;·rw[ZcO] at h;exact SeqAt.EqAt.str_int x t j u _ _ _ _ h
   ·rw[ZcM] at h;exact wpAny_eqBool_str h
 «strs»:=λk x t v h=>by
  rcases kX h with⟨i,u,rfl,e⟩|⟨y,u,rfl,e⟩;·exact nomatch e
  ·injection e with e1 _;subst e1;cases v<;>rfl
theorem Xe(prog:Program)(w:World)(i:Int)(t:Tok):(de prog w).is (.inl i) (.int i t)=true:=Zm i t
theorem Xf(prog:Program)(w:World)(x:Str)(t:Tok):(de prog w).is (.inr x) (.str x t)=true:=Zn x t
inductive V where
 |ay|bl (b:Bool)|int (i:Int)|str (x:Str)|jn (b:Array UInt8)|rY (b:UInt64)|ref (a:Addr)|ty (n:String)
 deriving DecidableEq
def RelV:V->Value->Prop
 |.ay,u=>u=Value.none
 |.bl b,u=>u=Value.bool b
 |.int i,u=>∃t,u=Value.int i t
 |.str x,u=>∃t,u=Value.str x t
 |.jn b,u=>∃t,u=Value.bytes b t
 |.rY b,u=>∃t,u=Value.float b t
 |.ref a,u=>u=Value.ref a
 |.ty n,u=>u=Value.type n
abbrev Vals:List V->List Value->Prop:=Paired RelV
theorem Vals.length{xs:List V}{us:List Value}(r:Vals xs us):xs.length=us.length:=Paired.length r
theorem Vals.get:∀{xs:List V} {us:List Value} {i:Nat} {x:V},Vals xs us->xs[i]?=some x->∃u,us[i]?=some u/\RelV x u
 |_,_,_,_,.nil,e=>by simp at e
 |_,_,0,_,.cons r _,e=>by simp at e;subst e;exact⟨_,rfl,r⟩
 |_,_,i+1,x,.cons _ t,e=>by
  obtain⟨u,h1,h2⟩:=Vals.get t (by simpa using e)
  grind
theorem Vals.set{x:V}{u:Value}(r:RelV x u):∀{xs:List V} {us:List Value} (i:Nat),Vals xs us->Vals (xs.set i x) (us.set i u)
 |_,_,_,.nil=>.nil
 |_,_,0,.cons _ t=>.cons r t
 |_,_,i+1,.cons q t=>.cons q (Vals.set r i t)
theorem Vals.append:∀{xs ys:List V} {us ws:List Value},Vals xs us->Vals ys ws->Vals (xs++ys) (us++ws):=by
 intro xs ys us ws h h';induction h with
 |nil=>exact h'
 |cons r t ih=>exact .cons r ih
theorem Vals.take:∀{xs:List V} {us:List Value} (n:Nat),Vals xs us->Vals (xs.take n) (us.take n)
 |_,_,0,_=>.nil
 |_,_,_+1,.nil=>.nil
 |_,_,n+1,.cons r t=>.cons r (Vals.take n t)
theorem Vals.drop:∀{xs:List V} {us:List Value} (n:Nat),Vals xs us->Vals (xs.drop n) (us.drop n)
 |_,_,0,r=>r
 |_,_,_+1,.nil=>.nil
 |_,_,n+1,.cons _ t=>Vals.drop n t
def fQ:Option V->Option Value->Prop
 |some v,some u=>RelV v u
 |none,none=>True
 |_,_=>False
def KV{κ:Type}:List (κ×V)->List (κ×Value)->Prop:=Paired λ(p:κ×V) (q:κ×Value)=>p.1=q.1/\RelV p.2 q.2
def kV:Key->V
 |.inl i=>.int i
 |.inr x=>.str x
inductive HO where
 /--a list-/
 |lst(xs:List V)
 /--a tuple(never changes)-/
 |tup(xs:List V)
 /--a dict Zd9 keys are ints and texts;one Zd9 keys are tuples of ints and texts(oE empty one is both)-/
 |dK(kvs:List (Key×V))|dT(kvs:List (List Key×V))
 /--a set of ints:ah members,ah size-/
 |set (S:Int->Bool) (n:Nat)
 /--an instance of oE class at C,ah dict at dx,ah attributes-/
 |ins (C dx:Addr) (fs:List (Str×V))
 /--oE dict of oE instance at x-/
 |own (x:Addr)
 /--oE dict of an exception-/
 |xd (fs:List (Str×V))
 /--a bound method,f of x-/
 |met (f x:Addr)
 /--a range object lo,lo+1,.. below hi-/
 |jo (lo hi:Int)
 /--a Zd_ Zhc is known to oE object (oE O4;a dict while a loop walks it):read,never written while it is so-/
 |bG (o:Obj) (u:HO)
 /--a code Zg0 table-/
 |qf (ps:Array Value)
 /--any other Zd_,by Zhd is true of ah one object (a def of Zg8 own:Zhe a S n:=HO.ext λh=>..)-/
 |ext (φ:Heap->Prop)
abbrev Hp:=Addr->Option HO
def upd(H:Hp)(a:Addr)(o:HO):Hp:=λb=>if b=a then some o else H b
theorem aS{H:Hp}{a:Addr}{o:HO}:upd H a o a=some o:=by unfold upd;rw[if_pos rfl]
theorem aQ{H:Hp}{a b:Addr}{o:HO}(h:b≠a):upd H a o b=H b:=by unfold upd;rw[if_neg h]
theorem Fb{H:Hp}{a:Addr}{o u:HO}:upd (upd H a o) a u=upd H a u:=by
 funext b;unfold upd;split<;>rfl
theorem Qs{H:Hp}{a b:Addr}{o u:HO}(h:H a=some o)(h':H b=some u)(d:o≠u):a≠b:=by
 intro e;subst e;rw[h] at h';exact d (Yq h')
theorem bX{H:Hp}{a b:Addr}{o:HO}(h:H a=some o)(h':H b=none):a≠b:=by
 grind
section
variable (P:Program)(w:World)
def lu(h:Heap)(a:Addr)(items:Array Value):Prop:=∃o,h.get? a=some o/\o.cls=.type "tuple"/\∃n,o.data=.seq items n/\o.dict=none
theorem lu.tup{h:Heap}{a:Addr}{items:Array Value}(x:lu h a items):IsTup h a items:=let⟨o,e,c,n,d,_⟩:=x;⟨o,e,c,n,d⟩
theorem lu.lt{h:Heap}{a:Addr}{items:Array Value}(x:lu h a items):a<h.objs.size:=x.tup.lt
theorem lu.new(h:Heap)(items:Array Value):lu (h.push {cls:=.type "tuple",data:=.seq items}) h.objs.size items:=⟨_,Yo _ rfl,rfl,_,rfl,rfl⟩
def cK(H:Hp)(h:Heap)(a:Addr):HO->Prop
 |.lst xs=>xs.length<=sizeLine/\∃(ah:List Value) (n:Nat),Vals xs ah/\h.get? a=some {cls:=.type "list",data:=.seq ah.toArray n}
 |.tup xs=>xs.length<=sizeLine/\∃ah:List Value,Vals xs ah/\lu h a ah.toArray
 |.dK kvs=>kvs.length<=sizeLine/\(a==sysModules)=false/\∃vs,KV kvs vs/\h.DictOf (de P w) a vs
 |.dT kvs=>kvs.length<=sizeLine/\(a==sysModules)=false/\∃xs:List (List Key×Addr×Value),
   Paired (λ(p:List Key×V) (q:List Key×Addr×Value)=>p.1=q.1/\H q.2.1=some (.tup (p.1.map kV))/\RelV p.2 q.2.2) kvs xs/\
   ∃o es ep,h.get? a=some o/\o.ExactDict/\o.data=.dict es ep/\es.toList=xs.map (entryOfKey (tupleKind (de P w)))/\(xs.map (·.1)).Nodup
 |.set S n=>h.SetOf (intKind P w) a S n
 |.ins C dx fs=>H dx=some (.own a)/\fs.length<=1000/\dx≠a/\h.get? a=some (instObj C dx)/\
   ∃mA,h.Ns1 dx mA/\(∀f,fQ (fs.lookup f) (mA f))/\PySem.Within mA (fs.map (·.1))
 |.own _=>∃o,h.get? a=some o
 |.xd fs=>∃mA,h.Ns1 a mA/\∀f,fQ (fs.lookup f) (mA f)
 |.jo lo hi=>∃t u v,h.get? a=some {cls:=.type "range",data:=.fields #[.int lo t,.int hi u,.int 1 v]}
 |.bG o u=>h.get? a=some o/\cK H h a u
 |.qf ps=>h.get? a=some {cls:=.none,data:=.fields ps}
 |.met f x=>h.get? a=some (methodObj (.ref f) (.ref x))
 |.ext φ=>φ h/\(∃o,h.get? a=some o)/\∀h1 h2:Heap,φ h1->(∀o,h1.get? a=some o->h2.get? a=some o)->φ h2
def dh(H:Hp)(h:Heap):Prop:=∀a o,H a=some o->cK P w H h a o
end
section
variable {P:Program}{w:World}{H H':Hp}{h h':Heap}{a:Addr}{o:HO}
theorem cK.lt(x:cK P w H h a o):a<h.objs.size:=by
 cases o with
 |lst xs=>obtain⟨_,_,_,_,e⟩:=x;exact Yx e
 |tup xs=>obtain⟨_,_,_,p⟩:=x;exact p.lt
 |dK kvs=>obtain⟨_,_,_,_,o,_,_,e,_⟩:=x;exact Yx e
 |dT kvs=>obtain⟨_,_,_,_,o,_,_,e,_⟩:=x;exact Yx e
 |set S n=>obtain⟨o,_,_,_,e,_⟩:=x;exact Yx e
 |ins C dx fs=>obtain⟨_,_,_,e,_⟩:=x;exact Yx e
 |own y=>obtain⟨_,e⟩:=x;exact Yx e
 |xd fs=>obtain⟨_,⟨_,_,_,e,_⟩,_⟩:=x;exact Yx e
 |jo lo hi=>obtain⟨_,_,_,e⟩:=x;exact Yx e
 |bG ob u=>obtain⟨e,_⟩:=x;exact Yx e
 |qf ps=>exact Yx (show h.get? a=some _ from x)
 |met f y=>exact Yx (show h.get? a=some _ from x)
 |ext φ=>obtain⟨_,⟨_,e⟩,_⟩:=x;exact Yx e
theorem Paired.bw{α β:Type}{F G:α->β->Prop}:∀{Gs:List α} {l₂:List β},Paired F Gs l₂->(∀a b,F a b->G a b)->Paired G Gs l₂:=by
 intro Gs l₂ h f;induction h with
 |nil=>exact .nil
 |cons r t ih=>exact .cons (f _ _ r) ih
theorem cK.jG(x:cK P w H h a o)(k:∀b u,(b=a\/H b=some (.own a))->h.get? b=some u->h'.get? b=some u)
  (ho:∀b,H b=some (.own a)->H' b=some (.own a))(ht:∀b xs,H b=some (.tup xs)->H' b=some (.tup xs)):cK P w H' h' a o:=by
 induction o with
 |lst xs=>obtain⟨z,ah,n,r,e⟩:=x;exact⟨z,ah,n,r,k _ _ (.inl rfl) e⟩
 |tup xs=>obtain⟨z,ah,r,ob,e,c⟩:=x;exact⟨z,ah,r,ob,k _ _ (.inl rfl) e,c⟩
 |dK kvs=>obtain⟨z,y,vs,r,ob,es,ep,e,c⟩:=x;exact⟨z,y,vs,r,ob,es,ep,k _ _ (.inl rfl) e,c⟩
 |dT kvs=>
  obtain⟨z,y,xs,r,ob,es,ep,e,c⟩:=x;exact⟨z,y,xs,Paired.bw r λp q z=>⟨z.1,ht _ _ z.2.1,z.2.2⟩,ob,es,ep,k _ _ (.inl rfl) e,c⟩
 |set S n=>obtain⟨ob,es,ep,t,e,c⟩:=x;exact⟨ob,es,ep,t,k _ _ (.inl rfl) e,c⟩
 |ins C dx fs=>
  obtain⟨d,z,ne,e,mA,⟨od,es,ep,e2,c⟩,r⟩:=x;exact⟨ho _ d,z,ne,k _ _ (.inl rfl) e,mA,⟨od,es,ep,k _ _ (.inr d) e2,c⟩,r⟩
 |own y=>obtain⟨ob,e⟩:=x;exact⟨ob,k _ _ (.inl rfl) e⟩
 |xd fs=>obtain⟨mA,⟨od,es,ep,e,c⟩,r⟩:=x;exact⟨mA,⟨od,es,ep,k _ _ (.inl rfl) e,c⟩,r⟩
 |jo lo hi=>obtain⟨t,u,v,e⟩:=x;exact⟨t,u,v,k _ _ (.inl rfl) e⟩
 |bG ob u ih=>obtain⟨e,q⟩:=x;exact⟨k _ _ (.inl rfl) e,ih q⟩
 |qf ps=>
  have e:h.get? a=some {cls:=.none,data:=.fields ps}:=x;show h'.get? a=some {cls:=.none,data:=.fields ps};exact k a _ (.inl rfl) e
 |met f y=>
  have e:h.get? a=some (methodObj (.ref f) (.ref y)):=x;show h'.get? a=some (methodObj (.ref f) (.ref y));exact k a _ (.inl rfl) e
 |ext φ=>obtain⟨p,⟨o,e⟩,st⟩:=x;exact⟨st _ _ p λo q=>k _ _ (.inl rfl) q,⟨o,k _ _ (.inl rfl) e⟩,st⟩
theorem dh.lt(x:dh P w H h)(e:H a=some o):a<h.objs.size:=(x a o e).lt
theorem dh.fresh(x:dh P w H h)(e:h.objs.size<=a):H a=none:=by
 cases q:H a with
 |none=>rfl
 |some u=>exact absurd (Y1 (x.lt q) e) (Wg _)
theorem dh.kept(x:dh P w H h)(k:∀b u,h.get? b=some u->h'.get? b=some u):dh P w H h':=λa o e=>
 (x a o e).jG (λb u _ q=>k b u q) (λ_ q=>q) λ_ _ q=>q
theorem dh.laid(x:dh P w H h)(k:∀b u,h.get? b=some u->h'.get? b=some u)(hp:h.objs.size<=a)(new:cK P w (upd H a o) h' a o):dh P w (upd H a o) h':=λb u e=>by
 have hn:=x.fresh hp;by_cases hb:b=a;·subst hb;rw[aS] at e;cases e;exact new
 ·rw[aQ hb] at e;exact(x b u e).jG (λc v _ q=>k c v q) (λc q=>by rw[aQ (bX q hn)];exact q) λc xs q=>by rw[aQ (bX q hn)];exact q
end
def Rd(H:Hp)(a:Addr)(u:HO):Prop:=H a=some u\/∃o,H a=some (.bG o u)
theorem Rd.ok{P:Program}{w:World}{H:Hp}{h:Heap}{a:Addr}{u:HO}(r:Rd H a u)(x:dh P w H h):cK P w H h a u:=by
 rcases r with r|⟨o,r⟩;·exact x a u r
 ·obtain⟨_,q⟩:=x a _ r;exact q
def xw:Option HO->Prop
 |some (.lst _)=>True
 |some (.dK _)=>True
 |some (.dT _)=>True
 |some (.set _ _)=>True
 |some (.ins _ _ _)=>True
 |some (.ext _)=>True
 |_=>False
section
variable {P:Program}{w:World}{H:Hp}{h h':Heap}{x e:Addr}{o':HO}
theorem dh.write(ok:dh P w H h)(mu:xw (H x))(he:e=x\/H e=some (.own x))(k:∀b u,b≠e->h.get? b=some u->h'.get? b=some u)(xx:∃u,h'.get? e=some u)
  (new:cK P w (upd H x o') h' x o'):dh P w (upd H x o') h':=λb u q=>by
 have Q8:∀c y,H c=some (.own y)->c≠x:=λc y r z=>by subst z;rw[r] at mu;exact mu
 have ZeR:∀c xs,H c=some (.tup xs)->c≠x:=λc xs r z=>by subst z;rw[r] at mu;exact mu
 by_cases hb:b=x;·subst hb;rw[aS] at q;cases q;exact new
 ·rw[aQ hb] at q;by_cases Aq:b=e
  ·have q':H b=some (.own x):=by
    rcases he with z|z;·exact absurd (Aq.trans z) hb
    ·rw[Aq];exact z
   rw[q] at q';cases q';obtain⟨v,hv⟩:=xx;exact⟨v,by rw[Aq];exact hv⟩
  ·refine(ok b u q).jG (λc v hc r=>k c v ?_ r) (λc r=>by rw[aQ (Q8 c b r)];exact r) λc xs r=>by rw[aQ (ZeR c xs r)];exact r
   rcases hc with rfl|hc;·exact Aq
   ·rintro rfl;rcases he with z|z;·exact Q8 c b hc z
    ·rw[hc] at z;cases z;exact hb rfl
end
structure Un(fs ex:List Addr)(H H':Hp)(h h':Heap):Prop where
 keep:∀b o,h.get? b=some o->H b=none->b∉fs->b∉ex->h'.get? b=some o
 slot:∀b o,h.get? b=some o->H b=none->b∈fs->b∉ex->∃sl,h'.get? b=some {o with slots:=sl}
 free:∀b o,h.get? b=some o->H b=none->b∉ex->H' b=none
 there:∀b o,h.get? b=some o->b∉ex->∃o',h'.get? b=some o'
 kC:∀b xs,H b=some (.tup xs)->H' b=some (.tup xs)
 lN:∀b o u,H b=some (.bG o u)->H' b=some (.bG o u)
 mV:∀b ps,H b=some (.qf ps)->∃more,H' b=some (.qf (ps++more))
section
variable {fs fs' ex ex':List Addr}{H H1 H2:Hp}{h h1 h2 h':Heap}{a x e:Addr}{o:HO}
theorem Un.any(u:Un fs ex H H1 h h1){b:Addr}{ob:Obj}(q:h.get? b=some ob)(n:H b=none)(hx:b∉ex):∃sl,h1.get? b=some {ob with slots:=sl}:=by
 by_cases hb:b∈fs;·exact u.slot b ob q n hb hx
 ·exact⟨ob.slots,u.keep b ob q n hb hx⟩
theorem Un.kept(k:∀b u,h.get? b=some u->h'.get? b=some u):Un fs ex H H h h':=
 ⟨λb ob q _ _ _=>k b ob q,λb ob q _ _ _=>⟨ob.slots,k b ob q⟩,λ_ _ _ n _=>n,λb ob q _=>⟨ob,k b ob q⟩,λ_ _ q=>q,λ_ _ _ q=>q,λ_ ps q=>⟨#[],by rw[q];simp⟩⟩
theorem Un.refl:Un fs ex H H h h:=Un.kept λ_ _ q=>q
theorem Un.laid(k:∀b u,h.get? b=some u->h'.get? b=some u)(hp:h.objs.size<=a)(hn:H a=none):Un fs ex H (upd H a o) h h' where
 keep:=λb u q _ _ _=>k b u q
 slot:=λb u q _ _ _=>⟨u.slots,k b u q⟩
 free:=λb u q n _=>by rw[aQ (Y2 (Y1 (Yx q) hp))];exact n
 there:=λb u q _=>⟨u,k b u q⟩
 kC:=λb xs q=>by rw[aQ (bX q hn)];exact q
 lN:=λb u xs q=>by rw[aQ (bX q hn)];exact q
 mV:=λb ps q=>⟨#[],by rw[aQ (bX q hn),q];simp⟩
theorem Un.write(mu:xw (H x))(he:e=x\/H e=some (.own x))(k:∀b u,b≠e->h.get? b=some u->h'.get? b=some u)(xx:∃u,h'.get? e=some u):Un fs ex H (upd H x o) h h':=by
 have hx:∀b,H b=none->b≠x:=λb n z=>by subst z;rw[n] at mu;exact mu
 have hb:∀b,H b=none->b≠e:=λb n z=>by
  grind
 have hm:∀b u,H b=some u->¬xw (some u)->b≠x:=λb u q nm z=>by subst z;rw[q] at mu;exact nm mu
 refine⟨λb u q n _ _=>k b u (hb b n) q,λb u q n _ _=>⟨u.slots,k b u (hb b n) q⟩,λb u q n _=>by rw[aQ (hx b n)];exact n,λb u q _=>?_,
  λb xs q=>by rw[aQ (hm b _ q λz=>z)];exact q,λb u xs q=>by rw[aQ (hm b _ q λz=>z)];exact q,λb ps q=>⟨#[],by rw[aQ (hm b _ q λz=>z),q];simp⟩⟩
 grind
end
def G0(h:Heap)(H:Hp):List Addr:=(List.range h.objs.size).filter λa=>(H a).isSome
def oA(h:Heap)(H:Hp):Heap:=PySem.W.hideAll h (G0 h H)
theorem Zo(h:Heap)(H:Hp):(oA h H).objs.size=h.objs.size:=PySem.W.hideAll_size _ _
theorem Zae{h:Heap}{H:Hp}{b:Addr}{o:Obj}(e:h.get? b=some o)(n:H b=none):(oA h H).get? b=some o:=
 PySem.W.hideAll_get _ e λhm=>by
  have q:=(Yy.mp hm).2
  grind
theorem Zbz{h:Heap}{H:Hp}{b:Addr}{o:Obj}(e:(oA h H).get? b=some o):h.get? b=some o/\H b=none:=by
 have e':=PySem.W.of_hideAll (G0 h H) e;refine⟨e',?_⟩;cases q:H b with
 |none=>rfl
 |some x=>
  have z:(oA h H).get? b=none:=PySem.W.hideAll_none (G0 h H) (Yy.mpr ⟨Y7.mpr (Yx e'),by simp[q]⟩)
  grind
structure Mod(K:PySem.W.Frag)(mg:Str->Option Value)(base:Heap):Prop where
 rZ:K.In base
 glob:base.Ns mainGlobals mg
 blt:∃mb,base.Ns builtinsNs mb/\∀x:Str,x≠"__name__"->mb x=bootBuiltins x
 nolimit:base.NoLimit
structure Cx where
 prog:Program
 w:World
 K:PySem.W.Frag
 mg:Str->Option Value
 base:Heap
 A:Around
 N:List Str
 cR:Shared
 jj:Hp
 env:Env
 outer:List Env
 stack:List Env
 ex:List Addr
 fn:Str->Bool
 calm:Bool
 pn:List (Addr×Obj)
 xe:Value->Shared->Prop
def fI(l:List Env):List Addr:=l.filterMap (·.frame)
abbrev Cx.fs(X:Cx):List Addr:=fI X.outer
def uR(sc:Scope)(x:Str):Prop:=sc.names.lookup x=some .local\/sc.names.lookup x=some .cell\/sc.names.lookup x=some .free
def Loc(sc:Scope)(x:Str):Prop:=sc.names.lookup x=some .local\/sc.names.lookup x=some .cell
def Look(env:Env)(h:Heap)(m:Str->Option Value)(x:Str)(u:Value):Prop:=
 (env.kindOf x=some .local/\m x=some u)\/((env.kindOf x=some .cell\/env.kindOf x=some .free)/\∃c,env.cells.lookup x=some c/\h.IsCell c (some u))
structure Cx.Ok(X:Cx):Prop where
 mod:Mod X.K X.mg X.base
 kind:X.env.scope.kind=.function
 glob:X.env.globals=mainGlobals
 blt:X.env.builtins=builtinsNs
 above:X.cR.heap.objs.size<=X.env.locals
 inj:∀x y c,X.env.cells.lookup x=some c->X.env.cells.lookup y=some c->x=y
 has:∀x,(X.env.kindOf x=some .cell\/X.env.kindOf x=some .free)->∃c,X.env.cells.lookup x=some c
 xy:∀x c,X.fn x=true->X.env.cells.lookup x=some c->X.cR.heap.objs.size<=c
 hd:X.calm=true->X.A.handled=none
 frames:X.A.frames=some X.stack
 Ar:X.stack=X.outer\/(X.stack=X.env::X.outer/\X.env.frame=some X.env.locals)
 uS:∀b∈X.ex,b≠X.env.locals/\∀x c,X.env.cells.lookup x=some c->c≠b
 bs:∀b o,X.base.get? b=some o->X.cR.heap.get? b=some o/\X.jj b=none
 oF:X.base.objs.size<=X.cR.heap.objs.size
 xg:∀b o,X.base.get? b=some o->b∉X.ex
 uF:∀b∈X.ex,b∉X.fs
 kF:X.cR.heap.FunFrames X.base X.outer
 r6:∀b∈X.fs,X.jj b=none
structure Inv(X:Cx)(pins:List (Addr×Obj))(σ:List (Option V))(H:Hp)(s:Shared):Prop where
 ok:X.Ok
 os:s.os=X.cR.os
 bare:AllBare s.gens
 base:Un X.fs X.ex X.jj H X.cR.heap s.heap
 loc:∃m,s.heap.Ns X.env.locals m/\∀(i:Nat) (x:Str) (v:V),X.N[i]?=some x->σ[i]?=some (some v)->uR X.env.scope x->∃u,RelV v u/\Look X.env s.heap m x u
 cell:∀x c,X.env.cells.lookup x=some c->∃v,s.heap.IsCell c v
 free:H X.env.locals=none
 kr:∀x c,X.env.cells.lookup x=some c->H c=none
 pin:∀p∈X.pn++pins,s.heap.get? p.1=some p.2/\H p.1=none/\p.1≠X.env.locals/\p.1∉X.fs/\∀v,p.2.data≠.cell v
 av:dh X.prog X.w H s.heap
 len:σ.length=X.N.length
section
variable {X:Cx}{pins:List (Addr×Obj)}{σ:List (Option V)}{H H':Hp}{s:Shared}{h':Heap}
theorem Cx.Ok.ZeS(ok:X.Ok){b:Addr}{o:Obj}(e:X.base.get? b=some o):b∉X.fs:=λhb=>by
 have:=(ok.kF.mem hb).1
 grind
theorem Inv.bs(I:Inv X pins σ H s):∀b o,X.base.get? b=some o->s.heap.get? b=some o/\H b=none:=λb o e=>
 ⟨I.base.keep b o (I.ok.bs b o e).1 (I.ok.bs b o e).2 (I.ok.ZeS e) (I.ok.xg b o e),I.base.free b o (I.ok.bs b o e).1 (I.ok.bs b o e).2 (I.ok.xg b o e)⟩
theorem Inv.bk(I:Inv X pins σ H s):∀b o,X.base.get? b=some o->s.heap.get? b=some o:=λb o e=>(I.bs b o e).1
theorem Inv.mod(I:Inv X pins σ H s):Mod X.K X.mg X.base:=I.ok.mod
theorem Inv.dE(I:Inv X pins σ H s):X.K.In s.heap:=I.ok.mod.rZ.keeps I.bk
theorem Inv.lt(I:Inv X pins σ H s):X.env.locals<s.heap.objs.size:=let⟨_,hn,_⟩:=I.loc;hn.lt
theorem Inv.sz(I:Inv X pins σ H s):X.cR.heap.objs.size<=s.heap.objs.size:=Y4 I.ok.above (Jv I.lt)
theorem Inv.ZeT(I:Inv X pins σ H s){a:Addr}(h:s.heap.objs.size<=a):a∉X.fs:=λhb=>by
 obtain⟨_,o,ho,_⟩:=I.ok.kF.mem hb;exact absurd (Y1 (Yx ho) (Y4 I.sz h)) (Wg _)
theorem Inv.r8(I:Inv X pins σ H s):∀x c,X.env.cells.lookup x=some c->c≠X.env.locals:=λx c e z=>by
 obtain⟨v,o,ho,hd⟩:=I.cell x c e;obtain⟨m,⟨o',es,ep,uT,As,_⟩,_⟩:=I.loc
 grind
theorem Inv.kF(I:Inv X pins σ H s):s.heap.FunFrames X.base X.outer:=by
 have all:∀(l:List Env),(∀b∈fI l,b∈X.fs)->X.cR.heap.FunFrames X.base l->s.heap.FunFrames X.base l:=by
  intro l;induction l with
  |nil=>intro _ _;trivial
  |cons env r ih=>
   rintro hs ⟨hk,⟨L,o,hf,hn,ho,hd⟩,hr⟩;have hL:=hs L (by unfold fI;rw[J7,hf];exact Yf);obtain⟨sl,e⟩:=I.base.slot L o ho (I.ok.r6 L hL) hL λz=>I.ok.uF L z hL;exact⟨hk,⟨L,_,hf,hn,e,hd⟩,ih (λb hb=>hs b (by unfold fI;rw[J7,hf];exact Yu _ hb)) hr⟩
 exact all X.outer (λ_ hb=>hb) I.ok.kF
theorem Inv.stack(I:Inv X pins σ H s):s.heap.FunFrames X.base X.stack:=by
 rcases I.ok.Ar with e|⟨e,hf⟩;·rw[e];exact I.kF
 ·rw[e];obtain⟨m,hn,_⟩:=I.loc;refine .cons (by rw[I.ok.kind];decide) hf hn ?_ I.kF;exact Heap.get?_none_of_le (Y4 I.ok.oF I.ok.above)
theorem Inv.Fz(I:Inv X pins σ H s):∀b∈fI X.stack,b∈X.env.locals::X.fs:=λb hb=>by
 rcases I.ok.Ar with e|⟨e,hf⟩;·grind
 ·rw[e] at hb;unfold fI at hb;rw[J7,hf] at hb;exact hb
theorem Inv.Nx(I:Inv X pins σ H s):∀b∈fI X.stack,H b=none:=λb hb=>by
 rcases Yp.mp (I.Fz b hb) with e|hb;·rw[e];exact I.free
 ·obtain⟨_,o,ho,_⟩:=I.ok.kF.mem hb;exact I.base.free b o ho (I.ok.r6 b hb) λz=>I.ok.uF b z hb
theorem Inv.step{g':Array GenState}{t':Nat}{d':Drawn}{ch:List Addr}(I:Inv X pins σ H s)
  (mY:∀b∈ch,(b∈X.ex\/X.cR.heap.objs.size<=b)/\b≠X.env.locals/\(∀x c,X.env.cells.lookup x=some c->c≠b)/\∀p∈X.pn++pins,p.1≠b)
  (keep:∀b o,b≠X.env.locals->b∉X.fs->b∉ch->s.heap.get? b=some o->H b=none->h'.get? b=some o)
  (slot:∀b o,b≠X.env.locals->b∈X.fs->b∉ch->s.heap.get? b=some o->H b=none->∃sl,h'.get? b=some {o with slots:=sl})(free:∀b o,b∉ch->s.heap.get? b=some o->H b=none->H' b=none)
  (there:∀b o,b∉ch->s.heap.get? b=some o->∃o',h'.get? b=some o')
  (kC:∀b xs,H b=some (.tup xs)->H' b=some (.tup xs))(lN:∀b o u,H b=some (.bG o u)->H' b=some (.bG o u))(mV:∀b ps,H b=some (.qf ps)->∃more,H' b=some (.qf (ps++more)))
  (ns:∀m,s.heap.Ns X.env.locals m->h'.Ns X.env.locals m)(av:dh X.prog X.w H' h')(hg:AllBare g'):
  Inv X pins σ H' {s with heap:=h',gens:=g',drawn:=d',toks:=t'}:=by
 have Sa:∀b o,X.cR.heap.get? b=some o->b≠X.env.locals:=λb o e=>Y2 (Y1 (Yx e) I.ok.above);have Au:∀b o,X.cR.heap.get? b=some o->b∉X.ex->b∉ch:=λb o e hx hb=>by
  rcases(mY b hb).1 with z|z;·exact hx z
  ·exact absurd (Y1 (Yx e) z) (Wg _)
 have cellK:∀x c,X.env.cells.lookup x=some c->∀v,s.heap.IsCell c v->h'.IsCell c v:=λx c e v ⟨o,ho,hd⟩=>by
  have xA:c∉ch:=λz=>(mY c z).2.2.1 x c e rfl;by_cases hc:c∈X.fs
  ·obtain⟨sl,q⟩:=slot c o (I.r8 x c e) hc xA ho (I.kr x c e);exact⟨_,q,hd⟩
  ·exact⟨o,keep c o (I.r8 x c e) hc xA ho (I.kr x c e),hd⟩
 refine⟨I.ok,I.os,hg,⟨λb o e n hb hx=>?_,λb o e n hb hx=>?_,λb o e n hx=>?_,λb o e hx=>?_,λb xs e=>kC b xs (I.base.kC b xs e),λb o xs e=>lN b o xs (I.base.lN b o xs e),λb ps e=>?_⟩,?_,λx c e=>?_,?_,λx c e=>?_,λp hp=>?_,av,I.len⟩;·exact keep b o (Sa b o e) hb (Au b o e hx) (I.base.keep b o e n hb hx) (I.base.free b o e n hx)
 ·obtain⟨sl,e1⟩:=I.base.slot b o e n hb hx;obtain⟨sl',e2⟩:=slot b _ (Sa b o e) hb (Au b o e hx) e1 (I.base.free b o e n hx);exact⟨sl',e2⟩
 ·obtain⟨o',e1⟩:=I.base.there b o e hx;exact free b o' (Au b o e hx) e1 (I.base.free b o e n hx)
 ·obtain⟨o',e1⟩:=I.base.there b o e hx;exact there b o' (Au b o e hx) e1
 ·obtain⟨m1,e1⟩:=I.base.mV b ps e;obtain⟨m2,e2⟩:=mV b _ e1;exact⟨m1++m2,by rw[e2,Array.append_assoc]⟩
 ·obtain⟨m,hn,hl⟩:=I.loc;refine⟨m,ns m hn,λi x v e1 e2 e3=>?_⟩;obtain⟨u,r,l⟩:=hl i x v e1 e2 e3;refine⟨u,r,?_⟩;rcases l with l|⟨k,c,e,z⟩;·exact .inl l
  ·exact .inr ⟨k,c,e,cellK x c e _ z⟩
 ·obtain⟨v,z⟩:=I.cell x c e;exact⟨v,cellK x c e v z⟩
 ·obtain⟨m,⟨o,_,_,ho,_⟩,_⟩:=I.loc;exact free _ o (λz=>(mY _ z).2.1 rfl) ho I.free
 ·obtain⟨v,o,ho,hd⟩:=I.cell x c e;exact free c o (λz=>(mY c z).2.2.1 x c e rfl) ho (I.kr x c e)
 ·obtain⟨e,n,ne,nf,d⟩:=I.pin p hp;have xA:p.1∉ch:=λz=>(mY p.1 z).2.2.2 p hp rfl;exact⟨keep p.1 p.2 ne nf xA e n,free p.1 p.2 xA e n,ne,nf,d⟩
theorem Inv.un{t':Nat}(I:Inv X pins σ H s)(u:Un X.fs [] H H' s.heap h')(av:dh X.prog X.w H' h'):Inv X pins σ H' {s with heap:=h',toks:=t'}:=by
 obtain⟨m,⟨o,es,ep,ho,r⟩,_⟩:=id I.loc;obtain⟨sl,hL⟩:=u.any ho I.free (by simp);exact I.step (g':=s.gens) (d':=s.drawn) (ch:=[]) (λ_ z=>nomatch z) (λb o _ hb _ e n=>u.keep b o e n hb (by simp)) (λb o _ hb _ e n=>u.slot b o e n hb (by simp)) (λb o _ e n=>u.free b o e n (by simp)) (λb o _ e=>u.there b o e (by simp)) u.kC u.lN u.mV (λm' hm=>by
  obtain⟨o',Av,Aw,uT,r'⟩:=hm;rw[ho] at uT;cases uT;exact⟨_,Av,Aw,hL,r'⟩) av I.bare
theorem Inv.call{g':Array GenState}{t':Nat}{d':Drawn}{ch:List Addr}(I:Inv X pins σ H s)(u:Un (fI X.stack) ch H H' s.heap h')(av:dh X.prog X.w H' h')(hg:AllBare g')
  (mY:∀b∈ch,(b∈X.ex\/X.cR.heap.objs.size<=b)/\b≠X.env.locals/\(∀x c,X.env.cells.lookup x=some c->c≠b)/\∀p∈X.pn++pins,p.1≠b):
  Inv X pins σ H' {s with heap:=h',gens:=g',drawn:=d',toks:=t'}:=by
 obtain⟨m,⟨o,es,ep,ho,r⟩,_⟩:=id I.loc;obtain⟨sl,hL⟩:=u.any ho I.free λz=>(mY _ z).2.1 rfl;exact I.step (ch:=ch) mY (λb o hL hb hc e n=>u.keep b o e n (λz=>(Yp.mp (I.Fz b z)).elim hL hb) hc) (λb o _ _ hc e n=>u.any e n hc) (λb o hc e n=>u.free b o e n hc) (λb o hc e=>u.there b o e hc) u.kC u.lN u.mV (λm' hm=>by
  obtain⟨o',Av,Aw,uT,r'⟩:=hm;rw[ho] at uT;cases uT;exact⟨_,Av,Aw,hL,r'⟩) av hg
theorem Inv.turned{t':Nat}{it:Addr}(I:Inv X pins σ H s)(k:∀b o,b≠it->s.heap.get? b=some o->h'.get? b=some o)(hn:H it=none)(hL:it≠X.env.locals)
  (h1:it∈X.ex\/X.cR.heap.objs.size<=it)(h2:∀x c,X.env.cells.lookup x=some c->c≠it)(h3:∀p∈X.pn++pins,p.1≠it):Inv X pins σ H {s with heap:=h',toks:=t'}:=by
 have Sb:∀b u,H b=some u->b≠it:=λb u e z=>by rw[z,hn] at e;cases e
 refine I.step (g':=s.gens) (d':=s.drawn) (ch:=[it]) (λb hb=>?_) (λb o _ _ hc e _=>k b o (λz=>hc (by simp[z])) e) (λb o _ _ hc e _=>⟨o.slots,k b o (λz=>hc (by simp[z])) e⟩) (λ_ _ _ _ n=>n)
  (λb o hc e=>⟨o,k b o (λz=>hc (by simp[z])) e⟩) (λ_ _ e=>e) (λ_ _ _ e=>e) (λb ps e=>⟨#[],by rw[e];simp⟩) (λm hm=>?_) (λb u e=>?_) I.bare
 ·have e:b=it:=by simpa using hb
  subst e;exact⟨h1,hL,h2,h3⟩
 ·obtain⟨o,es,ep,ho,r⟩:=hm;exact⟨o,es,ep,k _ o (Ne.symm hL) ho,r⟩
 ·refine(I.av b u e).jG (λc v hc q=>k c v ?_ q) (λ_ q=>q) λ_ _ q=>q;rcases hc with z|z;·rw[z];exact Sb b u e
  ·exact Sb c _ z
theorem Inv.tok(I:Inv X pins σ H s)(t:Nat):Inv X pins σ H {s with toks:=t}:=I.un (h':=s.heap) (t':=t) Un.refl I.av
theorem Inv.kept{t':Nat}(I:Inv X pins σ H s)(k:∀b u,s.heap.get? b=some u->h'.get? b=some u):Inv X pins σ H {s with heap:=h',toks:=t'}:=I.un (Un.kept k) (I.av.kept k)
theorem Inv.laid{a:Addr}{o:HO}{t':Nat}(I:Inv X pins σ H s)(k:∀b u,s.heap.get? b=some u->h'.get? b=some u)(hp:s.heap.objs.size<=a)(new:cK X.prog X.w (upd H a o) h' a o):
  Inv X pins σ (upd H a o) {s with heap:=h',toks:=t'}:=I.un (Un.laid k hp (I.av.fresh hp)) (I.av.laid k hp new)
theorem Inv.write{x e:Addr}{o:HO}{t':Nat}(I:Inv X pins σ H s)(mu:xw (H x))(he:e=x\/H e=some (.own x))(k:∀b u,b≠e->s.heap.get? b=some u->h'.get? b=some u)(xx:∃u,h'.get? e=some u)
  (new:cK X.prog X.w (upd H x o) h' x o):Inv X pins σ (upd H x o) {s with heap:=h',toks:=t'}:=I.un (Un.write mu he k xx) (I.av.write mu he k xx new)
theorem Inv.Ny{Qt:List (Addr×Obj)}(I:Inv X pins σ H s)(h:∀p∈Qt,s.heap.get? p.1=some p.2/\H p.1=none/\p.1≠X.env.locals/\p.1∉X.fs/\∀v,p.2.data≠.cell v):Inv X Qt σ H s:=
 ⟨I.ok,I.os,I.bare,I.base,I.loc,I.cell,I.free,I.kr,λp hp=>(Yt.mp hp).elim (λz=>I.pin p (Ys _ z)) (h p),I.av,I.len⟩
theorem Mf{N:List Str}(hN:N.Nodup){i j:Nat}{x:Str}(a:N[i]?=some x)(b:N[j]?=some x):i=j:=by
 obtain⟨h1,e1⟩:=Yh.mp a;obtain⟨h2,e2⟩:=Yh.mp b;exact(List.getElem_inj hN).mp (e1.trans e2.symm)
theorem Li{M:Model}{A:Around}{E:Value->Shared->Prop}{i:Nat}{x:Str}{v:V}{u:Value}{Q:Unit->Shared->Prop}(I:Inv X pins σ H s)(hN:X.N.Nodup)(hi:X.N[i]?=some x)(hx:Loc X.env.scope x)(r:RelV v u)
  (h:∀s',Inv X pins (σ.set i (some v)) H s'->(∃a,Heap.SameBut a s.heap s'.heap/\(a=X.env.locals\/X.env.cells.lookup x=some a))->Q () s')(hf:X.fn x=true\/X.env.scope.names.lookup x=some .local:=by first|exact .inl rfl|exact .inr rfl|assumption):wpAny M A (storeName X.env x u) Q E s:=by
 obtain⟨m,hn,hl⟩:=id I.loc;have ZeU:(X.env.scope.kind==.class||(X.env.scope.kind==.module&&X.env.locals !=X.env.globals))=false:=by rw[I.ok.kind];rfl
 have Q9:i<σ.length:=by rw[I.len];exact(Yh.mp hi).1
 have r8:=I.r8;have tracked:∀{a:Addr} {h':Heap},(∃o,s.heap.get? a=some o/\H a=none)->Heap.SameBut a s.heap h'->dh X.prog X.w H h':=λ{a h'} ha hs b ob e=>by
  obtain⟨_,_,Qu⟩:=ha;refine(I.av b ob e).jG (λc w' hc q=>(hs.2 c ?_).trans q) (λ_ q=>q) λ_ _ q=>q;rintro rfl;rcases hc with rfl|hc;·rw[Qu] at e;cases e
  ·rw[Qu] at hc;cases hc
 rcases hx with hk|hk
 ·refine wpAny_storeName_local hk hn (λh' uU hs=>?_) ZeU;obtain⟨oL,_,_,oG,_⟩:=id hn;refine h _ ⟨I.ok,I.os,I.bare,⟨λb o e n hb hx=>?_,λb o e n hb hx=>?_,I.base.free,λb o e hx=>?_,I.base.kC,I.base.lN,I.base.mV⟩,⟨_,uU,λj y v' e1 e2 e3=>?_⟩,λy c e=>?_,I.free,I.kr,λp hp=>?_,tracked ⟨oL,oG,I.free⟩ hs,by simpa using I.len⟩ ⟨_,hs,.inl rfl⟩;·exact(hs.2 b (Y2 (Y1 (Yx e) I.ok.above))).trans (I.base.keep b o e n hb hx)
  ·obtain⟨sl,e1⟩:=I.base.slot b o e n hb hx;exact⟨sl,(hs.2 b (Y2 (Y1 (Yx e) I.ok.above))).trans e1⟩
  ·obtain⟨o',e1⟩:=I.base.there b o e hx;exact⟨o',(hs.2 b (Y2 (Y1 (Yx e) I.ok.above))).trans e1⟩
  ·by_cases hj:j=i
   ·subst hj;rw[hi] at e1;cases e1;rw[List.getElem?_set_self Q9] at e2;cases e2;exact⟨u,r,.inl ⟨hk,by simp⟩⟩
   ·rw[List.getElem?_set_ne (Ne.symm hj)] at e2;obtain⟨u',r',q⟩:=hl j y v' e1 e2 e3;refine⟨u',r',?_⟩;rcases q with⟨k,e⟩|⟨k,c,e,z⟩
    ·refine .inl ⟨k,?_⟩;have:y≠x:=λe=>hj (Mf hN e1 (e▸hi));simp[this,e]
    ·exact .inr ⟨k,c,e,z.sameBut hs (r8 y c e)⟩
  ·obtain⟨w',z⟩:=I.cell y c e;exact⟨w',z.sameBut hs (r8 y c e)⟩
  ·obtain⟨e,n,ne,nf,d⟩:=I.pin p hp;exact⟨(hs.2 p.1 ne).trans e,n,ne,nf,d⟩
 ·have G1:X.fn x=true:=by
   rcases hf with z|z;·exact z
   ·rw[z] at hk;cases hk
  obtain⟨c,hc⟩:=I.ok.has x (.inl hk);obtain⟨w',z⟩:=I.cell x c hc;refine wpAny_storeName_cell I.ok.kind hk hc z (λh' mZ hs=>?_);obtain⟨oc,Se,ZeV⟩:=id z;refine h {s with heap:=h'} ⟨I.ok,I.os,I.bare,⟨λb o e n hb hx=>?_,λb o e n hb hx=>?_,I.base.free,λb o e hx=>?_,I.base.kC,I.base.lN,I.base.mV⟩,⟨m,hn.sameBut hs (Ne.symm (r8 x c hc)),λj y v' e1 e2 e3=>?_⟩,λy c' e=>?_,I.free,I.kr,λp hp=>?_,tracked ⟨oc,Se,I.kr x c hc⟩ hs,by simpa using I.len⟩ ⟨c,hs,.inr hc⟩;·exact(hs.2 b (Y2 (Y1 (Yx e) (I.ok.xy x c G1 hc)))).trans (I.base.keep b o e n hb hx)
  ·obtain⟨sl,e1⟩:=I.base.slot b o e n hb hx;exact⟨sl,(hs.2 b (Y2 (Y1 (Yx e) (I.ok.xy x c G1 hc)))).trans e1⟩
  ·obtain⟨o',e1⟩:=I.base.there b o e hx;exact⟨o',(hs.2 b (Y2 (Y1 (Yx e) (I.ok.xy x c G1 hc)))).trans e1⟩
  ·by_cases hj:j=i
   ·subst hj;rw[hi] at e1;cases e1;rw[List.getElem?_set_self Q9] at e2;cases e2;exact⟨u,r,.inr ⟨.inl hk,c,hc,mZ⟩⟩
   ·rw[List.getElem?_set_ne (Ne.symm hj)] at e2;obtain⟨u',r',q⟩:=hl j y v' e1 e2 e3;refine⟨u',r',?_⟩;rcases q with q|⟨k,c',e,z'⟩;·exact .inl q
    ·refine .inr ⟨k,c',e,z'.sameBut hs ?_⟩;rintro rfl;exact hj (Mf hN e1 (I.ok.inj _ _ _ e hc▸hi))
  ·by_cases Sf:c'=c;·subst Sf;exact⟨_,mZ⟩
   ·obtain⟨w2,z2⟩:=I.cell y c' e;exact⟨w2,z2.sameBut hs Sf⟩
  ·obtain⟨e,n,ne,nf,d⟩:=I.pin p hp;refine⟨(hs.2 p.1 ?_).trans e,n,ne,nf,d⟩;intro q;rw[q,Se] at e;have q':oc=p.2:=Yq e;exact d w' (by rw[←q'];exact ZeV)
theorem EF{M:Model}{A:Around}{E:Value->Shared->Prop}{i:Nat}{x:Str}{v:V}{u:Value}{Q:Unit->Shared->Prop}(I:Inv X pins σ H s)(hN:X.N.Nodup)(hi:X.N[i]?=some x)(hx:Loc X.env.scope x)(r:RelV v u)
  (h:∀s',Inv X pins (σ.set i (some v)) H s'->Q () s')(hf:X.fn x=true\/X.env.scope.names.lookup x=some .local:=by first|exact .inl rfl|exact .inr rfl|assumption):wpAny M A (storeName X.env x u) Q E s:=
 Li I hN hi hx r (λs' I' _=>h s' I') hf
theorem Inv.Zea{s':Shared}{ch:List Addr}(I:Inv X pins σ H s)(ho:s'.os=s.os)(u:Un (fI X.stack) ch H H' s.heap s'.heap)(av:dh X.prog X.w H' s'.heap)(hg:AllBare s'.gens)
  (mY:∀b∈ch,(b∈X.ex\/X.cR.heap.objs.size<=b)/\b≠X.env.locals/\(∀x c,X.env.cells.lookup x=some c->c≠b)/\∀p∈X.pn++pins,p.1≠b):Inv X pins σ H' s':=by
 obtain⟨h',g',d',t',o'⟩:=s';have e:o'=s.os:=ho;subst e;exact I.call (g':=g') (t':=t') (d':=d') u av hg mY
end
abbrev XK:=Value->Option Addr->Hp->Prop
abbrev St:=List (Option V)
abbrev VK:=V->Hp->Prop
abbrev TE:=St->Hp->VK->Prop
abbrev TT:=St->Hp->(Bool->Hp->Prop)->Prop
abbrev TA:=St->Hp->(List V->Hp->Prop)->Prop
structure Ends where
 nx:St->Hp->Prop
 rt:VK
 bk:St->Hp->Prop:=λ_ _=>False
 ct:St->Hp->Prop:=λ_ _=>False
abbrev TS:=Ends->St->Hp->Prop
inductive Q_(X:Cx)(pins:List (Addr×Obj))(σ:St)(Q:VK)(u:Value)(s':Shared):Prop
 |mk (v H') (aC:Inv X pins σ H' s') (aT:RelV v u) (bc:Q v H'):Q_ X pins σ Q u s'
def EP(X:Cx)(pins:List (Addr×Obj))(σ:St)(Q:VK)(u:Value)(s':Shared):Prop:=Q_ X pins σ Q u s'
inductive Ra(X:Cx)(pins:List (Addr×Obj))(σ:St)(R:Hp->Prop)(s':Shared):Prop
 |mk (H':Hp) (aC:Inv X pins σ H' s') (aT:R H'):Ra X pins σ R s'
def TP(X:Cx)(pins:List (Addr×Obj))(σ:St)(Q:Bool->Hp->Prop)(b:Bool)(s':Shared):Prop:=Ra X pins σ (Q b) s'
inductive Rb(X:Cx)(pins:List (Addr×Obj))(σ:St)(Q:List V->Hp->Prop)(us:List Value)(s':Shared):Prop
 |mk (vs H') (aC:Inv X pins σ H' s') (aT:Vals vs us) (bc:Q vs H'):Rb X pins σ Q us s'
def AP(X:Cx)(pins:List (Addr×Obj))(σ:St)(Q:List V->Hp->Prop)(us:List Value)(s':Shared):Prop:=Rb X pins σ Q us s'
inductive rG(X:Cx)(pins:List (Addr×Obj))(Q:St->Hp->Prop)(s':Shared):Prop
 |mk (aE:St) (H':Hp) (aC:Inv X pins aE H' s') (aT:Q aE H'):rG X pins Q s'
inductive Rc(X:Cx)(pins:List (Addr×Obj))(Q:VK)(u:Value)(s':Shared):Prop
 |mk (v:V) (aE:St) (H':Hp) (aC:Inv X pins aE H' s') (aT:RelV v u) (bc:Q v H'):Rc X pins Q u s'
def SP(X:Cx)(pins:List (Addr×Obj))(D:Ends)(f:Flow)(s':Shared):Prop:=
 match f with
 |.next=>rG X pins D.nx s'
 |.brk=>rG X pins D.bk s'
 |.cont=>rG X pins D.ct s'
 |.ret u=>Rc X pins D.rt u s'
def PE(X:Cx)(e:Expr)(t:TE):Prop:=
 ∀(pins:List (Addr×Obj)) (s:Shared) (σ:St) (H:Hp) (Q:VK),Inv X pins σ H s->t σ H Q->wpAny (model X.prog X.w) X.A (eval e X.env) (EP X pins σ Q) X.xe s
def PT(X:Cx)(e:Expr)(t:TT):Prop:=
 ∀(pins:List (Addr×Obj)) (s:Shared) (σ:St) (H:Hp) (Q:Bool->Hp->Prop),Inv X pins σ H s->t σ H Q->wpAny (model X.prog X.w) X.A (isTrue e X.env (eval e X.env)) (TP X pins σ Q) X.xe s
def PW(X:Cx)(e:Expr)(t:TT):Prop:=
 ∀(whole:Sem Value) (pins:List (Addr×Obj)) (s:Shared) (σ:St) (H:Hp) (Q:Bool->Hp->Prop),Inv X pins σ H s->t σ H Q->wpAny (model X.prog X.w) X.A (isTrue e X.env whole) (TP X pins σ Q) X.xe s
theorem PW.pt{X:Cx}{e:Expr}{t:TT}(h:PW X e t):PT X e t:=h _
def PA(X:Cx)(es:List Expr)(t:TA):Prop:=
 ∀(pos:Pos) (pins:List (Addr×Obj)) (s:Shared) (σ:St) (H:Hp) (Q:List V->Hp->Prop),Inv X pins σ H s->t σ H Q->wpAny (model X.prog X.w) X.A (spliced (backTo pos (starEach es X.env))) (AP X pins σ Q) X.xe s
def PS(X:Cx)(st:Stmt)(t:TS):Prop:=
 ∀(pins:List (Addr×Obj)) (s:Shared) (σ:St) (H:Hp) (D:Ends),Inv X pins σ H s->t D σ H->wpAny (model X.prog X.w) X.A (exec st X.env) (SP X pins D) X.xe s
def fS(X:Cx)(st:List Stmt)(t:TS):Prop:=
 ∀(pins:List (Addr×Obj)) (s:Shared) (σ:St) (H:Hp) (D:Ends),Inv X pins σ H s->t D σ H->wpAny (model X.prog X.w) X.A (execs st X.env) (SP X pins D) X.xe s
theorem az{α:Type}{t:Sem α}{Q Q':α->Shared->Prop}{M:Model}{A:Around}{E:Value->Shared->Prop}{s:Shared}(h:wpAny M A t Q E s)(hQ:∀a s,Q a s->Q' a s):wpAny M A t Q' E s:=wpAny_mono h hQ λ_ _ x=>x
section
variable {X:Cx}
inductive O5(i:Nat)(σ:St)(H:Hp)(Q:VK):Prop
 |mk (v) (aC:σ[i]?=some (some v)) (aT:Q v H):O5 i σ H Q
def gq(i:Nat):TE:=λσ H Q=>O5 i σ H Q
def tC(v:V):TE:=λ_ H Q=>Q v H
theorem ZcP{i:Nat}{x:Str}{pos:Pos}(hN:X.N[i]?=some x)(hv:uR X.env.scope x)(hd:(x==("__debug__":Str))=false:=by decide)(iX:(x==("__classdict__":Str))=false:=by decide):PE X (.Name x pos) (gq i):=by
 rintro pins s σ H Q I ⟨v,e,h⟩;obtain⟨m,hn,hl⟩:=I.loc;obtain⟨u,r,l⟩:=hl i x v hN e hv;have fin:EP X pins σ Q u s:=⟨v,H,I,r,h⟩;rcases l with⟨hk,hm⟩|⟨hk,c,hc,zS⟩;·exact wpAny_Name (wpAny_loadName_local I.ok.kind hk hn hm fin) hd
 ·rcases hk with hk|hk;·exact wpAny_Name (wpAny_loadName_cell I.ok.kind hk hc zS fin) hd
  ·exact wpAny_Name (wpAny_loadName_free I.ok.kind hk hc zS fin iX) hd
theorem aL{i j pos}:PE X (.Constant (.int i) j pos) (tC (.int i)):=λ_ _ _ H _ I h=>wpAny_Constant_int ⟨.int i,H,I.tok _,⟨_,rfl⟩,h⟩
theorem jh{b j pos}:PE X (.Constant (.bool b) j pos) (tC (.bl b)):=λ_ _ _ H _ I h=>Constant_bool ⟨.bl b,H,I,rfl,h⟩
theorem lC{j pos}:PE X (.Constant .none j pos) (tC .ay):=λ_ _ _ H _ I h=>Constant_none ⟨.ay,H,I,rfl,h⟩
theorem bq{x j pos}:PE X (.Constant (.str x) j pos) (tC (.str x)):=λ_ _ _ H _ I h=>Calls.Constant_str ⟨.str x,H,I.tok _,⟨_,rfl⟩,h⟩
def Gl(X:Cx)(x:Str):Prop:=X.env.kindOf x=some .globalImplicit
theorem Fd{E:Value->Shared->Prop}{pins:List (Addr×Obj)}{s:Shared}{σ:St}{H:Hp}{x:Str}{u:Value}{pos:Pos}{Q:Value->Shared->Prop}(I:Inv X pins σ H s)(hg:Gl X x)(hm:X.mg x=some u)(h:Q u s)
  (hd:(x==("__debug__":Str))=false:=by decide):wpAny (model X.prog X.w) X.A (eval (.Name x pos) X.env) Q E s:=
 Calls.Name_function_global I.ok.kind hg (Calls.loadGlobal_global (by rw[I.ok.glob];exact I.mod.glob.keeps I.bk) hm h) hd
theorem zF{E:Value->Shared->Prop}{pins:List (Addr×Obj)}{s:Shared}{σ:St}{H:Hp}{x:Str}{u:Value}{pos:Pos}{Q:Value->Shared->Prop}(I:Inv X pins σ H s)(hg:Gl X x)(hm:X.mg x=none)(hv:bootBuiltins x=some u)(h:Q u s)
  (hn:x≠"__name__":=by decide)(hd:(x==("__debug__":Str))=false:=by decide):wpAny (model X.prog X.w) X.A (eval (.Name x pos) X.env) Q E s:=by
 obtain⟨mb,h1,h2⟩:=I.mod.blt;exact Calls.Name_function_global I.ok.kind hg (Calls.loadGlobal_builtin (by rw[I.ok.glob];exact I.mod.glob.keeps I.bk) hm (by rw[I.ok.blt];exact h1.keeps I.bk) ((h2 x hn).trans hv) h) hd
theorem dq{x:Str}{v:V}{u:Value}{pos:Pos}(hg:Gl X x)(hm:X.mg x=some u)(r:RelV v u)(hd:(x==("__debug__":Str))=false:=by decide):PE X (.Name x pos) (tC v):=
 λ_ _ _ H _ I h=>Fd I hg hm ⟨v,H,I,r,h⟩ hd
theorem ZbA{x:Str}{v:V}{u:Value}{pos:Pos}(hg:Gl X x)(hm:X.mg x=none)(hv:bootBuiltins x=some u)(r:RelV v u)(hn:x≠"__name__":=by decide)(hd:(x==("__debug__":Str))=false:=by decide):PE X (.Name x pos) (tC v):=
 λ_ _ _ H _ I h=>zF I hg hm hv ⟨v,H,I,r,h⟩ hn hd
variable {a b:Expr}{ta tb:TE}{pos:Pos}
def PC(X:Cx)(op:CmpOp)(a b:Expr)(t:TE):Prop:=
 ∀(pins:List (Addr×Obj)) (s:Shared) (σ:St) (H:Hp) (Q:VK),Inv X pins σ H s->t σ H Q->
  wpAny (model X.prog X.w) X.A (eval a X.env) (λv bC=>wpAny (model X.prog X.w) X.A (eval b X.env) (λu dW=>wpAny (model X.prog X.w) X.A (compareOp op v u) (EP X pins σ Q) X.xe dW) X.xe bC) X.xe s
inductive Rf(Q:Bool->Hp->Prop)(x:V)(H1:Hp):Prop
 |mk (c) (aC:x=.bl c) (aT:Q c H1):Rf Q x H1
def tB(t:TE):TT:=λσ H Q=>t σ H λx H1=>Rf Q x H1
theorem ZcQ{op:CmpOp}{t:TE}(h:PC X op a b t)(h1:behindInMarks op b=false:=by first|exact Zaf _ (by decide) (by decide)|rfl):PE X (.Compare a [op] [b] pos) t:=λpins s σ H Q I hw=>wpAny_Compare1 (h pins s σ H Q I hw) h1
theorem je{op:CmpOp}{t:TE}(h:PC X op a b t)(h1:behindInMarks op b=false:=by first|exact Zaf _ (by decide) (by decide)|rfl):PT X (.Compare a [op] [b] pos) (tB t):=by
 intro pins s σ H Q I hw;refine wpAny_isTrue_Compare1 (az (h pins s σ H _ I hw) λv s1 h1=>az h1 λu s2 h2=>az h2 λc s3 zq=>?_) h1;obtain⟨x,H1,I1,r1,q1⟩:=zq;obtain⟨d,rfl,q⟩:=q1;cases r1;exact wpAny_truthy_bool ⟨H1,I1,q⟩
theorem eN{e:Expr}{t:TE}(h:PE X e t)(he:∀whole,isTrue e X.env whole=(do let v←whole;standAt e.pos;holding [v] (truthy v)):=by intro _;rfl):PT X e (tB t):=by
 intro pins s σ H Q I hw;refine isTrue_plain (az (h pins s σ H _ I hw) λv s1 zq=>?_) (he _);obtain⟨x,H1,I1,r1,q1⟩:=zq;obtain⟨d,rfl,q⟩:=q1;cases r1;exact wpAny_truthy_bool ⟨H1,I1,q⟩
variable {tA Ax:TT}{rest:List Expr}
def Rg(t u:TT):TT:=λσ H Q=>t σ H λc H1=>if c=true then u σ H1 Q else Q false H1
def Sg(t u:TT):TT:=λσ H Q=>t σ H λc H1=>if c=true then Q true H1 else u σ H1 Q
def ZeW(t:TT):TT:=λσ H Q=>t σ H λc H1=>Q (!c) H1
theorem pw_and1(ha:PT X a tA):PW X (.BoolOp .And [a] pos) tA:=by
 intro wh pins s σ H Q I h;refine isTrue_and (az (ha pins s σ H Q I h) λc s1 e=>?_);cases c with
 |true=>exact isTrue_and_nil e
 |false=>exact e
theorem pw_or1(ha:PT X a tA):PW X (.BoolOp .Or [a] pos) tA:=by
 intro wh pins s σ H Q I h;refine isTrue_or (az (ha pins s σ H Q I h) λc s1 e=>?_);cases c with
 |false=>exact isTrue_or_nil e
 |true=>exact e
theorem pw_and(ha:PT X a tA)(hb:PW X (.BoolOp .And (b::rest) pos) Ax):PW X (.BoolOp .And (a::b::rest) pos) (Rg tA Ax):=by
 intro wh pins s σ H Q I h;refine isTrue_and (az (ha pins s σ H _ I h) λc s1 zq=>?_);obtain⟨H1,I1,q1⟩:=zq;cases c with
 |true=>exact hb wh pins s1 σ H1 Q I1 q1
 |false=>exact⟨H1,I1,q1⟩
theorem pw_or(ha:PT X a tA)(hb:PW X (.BoolOp .Or (b::rest) pos) Ax):PW X (.BoolOp .Or (a::b::rest) pos) (Sg tA Ax):=by
 intro wh pins s σ H Q I h;refine isTrue_or (az (ha pins s σ H _ I h) λc s1 zq=>?_);obtain⟨H1,I1,q1⟩:=zq;cases c with
 |true=>exact⟨H1,I1,q1⟩
 |false=>exact hb wh pins s1 σ H1 Q I1 q1
theorem jg(ha:PT X a tA):PT X (.UnaryOp .Not a pos) (ZeW tA):=by
 intro pins s σ H Q I h;exact isTrue_not (ha pins s σ H (λc H1=>Q (!c) H1) I h)
def Qv(ta tb:TE):TE:=λσ H Q=>ta σ H λx H1=>∃c,x=.bl c/\if c=true then tb σ H1 Q else Q (.bl false) H1
def Rh(ta tb:TE):TE:=λσ H Q=>ta σ H λx H1=>∃c,x=.bl c/\if c=true then Q (.bl true) H1 else tb σ H1 Q
def Zeb(ta:TE):TE:=λσ H Q=>ta σ H λx H1=>∃c,x=.bl c/\Q (.bl (!c)) H1
theorem lD{op}{t:TE}(h:PE X a t):PE X (.BoolOp op [a] pos) t:=λpins s σ H Q I hw=>BoolOp_one (h pins s σ H Q I hw)
theorem oh(ha:PE X a ta)(hb:PE X (.BoolOp .And (b::rest) pos) tb):PE X (.BoolOp .And (a::b::rest) pos) (Qv ta tb):=by
 intro pins s σ H Q I h;refine BoolOp_and (az (ha pins s σ H _ I h) λv s1 zq=>?_);obtain⟨x,H1,I1,r1,q1⟩:=zq;obtain⟨c,rfl,q1⟩:=q1;cases r1;refine wpAny_truthy_bool ?_;cases c with
 |true=>exact hb pins s1 σ H1 Q I1 q1
 |false=>exact⟨.bl false,H1,I1,rfl,q1⟩
theorem F6(ha:PE X a ta)(hb:PE X (.BoolOp .Or (b::rest) pos) tb):PE X (.BoolOp .Or (a::b::rest) pos) (Rh ta tb):=by
 intro pins s σ H Q I h;refine BoolOp_or (az (ha pins s σ H _ I h) λv s1 zq=>?_);obtain⟨x,H1,I1,r1,q1⟩:=zq;obtain⟨c,rfl,q1⟩:=q1;cases r1;refine wpAny_truthy_bool ?_;cases c with
 |false=>exact hb pins s1 σ H1 Q I1 q1
 |true=>exact⟨.bl true,H1,I1,rfl,q1⟩
theorem ZcR(ha:PE X a ta):PE X (.UnaryOp .Not a pos) (Zeb ta):=by
 intro pins s σ H Q I h;refine UnaryOp_ (az (ha pins s σ H _ I h) λv s1 zq=>?_);obtain⟨x,H1,I1,r1,q1⟩:=zq;obtain⟨c,rfl,q1⟩:=q1;cases r1;exact not_of (wpAny_truthy_bool ⟨.bl (!c),H1,I1,rfl,q1⟩)
end
def aj(K:PySem.W.Frag)(H:Hp)(a:Addr)(xs:List V):Prop:=
 Rd H a (.lst xs)\/
  ∃(o:Obj) (ah:Array Value) (n:Nat),K.lookup a=some o/\o.cls=.type "list"/\o.dict=none/\o.data=.seq ah n/\ah.size<=sizeLine/\Vals xs ah.toList
def aA(K:PySem.W.Frag)(H:Hp)(a:Addr)(xs:List V):Prop:=
 Rd H a (.tup xs)\/
  ∃(o:Obj) (ah:Array Value) (n:Nat),K.lookup a=some o/\o.cls=.type "tuple"/\o.data=.seq ah n/\ah.size<=sizeLine/\Vals xs ah.toList
def ZeX:Value->Option V
 |.none=>some .ay
 |.bool b=>some (.bl b)
 |.int i _=>some (.int i)
 |.str x _=>some (.str x)
 |.bytes b _=>some (.jn b)
 |.float b _=>some (.rY b)
 |.ref a=>some (.ref a)
 |.type n=>some (.ty n)
 |_=>none
theorem RelV.abs{x:V}{u:Value}(r:RelV x u):ZeX u=some x:=by
 cases x with
 |ay=>cases r;rfl
 |bl _=>cases r;rfl
 |int _=>obtain⟨t,rfl⟩:=r;rfl
 |str _=>obtain⟨t,rfl⟩:=r;rfl
 |jn _=>obtain⟨t,rfl⟩:=r;rfl
 |rY _=>obtain⟨t,rfl⟩:=r;rfl
 |ref _=>cases r;rfl
 |ty _=>cases r;rfl
theorem RelV.inj{x y:V}{u:Value}(r:RelV x u)(q:RelV y u):x=y:=Yq (r.abs.symm.trans q.abs)
theorem Vals.inj:∀{xs ys:List V} {us:List Value},Vals xs us->Vals ys us->xs=ys:=by
 intro xs ys us h;induction h generalizing ys with
 |nil=>intro h';cases h';rfl
 |cons r t ih=>
  intro h';cases h' with
  |cons r' t'=>rw[r.inj r',ih t']
section
variable {X:Cx}{pins:List (Addr×Obj)}{σ:St}{H:Hp}{s:Shared}{a:Addr}{xs ys:List V}
theorem aj.of{K:PySem.W.Frag}(h:H a=some (.lst xs)):aj K H a xs:=.inl (.inl h)
theorem aA.of{K:PySem.W.Frag}(h:H a=some (.tup xs)):aA K H a xs:=.inl (.inl h)
theorem Inv.list(I:Inv X pins σ H s)(h:aj X.K H a xs):∃ah:List Value,Vals xs ah/\PlainL s.heap a ah.toArray/\xs.length<=sizeLine:=by
 rcases h with h|⟨o,ah,n,hk,hc,hd,hs,hz,r⟩
 ·obtain⟨z,ah,n,r,e⟩:=h.ok I.av;exact⟨ah,r,⟨_,n,e,rfl,rfl,rfl⟩,z⟩
 ·refine⟨ah.toList,r,⟨o,n,I.dE a o hk,hc,hd,by simpa using hs⟩,?_⟩;have e:=r.length
  grind
theorem Inv.tuple(I:Inv X pins σ H s)(h:aA X.K H a xs):∃ah:List Value,Vals xs ah/\IsTup s.heap a ah.toArray/\xs.length<=sizeLine:=by
 rcases h with h|⟨o,ah,n,hk,hc,hs,hz,r⟩
 ·obtain⟨z,ah,r,p⟩:=h.ok I.av;exact⟨ah,r,p.tup,z⟩
 ·refine⟨ah.toList,r,⟨o,I.dE a o hk,hc,n,by simpa using hs⟩,?_⟩;have e:=r.length
  grind
theorem Inv.Zag(I:Inv X pins σ H s)(h:aj X.K H a xs)(h':aj X.K H a ys):xs=ys:=by
 obtain⟨ah,r,⟨o,n,e,_,_,d⟩,_⟩:=I.list h;obtain⟨its',r',⟨o',n',e',_,_,d'⟩,_⟩:=I.list h';rw[e] at e';cases e';rw[d] at d';injection d' with d1 _;have:ah=its':=by simpa using congrArg Array.toList d1
 subst this;exact r.inj r'
theorem Inv.Zp(I:Inv X pins σ H s)(h:aA X.K H a xs)(h':aA X.K H a ys):xs=ys:=by
 obtain⟨ah,r,⟨o,e,_,n,d⟩,_⟩:=I.tuple h;obtain⟨its',r',⟨o',e',_,n',d'⟩,_⟩:=I.tuple h';rw[e] at e';cases e';rw[d] at d';injection d' with d1 _;have:ah=its':=by simpa using congrArg Array.toList d1
 subst this;exact r.inj r'
end
abbrev Cx.mW(X:Cx)(E:Value->Shared->Prop):Cx:={X with xe:=E}
abbrev Cx.xB(X:Cx):Cx:=X.mW λ_ _=>False
theorem Cx.Ok.mW{X:Cx}(ok:X.Ok)(E:Value->Shared->Prop):(X.mW E).Ok:=
 ⟨ok.mod,ok.kind,ok.glob,ok.blt,ok.above,ok.inj,ok.has,ok.xy,ok.hd,ok.frames,ok.Ar,ok.uS,ok.bs,ok.oF,ok.xg,ok.uF,ok.kF,ok.r6⟩
theorem Cx.Ok.pP{X:Cx}{E:Value->Shared->Prop}(ok:(X.mW E).Ok):X.Ok:=
 ⟨ok.mod,ok.kind,ok.glob,ok.blt,ok.above,ok.inj,ok.has,ok.xy,ok.hd,ok.frames,ok.Ar,ok.uS,ok.bs,ok.oF,ok.xg,ok.uF,ok.kF,ok.r6⟩
section
variable {X:Cx}{pins:List (Addr×Obj)}{σ:St}{H:Hp}{s:Shared}{E:Value->Shared->Prop}
theorem Inv.mW(I:Inv X pins σ H s)(E:Value->Shared->Prop):Inv (X.mW E) pins σ H s:=⟨I.ok.mW E,I.os,I.bare,I.base,I.loc,I.cell,I.free,I.kr,I.pin,I.av,I.len⟩
theorem Inv.pP(I:Inv (X.mW E) pins σ H s):Inv X pins σ H s:=⟨I.ok.pP,I.os,I.bare,I.base,I.loc,I.cell,I.free,I.kr,I.pin,I.av,I.len⟩
theorem SP.pP{D:Ends}{f:Flow}{s':Shared}(h:SP (X.mW E) pins D f s'):SP X pins D f s':=by
 cases f with
 |next=>obtain⟨aE,H',I,q⟩:=h;exact⟨aE,H',I.pP,q⟩
 |brk=>obtain⟨aE,H',I,q⟩:=h;exact⟨aE,H',I.pP,q⟩
 |cont=>obtain⟨aE,H',I,q⟩:=h;exact⟨aE,H',I.pP,q⟩
 |ret u=>obtain⟨v,aE,H',I,r,q⟩:=h;exact⟨v,aE,H',I.pP,r,q⟩
theorem fS.xB{st:List Stmt}{t:TS}(h:fS X.xB st t):fS X st t:=λpins s σ H D I hw=>
 wpAny_mono (h pins s σ H D (I.mW _) hw) (λ_ _ q=>q.pP) λ_ _ z=>False.elim z
end
section
variable {X:Cx}{st:Stmt}{rest:List Stmt}{t u:TS}{e:Expr}{te:TE}{pos:Pos}
def Qw:TS:=λD σ H=>D.nx σ H
def xh(t u:TS):TS:=λD σ H=>t {D with nx:=u D} σ H
theorem aW:fS X [] Qw:=λ_ _ σ H _ I h=>wpAny_execs_nil ⟨σ,H,I,h⟩
theorem ak(h1:PS X st t)(h2:fS X rest u):fS X (st::rest) (xh t u):=by
 intro pins s σ H D I h;refine wpAny_execs_cons (az (h1 pins s σ H {D with nx:=u D} I h) λf s1 q=>?_);cases f with
 |next=>
  obtain⟨aE,H',I',q⟩:=q;exact h2 pins s1 aE H' D I' q
 |ret v=>exact q
 |brk=>exact q
 |cont=>exact q
theorem au(h1:PS X st t):fS X [st] t:=by
 intro pins s σ H D I h;refine wpAny_execs_cons (az (h1 pins s σ H D I h) λf s1 q=>?_);cases f with
 |next=>exact wpAny_execs_nil q
 |ret v=>exact q
 |brk=>exact q
 |cont=>exact q
theorem Inv.quiet{pins:List (Addr×Obj)}{σ:St}{H:Hp}{s:Shared}(I:Inv X pins σ H s):interactive X.env=false:=by simp[interactive,I.ok.kind]
def Zec(te:TE):TS:=λD σ H=>te σ H λ_ H1=>D.nx σ H1
theorem cy(he:PE X e te)(hs:swapsWith e none pos.line X.env=pure false:=by rfl):PS X (.Expr e pos) (Zec te):=by
 intro pins s σ H D I h;exact wpAny_Expr_any (az (he pins s σ H _ I h) λv s1 ⟨x,H1,I1,r1,q1⟩=>⟨σ,H1,I1,q1⟩) I.quiet hs
def ZeY(te:TE):TS:=λD σ H=>te σ H D.rt
theorem aF(he:PE X e te):PS X (.Return (some e) pos) (ZeY te):=by
 intro pins s σ H D I h;exact wpAny_Return_some (az (he pins s σ H _ I h) λv s1 ⟨x,H1,I1,r1,q1⟩=>⟨x,σ,H1,I1,r1,q1⟩)
def Gu(c:TT)(t u:TS):TS:=λD σ H=>c σ H λb H1=>if b=true then t D σ H1 else u D σ H1
theorem aR{c:Expr}{a b:List Stmt}{tc:TT}(hc:PT X c tc)(ha:fS X a t)(hb:fS X b u):PS X (.If c a b pos) (Gu tc t u):=by
 intro pins s σ H D I h;refine wpAny_If (az (hc pins s σ H _ I h) λd s1 zq=>?_);obtain⟨H1,I1,q1⟩:=zq;cases d with
 |true=>exact ha pins s1 σ H1 D I1 q1
 |false=>exact hb pins s1 σ H1 D I1 q1
def ZcS:TS:=λ_ _ _=>False
theorem fD{sts:List Stmt}:fS X sts ZcS:=λ_ _ _ _ _ _ h=>h.elim
end
abbrev TG:=V->St->Hp->(St->Hp->Prop)->Prop
abbrev m5:=List V->St->Hp->(St->Hp->Prop)->Prop
def PG(X:Cx)(target:Expr)(t:TG):Prop:=
 ∀(pins:List (Addr×Obj)) (s:Shared) (σ:St) (H:Hp) (v:V) (u:Value) (Q:St->Hp->Prop),Inv X pins σ H s->RelV v u->t v σ H Q->
  wpAny (model X.prog X.w) X.A (assign target X.env u) (λ_ s'=>rG X pins Q s') X.xe s
def xC(X:Cx)(ts:List Expr)(t:m5):Prop:=
 ∀(pins:List (Addr×Obj)) (s:Shared) (σ:St) (H:Hp) (vs:List V) (us:List Value) (Q:St->Hp->Prop),Inv X pins σ H s->Vals vs us->t vs σ H Q->
  wpAny (model X.prog X.w) X.A (assignInOrder ((assignEach ts X.env).map (·.2)) us) (λ_ s'=>rG X pins Q s') X.xe s
abbrev Gv:=V->V->V->Hp->(Hp->Prop)->Prop
def rH(X:Cx)(t:Gv):Prop:=
 ∀(pins:List (Addr×Obj)) (s:Shared) (σ:St) (H:Hp) (o i v:V) (ov iv u:Value) (Q:Hp->Prop),Inv X pins σ H s->RelV o ov->RelV i iv->RelV v u->t o i v H Q->
  wpAny (model X.prog X.w) X.A (setItem ov iv u) (λ_ s'=>∃H',Inv X pins σ H' s'/\Q H') X.xe s
abbrev Ay:=V->V->Hp->VK->Prop
def G3(X:Cx)(op:Operator)(t:Ay):Prop:=
 ∀(pins:List (Addr×Obj)) (s:Shared) (σ:St) (H:Hp) (x y:V) (v u:Value) (Q:VK),Inv X pins σ H s->RelV x v->RelV y u->t x y H Q->
  wpAny (model X.prog X.w) X.A (inplaceOp op v u) (EP X pins σ Q) X.xe s
section
variable {X:Cx}{pos:Pos}
def ou(i:Nat):TG:=λv σ H Q=>Q (σ.set i (some v)) H
theorem pK{i:Nat}{x:Str}(hN:X.N.Nodup)(hi:X.N[i]?=some x)(hx:Loc X.env.scope x)(hf:X.fn x=true\/X.env.scope.names.lookup x=some .local:=by first|exact .inl rfl|exact .inr rfl|assumption):PG X (.Name x pos) (ou i):=by
 intro pins s σ H v u Q I r h;exact wpAny_assign_Name (EF I hN hi hx r (λs' I'=>⟨_,H,I',h⟩) hf)
def ZeZ:m5:=λvs σ H Q=>vs=[]/\Q σ H
inductive Nz(t:TG)(u:m5)(vs:List V)(σ:St)(H:Hp)(Q:St->Hp->Prop):Prop
 |mk (v r) (aC:vs=v::r) (aT:t v σ H λaE H'=>u r aE H' Q):Nz t u vs σ H Q
def Zed(t:TG)(u:m5):m5:=λvs σ H Q=>Nz t u vs σ H Q
theorem hU:xC X [] ZeZ:=by
 rintro pins s σ H vs us Q I r ⟨e,h⟩;subst e;exact assignInOrder_nil ⟨σ,H,I,h⟩
theorem bL{e:Expr}{es:List Expr}{t:TG}{u:m5}(h1:PG X e t)(h2:xC X es u)
  (hs:(assignEach (e::es) X.env).map (·.2)=assign e X.env::(assignEach es X.env).map (·.2):=by rfl):xC X (e::es) (Zed t u):=by
 rintro pins s σ H vs us Q I r ⟨v,vr,e1,h⟩;subst e1;cases r with
 |cons r rr=>
  rw[hs];exact assignInOrder_cons (az (h1 pins s σ H _ _ _ I r h) λ_ s1 ⟨uV,H1,I1,q1⟩=>h2 pins s1 uV H1 _ _ Q I1 rr q1)
inductive O6(K:PySem.W.Frag)(n:Nat)(t:m5)(v:V)(σ:St)(H:Hp)(Q:St->Hp->Prop):Prop
 |mk (a xs) (aC:v=.ref a) (aT:aA K H a xs) (bc:xs.length=n) (bK:t xs σ H Q):O6 K n t v σ H Q
def Ri(K:PySem.W.Frag)(n:Nat)(t:m5):TG:=λv σ H Q=>O6 K n t v σ H Q
theorem ZcT{es:List Expr}{k:Nat}{t:m5}{n:Nat}(hc:X.calm=true)(h:xC X es t)
  (hn:(assignEach es X.env).length=n:=by rfl)(eB:(assignEach es X.env).findIdx? (·.1)=none:=by rfl):PG X (.Tuple es k pos) (Ri X.K n t):=by
 rintro pins s σ H v u Q I r ⟨a,xs,e1,hq,hl,hw⟩;subst e1;cases r;obtain⟨ah,rv,ht,hz⟩:=I.tuple hq;exact assign_Tuple_tuple (I.ok.hd hc) ht (by simp[hn,←hl,rv.length]) eB λh' hx=>h pins _ σ H xs _ Q (I.kept λb o e=>hx b o (Y2 (Yx e)) e) (by simpa using rv) hw
def Rj(to ti:TE)(t:Gv):TG:=λv σ H Q=>to σ H λo H1=>ti σ H1 λi H2=>t o i v H2 λH3=>Q σ H3
theorem ZcU{o i:Expr}{to ti:TE}{t:Gv}(ho:PE X o to)(hi:PE X i ti)(hs:rH X t)
  (ha:∀v,assign (.Subscript o i pos) X.env v=(do
   let ov←holding [v] (eval o X.env);let iv←holding [v,ov] (eval i X.env)
   standAt pos
   holding [v,ov,iv] (setItem ov iv v)
   release [v,ov,iv] []):=by intro _;rfl):PG X (.Subscript o i pos) (Rj to ti t):=by
 intro pins s σ H v u Q I r h;exact wpAny_bind (wpAny_holding (az (ho pins s σ H _ I h) λov s1 ⟨x,H1,I1,r1,q1⟩=>wpAny_bind (wpAny_holding (az (hi pins s1 σ H1 _ I1 q1) λiv s2 ⟨y,H2,I2,r2,q2⟩=>wpAny_bind (wpAny_standAt (wpAny_bind (wpAny_holding (az (hs pins s2 σ H2 x y v ov iv u _ I2 r1 r2 r q2) λ_ s3 ⟨H3,I3,q3⟩=>wpAny_release ⟨σ,H3,I3,q3⟩))))))))
def rJ(te:TE)(g:TG):TS:=λD σ H=>te σ H λx H1=>g x σ H1 D.nx
theorem mK{tg e:Expr}{te:TE}{g:TG}(he:PE X e te)(hg:PG X tg g)(hs:swapsWithSole [tg] e pos.line X.env=pure false:=by rfl)(hw:swappedStores [tg] e X.env=pure none:=by rfl)
  (h1:(assignEach [tg] X.env).map (·.2)=[assign tg X.env]:=by rfl):PS X (.Assign [tg] e pos) (rJ te g):=by
 intro pins s σ H D I h;refine wpAny_Assign_stores (az (he pins s σ H _ I h) λv s1 zq=>?_) hs hw;obtain⟨x,H1,I1,r1,q1⟩:=zq;rw[h1];exact az (hg pins s1 σ H1 x v _ I1 r1 q1) λ_ s2 q=>q
theorem f_{i:Nat}{x:Str}{e:Expr}{te:TE}{pos':Pos}(hN:X.N.Nodup)(hi:X.N[i]?=some x)(hx:Loc X.env.scope x)(he:PE X e te)(hs:swapsWith e (some (.Name x pos')) pos.line X.env=pure false:=by rfl)(hf:X.fn x=true\/X.env.scope.names.lookup x=some .local:=by first|exact .inl rfl|exact .inr rfl|assumption):
  PS X (.Assign [.Name x pos'] e pos) (rJ te (ou i)):=by
 intro pins s σ H D I h;refine wpAny_Assign_Name (az (he pins s σ H _ I h) λv s1 zq=>?_) hs;obtain⟨y,H1,I1,r1,q1⟩:=zq;exact EF I1 hN hi hx r1 (λs2 I2=>⟨_,H1,I2,q1⟩) hf
def Ze0(i:Nat)(te:TE)(ti:Ay):TS:=λD σ H=>∃x,σ[i]?=some (some x)/\te σ H λy H1=>ti x y H1 λz H2=>D.nx (σ.set i (some z)) H2
theorem zG{i:Nat}{x:Str}{e:Expr}{te:TE}{op:Operator}{ti:Ay}{pos':Pos}(hN:X.N.Nodup)(hi:X.N[i]?=some x)(hx:Loc X.env.scope x)(he:PE X e te)(ho:G3 X op ti)(hf:X.fn x=true\/X.env.scope.names.lookup x=some .local:=by first|exact .inl rfl|exact .inr rfl|assumption):
  PS X (.AugAssign (.Name x pos') op e pos) (Ze0 i te ti):=by
 rintro pins s σ H D I ⟨v,e1,h⟩;obtain⟨m,hn,hl⟩:=I.loc;have G4:uR X.env.scope x:=by rcases hx with k|k;exact .inl k;exact .inr (.inl k)
 obtain⟨u,r,l⟩:=hl i x v hi e1 G4;refine wpAny_AugAssign_Name ?_;have go:wpAny (model X.prog X.w) X.A (eval e X.env) (λw dW=>wpAny (model X.prog X.w) X.A (inplaceOp op u w) (λr dO=>wpAny (model X.prog X.w) X.A (storeName X.env x r) (λ_=>SP X pins D .next) X.xe dO) X.xe dW) X.xe s:=az (he pins s σ H _ I h) λw s1 ⟨y,H1,I1,r1,q1⟩=>az (ho pins s1 σ H1 v y u w _ I1 r r1 q1) λz s2 ⟨zv,H2,I2,r2,q2⟩=>EF I2 hN hi hx r2 (λs3 I3=>⟨_,H2,I3,q2⟩) hf;rcases l with⟨hk,hm⟩|⟨hk,c,hc,zS⟩;·exact wpAny_loadName_local I.ok.kind hk hn hm go
 ·rcases hk with hk|hk;·exact wpAny_loadName_cell I.ok.kind hk hc zS go
  ·rcases hx with k|k
   ·have:X.env.scope.names.lookup x=some .free:=hk
    grind
   ·have:X.env.scope.names.lookup x=some .free:=hk
    grind
inductive Qx(f:Int->Int->Int)(x:V)(y:V)(H:Hp)(Q:VK):Prop
 |mk (i j) (aC:x=.int i) (aT:y=.int j) (bc:Q (.int (f i j)) H):Qx f x y H Q
def ipI(f:Int->Int->Int):Ay:=λx y H Q=>Qx f x y H Q
theorem FA:G3 X .Add (ipI λi j=>i+j):=by
 rintro pins s σ H x y v u Q I r1 r2 ⟨i,j,e1,e2,q⟩;subst e1;subst e2;obtain⟨t,rfl⟩:=r1;obtain⟨t',rfl⟩:=r2;exact iadd_int ⟨.int _,H,I.tok _,⟨_,rfl⟩,q⟩
end
section
variable {X:Cx}{pos:Pos}
def O7(c:TT)(tb:TS):TS:=λD σ H=>∃W:Nat->St->Hp->Prop,(∃m,W m σ H)/\∀m σ H,W m σ H->
 c σ H λb H1=>if b=true then ∃N:St->Hp->Prop,(∀aE H',N aE H'->∃m',m'<m/\W m' aE H')/\tb {D with nx:=N,ct:=N,bk:=D.nx} σ H1 else D.nx σ H1
theorem EG{c:Expr}{body:List Stmt}{tc:TT}{tb:TS}(hp:PassesOwn (model X.prog X.w) X.A X.env X.xe)(hc:PT X c tc)(hb:fS X body tb):PS X (.While c body [] pos) (O7 tc tb):=by
 intro pins s σ H D I h;obtain⟨W,⟨m0,w0⟩,turn⟩:=h;refine wpAny_While (codeAny_whileLoop (λn s'=>rG X pins (W n) s') ?_ m0 ⟨σ,H,I,w0⟩);rintro n s1 ⟨uV,H1,I1,w1⟩;refine wpAny_passesOwn hp (az (hc pins s1 uV H1 _ I1 (turn n uV H1 w1)) λb s2 zq=>?_);obtain⟨H2,I2,q2⟩:=zq;cases b with
 |true=>
  obtain⟨N,hN,q2⟩:=q2;rw[if_pos rfl];refine wpAny_passesOwn hp (az (hb pins s2 uV H2 _ I2 q2) λf s3 q3=>?_);cases f with
  |next=>
   obtain⟨bU,H3,I3,n3⟩:=q3;obtain⟨m',hm,w3⟩:=hN bU H3 n3;exact⟨m',hm,bU,H3,I3,w3⟩
  |cont=>
   obtain⟨bU,H3,I3,n3⟩:=q3;obtain⟨m',hm,w3⟩:=hN bU H3 n3;exact⟨m',hm,bU,H3,I3,w3⟩
  |brk=>exact q3
  |ret v=>exact q3
 |false=>
  rw[if_neg Yj];exact wpAny_execs_nil ⟨uV,H2,I2,q2⟩
end
structure It where
 go:Nat->Hp->Prop
 qg:Nat->Hp->V->Hp->Prop
 stop:Nat->Hp->Prop
def ia(X:Cx)(pins:List (Addr×Obj))(H:Hp)(b:Addr):Prop:=
 H b=none/\b≠X.env.locals/\b∉X.fs/\(b∈X.ex\/X.cR.heap.objs.size<=b)/\(∀x c,X.env.cells.lookup x=some c->c≠b)/\∀p∈X.pn++pins,p.1≠b
theorem Inv.oB{X:Cx}{pins:List (Addr×Obj)}{σ:St}{H H':Hp}{s:Shared}{b:Addr}(I:Inv X pins σ H s)(hb:s.heap.objs.size<=b)(hn:H' b=none):ia X pins H' b:=by
 refine⟨hn,Az (Y1 I.lt hb),I.ZeT hb,.inr (Y4 I.sz hb),λx c e z=>?_,λp hp z=>?_⟩
 ·obtain⟨v,q⟩:=I.cell x c e;exact absurd (Y1 q.lt (by rw[z];exact hb)) (Wg _)
 ·exact absurd (Y1 (Yx (I.pin p hp).1) (by rw[z];exact hb)) (Wg _)
structure Turn(P:Program)(w:World)(K:PySem.W.Frag)(tg:Expr)(J:It)(fp:List Addr)(it:Addr)(tn:Nat->Heap->Prop):Prop where
 mem:it∈fp
 obj:∀i h,tn i h->∀b∈fp,∃o,h.get? b=some o/\∀v,o.data≠.cell v
 keep:∀i h h',tn i h->(∀b∈fp,∀o,h.get? b=some o->h'.get? b=some o)->tn i h'
 item:∀(X:Cx),X.prog=P->X.w=w->X.K=K->X.calm=true->∀(i:Nat) (pins:List (Addr×Obj)) (s:Shared) (σ:St) (H:Hp) (E:Value->Shared->Prop),Inv X pins σ H s->(∀b∈fp,ia X pins H b)->tn i s.heap->J.go i H->
  wpAny (model P w) X.A (pyNext (.ref it)) (λr s1=>∃u,r=some u/\
   wpAny (model P w) X.A (letOwnedTupleGo tg (.ref it) u) (λ_ s2=>∃x H',Inv X pins σ H' s2/\RelV x u/\J.qg i H x H'/\tn (i+1) s2.heap/\∀b∈fp,H' b=none) E s1) E s
 done:∀(X:Cx),X.prog=P->X.w=w->X.K=K->X.calm=true->∀(i:Nat) (pins:List (Addr×Obj)) (s:Shared) (σ:St) (H:Hp) (E:Value->Shared->Prop),Inv X pins σ H s->(∀b∈fp,ia X pins H b)->tn i s.heap->J.stop i H->
  wpAny (model P w) X.A (pyNext (.ref it)) (λr s1=>r=none/\Inv X pins σ H s1) E s
 self:∀(A:Around) (i:Nat) (s:Shared) (Q:Value->Shared->Prop) (E:Value->Shared->Prop),tn i s.heap->Q (.ref it) s->wpAny (model P w) A (pyIter (.ref it)) Q E s
abbrev TI:=St->Hp->(It->Hp->Prop)->Prop
def Sh(X:Cx)(pins:List (Addr×Obj))(σ:St)(tg:Expr)(R:It->Hp->Prop)(r9:Value)(s2:Shared):Prop:=
 ∃(it:Addr) (fp:List Addr) (tn:Nat->Heap->Prop) (J:It) (H':Hp),r9=.ref it/\Inv X pins σ H' s2/\Turn X.prog X.w X.K tg J fp it tn/\tn 0 s2.heap/\(∀b∈fp,ia X pins H' b)/\R J H'
def PI(X:Cx)(tg iter:Expr)(wi:TI):Prop:=
 ∀(pins:List (Addr×Obj)) (s:Shared) (σ:St) (H:Hp) (R:It->Hp->Prop),Inv X pins σ H s->wi σ H R->
  wpAny (model X.prog X.w) X.A (eval iter X.env) (λv s1=>wpAny (model X.prog X.w) X.A (pyIter v) (Sh X pins σ tg R) X.xe s1) X.xe s
theorem rp{M:Model}{A:Around}{E:Value->Shared->Prop}{s:Shared}{tg:Expr}{it:Addr}{u:Value}{o:Obj}{n:String}{vs:Array Value}{Q:Unit->Shared->Prop}(ho:s.heap.get? it=some o)(hc:o.cls=.type n)(hd:o.data=.fields vs)
    (hn:["enumerate","zip","dict_itemiterator","dict_reverseitemiterator","odict_iterator","itertools.zip_longest","itertools.pairwise"].contains n=false)(hQ:Q () s):wpAny M A (letOwnedTupleGo tg (.ref it) u) Q E s:=by
  unfold letOwnedTupleGo;cases tg <;> first
    | exact wpAny_pure hQ
    | (cases u <;> first
        | exact wpAny_pure hQ
        | (refine wpAny_bind (wpAny_load ho ?_)
           rw [hc,hd];show wpAny M A (if (["enumerate","zip","dict_itemiterator","dict_reverseitemiterator","odict_iterator","itertools.zip_longest","itertools.pairwise"].contains n&&vs[0]? == some (rawInt _))=true then _ else _) Q E s;rw [if_neg (by intro h; rw [hn,Bool.false_and] at h; cases h)];exact wpAny_pure hQ))
def jq(K:PySem.W.Frag)(a:Addr):It:=
 ⟨λi H=>∃xs x,aj K H a xs/\xs[i]?=some x,λi H x H'=>H'=H/\∀xs,aj K H a xs->xs[i]?=some x,λi H=>∃xs,aj K H a xs/\xs.length<=i⟩
def uW(K:PySem.W.Frag)(a:Addr):It:=
 ⟨λi H=>∃xs x,aA K H a xs/\xs[i]?=some x,λi H x H'=>H'=H/\∀xs,aA K H a xs->xs[i]?=some x,λi H=>∃xs,aA K H a xs/\xs.length<=i⟩
def oH(lo:Int)(n:Nat):It:=⟨λi _=>i<n,λi H x H'=>H'=H/\x=.int (lo+i),λi _=>n<=i⟩
theorem Lj{P:Program}{w:World}{K:PySem.W.Frag}{tg:Expr}(a it:Addr):Turn P w K tg (jq K a) [it] it (λi h=>h.IsListIter it a i) where
 mem:=by simp
 obj:=λi h st b hb=>by
  have e:b=it:=by simpa using hb
  obtain⟨o,e,c,d⟩:=st
  grind
 keep:=λi h h' st k=>st.at λo e=>k it (by simp) o e
 item:=by
  intro X hP hw hK hc i pins s σ H E I hf st hg;subst hP hw hK;obtain⟨xs,x,hq,hx⟩:=hg;obtain⟨ah,rv,p,hz⟩:=I.list hq;obtain⟨u,hu,ru⟩:=rv.get hx;obtain⟨f0,f1,f2,f3,f4,f5⟩:=hf it (by simp);refine wpAny_pyNext_list_item st p.isList (by simpa using hu) λh' aI sb=>?_;obtain⟨o,e,c,d⟩:=id aI;exact⟨u,rfl,rp e c d (by decide) ⟨x,H,(I.turned (λb o hb e=>(sb.2 b hb).trans e) f0 f1 f3 f4 f5),ru,⟨rfl,λys hy=>by rw[I.Zag hy hq];exact hx⟩,aI,λb hb=>(hf b hb).1⟩⟩
 done:=by
  intro X hP hw hK hc i pins s σ H E I hf st hg;subst hP hw hK;obtain⟨xs,hq,hx⟩:=hg;obtain⟨ah,rv,p,hz⟩:=I.list hq;obtain⟨f0,f1,f2,f3,f4,f5⟩:=hf it (by simp);have hl:=rv.length;exact wpAny_pyNext_list_end (I.ok.hd hc) st p.isList (by simp;omega) λh' eb=>⟨rfl,I.turned (λb o hb e=>eb b o hb e) f0 f1 f3 f4 f5⟩
 self:=λ_ _ _ _ _ st h=>wpAny_pyIter_listiter st h
theorem Kz{P:Program}{w:World}{K:PySem.W.Frag}{tg:Expr}(a it:Addr):Turn P w K tg (uW K a) [it] it (λi h=>h.IsTupleIter it a i) where
 mem:=by simp
 obj:=λi h st b hb=>by
  have e:b=it:=by simpa using hb
  obtain⟨o,e,c,d⟩:=st
  grind
 keep:=λi h h' st k=>st.at λo e=>k it (by simp) o e
 item:=by
  intro X hP hw hK hc i pins s σ H E I hf st hg;subst hP hw hK;obtain⟨xs,x,hq,hx⟩:=hg;obtain⟨ah,rv,p,hz⟩:=I.tuple hq;obtain⟨u,hu,ru⟩:=rv.get hx;obtain⟨f0,f1,f2,f3,f4,f5⟩:=hf it (by simp);refine wpAny_pyNext_tuple_item st (show s.heap.IsTuple a ah.toArray from p) (by simpa using hu) λh' aI sb=>?_;obtain⟨o,e,c,d⟩:=id aI;exact⟨u,rfl,rp e c d (by decide) ⟨x,H,(I.turned (λb o hb e=>(sb.2 b hb).trans e) f0 f1 f3 f4 f5),ru,⟨rfl,λys hy=>by rw[I.Zp hy hq];exact hx⟩,aI,λb hb=>(hf b hb).1⟩⟩
 done:=by
  intro X hP hw hK hc i pins s σ H E I hf st hg;subst hP hw hK;obtain⟨xs,hq,hx⟩:=hg;obtain⟨ah,rv,p,hz⟩:=I.tuple hq;obtain⟨f0,f1,f2,f3,f4,f5⟩:=hf it (by simp);have hl:=rv.length;exact wpAny_pyNext_tuple_end (I.ok.hd hc) st (show s.heap.IsTuple a ah.toArray from p) (by simp;omega) λh' eb=>⟨rfl,I.turned (λb o hb e=>eb b o hb e) f0 f1 f3 f4 f5⟩
 self:=λ_ _ _ _ _ st h=>wpAny_pyIter_tupleiter st h
theorem XZ{P:Program}{w:World}{K:PySem.W.Frag}{tg:Expr}(it:Addr)(lo:Int)(n:Nat):Turn P w K tg (oH lo n) [it] it (λi h=>IsRangeIter h it (lo+(i:Nat)*1) ((n:Int)-(i:Nat)) 1) where
 mem:=by simp
 obj:=λi h st b hb=>by
  grind
 keep:=λi h h' st k=>k it (by simp) _ st
 item:=by
  intro X hP hw hK hc i pins s σ H E I hf st hg;subst hP hw hK;obtain⟨f0,f1,f2,f3,f4,f5⟩:=hf it (by simp);refine(Walks.range (I.ok.hd hc) it lo 1 n).item i s _ _ hg st λv h' tk hv aI kk=>?_;obtain⟨t,rfl⟩:=hv;refine⟨_,rfl,rp aI rfl rfl (by decide) ⟨.int (lo+i),H,(I.turned (λb o hb e=>kk b o (by simpa using hb) e) f0 f1 f3 f4 f5),⟨t,?_⟩,⟨rfl,rfl⟩,aI,λb hb=>(hf b hb).1⟩⟩;rw[Int.mul_one]
 done:=by
  intro X hP hw hK hc i pins s σ H E I hf st hg;subst hP hw hK;obtain⟨f0,f1,f2,f3,f4,f5⟩:=hf it (by simp);exact wpAny_pyNext_range_end (I.ok.hd hc) st (by have:n<=i:=hg;omega) λh' eb=>⟨rfl,I.turned (λb o hb e=>eb b o hb e) f0 f1 f3 f4 f5⟩
 self:=λ_ _ _ _ _ st h=>wpAny_pyIter_rangeiter st h
section
variable {X:Cx}{tg:Expr}
inductive NA(K:PySem.W.Frag)(R:It->Hp->Prop)(x:V)(H1:Hp):Prop
 |mk (a) (aC:x=.ref a) (aT:(∃xs,aj K H1 a xs)) (bc:R (jq K a) H1):NA K R x H1
def Qy(K:PySem.W.Frag)(tl:TE):TI:=λσ H R=>tl σ H λx H1=>NA K R x H1
inductive O8(K:PySem.W.Frag)(R:It->Hp->Prop)(x:V)(H1:Hp):Prop
 |mk (a) (aC:x=.ref a) (aT:(∃xs,aA K H1 a xs)) (bc:R (uW K a) H1):O8 K R x H1
def Ze1(K:PySem.W.Frag)(tl:TE):TI:=λσ H R=>tl σ H λx H1=>O8 K R x H1
theorem NB{l:Expr}{tl:TE}(hl:PE X l tl):PI X tg l (Qy X.K tl):=by
 intro pins s σ H R I h;refine az (hl pins s σ H _ I h) λv s1 zq=>?_;obtain⟨x,H1,I1,r1,q1⟩:=zq;obtain⟨a,e,⟨xs,hq⟩,q⟩:=q1;subst e;cases r1;obtain⟨ah,rv,p,hz⟩:=I1.list hq;refine wpAny_pyIter_list p.isList ⟨s1.heap.objs.size,[s1.heap.objs.size],_,_,H1,rfl,I1.kept λb o e=>Yc _ e,Lj a _,⟨_,Yo _ rfl,rfl,rfl⟩,λb hb=>?_,q⟩;have e:b=s1.heap.objs.size:=by simpa using hb
 subst e;exact I1.oB (Yd _) (I1.av.fresh (Yd _))
theorem FC{l:Expr}{tl:TE}(hl:PE X l tl):PI X tg l (Ze1 X.K tl):=by
 intro pins s σ H R I h;refine az (hl pins s σ H _ I h) λv s1 zq=>?_;obtain⟨x,H1,I1,r1,q1⟩:=zq;obtain⟨a,e,⟨xs,hq⟩,q⟩:=q1;subst e;cases r1;obtain⟨ah,rv,p,hz⟩:=I1.tuple hq;refine wpAny_pyIter_tuple (show s1.heap.IsTuple a ah.toArray from p) ⟨s1.heap.objs.size,[s1.heap.objs.size],_,_,H1,rfl,I1.kept λb o e=>Yc _ e,Kz a _,⟨_,Yo _ rfl,rfl,rfl⟩,λb hb=>?_,q⟩;have e:b=s1.heap.objs.size:=by simpa using hb
 subst e;exact I1.oB (Yd _) (I1.av.fresh (Yd _))
theorem Zah{pins:List (Addr×Obj)}{σ:St}{H:Hp}{s:Shared}{R:It->Hp->Prop}{E:Value->Shared->Prop}{lo hi:Int}{t u v:Tok}{tk:Nat}(I:Inv X pins σ H s)(h1:-(2^62)<=lo)(h2:lo<2^62)(h3:-(2^62)<=hi)(h4:hi<2^62)
  (q:R (oH lo (hi-lo).toNat) H):wpAny (model X.prog X.w) X.A (pyIter (.ref s.heap.objs.size)) (Sh X pins σ tg R) E {s with heap:=s.heap.push {cls:=.type "range",data:=.fields #[.int lo t,.int hi u,.int 1 v]},toks:=tk}:=by
 refine wpAny_pyIter_range (IsRange.new ..) (small_one h1 h2 h3 h4) ?_;have I1:Inv X pins σ H {s with heap:=s.heap.push {cls:=.type "range",data:=.fields #[.int lo t,.int hi u,.int 1 v]},toks:=tk}:=I.kept λb o e=>Yc _ e;refine⟨(s.heap.push {cls:=.type "range",data:=.fields #[.int lo t,.int hi u,.int 1 v]}).objs.size,[(s.heap.push {cls:=.type "range",data:=.fields #[.int lo t,.int hi u,.int 1 v]}).objs.size],_,_,H,rfl,
  I1.kept (t':=tk) λb o e=>Yc _ e,XZ _ lo (hi-lo).toNat,?_,λb hb=>?_,q⟩
 ·have e1:lo+((0:Nat):Int)*1=lo:=by simp
  have e2:(((hi-lo).toNat:Nat):Int)-((0:Nat):Int)=Builtin.Range.rangeSize lo hi 1:=by rw[rangeSize_one];split<;>omega
  show IsRangeIter _ _ (lo+((0:Nat):Int)*1) ((((hi-lo).toNat:Nat):Int)-((0:Nat):Int)) 1;rw[e1,e2];exact Yo _ rfl
 ·have e:b=(s.heap.push {cls:=.type "range",data:=.fields #[.int lo t,.int hi u,.int 1 v]}).objs.size:=by simpa using hb
  subst e;exact I1.oB (Yd _) (I1.av.fresh (Yd _))
inductive NC(R:It->Hp->Prop)(vs:List V)(H1:Hp):Prop
 |mk (j:Int) (aC:vs=[.int j]) (aT:-(2^62)<=j) (bc:j<2^62) (bK:R (oH 0 j.toNat) H1):NC R vs H1
def Zee(ta:TA):TI:=λσ H R=>ta σ H λvs H1=>NC R vs H1
theorem nS{a:Expr}{ta:TA}{p pos:Pos}(hg:Gl X "range")(hm:X.mg "range"=none)(ha:PA X [a] ta)(hs:starEach [a] X.env=[(false,eval a X.env)]:=by rfl):PI X tg (.Call (.Name "range" p) [a] [] pos) (Zee ta):=by
 intro pins s σ H R I h;refine Call_ (zF I hg hm boot_range (PyProof.Rows.callWith_type1 (az (ha pos pins s σ H _ I h) λus s1 zq=>?_) hs rfl));obtain⟨vs,H1,I1,r1,q1⟩:=zq;obtain⟨j,e,q1,q2,q⟩:=q1;subst e;cases r1 with
 |cons r rr=>
  cases rr;obtain⟨t,rfl⟩:=r;exact call_range_1 (Zah I1 (by omega) (by omega) q1 q2 (by simpa using q))
def z8(wi:TI)(g:TG)(tb:TS):TS:=λD σ H=>wi σ H λJ H1=>∃W:Nat->Nat->St->Hp->Prop,(∃m,W 0 m σ H1)/\∀i m σ H,W i m σ H->
 (J.stop i H/\D.nx σ H)\/(J.go i H/\∃N:St->Hp->Prop,(∀aE H',N aE H'->∃m',m'<m/\W (i+1) m' aE H')/\∀x H',J.qg i H x H'->g x σ H' λc6 H2=>tb {D with nx:=N,ct:=N,bk:=D.nx} c6 H2)
def pQ(fp:List Addr)(h:Heap):List (Addr×Obj):=fp.filterMap λb=>(h.get? b).map λo=>(b,o)
theorem pB{fp:List Addr}{h:Heap}{b:Addr}{o:Obj}(hb:b∈fp)(e:h.get? b=some o):(b,o)∈pQ fp h:=Ji.mpr ⟨b,hb,by rw[e];rfl⟩
theorem Zq{fp:List Addr}{h:Heap}{p:Addr×Obj}(hp:p∈pQ fp h):p.1∈fp/\h.get? p.1=some p.2:=by
 obtain⟨b,hb,e⟩:=Ji.mp hp;cases q:h.get? b with
 |none=>grind
 |some o=>grind
theorem Inv.pinned{pins:List (Addr×Obj)}{σ:St}{H:Hp}{s:Shared}{fp:List Addr}(I:Inv X pins σ H s)(hf:∀b∈fp,ia X pins H b)(ho:∀b∈fp,∃o,s.heap.get? b=some o/\∀v,o.data≠.cell v):Inv X (pins++pQ fp s.heap) σ H s:=
 I.Ny λp hp=>(Yt.mp hp).elim (λz=>I.pin p (Yr _ z)) λz=>by
  obtain⟨hb,e⟩:=Zq z;obtain⟨f0,f1,f2,_⟩:=hf p.1 hb
  grind
theorem Inv.ue{pins pl:List (Addr×Obj)}{σ:St}{H:Hp}{s:Shared}(I:Inv X (pins++pl) σ H s):Inv X pins σ H s:=I.Ny λp hp=>I.pin p (Yr _ (Ys _ hp))
theorem fH{iter:Expr}{body:List Stmt}{wi:TI}{g:TG}{tb:TS}{pos:Pos}(hp:PassesOwn (model X.prog X.w) X.A X.env X.xe)(hc:X.calm=true)(hi:PI X tg iter wi)(hg:PG X tg g)(hb:fS X body tb)
  (hs:∀x,foldedSetIterable iter X.env x=pure x:=by intro _;rfl):PS X (.For tg iter body [] pos) (z8 wi g tb):=by
 intro pins s σ H D I h;refine wpAny_For (az (hi pins s σ H _ I h) λv s1 h1=>az h1 λr9 s2 h2=>?_) hs;obtain⟨it,fp,tn,J,H2,e,I2,T,dQ,f2,W,⟨m0,w0⟩,turn⟩:=h2;subst e;have lO:∀{H':Hp},(∀b∈fp,H' b=none)->∀b∈fp,ia X pins H' b:=λhn b hb=>⟨hn b hb,(f2 b hb).2⟩;refine codeAny_forLoop_any (λn s'=>∃i aE H',Inv X pins aE H' s'/\tn i s'.heap/\(∀b∈fp,H' b=none)/\W i n aE H') ?_ m0 ⟨0,σ,H2,I2,dQ,λb hb=>(f2 b hb).1,w0⟩;rintro n s3 ⟨i,bU,H3,I3,Si,uX,w3⟩;rcases turn i n bU H3 w3 with⟨stop,qn⟩|⟨go,N,hN,step⟩
 ·refine wpAny_passesOwn hp (az (T.done X rfl rfl rfl hc i pins s3 bU H3 X.xe I3 (lO uX) Si stop) λr s4 zq=>?_);obtain⟨hr,I4⟩:=zq;subst hr;exact wpAny_execs_nil ⟨bU,H3,I4,qn⟩
 ·refine wpAny_passesOwn hp (az (T.item X rfl rfl rfl hc i pins s3 bU H3 X.xe I3 (lO uX) Si go) λr s4 zq=>?_);obtain⟨u,hr,h4⟩:=zq;subst hr;refine wpAny_passesOwn hp (az h4 λ_ s5 ⟨x,H5,I5,r5,y5,oI,r_⟩=>wpAny_passesOwn hp (az (hg _ s5 bU H5 x u _ (I5.pinned (lO r_) (T.obj _ _ oI)) r5 (step x H5 y5)) λ_ s6 ⟨AA,H6,I6,q6⟩=>wpAny_passesOwn hp (az (hb _ s6 AA H6 _ I6 q6) λf s7 q7=>?_)));have again:∀{lU:St} {H7:Hp},Inv X (pins++pQ fp s5.heap) lU H7 s7->N lU H7->∃m,m<n/\∃i aE H',Inv X pins aE H' s7/\tn i s7.heap/\(∀b∈fp,H' b=none)/\W i m aE H':=λ{lU H7} I7 n7=>by
   obtain⟨m',hm,w7⟩:=hN lU H7 n7;refine⟨m',hm,i+1,lU,H7,I7.ue,T.keep _ _ _ oI λb hb o e=>(I7.pin (b,o) (Yr _ (Yr _ (pB hb e)))).1,λb hb=>?_,w7⟩;obtain⟨o,e,d⟩:=T.obj _ _ oI b hb;exact(I7.pin (b,o) (Yr _ (Yr _ (pB hb e)))).2.1
  cases f with
  |next=>obtain⟨lU,H7,I7,n7⟩:=q7;exact again I7 n7
  |cont=>obtain⟨lU,H7,I7,n7⟩:=q7;exact again I7 n7
  |brk=>obtain⟨lU,H7,I7,q7⟩:=q7;exact⟨lU,H7,I7.ue,q7⟩
  |ret v=>obtain⟨x7,lU,H7,I7,r7,q7⟩:=q7;exact⟨x7,lU,H7,I7.ue,r7,q7⟩
end
theorem jA{K:PySem.W.Frag}{a:Addr}{xs:List V}{g:TG}{tb:TS}{D:Ends}{σ:St}{H:Hp}(Pv:Nat->St->Hp->Prop)(h0:Pv 0 σ H)(hl:∀i σ H,i<=xs.length->Pv i σ H->aj K H a xs)
  (hs:∀i x σ H,xs[i]?=some x->Pv i σ H->g x σ H λc6 H2=>tb {D with nx:=Pv (i+1),ct:=Pv (i+1),bk:=D.nx} c6 H2)(hd:∀σ H,Pv xs.length σ H->D.nx σ H):
  ∃W:Nat->Nat->St->Hp->Prop,(∃m,W 0 m σ H)/\∀i m σ H,W i m σ H->
   ((jq K a).stop i H/\D.nx σ H)\/((jq K a).go i H/\∃N:St->Hp->Prop,(∀aE H',N aE H'->∃m',m'<m/\W (i+1) m' aE H')/\∀x H',(jq K a).qg i H x H'->g x σ H' λc6 H2=>tb {D with nx:=N,ct:=N,bk:=D.nx} c6 H2):=by
 refine⟨λi m σ H=>m=xs.length-i/\i<=xs.length/\Pv i σ H,⟨xs.length,by simp,Yw _,h0⟩,?_⟩;rintro i m σ H ⟨rfl,hi,p⟩;have q:=hl i σ H hi p;by_cases bH:i<xs.length
 ·refine .inr ⟨⟨xs,xs[i],q,by simp[bH]⟩,Pv (i+1),λaE H' p'=>⟨xs.length-(i+1),by omega,rfl,bH,p'⟩,λx H' y=>?_⟩;obtain⟨e,y⟩:=y;subst e;exact hs i x σ _ (y xs q) p
 ·have e:i=xs.length:=by omega
  subst e;exact .inl ⟨⟨xs,q,Yd _⟩,hd σ H p⟩
theorem yW{lo:Int}{n:Nat}{g:TG}{tb:TS}{D:Ends}{σ:St}{H:Hp}(Pv:Nat->St->Hp->Prop)(h0:Pv 0 σ H)
  (hs:∀i σ H,i<n->Pv i σ H->g (.int (lo+i)) σ H λc6 H2=>tb {D with nx:=Pv (i+1),ct:=Pv (i+1),bk:=D.nx} c6 H2)(hd:∀σ H,Pv n σ H->D.nx σ H):
  ∃W:Nat->Nat->St->Hp->Prop,(∃m,W 0 m σ H)/\∀i m σ H,W i m σ H->
   ((oH lo n).stop i H/\D.nx σ H)\/((oH lo n).go i H/\∃N:St->Hp->Prop,(∀aE H',N aE H'->∃m',m'<m/\W (i+1) m' aE H')/\∀x H',(oH lo n).qg i H x H'->g x σ H' λc6 H2=>tb {D with nx:=N,ct:=N,bk:=D.nx} c6 H2):=by
 refine⟨λi m σ H=>m=n-i/\i<=n/\Pv i σ H,⟨n,by simp,Yw _,h0⟩,?_⟩;rintro i m σ H ⟨rfl,hi,p⟩;by_cases bH:i<n
 ·refine .inr ⟨bH,Pv (i+1),λaE H' p'=>⟨n-(i+1),by omega,rfl,bH,p'⟩,λx H' y=>?_⟩;obtain⟨e,y⟩:=y
  grind
 ·have e:i=n:=by omega
  subst e;exact .inl ⟨Yd _,hd σ H p⟩
theorem EH{c:TT}{tb:TS}{D:Ends}{σ:St}{H:Hp}(Pv:St->Hp->Prop)(μ:St->Hp->Nat)(h0:Pv σ H)
  (hs:∀σ H,Pv σ H->c σ H λb H1=>if b=true then tb {D with nx:=λaE H'=>Pv aE H'/\μ aE H'<μ σ H,ct:=λaE H'=>Pv aE H'/\μ aE H'<μ σ H,bk:=D.nx} σ H1 else D.nx σ H1)
  (mono:∀σ H Q Q',(∀b H1,Q b H1->Q' b H1)->c σ H Q->c σ H Q'):O7 c tb D σ H:=by
 refine⟨λm σ H=>m=μ σ H/\Pv σ H,⟨_,rfl,h0⟩,?_⟩;rintro m σ H ⟨rfl,p⟩;refine mono σ H _ _ (λb H1 q=>?_) (hs σ H p);cases b with
 |true=>exact⟨_,λaE H' ⟨p',l⟩=>⟨_,l,rfl,p'⟩,q⟩
 |false=>exact q
abbrev R2:=V->V->Hp->VK->Prop
def cD(X:Cx)(f:Value->Value->Sem Value)(r:R2):Prop:=
 ∀(pins:List (Addr×Obj)) (s:Shared) (σ:St) (H:Hp) (x y:V) (v u:Value) (Q:VK),Inv X pins σ H s->RelV x v->RelV y u->r x y H Q->
  wpAny (model X.prog X.w) X.A (f v u) (EP X pins σ Q) X.xe s
def cY(X:Cx)(f:Value)(r:List V->Hp->VK->Prop):Prop:=
 ∀(pins:List (Addr×Obj)) (s:Shared) (σ:St) (H:Hp) (xs:List V) (us:List Value) (Q:VK),Inv X pins σ H s->Vals xs us->r xs H Q->
  wpAny (model X.prog X.w) X.A (call f us) (EP X pins σ Q) X.xe s
def Ze2(X:Cx)(r:V->Hp->(Bool->Hp->Prop)->Prop):Prop:=
 ∀(pins:List (Addr×Obj)) (s:Shared) (σ:St) (H:Hp) (x:V) (v:Value) (Q:Bool->Hp->Prop),Inv X pins σ H s->RelV x v->r x H Q->
  wpAny (model X.prog X.w) X.A (truthy v) (TP X pins σ Q) X.xe s
def iY(r:R2)(ta tb:TE):TE:=λσ H Q=>ta σ H λx H1=>tb σ H1 λy H2=>r x y H2 Q
inductive Rk(C:Int->Int->Prop)(g:Int->Int->V)(x:V)(y:V)(H:Hp)(Q:VK):Prop
 |mk (i j) (aC:x=.int i) (aT:y=.int j) (bc:C i j) (bK:Q (g i j) H):Rk C g x y H Q
def rI(C:Int->Int->Prop)(g:Int->Int->V):R2:=λx y H Q=>Rk C g x y H Q
inductive Qz(g:Int->Int->V)(x:V)(y:V)(H:Hp)(Q:VK):Prop
 |mk (i j) (aC:x=.int i) (aT:y=.int j) (bc:Q (g i j) H):Qz g x y H Q
def qh(g:Int->Int->V):R2:=λx y H Q=>Qz g x y H Q
section
variable {X:Cx}{a b c:Expr}{ta tb tc:TE}{pos:Pos}
theorem Gw(ha:PE X a ta)(hb:PE X b tb){pins:List (Addr×Obj)}{s:Shared}{σ:St}{H:Hp}{R:V->V->Hp->Prop}(I:Inv X pins σ H s)
  (h:ta σ H λx H1=>tb σ H1 λy H2=>R x y H2){Q:Value->Shared->Prop}{f:Value->Value->Sem Value}
  (hf:∀v u s2 x y H2,Inv X pins σ H2 s2->RelV x v->RelV y u->R x y H2->wpAny (model X.prog X.w) X.A (f v u) Q X.xe s2):
  wpAny (model X.prog X.w) X.A (eval a X.env) (λv bC=>wpAny (model X.prog X.w) X.A (eval b X.env) (λu dW=>wpAny (model X.prog X.w) X.A (f v u) Q X.xe dW) X.xe bC) X.xe s:=by
 refine az (ha pins s σ H _ I h) λv s1 zq=>?_;obtain⟨x,H1,I1,r1,q1⟩:=zq;refine az (hb pins s1 σ H1 _ I1 q1) λu s2 zq=>?_;obtain⟨y,H2,I2,r2,q2⟩:=zq
 grind
theorem a9{op:Operator}{r:R2}(ho:cD X (binaryOp op) r)(ha:PE X a ta)(hb:PE X b tb):PE X (.BinOp a op b pos) (iY r ta tb):=by
 intro pins s σ H Q I h;exact wpAny_BinOp (Gw ha hb I h λv u s2 x y H2 I2 rx ry q=>ho pins s2 σ H2 x y v u Q I2 rx ry q)
theorem AB{f:Value->Value->Sem Value}{C:Int->Int->Prop}{g:Int->Int->Int}
  (rule:∀(i j:Int) (t u:Tok) (s:Shared) (Q:Value->Shared->Prop) (E:Value->Shared->Prop),C i j->Q (.int (g i j) s.toks) {s with toks:=s.toks+1}->wpAny (model X.prog X.w) X.A (f (.int i t) (.int j u)) Q E s):
  cD X f (rI C λi j=>.int (g i j)):=by
 rintro pins s σ H x y v u Q I rx ry ⟨i,j,rfl,rfl,hc,q⟩;obtain⟨t,rfl⟩:=rx;obtain⟨t',rfl⟩:=ry;exact rule i j t t' s _ _ hc ⟨.int (g i j),H,I.tok _,⟨_,rfl⟩,q⟩
theorem Rl{f:Value->Value->Sem Value}{g:Int->Int->Int}
  (rule:∀(i j:Int) (t u:Tok) (s:Shared) (Q:Value->Shared->Prop) (E:Value->Shared->Prop),Q (.int (g i j) s.toks) {s with toks:=s.toks+1}->wpAny (model X.prog X.w) X.A (f (.int i t) (.int j u)) Q E s):
  cD X f (qh λi j=>.int (g i j)):=by
 rintro pins s σ H x y v u Q I rx ry ⟨i,j,rfl,rfl,q⟩;obtain⟨t,rfl⟩:=rx;obtain⟨t',rfl⟩:=ry;exact rule i j t t' s _ _ ⟨.int (g i j),H,I.tok _,⟨_,rfl⟩,q⟩
theorem Gx{f:Value->Value->Sem Value}{g:Int->Int->Bool}
  (rule:∀(i j:Int) (t u:Tok) (s:Shared) (Q:Value->Shared->Prop) (E:Value->Shared->Prop),Q (.bool (g i j)) s->wpAny (model X.prog X.w) X.A (f (.int i t) (.int j u)) Q E s):
  cD X f (qh λi j=>.bl (g i j)):=by
 rintro pins s σ H x y v u Q I rx ry ⟨i,j,rfl,rfl,q⟩;obtain⟨t,rfl⟩:=rx;obtain⟨t',rfl⟩:=ry;exact rule i j t t' s _ _ ⟨.bl (g i j),H,I,rfl,q⟩
def Gy(i j:Int):Prop:=0<j/\j<1073741824
def Ze3(i j:Int):Prop:=0<=j/\j<=1000000/\i.natAbs<2^64
def uG(i j:Int):Prop:=(-(2^64)<i/\i<2^64)\/(-(2^64)<j/\j<2^64)
theorem uG.ok{i j:Int}(h:uG i j):IntMulOk i j:=by
 rcases h with⟨h1,h2⟩|⟨h1,h2⟩;·exact .of_left (intBits_le_64 h1 h2)
 ·exact .of_right (intBits_le_64 h1 h2)
theorem gU:cD X (binaryOp .Add) (qh λi j=>.int (i+j)):=Rl λ_ _ _ _ _ _ _ q=>add_int q
theorem zH:cD X (binaryOp .Sub) (qh λi j=>.int (i-j)):=Rl λ_ _ _ _ _ _ _ q=>sub_int q
theorem oi:cD X (binaryOp .Mult) (rI uG λi j=>.int (i*j)):=AB λ_ _ _ _ _ _ _ hc q=>mul_int q hc.ok
theorem zk:cD X (binaryOp .FloorDiv) (rI Gy λi j=>.int (i/j)):=AB λi j _ _ _ _ _ hc q=>by
 have h1:(0:Int)<j:=hc.1;have h2:j<1073741824:=hc.2;exact floordiv_int (by omega) (by rw[Int.fdiv_eq_ediv_of_nonneg i (by omega)];exact q) (.inl (PyProof.noPylong_small (by omega)))
theorem dU:cD X (binaryOp .Mod) (rI (λ_ j=>0<j) λi j=>.int (i % j)):=AB λi j _ _ _ _ _ hc q=>by
 have h1:(0:Int)<j:=hc;exact mod_int' (by omega) (by rw[Int.fmod_eq_emod_of_nonneg i (by omega)];exact q)
theorem O9:cD X (binaryOp .Pow) (rI Ze3 λi j=>.int (i^j.toNat)):=AB λ_ _ _ _ _ _ _ hc q=>pow_int_small hc.1 hc.2.1 hc.2.2 q
end
def xk:V->V->Bool
 |.ay,.ay=>true|.ay,.int _=>true|.int _,.ay=>true|.ay,.bl _=>true|.bl _,.ay=>true|.ay,.str _=>true|.str _,.ay=>true
 |.int _,.int _=>true|.bl _,.bl _=>true|.str _,.str _=>true|.jn _,.jn _=>true
 |.int _,.str _=>true|.str _,.int _=>true|.bl _,.str _=>true|.str _,.bl _=>true
 |_,_=>false
def Sj:R2:=λx y H Q=>xk x y=true/\Q (.bl (decide (x=y))) H
def Sk:R2:=λx y H Q=>xk x y=true/\Q (.bl (!decide (x=y))) H
theorem ND{i j:Int}:decide (V.int i=V.int j)=(i==j):=by
 grind
theorem O_{i j:Bool}:decide (V.bl i=V.bl j)=(i==j):=by
 grind
theorem NF{i j:Str}:decide (V.str i=V.str j)=(i==j):=by
 grind
theorem NG{i j:Array UInt8}:decide (V.jn i=V.jn j)=(i.toList==j.toList):=by
 rw[Wc];simp_all
section
variable {X:Cx}{a b c:Expr}{ta tb tc:TE}{pos:Pos}
theorem cF{pins:List (Addr×Obj)}{σ:St}{H:Hp}{s:Shared}{Q:VK}{k k':Bool}(I:Inv X pins σ H s)(q:Q (.bl k) H)(e:k=k'):EP X pins σ Q (.bool k') s:=by
 subst e;exact⟨.bl k,H,I,rfl,q⟩
theorem cq:cD X (compareOp .Eq) Sj:=by
 intro pins s σ H x y v u Q I rx ry h;obtain⟨hs,q⟩:=h;cases x with
 |ay=>
  cases rx;cases y with
  |ay=>cases ry;exact PySem.EqNone.eq_none_none (cF I q (by simp))
  |bl j=>cases ry;exact PySem.EqNone.eq_none_bool (cF I q (by simp))
  |int j=>obtain⟨t',rfl⟩:=ry;exact PySem.EqNone.eq_none_int (cF I q (by simp))
  |str j=>obtain⟨t',rfl⟩:=ry;exact PySem.EqNone.eq_none_str (cF I q (by simp))
  |_=>exact absurd (show false=true from hs) Yj
 |bl i=>
  cases rx;cases y with
  |ay=>cases ry;exact PySem.EqNone.eq_bool_none (cF I q (by simp))
  |bl j=>cases ry;exact eq_bool (cF I q O_)
  |str j=>obtain⟨t',rfl⟩:=ry;exact PySem.EqMixed.eq_bool_str (cF I q (by simp))
  |_=>exact absurd (show false=true from hs) Yj
 |int i=>
  obtain⟨t,rfl⟩:=rx;cases y with
  |ay=>cases ry;exact PySem.EqNone.eq_int_none (cF I q (by simp))
  |int j=>obtain⟨t',rfl⟩:=ry;exact eq_int (cF I q ND)
  |str j=>obtain⟨t',rfl⟩:=ry;exact PySem.EqMixed.eq_int_str (cF I q (by simp))
  |_=>exact absurd (show false=true from hs) Yj
 |str i=>
  obtain⟨t,rfl⟩:=rx;cases y with
  |ay=>cases ry;exact PySem.EqNone.eq_str_none (cF I q (by simp))
  |bl j=>cases ry;exact PySem.EqMixed.eq_str_bool (cF I q (by simp))
  |int j=>obtain⟨t',rfl⟩:=ry;exact PySem.EqMixed.eq_str_int (cF I q (by simp))
  |str j=>obtain⟨t',rfl⟩:=ry;exact eq_str (cF I q NF)
  |_=>exact absurd (show false=true from hs) Yj
 |jn i=>
  obtain⟨t,rfl⟩:=rx;cases y with
  |jn j=>obtain⟨t',rfl⟩:=ry;exact PySem.W.eq_bytes (cF I q NG)
  |_=>exact absurd (show false=true from hs) Yj
 |_=>cases y<;>exact absurd (show false=true from hs) Yj
theorem lH:cD X (compareOp .NotEq) Sk:=by
 intro pins s σ H x y v u Q I rx ry h;obtain⟨hs,q⟩:=h;cases x with
 |ay=>
  cases rx;cases y with
  |ay=>cases ry;exact PySem.EqNone.ne_none_none (cF I q (by simp))
  |bl j=>cases ry;exact PySem.EqNone.ne_none_bool (cF I q (by simp))
  |int j=>obtain⟨t',rfl⟩:=ry;exact PySem.EqNone.ne_none_int (cF I q (by simp))
  |str j=>obtain⟨t',rfl⟩:=ry;exact PySem.EqNone.ne_none_str (cF I q (by simp))
  |_=>exact absurd (show false=true from hs) Yj
 |bl i=>
  cases rx;cases y with
  |ay=>cases ry;exact PySem.EqNone.ne_bool_none (cF I q (by simp))
  |bl j=>cases ry;exact ne_bool (cF I q (congrArg not O_))
  |str j=>obtain⟨t',rfl⟩:=ry;exact PySem.EqMixed.ne_bool_str (cF I q (by simp))
  |_=>exact absurd (show false=true from hs) Yj
 |int i=>
  obtain⟨t,rfl⟩:=rx;cases y with
  |ay=>cases ry;exact PySem.EqNone.ne_int_none (cF I q (by simp))
  |int j=>obtain⟨t',rfl⟩:=ry;exact ne_int (cF I q (congrArg not ND))
  |str j=>obtain⟨t',rfl⟩:=ry;exact PySem.EqMixed.ne_int_str (cF I q (by simp))
  |_=>exact absurd (show false=true from hs) Yj
 |str i=>
  obtain⟨t,rfl⟩:=rx;cases y with
  |ay=>cases ry;exact PySem.EqNone.ne_str_none (cF I q (by simp))
  |bl j=>cases ry;exact PySem.EqMixed.ne_str_bool (cF I q (by simp))
  |int j=>obtain⟨t',rfl⟩:=ry;exact PySem.EqMixed.ne_str_int (cF I q (by simp))
  |str j=>obtain⟨t',rfl⟩:=ry;exact ne_str (cF I q (congrArg not NF))
  |_=>exact absurd (show false=true from hs) Yj
 |jn i=>
  obtain⟨t,rfl⟩:=rx;cases y with
  |jn j=>obtain⟨t',rfl⟩:=ry;exact PySem.W.ne_bytes (cF I q (congrArg not NG))
  |_=>exact absurd (show false=true from hs) Yj
 |_=>cases y<;>exact absurd (show false=true from hs) Yj
theorem mQ:cD X (compareOp .Lt) (qh λi j=>.bl (decide (i<j))):=Gx λ_ _ _ _ _ _ _ q=>lt_int q
theorem wY:cD X (compareOp .Gt) (qh λi j=>.bl (decide (j<i))):=Gx λ_ _ _ _ _ _ _ q=>gt_int q
theorem Zef:cD X (compareOp .GtE) (qh λi j=>.bl (decide (j<=i))):=Gx λ_ _ _ _ _ _ _ q=>ge_int q
theorem Zr:cD X (compareOp .In) (λx y H Q=>∃i j,x=.str i/\y=.str j/\Q (.bl (!(Builtin.Str.occurrences j i 0 j.length 1).isEmpty)) H):=by
 intro pins s σ H x y v u Q I rx ry h;obtain⟨i,j,rfl,rfl,q⟩:=h;obtain⟨t,rfl⟩:=rx;obtain⟨t',rfl⟩:=ry;exact in_str (cF I q rfl)
theorem FD:cD X (compareOp .Is) (λx y H Q=>y=.ay/\Q (.bl (decide (x=.ay))) H):=by
 intro pins s σ H x y v u Q I rx ry h;obtain⟨rfl,q⟩:=h;cases ry;refine is_none_gen (cF I q ?_);cases x<;>first
  |(cases rx;rfl)
  |(obtain⟨t,rfl⟩:=rx;rfl)
theorem zm:cD X (compareOp .IsNot) (λx y H Q=>y=.ay/\Q (.bl (!decide (x=.ay))) H):=by
 rintro pins s σ H x y v u Q I rx ry ⟨rfl,q⟩;cases ry;refine isnot_none_gen (cF I q ?_);cases x<;>first
  |(cases rx;rfl)
  |(obtain⟨t,rfl⟩:=rx;rfl)
theorem V8:cD X (compareOp .NotIn) (λx y H Q=>∃i j,x=.str i/\y=.str j/\Q (.bl (!(!(Builtin.Str.occurrences j i 0 j.length 1).isEmpty))) H):=by
 rintro pins s σ H x y v u Q I rx ry ⟨i,j,rfl,rfl,q⟩;obtain⟨t,rfl⟩:=rx;obtain⟨t',rfl⟩:=ry;exact notIn_str (cF I q rfl)
theorem Pa(b:Expr){op:CmpOp}(h:op≠.In:=by decide)(h2:op≠.NotIn:=by decide):behindInMarks op b=false:=by
 have e1:(op==CmpOp.In)=false:=by cases op<;>first|rfl|exact absurd rfl h
 have e2:(op==CmpOp.NotIn)=false:=by cases op<;>first|rfl|exact absurd rfl h2
 cases b<;>simp[behindInMarks,e1,e2]
theorem zo{op:CmpOp}{r:R2}(ho:cD X (compareOp op) r)(ha:PE X a ta)(hb:PE X b tb)(hm:behindInMarks op b=false):PE X (.Compare a [op] [b] pos) (iY r ta tb):=by
 intro pins s σ H Q I h;exact wpAny_Compare1 (Gw ha hb I h λv u s2 x y H2 I2 rx ry q=>ho pins s2 σ H2 x y v u Q I2 rx ry q) hm
inductive NH(Q:Bool->Hp->Prop)(x:V)(H':Hp):Prop
 |mk (k) (aC:x=.bl k) (aT:Q k H'):NH Q x H'
def F7(t:TE):TT:=λσ H Q=>t σ H λx H'=>NH Q x H'
theorem gT{op:CmpOp}{r:R2}(ho:cD X (compareOp op) r)(ha:PE X a ta)(hb:PE X b tb)(hm:behindInMarks op b=false):PT X (.Compare a [op] [b] pos) (F7 (iY r ta tb)):=by
 intro pins s σ H Q I h;refine wpAny_isTrue_Compare1 (az (ha pins s σ H _ I h) λv s1 ⟨x,H1,I1,r1,q1⟩=>az (hb pins s1 σ H1 _ I1 q1) λu s2 ⟨y,H2,I2,r2,q2⟩=>
  az (ho pins s2 σ H2 x y v u _ I2 r1 r2 q2) λc s3 ⟨z,H3,I3,r3,k,e,q3⟩=>?_) hm
 subst e;cases r3;exact wpAny_truthy_bool ⟨H3,I3,q3⟩
def z9(K:PySem.W.Frag)(x:V)(H:Hp)(k:Bool):Prop:=
 match x with
 |.ay=>k=false
 |.bl b=>k=b
 |.int i=>k=(i !=0)
 |.str y=>y.length<=sizeLine/\k=((y.length:Int)!=0)
 |.jn y=>y.size<=sizeLine/\k=((y.size:Int)!=0)
 |.ref p=>(∃xs,aj K H p xs/\k=!xs.isEmpty)\/(∃xs,aA K H p xs/\k=!xs.isEmpty)\/∃kvs,H p=some (.dK kvs)/\k=!kvs.isEmpty
 |_=>False
theorem X0{κ:Type}{kvs:List (κ×V)}{vs:List (κ×Value)}(r:KV kvs vs):(!vs.isEmpty)=!kvs.isEmpty:=by
 cases r<;>rfl
theorem KA{xs:List V}{ah:List Value}(r:Vals xs ah):(!ah.toArray.isEmpty)=!xs.isEmpty:=by
 cases r<;>simp
theorem qZ:(sizeLine:Nat)<2^63:=by rw[sizeLine_eq];decide
theorem ZcV:Ze2 X (λx H Q=>∃k,z9 X.K x H k/\Q k H):=by
 intro pins s σ H x v Q I rx h;obtain⟨k,e,q⟩:=h;have hl:=qZ;have hs:sizeLine=16777216:=sizeLine_eq;cases x with
 |ay=>
  cases rx;have e':k=false:=e;subst e';exact truthy_none ⟨H,I,q⟩
 |bl b=>
  cases rx;have e':k=b:=e;subst e';exact wpAny_truthy_bool ⟨H,I,q⟩
 |int i=>
  obtain⟨t,rfl⟩:=rx;have e':k=(i !=0):=e;subst e';exact PySem.P.truthy_int ⟨H,I,q⟩
 |str y=>
  obtain⟨t,rfl⟩:=rx;obtain⟨hy,e'⟩:y.length<=sizeLine/\k=((y.length:Int)!=0):=e;subst e';exact PySem.P.truthy_str (by omega) ⟨H,I.tok _,q⟩
 |jn y=>
  obtain⟨t,rfl⟩:=rx;obtain⟨hy,e'⟩:y.size<=sizeLine/\k=((y.size:Int)!=0):=e;subst e';exact PySem.W.truthy_bytes (by omega) ⟨H,I.tok _,q⟩
 |ref p=>
  cases rx;have e':=e;rcases e' with⟨xs,hx,e'⟩|⟨xs,hx,e'⟩|⟨kvs,hx,e'⟩
  ·subst e';obtain⟨ah,r,pl,hz⟩:=I.list hx;have hlen:=r.length;exact wpAny_truthy_list pl.isList (by simp only[Yv];omega) ⟨H,I.tok _,by rw[KA r];exact q⟩
  ·subst e';obtain⟨ah,r,pl,hz⟩:=I.tuple hx;have hlen:=r.length;exact truthy_tuple pl (by simp only[Yv];omega) ⟨H,I.tok _,by rw[KA r];exact q⟩
  ·subst e';obtain⟨hz,hS,vs,r,m⟩:kvs.length<=sizeLine/\(p==sysModules)=false/\∃vs,KV kvs vs/\s.heap.DictOf (de X.prog X.w) p vs:=I.av p _ hx;have hlen:kvs.length=vs.length:=Paired.length r;exact wpAny_truthy_dict hS m (by omega) ⟨H,I.tok _,by rw[X0 r];exact q⟩
 |_=>exact(show False from e).elim
theorem Mg(ha:PE X a ta)(he:∀whole,isTrue a X.env whole=(do let v←whole;standAt a.pos;holding [v] (truthy v))):
  PT X a (λσ H Q=>ta σ H λx H'=>∃k,z9 X.K x H' k/\Q k H'):=by
 intro pins s σ H Q I h;exact isTrue_plain (az (ha pins s σ H _ I h) λv s1 ⟨x,H1,I1,r1,q1⟩=>ZcV pins s1 σ H1 x v Q I1 r1 q1) (he _)
theorem tX:cD X (binaryOp .Add) (λx y H Q=>∃i j,x=.str i/\y=.str j/\i.length+j.length<=sizeLine/\Q (.str (i++j)) H):=by
 rintro pins s σ H x y v u Q I rx ry ⟨i,j,rfl,rfl,hz,q⟩;obtain⟨t,rfl⟩:=rx;obtain⟨t',rfl⟩:=ry;exact add_str (λt' tk=>⟨.str (i++j),H,I.tok _,⟨_,rfl⟩,q⟩) hz
theorem vals1{x:V}{us:List Value}(r:Vals [x] us):∃u,us=[u]/\RelV x u:=by
 cases r with
 |cons r1 r2=>cases r2;exact⟨_,rfl,r1⟩
theorem vals2{x y:V}{us:List Value}(r:Vals [x,y] us):∃u w',us=[u,w']/\RelV x u/\RelV y w':=by
 cases r with
 |cons r1 r2=>
  cases r2 with
  |cons r3 r4=>cases r4;exact⟨_,_,rfl,r1,r3⟩
theorem Mh:cY X (.builtin "abs") (λxs H Q=>∃i,xs=[.int i]/\Q (.int (if i<0 then-i else i)) H):=by
 rintro pins s σ H xs us Q I r ⟨i,rfl,q⟩;obtain⟨u,rfl,t,rfl⟩:=vals1 r;exact call_abs_int λu tk=>⟨.int (if i<0 then-i else i),H,I.tok _,⟨_,rfl⟩,q⟩
theorem CP:cY X (.type "str") (λxs H Q=>∃i,xs=[.int i]/\i.natAbs.log2<1920/\Q (.str (toString i)) H):=by
 rintro pins s σ H xs us Q I r ⟨i,rfl,hz,q⟩;obtain⟨u,rfl,t,rfl⟩:=vals1 r;exact PySem.P.str_of_int hz ⟨.str _,H,I.tok _,⟨_,rfl⟩,q⟩
end
structure rK(h:Heap)(x dx C:Addr)(mA:Str->Option Value):Prop where
 obj:h.get? x=some (instObj C dx)
 ns:h.Ns1 dx mA
 ne:dx≠x
theorem Zs{h:Heap}{dx:Addr}{mA:Str->Option Value}(n:h.Ns1 dx mA):∃od,h.get? dx=some od/\∀name,lookIn name od=some (mA name):=by
 obtain⟨o,es,ep,ho,hd,hk,_,hm⟩:=n;refine⟨o,ho,λname=>?_⟩;have e:=hm name;unfold nsFind findBy at e;rw[←Array.find?_toList] at e;unfold lookIn;rw[hd];dsimp only;split;·grind
 ·rename_i q
  have a:es.toList.any (·.refKey)=false:=by
   rw[Sl];intro y hy;obtain⟨z,t,kG⟩:=hk y (Array.mem_toList_iff.mp hy);simp[DictEntry.refKey,kG]
  grind
theorem rK.look{h:Heap}{x dx C:Addr}{mA:Str->Option Value}(I:rK h x dx C mA):∃od,PySem.W.InstAt h x (instObj C dx) C (some od)/\∀name,lookIn name od=some (mA name):=
 let⟨od,ho,hl⟩:=Zs I.ns
 ⟨od,⟨I.obj,rfl,rfl,ho⟩,hl⟩
section
variable {prog:Program}{w:World}{A:Around}{E:Value->Shared->Prop}{s:Shared}{K:PySem.W.Frag}{x dx C f:Addr}{mA:Str->Option Value}{name:Str}{v:Value}
theorem get_map{expr:Bool}{Q:Value->Shared->Prop}(X:K.In s.heap)(I:rK s.heap x dx C mA)(hg:plainGet K C name=true)(hh:hasDictIn K C=true)
  (ha:PySem.W.findIn K (.ref C) name=some none)(hv:mA name=some v)(hv':handedIn v=true)(h:Q v {s with toks:=s.toks+1}):
  wpAny (model prog w) A (getAttr (.ref x) name expr) Q E s:=by
 obtain⟨od,J,hl⟩:=I.look;exact PySem.W.get_value X J (plainGet_of hg).1 (PySem.W.findObj_own hh ha rfl (by rw[hl,hv])) hv' h
theorem Zai{pl:Sem Bool}{Q:Value×List Value->Shared->Prop}(X:K.In s.heap)(I:rK s.heap x dx C mA)(hg:plainGet K C name=true)
  (hf:PySem.W.findIn K (.ref C) name=some (some (.ref f)))(ht:isFn K (.ref f)=true)(hv:mA name=none)(h:Q (.ref f,[.ref x]) s):
  wpAny (model prog w) A (getMethod (.ref x) name pl) Q E s:=by
 obtain⟨od,J,hl⟩:=I.look;exact PySem.W.method_fn X J (plainGet_of hg).1 (plainGet_of hg).2 hf (beq_iff_eq.mp ht) (by show(lookIn name od).map (·.isSome)=some false;rw[hl,hv];rfl) h
theorem ZbB{ns:List Str}{Q:Unit->Shared->Prop}(X:K.In s.heap)(I:rK s.heap x dx C mA)
  (hs:PySem.W.findIn K (.ref C) "__setattr__"=some (some (.builtin "object.__setattr__")))(hp:plainOver K C=true)(ht:takerIn K C name=some none)(hh:hasDictIn K C=true)
  (hw:PySem.Within mA ns)(hsz:ns.length<=sizeLine)
  (h:∀h',rK h' x dx C (λy=>if y=name then some v else mA y)->Heap.SameBut dx s.heap h'->Q () {s with heap:=h',toks:=s.toks+2}):
  wpAny (model prog w) A (setAttr (.ref x) name v) Q E s:=by
 obtain⟨od,J,hl⟩:=I.look;refine PySem.W.set_plain X J hs (PySem.W.osa_open X J hp ht λb=>?_);obtain⟨cd,hc,As⟩:=PySem.W.any_some hh;refine wpAny_bind (wpAny_pure (wpAny_bind (wpAny_bind (wpAny_loadPart I.obj (wpAny_bind (PySem.W.Looks.here (PySem.W.looks_clsIn X hc) ?_))))));rw[As];refine wpAny_pure (wpAny_bind (wpAny_pure (wpAny_bind (wpAny_nsSet1 I.ns λh' eS qi=>?_))));obtain⟨oD,esD,epD,hoD,hdD,hcD⟩:=eS.count (PySem.Within.cons name v hw);exact wpAny_bind (wpAny_lookBehind hoD (by rw[hdD];exact pastItsLine_dict (Y4 hcD (by rw[Wq];omega))) (wpAny_pure (h _ ⟨(qi.2 _ (Ne.symm I.ne)).trans I.obj,eS,I.ne⟩ qi)))
theorem Zaj{R:Result->Shared->Prop}{vs:List Value}{kw:List (Str×Value)}(X:K.In s.heap)(hm:makesIn K C=true)
  (hi:PySem.W.findIn K (.ref C) "__init__"=some (some (.ref f)))(hf:typeIn K (.ref f)=some (.type "function"))
  (h:codeAny (model prog w) (A.under (.builtin "type.__call__" ⟨.ref C::vs,kw⟩)) (.call (.ref f) ⟨.ref (s.heap.objs.size+1)::vs,kw⟩) (PySem.W.InitBack (s.heap.objs.size+1) R)
   {s with heap:=(s.heap.push emptyDict).push (instObj C s.heap.objs.size)}):
  codeAny (model prog w) A (.call (.ref C) ⟨vs,kw⟩) R s:=by
 obtain⟨hh,g,d,t,os⟩:=s;exact PySem.W.make_core (PySem.W.makes_of X hm) (PySem.W.looks_findIn X hi) (λself=>PySem.W.bind_fn X self hf) (.inl rfl) h
end
def cN(f:Str)(v:V):List (Str×V)->List (Str×V)
 |[]=>[(f,v)]
 |(g,x)::r=>if g=f then(g,v)::r else(g,x)::cN f v r
theorem Kg(f g:Str)(v:V):∀fs:List (Str×V),(cN f v fs).lookup g=if g=f then some v else fs.lookup g
 |[]=>by
  show List.lookup g [(f,v)]=_
  grind
 |(k,x)::r=>by
  have ih:=Kg f g v r;rw[show cN f v ((k,x)::r)=(if k=f then(k,v)::r else(k,x)::cN f v r) from rfl]
  grind
theorem Ee(f:Str)(v:V):∀fs:List (Str×V),f∈(cN f v fs).map (·.1)/\∀g,g∈fs.map (·.1)->g∈(cN f v fs).map (·.1)
 |[]=>⟨by simp[cN],λg h=>by simp at h⟩
 |(k,x)::r=>by
  obtain⟨i1,i2⟩:=Ee f v r;rw[show cN f v ((k,x)::r)=(if k=f then(k,v)::r else(k,x)::cN f v r) from rfl]
  grind
theorem C7(f:Str)(v:V):∀fs:List (Str×V),(cN f v fs).length<=fs.length+1
 |[]=>by simp[cN]
 |(k,x)::r=>by
  have ih:=C7 f v r;rw[show cN f v ((k,x)::r)=(if k=f then(k,v)::r else(k,x)::cN f v r) from rfl]
  grind
theorem fQ.some_of{v:V}{o:Option Value}(r:fQ (some v) o):∃u,o=some u/\RelV v u:=by
 cases o with
 |none=>exact(show False from r).elim
 |some u=>exact⟨u,rfl,r⟩
theorem fQ.none_of{o:Option Value}(r:fQ none o):o=none:=by
 cases o with
 |none=>rfl
 |some u=>exact(show False from r).elim
theorem Zt{v:V}{u:Value}(r:RelV v u):handedIn u=true:=by
 cases v with
 |ay=>cases(show u=Value.none from r);rfl
 |bl b=>cases(show u=Value.bool b from r);rfl
 |int i=>obtain⟨t,e⟩:=(show ∃t,u=Value.int i t from r);cases e;rfl
 |str x=>obtain⟨t,e⟩:=(show ∃t,u=Value.str x t from r);cases e;rfl
 |jn b=>obtain⟨t,e⟩:=(show ∃t,u=Value.bytes b t from r);cases e;rfl
 |rY b=>obtain⟨t,e⟩:=(show ∃t,u=Value.float b t from r);cases e;rfl
 |ref a=>cases(show u=Value.ref a from r);rfl
 |ty n=>cases(show u=Value.type n from r);rfl
section
variable {P:Program}{w:World}{H H':Hp}{h h':Heap}{a C dx:Addr}{fs fs':List (Str×V)}
theorem zp(av:dh P w H h)(e:H a=some (.ins C dx fs)):∃mA,rK h a dx C mA/\(∀f,fQ (fs.lookup f) (mA f))/\PySem.Within mA (fs.map (·.1))/\fs.length<=1000/\H dx=some (.own a):=by
 obtain⟨d,z,ne,ob,mA,n,r,q⟩:=(show cK P w H h a (.ins C dx fs) from av a _ e);exact⟨mA,⟨ob,n,ne⟩,r,q,z,d⟩
end
structure ig(K:PySem.W.Frag)(C:Addr):Prop where
 pg:plainGet K C Str.empty=true
 hd:hasDictIn K C=true
 po:plainOver K C=true
 sa:PySem.W.findIn K (.ref C) "__setattr__"=some (some (.builtin "object.__setattr__"))
theorem ig.get{K:PySem.W.Frag}{C:Addr}(c:ig K C)(f:Str):plainGet K C f=true:=c.pg
def dD(K:PySem.W.Frag)(C:Addr)(f:Str):Prop:=PySem.W.findIn K (.ref C) f=some none
theorem dD.Zeg{K:PySem.W.Frag}{C:Addr}{f:Str}(n:dD K C f):takerIn K C f=some none:=by
 unfold takerIn;rw[show PySem.W.findIn K (.ref C) f=some none from n];rfl
structure Meth(K:PySem.W.Frag)(C:Addr)(m:Str)(f:Addr):Prop where
 at_:PySem.W.findIn K (.ref C) m=some (some (.ref f))
 fn:isFn K (.ref f)=true
 kp:keepIn K (.ref f)=true
section
variable {X:Cx}{pins:List (Addr×Obj)}{σ:St}{H:Hp}{s:Shared}{a C dx:Addr}{fs:List (Str×V)}{f:Str}{v:V}{A:Around}{E:Value->Shared->Prop}
theorem X1{b:Bool}{Q:Value->Shared->Prop}(I:Inv X pins σ H s)(e:H a=some (.ins C dx fs))(c:ig X.K C)(n:dD X.K C f)(l:fs.lookup f=some v)
  (h:∀u s',Inv X pins σ H s'->RelV v u->Q u s'):wpAny (model X.prog X.w) A (getAttr (.ref a) f b) Q E s:=by
 obtain⟨mA,O,r,_,_,_⟩:=zp I.av e;obtain⟨u,hu,ru⟩:=fQ.some_of (by rw[←l];exact r f);exact get_map I.dE O (c.get f) c.hd n hu (Zt ru) (h u _ (I.tok _) ru)
theorem KC{m:Str}{g:Addr}{pl:Sem Bool}{Q:Value×List Value->Shared->Prop}(I:Inv X pins σ H s)(e:H a=some (.ins C dx fs))(c:ig X.K C)(k:Meth X.K C m g)(l:fs.lookup m=none)
  (h:Q (.ref g,[.ref a]) s):wpAny (model X.prog X.w) A (getMethod (.ref a) m pl) Q E s:=by
 obtain⟨mA,O,r,_,_,_⟩:=zp I.av e;exact Zai I.dE O (c.get m) k.at_ k.fn (fQ.none_of (by rw[←l];exact r m)) h
theorem KD{y:V}{u:Value}{Q:Unit->Shared->Prop}(I:Inv X pins σ H s)(e:H a=some (.ins C dx fs))(c:ig X.K C)(n:dD X.K C f)(hl:fs.length<1000)(ry:RelV y u)
  (h:∀s',Inv X pins σ (upd H a (.ins C dx (cN f y fs))) s'->Q () s'):wpAny (model X.prog X.w) A (setAttr (.ref a) f u) Q E s:=by
 obtain⟨mA,O,r,wi,_,ho⟩:=zp I.av e;have hz:(fs.map (·.1)).length<=sizeLine:=by rw[Ya,sizeLine_eq];omega
 refine ZbB I.dE O c.sa c.po n.Zeg c.hd wi hz λh' O' sb=>h _ (I.write (by rw[e];exact True.intro) (.inr ho) (λb q hb z=>(sb.2 b hb).trans z) (let⟨o,_,_,e',_⟩:=O'.ns;⟨o,e'⟩) ⟨by rw[aQ O.ne];exact ho,?_,O.ne,O'.obj,_,O'.ns,λg=>?_,λg hg=>?_⟩);·have:=C7 f y fs;omega
 ·show fQ ((cN f y fs).lookup g) (if g=f then some u else mA g);rw[Kg];by_cases q:g=f;·rw[if_pos q,if_pos q];exact ry
  ·grind
 ·by_cases q:g=f;·rw[q];exact(Ee f y fs).1
  ·refine(Ee f y fs).2 g (wi g λz=>hg ?_)
   grind
theorem Inv.made(I:Inv X pins σ H s):Inv X pins σ (upd (upd H s.heap.objs.size (.own (s.heap.objs.size+1))) (s.heap.objs.size+1) (.ins C s.heap.objs.size []))
  {s with heap:=(s.heap.push emptyDict).push (instObj C s.heap.objs.size)}:=by
 have e1:(s.heap.push emptyDict).get? s.heap.objs.size=some emptyDict:=Yo s.heap rfl;have e2:((s.heap.push emptyDict).push (instObj C s.heap.objs.size)).get? (s.heap.objs.size+1)=some (instObj C s.heap.objs.size):=by
  have:=Yo (s.heap.push emptyDict) (o:=instObj C s.heap.objs.size) rfl
  rwa [Jh] at this
 have e3:(s.heap.push emptyDict).Ns s.heap.objs.size (λ_=>none):=⟨emptyDict,#[],_,e1,rfl,(λe he=>absurd he (by simp)),λ_=>rfl⟩;have I1:=I.laid (a:=s.heap.objs.size) (o:=.own (s.heap.objs.size+1)) (h':=s.heap.push emptyDict) (t':=s.toks) (λb u q=>Yc _ q) (Yd _) ⟨_,e1⟩;refine I1.laid (a:=s.heap.objs.size+1) (o:=.ins C s.heap.objs.size []) (t':=s.toks) (λb u q=>Yc _ q) (G5 (Jh _ _)) ?_;have ne:s.heap.objs.size≠s.heap.objs.size+1:=Y2 (W8 _);refine⟨by rw[aQ ne,aS],Yw _,ne,e2,λ_=>none,(Heap.Ns1.of_empty e3).at λo q=>Yc _ q,λ_=>True.intro,λy hy=>absurd rfl hy⟩
theorem ZbC{prog:Program}{w:World}{env:Env}{e:Expr}{f:Str}{pos:Pos}{s:Shared}{Q:Value->Shared->Prop}(hb:attributeBase e f env (eval e env)=eval e env)
  (h:wpAny (model prog w) A (eval e env) (λo bC=>wpAny (model prog w) A (getAttr o f true) Q E bC) E s):wpAny (model prog w) A (eval (.Attribute e f pos) env) Q E s:=
 Attribute_any_ h (by rw[arm_eval_Attribute,hb])
end
inductive Pb(K:PySem.W.Frag)(f:Str)(Q:VK)(x:V)(H1:Hp):Prop
 |mk (a C dx fs v) (aC:x=.ref a) (aT:H1 a=some (.ins C dx fs)) (bc:ig K C) (bK:dD K C f) (cE:fs.lookup f=some v) (dI:Q v H1):Pb K f Q x H1
def Gz(K:PySem.W.Frag)(ta:TE)(f:Str):TE:=λσ H Q=>ta σ H λx H1=>Pb K f Q x H1
def Ze4(K:PySem.W.Frag)(ta tv:TE)(f:Str):TS:=λD σ H=>tv σ H λy H1=>ta σ H1 λx H2=>∃a C dx fs,x=.ref a/\H2 a=some (.ins C dx fs)/\ig K C/\dD K C f/\fs.length<1000/\
 D.nx σ (upd H2 a (.ins C dx (cN f y fs)))
section
variable {X:Cx}{o e value:Expr}{f:Str}{pos pos' rL:Pos}{ta tv:TE}
theorem ZcW(he:PE X e ta)(hb:attributeBase e f X.env (eval e X.env)=eval e X.env):PE X (.Attribute e f pos) (Gz X.K ta f):=by
 intro pins s σ H Q I h;refine ZbC hb (az (he pins s σ H _ I h) λu s1 zq=>?_);obtain⟨x,H1,I1,rx,a,C,dx,fs,v,ex,ea,c,n,l,q⟩:=zq;subst ex;obtain rfl:u=Value.ref a:=rx;exact X1 I1 ea c n l λu' s2 I2 ru=>⟨v,H1,I2,ru,q⟩
theorem wJ(ha:PE X o ta)(hv:PE X value tv)(hs:swapsWith value (some (.Attribute o f pos')) pos.line X.env=pure false):PS X (.Assign [.Attribute o f pos'] value pos) (Ze4 X.K ta tv f):=by
 intro pins s σ H D I h;refine plainObj_wpAny_Assign_Attribute (az (hv pins s σ H _ I h) λu s1 zq=>?_) hs;obtain⟨y,H1,I1,ry,q⟩:=zq;refine az (ha pins s1 σ H1 _ I1 q) λov s2 zq=>?_;obtain⟨x,H2,I2,rx,a,C,dx,fs,ex,ea,c,n,l,q2⟩:=zq;subst ex;obtain rfl:ov=Value.ref a:=rx;exact KD I2 ea c n l ry λs3 I3=>⟨σ,_,I3,q2⟩
end
section
variable {X:Cx}{pins:List (Addr×Obj)}{σ:St}{H:Hp}{s:Shared}{A:Around}{E:Value->Shared->Prop}{Q:Value->Shared->Prop}{c:Value}{b:Bool}
inductive iS(K:PySem.W.Frag)(H:Hp):V->Value->Prop where
 |ay:iS K H .ay (.type "NoneType")
 |bl (x:Bool):iS K H (.bl x) (.type "bool")
 |int (i:Int):iS K H (.int i) (.type "int")
 |str (x:Str):iS K H (.str x) (.type "str")
 |rY (x:UInt64):iS K H (.rY x) (.type "float")
 |lst {a:Addr} {xs:List V} (e:H a=some (.lst xs)):iS K H (.ref a) (.type "list")
 |bG {a:Addr} {o:Obj} {xs:List V} (e:H a=some (.bG o (.lst xs))):iS K H (.ref a) (.type "list")
 |tup {a:Addr} {xs:List V} (e:H a=some (.tup xs)):iS K H (.ref a) (.type "tuple")
 |dK {a:Addr} {kvs:List (Key×V)} (e:H a=some (.dK kvs)):iS K H (.ref a) (.type "dict")
 |dT {a:Addr} {kvs:List (List Key×V)} (e:H a=some (.dT kvs)):iS K H (.ref a) (.type "dict")
 |ins {a C dx:Addr} {fs:List (Str×V)} (e:H a=some (.ins C dx fs)) (cl:ig K C) (ha:PySem.W.findIn K (.ref C) "__class__"=some (some (.builtin "object.__class__")))
   (hn:PySem.W.specialIn K (.builtin "object.__class__") "__get__"=some (some (.builtin "getset_descriptor.__get__"))) (Sm:PySem.W.takesIn K (.builtin "object.__class__")=some true)
   (hm:PySem.W.mroIn K C (.type "object")=some true):iS K H (.ref a) (.ref C)
theorem Zu{x:V}{u t:Value}(I:Inv X pins σ H s)(rx:RelV x u)(ty:iS X.K H x t)(e:kitOne X.K t c=some b)(h:∀tk,Q (.bool b) {s with toks:=tk}):
  wpAny (model X.prog X.w) A (call (.builtin "isinstance") [u,c]) Q E s:=by
 cases ty with
 |ay=>cases(show u=Value.none from rx);exact kia_one PySem.W.kitx_none I.dE True.intro e (λz=>nomatch z) h
 |bl y=>cases(show u=Value.bool y from rx);exact kia_one PySem.W.kitx_bool I.dE True.intro e (λz=>nomatch z) h
 |int i=>obtain⟨t,q⟩:=(show ∃t,u=Value.int i t from rx);cases q;exact kia_one PySem.W.kitx_int I.dE True.intro e (λz=>nomatch z) h
 |str y=>obtain⟨t,q⟩:=(show ∃t,u=Value.str y t from rx);cases q;exact kia_one PySem.W.kitx_str I.dE True.intro e (λz=>nomatch z) h
 |rY y=>obtain⟨t,q⟩:=(show ∃t,u=Value.float y t from rx);cases q;exact kia_one PySem.W.kitx_float I.dE True.intro e (λz=>nomatch z) h
 |@lst a xs ea=>
  cases(show u=Value.ref a from rx);obtain⟨_,_,n,_,h1⟩:=(show cK X.prog X.w H s.heap a (.lst xs) from I.av a _ ea);exact kia_one kitx_list I.dE ⟨_,h1,rfl⟩ e (λz=>nomatch z) h
 |@bG a ob xs ea=>
  cases(show u=Value.ref a from rx);obtain⟨_,_,_,n,_,h1⟩:=(show cK X.prog X.w H s.heap a (.bG ob (.lst xs)) from I.av a _ ea);exact kia_one kitx_list I.dE ⟨_,h1,rfl⟩ e (λz=>nomatch z) h
 |@tup a xs ea=>
  cases(show u=Value.ref a from rx);obtain⟨_,_,_,p⟩:=(show cK X.prog X.w H s.heap a (.tup xs) from I.av a _ ea);obtain⟨o,h1,h2,_⟩:=p;exact kia_one PySem.W.kitx_tuple I.dE ⟨o,h1,h2⟩ e (λz=>nomatch z) h
 |@dK a kvs ea=>
  cases(show u=Value.ref a from rx);obtain⟨_,_,vs,_,p⟩:=(show cK X.prog X.w H s.heap a (.dK kvs) from I.av a _ ea);obtain⟨o,es,ep,h1,h2,_⟩:=p;exact kia_one kitx_dict I.dE ⟨o,h1,h2.1⟩ e (λz=>nomatch z) h
 |@dT a kvs ea=>
  cases(show u=Value.ref a from rx);obtain⟨_,_,xs,_,o,es,ep,h1,h2,_⟩:=(show cK X.prog X.w H s.heap a (.dT kvs) from I.av a _ ea);exact kia_one kitx_dict I.dE ⟨o,h1,h2.1⟩ e (λz=>nomatch z) h
 |@ins a C dx fs ea cl ha hn Sm hm=>
  cases(show u=Value.ref a from rx);obtain⟨mA,O,_⟩:=zp I.av ea;obtain⟨od,J,_⟩:=O.look;exact kia_one (PySem.W.kitx_own (cl.get _) cl.hd ha hn Sm hm) I.dE J e (λz=>nomatch z) h
end
structure cZ(k:Nat)(A:Around):Prop where
 hd:A.handled=none
 dp:A.depth+3*k+5<recursionLimit
 un:A.units+16*k+200<cLine
 gd:A.guards=some []
theorem cZ.mono{j k:Nat}{A:Around}(r:cZ k A)(h:j<=k):cZ j A:=⟨r.hd,by have:=r.dp;omega,by have:=r.un;omega,r.gd⟩
theorem cZ.deeper{k:Nat}{A:Around}(r:cZ (k+1) A)(env:Env):cZ k (A.deeper env):=
 ⟨r.hd,by have:=r.dp;show A.depth+1+3*k+5<_;omega,by have:=r.un;show A.units+3+16*k+200<_;omega,r.gd⟩
theorem X2{A:Around}{C:Addr}{us:List Value}{kw:List (Str×Value)}:(A.under (.builtin "type.__call__" ⟨.ref C::us,kw⟩)).depth=A.depth+1:=by
 rfl
theorem X3{A:Around}{C:Addr}{us:List Value}{kw:List (Str×Value)}:(A.under (.builtin "type.__call__" ⟨.ref C::us,kw⟩)).units=A.units+1:=by
 rfl
theorem cZ.make{k:Nat}{A:Around}(r:cZ (k+1) A)(C:Addr)(us:List Value)(kw:List (Str×Value)):cZ k (A.under (.builtin "type.__call__" ⟨.ref C::us,kw⟩)):=
 ⟨r.hd,by have:=r.dp;rw[X2];omega,by have:=r.un;rw[X3];omega,by first|exact r.gd|simpa[Around.under,Code.isGuard,Code.isFrame,guardIds] using r.gd⟩
theorem cZ.depth{k:Nat}{A:Around}(r:cZ k A):A.depth<recursionLimit:=by have:=r.dp;omega
theorem cZ.units{k:Nat}{A:Around}(r:cZ k A):A.units+64<cLine:=by have:=r.un;omega
theorem cZ.uu{k:Nat}{A:Around}(r:cZ k A):A.units<cLine:=by have:=r.un;omega
def iU:TA:=λ_ H Q=>Q [] H
def gf(ta:TE)(tr:TA):TA:=λσ H Q=>ta σ H λx H1=>tr σ H1 λxs H2=>Q (x::xs) H2
section
variable {X:Cx}{e:Expr}{es:List Expr}{te:TE}{t:TA}{pos:Pos}
theorem ag:PA X [] iU:=λ_ _ _ _ H Q I h=>Calls.spliced_nil ⟨[],H,I,.nil,h⟩
theorem aa(ha:PE X e te)(hr:PA X es t)(hs:starEach (e::es) X.env=(false,eval e X.env)::starEach es X.env:=by rfl):PA X (e::es) (gf te t):=by
 intro pos pins s σ H Q I h;rw[hs];exact Calls.spliced_cons (az (ha pins s σ H _ I h) λu s1 ⟨x,H1,I1,r1,q1⟩=>az (hr pos pins s1 σ H1 _ I1 q1) λus s2 ⟨xs,H2,I2,r2,q2⟩=>⟨x::xs,H2,I2,.cons r1 r2,q2⟩)
def Ze5(t:TA):TE:=λσ H Q=>t σ H λxs H1=>xs.length<=sizeLine/\∀p,H1 p=none->Q (.ref p) (upd H1 p (.lst xs))
theorem wK(h:PA X es t):PE X (.List es pos) (Ze5 t):=by
 intro pins s σ H Q I hq;refine wpAny_List_spliced (az (h pos pins s σ H _ I hq) λus s1 ⟨xs,H1,I1,r,z,q⟩=>⟨by rw[←r.length];exact z,⟨.ref s1.heap.objs.size,upd H1 s1.heap.objs.size (.lst xs),I1.laid (λb u e=>Yc _ e) (Yd _) ?_,rfl,q _ (I1.av.fresh (Yd _))⟩⟩);exact⟨z,us,0,r,Yo _ rfl⟩
end
abbrev Sp:=List V->Hp->VK->XK->Prop
abbrev jJ:=List Env->Hp->Shared->XK->Value->Shared->Prop
structure rM(P:Program)(w:World)(K:PySem.W.Frag)(mg:Str->Option Value)(base:Heap)(A:Around)(outer:List Env)(s:Shared)(H:Hp):Prop where
 frames:A.frames=some outer
 mod:Mod K mg base
 bs:∀b o,base.get? b=some o->s.heap.get? b=some o/\H b=none
 oF:base.objs.size<=s.heap.objs.size
 kF:s.heap.FunFrames base outer
 r6:∀b∈fI outer,H b=none
 av:dh P w H s.heap
 bare:AllBare s.gens
def CE(outer:List Env)(P:Program)(w:World)(H:Hp)(s:Shared)(Q:VK)(u:Value)(s':Shared):Prop:=
 ∃v H',s'.os=s.os/\AllBare s'.gens/\Un (fI outer) [] H H' s.heap s'.heap/\dh P w H' s'.heap/\RelV v u/\Q v H'
def CR(CX:jJ)(outer:List Env)(P:Program)(w:World)(H:Hp)(s:Shared)(Q:VK)(E:XK)(r:Result)(s':Shared):Prop:=
 match r with
 |.ok (.ret u)=>CE outer P w H s Q u s'
 |.ok _=>False
 |.error e=>CX outer H s E e s'
structure aG(P:Program)(w:World)(K:PySem.W.Frag)(mg:Str->Option Value)(base:Heap)(CX:jJ)(k:Nat)(f:Addr)(fd:FuncData)(ps:List Str)(sp:Sp):Prop where
 len:∀vs H Q E,sp vs H Q E->vs.length=ps.length
 run:∀(A:Around) (outer:List Env) (s:Shared) (H:Hp) (args:Args) (us:List Value) (vs:List V) (Q:VK) (E:XK),cZ k A->rM P w K mg base A outer s H->BindsTo s fd args (ps.zip us)->Vals vs us->sp vs H Q E->
  codeAny (model P w) A (.call (.ref f) args) (CR CX outer P w H s Q E) s
theorem rM.make{P:Program}{w:World}{K:PySem.W.Frag}{mg:Str->Option Value}{base:Heap}{A:Around}{outer:List Env}{s:Shared}{H:Hp}(e:rM P w K mg base A outer s H)(C:Addr)(us:List Value)(kw:List (Str×Value)):
  rM P w K mg base (A.under (.builtin "type.__call__" ⟨.ref C::us,kw⟩)) outer s H:=⟨by first|exact e.frames|(simpa[Around.under,Code.envs,Code.isFrame,pushEnvs] using e.frames),e.mod,e.bs,e.oF,e.kF,e.r6,e.av,e.bare⟩
section
variable {X:Cx}{pins:List (Addr×Obj)}{σ:St}{H:Hp}{s s':Shared}
theorem Inv.Rm(I:Inv X pins σ H s):rM X.prog X.w X.K X.mg X.base X.A X.stack s H:=
 ⟨I.ok.frames,I.ok.mod,I.bs,Y4 I.ok.oF I.sz,I.stack,I.Nx,I.av,I.bare⟩
theorem Inv.after{Q:VK}{u:Value}(I:Inv X pins σ H s)(h:CE X.stack X.prog X.w H s Q u s'):EP X pins σ Q u s':=by
 obtain⟨v,H',os,bare,un,av,r,q⟩:=h;obtain⟨hh,g,d,t,os'⟩:=s';obtain rfl:os'=s.os:=os;exact⟨v,H',I.call (h':=hh) (g':=g) (d':=d) (t':=t) (ch:=[]) un av bare (λb z=>absurd z (by simp)),r,q⟩
end
def F8(sp:Sp)(d7:List V)(E:XK)(t:TA):TE:=λσ H Q=>t σ H λvs H1=>sp (vs++d7) H1 Q E
def zT(C:Addr)(m:Str)(sp:Sp)(d7:List V)(E:XK)(ta:TE)(t:TA):TE:=λσ H Q=>ta σ H λx H1=>∃a dx fs,x=.ref a/\H1 a=some (.ins C dx fs)/\fs.lookup m=none/\
 t σ H1 λvs H2=>sp (x::(vs++d7)) H2 Q E
def QA(C:Addr)(sp:Sp)(d7:List V)(E:XK)(t:TA):TE:=λσ H Q=>t σ H λvs H1=>∀x dx,H1 x=none->H1 dx=none->dx≠x->
 sp (.ref x::(vs++d7)) (upd (upd H1 dx (.own x)) x (.ins C dx [])) (λv H2=>v=.ay/\Q (.ref x) H2) E
def Binds(K:PySem.W.Frag)(fd:FuncData)(ps:List Str)(ds:List Value):Prop:=
 ∀(s:Shared) (us:List Value),K.In s.heap->(us++ds).length=ps.length->BindsTo s fd ⟨us,[]⟩ (ps.zip (us++ds))
theorem Binds.all{K:PySem.W.Frag}{fd:FuncData}{ps:List Str}(h:∀us:List Value,us.length=ps.length->bindArgs fd ⟨us,[]⟩=pure (ps.zip us)):Binds K fd ps []:=λs us _ hl=>by
 rw[Y8] at hl⊢;exact .of_eq (h us hl)
def Passes(CX:jJ)(X:Cx)(E:XK):Prop:=∀(pins:List (Addr×Obj)) (σ:St) (H:Hp) (s:Shared) (e:Value) (s':Shared),Inv X pins σ H s->CX X.stack H s E e s'->X.xe e s'
section
variable {X:Cx}{CX:jJ}{k:Nat}{f C:Addr}{fd:FuncData}{ps:List Str}{sp:Sp}{d7:List V}{ds:List Value}{E:XK}{x m:Str}{p pos apos:Pos}{e o:Expr}{es:List Expr}{ta:TE}{t:TA}
theorem FE{pins:List (Addr×Obj)}{σ:St}{H:Hp}{s:Shared}{Q:VK}{us:List Value}{vs:List V}(F:aG X.prog X.w X.K X.mg X.base CX k f fd ps sp)(hr:cZ k X.A)(hb:Binds X.K fd ps ds)(hd:Vals d7 ds)(hx:Passes CX X E)
  (I:Inv X pins σ H s)(r:Vals vs us)(h:sp (vs++d7) H Q E):wpAny (model X.prog X.w) X.A (call (.ref f) us) (EP X pins σ Q) X.xe s:=by
 have r2:Vals (vs++d7) (us++ds):=r.append hd;have hl:(us++ds).length=ps.length:=by rw[←r2.length];exact F.len _ _ _ _ h
 refine wpAny_call (codeAny_mono (F.run X.A X.stack s H ⟨us,[]⟩ (us++ds) (vs++d7) Q E hr I.Rm (hb s us I.dE hl) r2 h) λr s' hq=>?_);cases r with
 |error e=>exact hx pins σ H s e s' I hq
 |ok fl=>
  cases fl with
  |ret u=>exact I.after hq
  |next=>exact False.elim hq
  |brk=>exact False.elim hq
  |cont=>exact False.elim hq
theorem ZbD(F:aG X.prog X.w X.K X.mg X.base CX k f fd ps sp)(hr:cZ k X.A)(hg:Gl X x)(hm:X.mg x=some (.ref f))(hk:keepIn X.K (.ref f)=true)(hb:Binds X.K fd ps ds)(hd:Vals d7 ds)(hx:Passes CX X E)
  (ha:PA X (e::es) t)(jK:(x==("__debug__":Str))=false:=by decide)(he:starEach (e::es) X.env=(false,eval e X.env)::starEach es X.env:=by rfl)(cL:(backTo pos (starEach es X.env)).any (·.1)=false:=by rfl):
  PE X (.Call (.Name x p) (e::es) [] pos) (F8 sp d7 E t):=by
 intro pins s σ H Q I h;exact wpAny_Call_Name_kw (Fd I hg hm (callWith_K I.ok.mod.rZ hk (az (ha pos pins s σ H _ I h) λus s1 ⟨vs,H1,I1,r,q⟩=>⟨I1.dE,FE F hr hb hd hx I1 r q⟩) he cL) jK)
theorem ZbE{pl:Sem Bool}(he:PE X o ta)(c:ig X.K C)(hm:Meth X.K C m f)(F:aG X.prog X.w X.K X.mg X.base CX k f fd ps sp)(hr:cZ k X.A)(hb:Binds X.K fd ps ds)(hd:Vals d7 ds)(hx:Passes CX X E)(ha:PA X (e::es) t)
  (eB:starEach (e::es) X.env=(false,eval e X.env)::starEach es X.env:=by rfl)(cL:(backTo pos (starEach es X.env)).any (·.1)=false:=by rfl)
  (ht:eval (.Call (.Attribute o m apos) (e::es) [] pos) X.env=(do
   let ov←eval o X.env
   standAt apos.atName
   let(f,first)←holding [ov] (getMethod ov m pl)
   callWith pos f first (backTo pos (starEach (e::es) X.env)) (backToKw pos (keywordEach [] X.env))):=by rfl):
  PE X (.Call (.Attribute o m apos) (e::es) [] pos) (zT C m sp d7 E ta t):=by
 intro pins s σ H Q I h;refine methodCall_KW (pl:=pl) (az (he pins s σ H _ I h) λu s1 zq=>?_) ht;obtain⟨x,H1,I1,rx,a,dx,fs,ex,ea,l,q⟩:=zq;subst ex;obtain rfl:u=Value.ref a:=rx;refine KC I1 ea c hm l ?_;refine callWith_K (first:=[.ref a]) (h₀:=X.base) I.ok.mod.rZ hm.kp (az (ha pos pins s1 σ H1 _ I1 q) λus s2 ⟨vs,H2,I2,r,q2⟩=>⟨I2.dE,?_⟩) eB cL;exact FE (us:=.ref a::us) (vs:=.ref a::vs) F hr hb hd hx I2 (.cons rfl r) q2
theorem Zak{pl:Sem Bool}(he:PE X o ta)(c:ig X.K C)(hm:Meth X.K C m f)(F:aG X.prog X.w X.K X.mg X.base CX k f fd ps sp)(hr:cZ k X.A)(hb:Binds X.K fd ps ds)(hd:Vals d7 ds)(hx:Passes CX X E)
  (ht:eval (.Call (.Attribute o m apos) [] [] pos) X.env=(do
   let ov←eval o X.env
   standAt apos.atName
   let(f,first)←holding [ov] (getMethod ov m pl)
   callWith pos f first (backTo pos (starEach [] X.env)) (backToKw pos (keywordEach [] X.env))):=by rfl):
  PE X (.Call (.Attribute o m apos) [] [] pos) (zT C m sp d7 E ta iU):=by
 intro pins s σ H Q I h;refine methodCall_KW (pl:=pl) (az (he pins s σ H _ I h) λu s1 zq=>?_) ht;obtain⟨x,H1,I1,rx,a,dx,fs,ex,ea,l,q⟩:=zq;subst ex;obtain rfl:u=Value.ref a:=rx;refine KC I1 ea c hm l ?_;exact PySem.W.callWith_K0 (first:=[.ref a]) I1.dE hm.kp (FE (us:=[.ref a]) (vs:=[.ref a]) F hr hb hd hx I1 (.cons rfl .nil) q)
structure Mk(K:PySem.W.Frag)(C f:Addr):Prop where
 makes:makesIn K C=true
 init:PySem.W.findIn K (.ref C) "__init__"=some (some (.ref f))
 fn:isFn K (.ref f)=true
 kp:keepIn K (.ref C)=true
theorem Zal{pins:List (Addr×Obj)}{σ:St}{H:Hp}{s:Shared}{Q:VK}{us:List Value}{vs:List V}(M:Mk X.K C f)(F:aG X.prog X.w X.K X.mg X.base CX k f fd ps sp)(hr:cZ (k+1) X.A)(hb:Binds X.K fd ps ds)(hd:Vals d7 ds)
  (hx:Passes CX X E)(I:Inv X pins σ H s)(r:Vals vs us)
  (h:∀x dx,H x=none->H dx=none->dx≠x->sp (.ref x::(vs++d7)) (upd (upd H dx (.own x)) x (.ins C dx [])) (λv H2=>v=.ay/\Q (.ref x) H2) E):
  wpAny (model X.prog X.w) X.A (call (.ref C) us) (EP X pins σ Q) X.xe s:=by
 have hq:=h (s.heap.objs.size+1) s.heap.objs.size (I.av.fresh (G6 _)) (I.av.fresh (Yd _)) (Y2 (W8 _));have I2:=Inv.made (C:=C) I;have r2:Vals (V.ref (s.heap.objs.size+1)::(vs++d7)) (Value.ref (s.heap.objs.size+1)::(us++ds)):=.cons rfl (r.append hd);have hl:(Value.ref (s.heap.objs.size+1)::us++ds).length=ps.length:=by
  have e:=r2.length;rw[F.len _ _ _ _ hq] at e;exact e.symm
 refine wpAny_call (Zaj I.dE M.makes M.init (beq_iff_eq.mp M.fn) (codeAny_mono (F.run _ X.stack _ _ ⟨Value.ref (s.heap.objs.size+1)::us,[]⟩ (Value.ref (s.heap.objs.size+1)::(us++ds)) _ _ E (hr.make C us [])
  (I2.Rm.make C us []) (hb _ (Value.ref (s.heap.objs.size+1)::us) I2.dE hl) r2 hq) λr s' xD=>?_))
 cases r with
 |error e=>exact hx pins σ _ _ e s' I2 xD
 |ok fl=>
  cases fl with
  |ret u=>
   obtain⟨v,H',I3,rv,ev,q3⟩:=I2.after xD;subst ev;exact⟨rv,⟨V.ref (s.heap.objs.size+1),H',I3,rfl,q3⟩⟩
  |next=>exact False.elim xD
  |brk=>exact False.elim xD
  |cont=>exact False.elim xD
theorem ZbF(M:Mk X.K C f)(F:aG X.prog X.w X.K X.mg X.base CX k f fd ps sp)(hr:cZ (k+1) X.A)(hg:Gl X x)(hm:X.mg x=some (.ref C))(hb:Binds X.K fd ps ds)(hd:Vals d7 ds)(hx:Passes CX X E)
  (ha:PA X (e::es) t)(jK:(x==("__debug__":Str))=false:=by decide)(he:starEach (e::es) X.env=(false,eval e X.env)::starEach es X.env:=by rfl)(cL:(backTo pos (starEach es X.env)).any (·.1)=false:=by rfl):
  PE X (.Call (.Name x p) (e::es) [] pos) (QA C sp d7 E t):=by
 intro pins s σ H Q I h;exact wpAny_Call_Name_kw (Fd I hg hm (callWith_K I.ok.mod.rZ M.kp (az (ha pos pins s σ H _ I h) λus s1 ⟨vs,H1,I1,r,q⟩=>⟨I1.dE,Zal M F hr hb hd hx I1 r q⟩) he cL) jK)
end
section
variable {X:Cx}{CX:jJ}{k:Nat}{f C:Addr}{fd:FuncData}{ps ks:List Str}{sp:Sp}{E:XK}{x m:Str}{p pos apos Zhf:Pos}{e o:Expr}{es:List Expr}{kws:List Keyword}{te ta:TE}{t tk:TA}{nm:Option Str}
variable {g:List Value->List Value->List Value}{gV:List V->List V->List V}
end
structure aN(N P:List Str)(sc:Scope):Prop where
 kind:sc.kind=.function
 co:sc.isCoroutine=false
 gen:sc.isGenerator=false
 nd:N.Nodup
 pre:N.take P.length=P
 par:∀x∈P,sc.names.lookup x=some .local\/sc.names.lookup x=some .cell
 ZcX:∀y∈sc.names,y.2≠.free
theorem Lk{kindOf:Str->Option NameKind}{x:Str}:∀{binds:List (Str×Value)} {m:Str->Option Value},(∀v,(x,v)∉binds)->bindL kindOf binds m x=m x
 |[],_,_=>rfl
 |(n,v)::r,m,h=>by
  unfold bindL;rw[Lk λw hw=>h w (Yu _ hw)];split;·grind
  ·rfl
theorem Ll{kindOf:Str->Option NameKind}{x:Str}:∀{binds:List (Str×Value)} {m:Str->Option Value},(∀v,(x,v)∉binds)->bindC kindOf binds m x=m x
 |[],_,_=>rfl
 |(n,v)::r,m,h=>by
  unfold bindC;rw[Ll λw hw=>h w (Yu _ hw)];split;·rfl
  ·grind
theorem Lm{kindOf:Str->Option NameKind}{x:Str}{v:Value}:∀{P:List Str} {vs:List Value} {i:Nat} {m:Str->Option Value},P.Nodup->P[i]?=some x->vs[i]?=some v->kindOf x=some .local->
  bindL kindOf (P.zip vs) m x=some v
 |[],_,_,_,_,h,_,_=>by simp at h
 |_::_,[],_,_,_,_,h,_=>by simp at h
 |p::P,w::vs,0,m,nd,h1,h2,hk=>by
  simp at h1 h2;subst h1;subst h2;show bindL kindOf ((p,w)::P.zip vs) m p=_;unfold bindL;rw[Lk λv hv=>(Yz.mp nd).1 (Sn hv).1,if_pos hk];simp
 |p::P,w::vs,i+1,m,nd,h1,h2,hk=>by
  unfold bindL;exact Lm (Yz.mp nd).2 (by simpa using h1) (by simpa using h2) hk
theorem Ln{kindOf:Str->Option NameKind}{x:Str}{v:Value}:∀{P:List Str} {vs:List Value} {i:Nat} {m:Str->Option Value},P.Nodup->P[i]?=some x->vs[i]?=some v->kindOf x≠some .local->
  bindC kindOf (P.zip vs) m x=some v
 |[],_,_,_,_,h,_,_=>by simp at h
 |_::_,[],_,_,_,_,h,_=>by simp at h
 |p::P,w::vs,0,m,nd,h1,h2,hk=>by
  simp at h1 h2;subst h1;subst h2;show bindC kindOf ((p,w)::P.zip vs) m p=_;unfold bindC;rw[Ll λv hv=>(Yz.mp nd).1 (Sn hv).1,if_neg hk];simp
 |p::P,w::vs,i+1,m,nd,h1,h2,hk=>by
  unfold bindC;exact Ln (Yz.mp nd).2 (by simpa using h1) (by simpa using h2) hk
def start(N:List Str)(vs:List V):St:=vs.map some++List.replicate (N.length-vs.length) none
def lP(CX:jJ)(P:Program)(w:World)(K:PySem.W.Frag)(mg:Str->Option Value)(base:Heap)(N:List Str)(qual:Str)(scope:Scope)(f:Addr)(cd:Value)(A:Around)(outer:List Env)(s:Shared)(H:Hp)(E:XK):Cx where
 prog:=P
 w:=w
 K:=K
 mg:=mg
 base:=base
 A:=A.deeper (envOfC qual scope s.heap.objs.size f cd)
 N:=N
 cR:=s
 jj:=H
 env:=envOfC qual scope s.heap.objs.size f cd
 outer:=outer
 stack:=envOfC qual scope s.heap.objs.size f cd::outer
 ex:=[]
 calm:=true
 fn:=λ_=>true
 pn:=[]
 xe:=λe s'=>wpAny (model P w) (A.deeper (envOfC qual scope s.heap.objs.size f cd)) (leaving (envOfC qual scope s.heap.objs.size f cd) e) (λ_ sf=>CX outer H s E e sf) (λe' sf=>CX outer H s E e' sf) s'
theorem Mi{sc:Scope}{n:Nat}{x:Str}(h:sc.names.lookup x=some .cell):∃c,(cellsFrom n sc.names []).lookup x=some c:=by
 exact Jc.mp (cellsFrom_some sc.names n [] (.inl h))
theorem Zv{CX:jJ}{P:Program}{w:World}{K:PySem.W.Frag}{mg:Str->Option Value}{base:Heap}{N ps:List Str}{qual:Str}{scope:Scope}{f:Addr}{cd:Value}{A:Around}{outer:List Env}{s s1:Shared}{H:Hp}{E:XK}{us:List Value}{vs:List V}
  (S:aN N ps scope)(hd:A.handled=none)(e0:rM P w K mg base A outer s H)(hl:vs.length=ps.length)(r:Vals vs us)
  (x:InCallC s s.heap.objs.size (bindL (envOfC qual scope s.heap.objs.size f cd).kindOf (ps.zip us) λ_=>none) (cellsFrom (s.heap.objs.size+1) scope.names []) (bindC (envOfC qual scope s.heap.objs.size f cd).kindOf (ps.zip us) λ_=>none) s1):
  Inv (lP CX P w K mg base N qual scope f cd A outer s H E) [] (start N vs) H s1:=by
 have cL:ps.length<=N.length:=by have:=congrArg List.length S.pre;rw[Wf] at this;omega
 obtain⟨h1,tk,rfl,hk⟩:=x.done;have xE:∀b:Addr,b∉(lP CX P w K mg base N qual scope f cd A outer s H E).ex:=λb z=>absurd (show b∈([]:List Addr) from z) (by simp);refine⟨⟨e0.mod,S.kind,rfl,rfl,Yd _,λy z c h1 h2=>?_,λy hy=>?_,λy c _ h=>?_,λ_=>hd,Around.frames_deeper e0.frames,.inr ⟨rfl,rfl⟩,λb z=>absurd z (xE b),e0.bs,e0.oF,λb _ _=>xE b,λb z=>absurd z (xE b),e0.kF,e0.r6⟩,
  rfl,e0.bare,Un.kept hk,⟨_,x.toInCall.ns,λi y v h1 h2 h3=>?_⟩,λy c h=>⟨_,x.cell y c h⟩,e0.av.fresh (Yd _),λy c h=>?_,λp hp=>absurd (show p∈([]:List (Addr×Obj)) from hp) (by simp),e0.av.kept hk,?_⟩
 ·exact name_of_addr x.apart (PySem.mem_of_lookup h1) (PySem.mem_of_lookup h2)
 ·have hy:scope.names.lookup y=some .cell\/scope.names.lookup y=some .free:=hy;rcases hy with hy|hy;·exact Mi hy
  ·exact absurd rfl (S.ZcX _ (PySem.mem_of_lookup hy))
 ·exact Jv (x.above y c (PySem.mem_of_lookup h))
 ·have hi:i<vs.length:=by
   unfold start at h2
   grind
  have ha:vs[i]?=some v:=by
   unfold start at h2;rw[Wi (by simpa using hi),Yg] at h2;cases e:vs[i]? with
   |none=>grind
   |some a=>grind
  obtain⟨u,hu,rv⟩:=r.get ha;have hp:ps[i]?=some y:=by
   rw[←S.pre,List.getElem?_take_of_lt (by omega)];exact h1
  have So:ps.Nodup:=by rw[←S.pre];exact S.nd.sublist (List.take_sublist _ _)
  refine⟨u,rv,?_⟩;rcases S.par y (Yi hp) with k|k;·exact .inl ⟨k,Lm So hp hu k⟩
  ·obtain⟨c,e⟩:=Mi k;refine .inr ⟨.inl k,c,e,?_⟩;have q:=x.cell y c e;rw[Ln So hp hu (by show scope.names.lookup y≠_;rw[k];decide)] at q;exact q
 ·exact e0.av.fresh (Jv (x.above y c (PySem.mem_of_lookup h)))
 ·unfold start;show _=N.length
  grind
theorem QB{CX:jJ}{P:Program}{w:World}{K:PySem.W.Frag}{mg:Str->Option Value}{base:Heap}{k:Nat}{f:Addr}{name qual:Str}{params:Arguments}{body:List Stmt}{scope:Scope}{dV kV doc pm aB ct oc:Value}{an od:Option Addr}
  {oK:Array (Option Value)}{N ps:List Str}{sp:Sp}(lk:K.lookup f=some ⟨oc,od,.func (fnOf name qual params body scope dV kV doc pm an aB ct),oK⟩)(iX:codeIn K aB qual=true)(S:aN N ps scope)
  (len:∀vs H Q E,sp vs H Q E->vs.length=ps.length)
  (rq:∀(A:Around) (outer:List Env) (s:Shared) (H:Hp) (vs:List V) (Q:VK) (E:XK),cZ k (A.deeper (envOfC qual scope s.heap.objs.size f aB))->sp vs H Q E->
   ∃t,fS (lP CX P w K mg base N qual scope f aB A outer s H E) body t/\t {nx:=λ_ H'=>Q .ay H',rt:=Q} (start N vs) H):
  aG P w K mg base CX (k+1) f (fnOf name qual params body scope dV kV doc pm an aB ct) ps sp:=by
 refine⟨len,λA outer s H args us vs Q E hr e0 hb r m6=>?_⟩;have hl:=len _ _ _ _ m6;have KX:K.In s.heap:=e0.mod.rZ.keeps λb o e=>(e0.bs b o e).1;have lim:s.heap.NoLimit:=e0.mod.nolimit.keeps λb o e=>(e0.bs b o e).1;have Zeh:∀y∈ps.zip us,scope.names.lookup y.1=some .local\/(scope.names.lookup y.1=some .cell/\((cellsFrom (s.heap.objs.size+1) scope.names []).lookup y.1).isSome=true):=λ⟨n,v⟩ hy=>by
  rcases S.par n (Sn hy).1 with q|q;·exact .inl q
  ·exact .inr ⟨q,cellsFrom_some _ _ _ (.inl q)⟩
 refine codeAny_call_function hr.depth (KX _ _ lk) rfl S.co S.gen rfl (PySem.W.codeRec_of KX iX) (hb _ _ _ _ ?_);refine wpAny_newFunctionEnv_cells S.kind Zeh λenv he s1 x=>?_;subst he;refine⟨lim.keeps x.toInCall.keep,codeAny_func ?_⟩;obtain⟨t,ht,hq⟩:=rq A outer s H vs Q E (hr.deeper _) m6;have I:Inv (lP CX P w K mg base N qual scope f aB A outer s H E) [] (start N vs) H s1:=Zv S hr.hd e0 hl r x;refine wpAny_mono (ht [] s1 (start N vs) H _ I hq) (λfl s' hs=>?_) λe s' hs=>hs;have fin:∀{aE:St} {H':Hp} {v:V} {u:Value},Inv (lP CX P w K mg base N qual scope f aB A outer s H E) [] aE H' s'->RelV v u->Q v H'->CE outer P w H s Q u s':=
  λ{aE H' v u} J rv q=>⟨v,H',J.os,J.bare,J.base,J.av,rv,q⟩
 cases fl with
 |ret u=>
  obtain⟨v,aE,H',J,rv,q⟩:=hs;exact fin J rv q
 |next=>
  obtain⟨aE,H',J,q⟩:=hs;exact fin (v:=V.ay) (u:=Value.none) J rfl q
 |brk=>
  obtain⟨_,_,_,q⟩:=hs;exact False.elim q
 |cont=>
  obtain⟨_,_,_,q⟩:=hs;exact False.elim q
section
variable {X:Cx}{x:Str}{p pos:Pos}{e:Expr}{es:List Expr}{t:TA}{id T:String}{r:List V->Hp->VK->Prop}
def m7(r:List V->Hp->VK->Prop)(t:TA):TE:=λσ H Q=>t σ H λvs H1=>r vs H1 Q
theorem iJ(hc:cY X (.builtin id) r)(hg:Gl X x)(hm:X.mg x=none)(hv:bootBuiltins x=some (.builtin id))(ha:PA X (e::es) t)(hn:x≠"__name__":=by decide)(jK:(x==("__debug__":Str))=false:=by decide)
  (he:starEach (e::es) X.env=(false,eval e X.env)::starEach es X.env:=by rfl)(cL:(backTo pos (starEach es X.env)).any (·.1)=false:=by rfl):PE X (.Call (.Name x p) (e::es) [] pos) (m7 r t):=by
 intro pins s σ H Q I h;refine wpAny_Call_Name_kw (zF I hg hm hv ?_ hn jK);exact PyProof.Rows.callWith_builtin1 (az (ha pos pins s σ H _ I h) λus s1 ⟨vs,H1,I1,r1,q1⟩=>hc pins s1 σ H1 vs us Q I1 r1 q1) he cL
theorem d_(hc:cY X (.type T) r)(hg:Gl X x)(hm:X.mg x=none)(hv:bootBuiltins x=some (.type T))(ha:PA X (e::es) t)(hn:x≠"__name__":=by decide)(jK:(x==("__debug__":Str))=false:=by decide)
  (he:starEach (e::es) X.env=(false,eval e X.env)::starEach es X.env:=by rfl)(cL:(backTo pos (starEach es X.env)).any (·.1)=false:=by rfl):PE X (.Call (.Name x p) (e::es) [] pos) (m7 r t):=by
 intro pins s σ H Q I h;refine wpAny_Call_Name_kw (zF I hg hm hv ?_ hn jK);exact PyProof.Rows.callWith_type1 (az (ha pos pins s σ H _ I h) λus s1 ⟨vs,H1,I1,r1,q1⟩=>hc pins s1 σ H1 vs us Q I1 r1 q1) he cL
end
end L2
namespace HT
open PySem PyProof.Rows
section
open PySem.SeqAt
open PySem.AutoSeq1 (wpAny_loadPart')
open PySem.MeetsSeq PySem.MeetsSeq2 PySem.MeetsSeq3
end
section
variable {prog:Program}{w:World}{A:Around}{E:Value->Shared->Prop}{s:Shared}
theorem ZbG{t b:Addr}{vs ws:List Value}{Q:Value->Shared->Prop}(ht:IsTup s.heap t vs.toArray)(hb:IsTup s.heap b ws.toArray)(hv:vs≠[])
  (h1:ws=[]->Q (.ref t) s)(h2:ws≠[]->Q (.ref s.heap.objs.size) {s with heap:=s.heap.push {cls:=.type "tuple",data:=.seq (vs++ws).toArray}})
  (hsz:vs.length+ws.length<=sizeLine):wpAny (model prog w) A (binaryOp .Add (.ref t) (.ref b)) Q E s:=by
 obtain⟨⟨cls,dd,data,sl⟩,ho,hc,n,hd⟩:=id ht;obtain⟨⟨Zhg,Sq,data2,Sr⟩,sh,Ss,n2,hd2⟩:=id hb;simp only at hc hd Ss hd2;subst hc hd Ss hd2;have e:vs.toArray++ws.toArray=(vs++ws).toArray:=by simp
 by_cases hw:ws=[]
 ·exact concat_meets ⟨_,ho,rfl⟩ ⟨_,sh,rfl⟩ noFill_tuple_add seq_tuple_add slot_tuple_add PySem.F.entry_tuple_add (PySem.F.args_tuple_add_2 _ _)
   (tuple_addW1 t b vs.toArray ws.toArray n n2 dd Sq sl Sr (by simpa using hv) (by simp[hw])) ⟨ho,sh,h1 hw⟩
 ·refine concat_meets ⟨_,ho,rfl⟩ ⟨_,sh,rfl⟩ noFill_tuple_add seq_tuple_add slot_tuple_add PySem.F.entry_tuple_add (PySem.F.args_tuple_add_2 _ _)
   (tuple_addW2 t b vs.toArray ws.toArray n n2 dd Sq sl Sr (by simpa using hv) (by simpa using hw) (by rw[Yv,Yv];exact hsz)) ⟨ho,sh,?_⟩
  rw[e];exact h2 hw
def fT(n d:Nat):Option Int->Nat
 |none=>d
 |some v=>if v<0 then(v+(n:Int)).toNat else min v.toNat n
theorem ZbH(n d k:Nat):fT n d (some (k:Int))=min k n:=by
 show(if(k:Int)<0 then((k:Int)+(n:Int)).toNat else min (k:Int).toNat n)=min k n;rfl
end
end HT
namespace L2
open PySem PySem.Spec PyProof.Rows
abbrev TO:=St->Hp->(Option Int->Hp->Prop)->Prop
def PO(X:Cx)(e:Option Expr)(t:TO):Prop:=
 ∀(pins:List (Addr×Obj)) (s:Shared) (σ:St) (H:Hp) (Q:Option Int->Hp->Prop),Inv X pins σ H s->t σ H Q->
  wpAny (model X.prog X.w) X.A (evalPart e X.env) (λu s'=>∃o H',Inv X pins σ H' s'/\IsPart u o/\Q o H') X.xe s
def ZbI:TO:=λ_ H Q=>Q none H
inductive NI(Q:Option Int->Hp->Prop)(x:V)(H1:Hp):Prop
 |mk (i) (aC:x=.int i) (aT:Q (some i) H1):NI Q x H1
def Zei(t:TE):TO:=λσ H Q=>t σ H λx H1=>NI Q x H1
theorem intsAre_of{ns:List Int}:∀{us:List Value},Vals (ns.map V.int) us->IntsAre us ns:=by
 induction ns with
 |nil=>intro us r;rw[List.map_nil] at r;cases r;exact .nil
 |cons n ns ih=>
  intro us r;cases r with
  |cons r1 r2=>
   obtain⟨t,e⟩:=r1;subst e;exact .cons n t (ih r2)
section
variable {X:Cx}{e:Expr}{te:TE}{lo hi:Option Expr}{tl th:TO}{pos p2:Pos}
theorem Fe:PO X none ZbI:=by
 intro pins s σ H Q I h;exact wpAny_pure ⟨none,H,I,.none,h⟩
theorem Ff(h:PE X e te):PO X (some e) (Zei te):=by
 intro pins s σ H Q I hw;refine az (h pins s σ H _ I hw) λu s1 zq=>?_;obtain⟨x,H1,I1,r1,q1⟩:=zq;obtain⟨i,rfl,q⟩:=q1;obtain⟨t,rfl⟩:=r1;exact⟨some i,H1,I1,.int i t,q⟩
def uY(X:Cx)(r:V->Option Int->Option Int->Hp->VK->Prop):Prop:=
 ∀(pins:List (Addr×Obj)) (s:Shared) (σ:St) (H:Hp) (x:V) (v vl vu:Value) (lo hi:Option Int) (sl:Addr) (Q:VK),Inv X pins σ H s->RelV x v->s.heap.IsSliceOf sl vl vu .none->IsPart vl lo->IsPart vu hi->r x lo hi H Q->
  ∃T id,typeLookup (.type T) "__getitem__"=pure (some (.builtin id))/\s.TypeIs v T/\wpAny (model X.prog X.w) X.A (getItem v (.ref sl)) (EP X pins σ Q) X.xe s
def tSl(r:V->Option Int->Option Int->Hp->VK->Prop)(te:TE)(tl th:TO):TE:=λσ H Q=>te σ H λx H1=>tl σ H1 λl H2=>th σ H2 λu H3=>r x l u H3 Q
theorem EI{r:V->Option Int->Option Int->Hp->VK->Prop}(hr:uY X r)(he:PE X e te)(hl:PO X lo tl)(hu:PO X hi th):PE X (.Subscript e (.Slice lo hi none p2) pos) (tSl r te tl th):=by
 intro pins s σ H Q I h;refine Subscript_ (az (he pins s σ H _ I h) λv s1 zq=>?_);obtain⟨x,H1,I1,r1,q1⟩:=zq;refine wpAny_Slice (az (hl pins s1 σ H1 _ I1 q1) λvl s2 zq=>?_);obtain⟨l,H2,I2,pl,q2⟩:=zq;refine az (hu pins s2 σ H2 _ I2 q2) λvu s3 zq=>?_;obtain⟨u,H3,I3,pu,q3⟩:=zq;rw[evalPart_none];refine wpAny_pure ?_;have I4:Inv X pins σ H3 {s3 with heap:=s3.heap.push {cls:=.type "slice",data:=.fields #[vl,vu,.none]}}:=I3.kept (t':=s3.toks) λb ob q=>Yc _ q;obtain⟨T,id,hT,ht,hg⟩:=hr pins {s3 with heap:=s3.heap.push {cls:=.type "slice",data:=.fields #[vl,vu,.none]}} σ H3 x v vl vu l u s3.heap.objs.size Q I4 r1 (Heap.IsSliceOf.new ..) pl pu q3;show wpAny (model X.prog X.w) X.A (subscriptTail e (.Slice lo hi none p2) v (.ref s3.heap.objs.size)) (EP X pins σ Q) X.xe {s3 with heap:=s3.heap.push {cls:=.type "slice",data:=.fields #[vl,vu,.none]}};exact tail_any (ops:=[.ref s3.heap.objs.size,v]) ht hT hg (by with_unfolding_all rfl)
def kH(xs:List V)(lo hi:Option Int):List V:=(xs.drop (HT.fT xs.length 0 lo)).take (HT.fT xs.length xs.length hi-HT.fT xs.length 0 lo)
theorem Kh(xs:List V)(lo hi:Option Int):(kH xs lo hi).length<=xs.length:=by
 unfold kH
 grind
def Zej(K:PySem.W.Frag):R2:=λx y H Q=>∃a b xs ys,x=.ref a/\y=.ref b/\aA K H a xs/\aA K H b ys/\xs≠[]/\xs.length+ys.length<=sizeLine/\
 (ys=[]->Q (.ref a) H)/\(ys≠[]->∀p,H p=none->Q (.ref p) (upd H p (.tup (xs++ys))))
theorem Vals.Fg{xs:List V}{us:List Value}(r:Vals xs us):us=[]↔xs=[]:=by
 cases r with
 |nil=>simp
 |cons _ _=>simp
theorem ZbJ:cD X (binaryOp .Add) (Zej X.K):=by
 rintro pins s σ H x y v u Q I rx ry ⟨a,b,xs,ys,rfl,rfl,ha,hb,hx,hz,q1,q2⟩;cases rx;cases ry;obtain⟨ah,r1,p1,_⟩:=I.tuple ha;obtain⟨ib,r2,p2,_⟩:=I.tuple hb;refine HT.ZbG p1 p2 (λz=>hx (r1.Fg.mp z)) (λz=>⟨.ref a,H,I,rfl,q1 (r2.Fg.mp z)⟩) (λz=>⟨.ref s.heap.objs.size,_,I.laid (o:=.tup (xs++ys)) (λb ob q=>Yc _ q) (Yd _) ?_,rfl,q2 (λw=>z (r2.Fg.mpr w)) _ (I.av.fresh (Yd _))⟩) (by rw[←r1.length,←r2.length];exact hz);exact⟨by rw[Yk];exact hz,_,r1.append r2,lu.new _ _⟩
end
def kM(n:Nat)(i:Int):Option Nat:=if 0<=i then(if i<n then some i.toNat else none) else if-(n:Int)<=i then some (i+n).toNat else none
def dt{α:Type}(xs:List α)(i:Int):Option α:=(kM xs.length i).bind λj=>xs[j]?
theorem Fh{n:Nat}{i:Int}{j:Nat}(h:kM n i=some j):seqIndex? i n=some j/\j<n/\-(n:Int)<=i/\i<n:=by
 unfold kM at h;by_cases h0:0<=i
 ·rw[if_pos h0] at h;by_cases h1:i<n
  ·rw[if_pos h1] at h;have e:=Yq h;exact⟨by rw[seqIndex_of h0 h1,e],by omega,by omega,h1⟩
  ·grind
 ·rw[if_neg h0] at h;by_cases h1:-(n:Int)<=i
  ·rw[if_pos h1] at h;have e:=Yq h;exact⟨by rw[seqIndex_neg (by omega) h1,e],by omega,h1,by omega⟩
  ·grind
theorem Fi{α:Type}{xs:List α}{i:Int}{v:α}(h:dt xs i=some v):∃j,seqIndex? i xs.length=some j/\xs[j]?=some v/\j<xs.length/\-(xs.length:Int)<=i/\i<xs.length:=by
 unfold dt at h;cases e:kM xs.length i with
 |none=>grind
 |some j=>
  obtain⟨h1,h2,h3,h4⟩:=Fh e
  grind
theorem fF{α:Type}{xs:List α}{j:Nat}{v:α}(h:xs[j]?=some v):dt xs (j:Int)=some v:=by
 have e:kM xs.length (j:Int)=some j:=by
  unfold kM
  grind
 unfold dt;rw[e];exact h
def NJ(b:Expr):Prop:=∀o i,subscripted b false o i=operate [o,i] (getItem o i)
def ij(X:Cx)(r:R2):Prop:=
 ∀(value slice:Expr) (pins:List (Addr×Obj)) (s:Shared) (σ:St) (H:Hp) (x y:V) (v u:Value) (Q:VK),Inv X pins σ H s->RelV x v->RelV y u->r x y H Q->
  subscripted slice false v u=operate [v,u] (getItem v u)->wpAny (model X.prog X.w) X.A (subscriptTail value slice v u) (EP X pins σ Q) X.xe s
def Su(X:Cx)(id:String)(r:V->List V->Hp->VK->Prop):Prop:=
 ∀(pins:List (Addr×Obj)) (s:Shared) (σ:St) (H:Hp) (x:V) (xs:List V) (v:Value) (us:List Value) (Q:VK),Inv X pins σ H s->RelV x v->Vals xs us->r x xs H Q->
  wpAny (model X.prog X.w) X.A (call (.builtin id) (v::us)) (EP X pins σ Q) X.xe s
section
variable {X:Cx}{a b:Expr}{ta tb:TE}{pos:Pos}
theorem ij.or{r r':R2}(h:ij X r)(h':ij X r'):ij X (λx y H Q=>r x y H Q\/r' x y H Q):=by
 intro value slice pins s σ H x y v u Q I rx ry q hs;rcases q with q|q;·exact h value slice pins s σ H x y v u Q I rx ry q hs
 ·exact h' value slice pins s σ H x y v u Q I rx ry q hs
theorem QC{r:R2}(hr:ij X r)(ha:PE X a ta)(hb:PE X b tb)(hs:NJ b):PE X (.Subscript a b pos) (iY r ta tb):=by
 intro pins s σ H Q I h;exact Subscript_ (Gw ha hb I h λv u s2 x y H2 I2 rx ry q=>hr a b pins s2 σ H2 x y v u Q I2 rx ry q (hs _ _))
inductive Pc(K:PySem.W.Frag)(x:V)(y:V)(H:Hp)(Q:VK):Prop
 |mk (p xs i v) (aC:x=.ref p) (aT:y=.int i) (bc:aj K H p xs) (bK:dt xs i=some v) (cE:Q v H):Pc K x y H Q
def uH(K:PySem.W.Frag):R2:=λx y H Q=>Pc K x y H Q
inductive Pd(K:PySem.W.Frag)(x:V)(y:V)(H:Hp)(Q:VK):Prop
 |mk (p xs i v) (aC:x=.ref p) (aT:y=.int i) (bc:aA K H p xs) (bK:dt xs i=some v) (cE:Q v H):Pd K x y H Q
def z_(K:PySem.W.Frag):R2:=λx y H Q=>Pd K x y H Q
inductive Pf(x:V)(y:V)(H:Hp)(Q:VK):Prop
 |mk (z i c) (aC:x=.str z) (aT:y=.int i) (bc:z.length<=sizeLine) (bK:dt z.cps.toList i=some c) (cE:Q (.str ⟨#[c]⟩) H):Pf x y H Q
def Rn:R2:=λx y H Q=>Pf x y H Q
theorem Fj:ij X (uH X.K):=by
 intro value slice pins s σ H x y v u Q I rx ry h hs;obtain⟨p,xs,i,z,rfl,rfl,hq,he,q⟩:=h;cases rx;obtain⟨t,rfl⟩:=ry;obtain⟨ah,r,pl,hz⟩:=I.list hq;obtain⟨j,h1,h2,h3,h4,h5⟩:=Fi he;obtain⟨w,ew,fU⟩:=r.get h2;have hl:=r.length;have hn:=qZ;have fin:EP X pins σ Q w s:=⟨z,H,I,fU,q⟩;by_cases h0:0<=i
 ·have hj:i.toNat=j:=by
   rw[seqIndex_of h0 h5] at h1;exact Yq h1
  exact item_listR pl.isList h0 (by omega) (by rw[hj];simpa using ew) fin hs
 ·have hj:(i+(ah.toArray.size:Int)).toNat=j:=by
   rw[seqIndex_neg (by omega) h4] at h1
   grind
  exact subscriptTail_builtinR (x:=w) pl.isList.typeIs slot_list_getitem.lookup
   (wpAny_getItem_list_neg pl.isList (by omega) (by rw[Yv]<;>omega) (by omega) (by rw[hj];simpa using ew) ⟨rfl,fin⟩) hs
theorem Pg:ij X (z_ X.K):=by
 intro value slice pins s σ H x y v u Q I rx ry h hs;obtain⟨p,xs,i,z,rfl,rfl,hq,he,q⟩:=h;cases rx;obtain⟨t,rfl⟩:=ry;obtain⟨ah,r,pl,hz⟩:=I.tuple hq;obtain⟨j,h1,h2,h3,h4,h5⟩:=Fi he;obtain⟨w,ew,fU⟩:=r.get h2;have hn:=qZ;exact subscriptTail_builtinR pl.typeIs slot_tuple_getitem.lookup
  (getItem_tuple pl (by omega) (by omega) (by rw[Yv,←r.length];exact h1) (by simpa using ew) ⟨rfl,⟨z,H,I,fU,q⟩⟩) hs
theorem wL:ij X Rn:=by
 intro value slice pins s σ H x y v u Q I rx ry h hs;obtain⟨z,i,c,rfl,rfl,hz,he,q⟩:=h;obtain⟨t,rfl⟩:=rx;obtain⟨t',rfl⟩:=ry;obtain⟨j,h1,h2,h3,h4,h5⟩:=Fi he;have hl:z.cps.toList.length=z.length:=by simp[Str.length]
 rw[hl] at h1 h4 h5;have hn:=qZ;exact tail_any (typeIs_str s z t) slot_str_getitem.lookup (getItem_str (by
  rw[(decide_eq_false (by omega)),(decide_eq_false (by omega)),Bool.or_false]) (by rw[h1];simpa using h2) ⟨.str ⟨#[c]⟩,H,I.tok _,⟨_,rfl⟩,q⟩) hs
def G7(K:PySem.W.Frag):R2:=λx y H Q=>uH K x y H Q\/z_ K x y H Q\/Rn x y H Q
theorem ZcY:ij X (G7 X.K):=Fj.or (Pg.or wL)
theorem X4(ah:List Value)(n j:Nat)(u:Value):Obj.mapSeq (·.setIfInBounds j u) {cls:=.type "list",data:=.seq ah.toArray n}={cls:=.type "list",data:=.seq (ah.set j u).toArray n}:=by
 simp[Obj.mapSeq]
theorem Inv.lst{pins:List (Addr×Obj)}{σ:St}{H:Hp}{s:Shared}{p:Addr}{xs:List V}(I:Inv X pins σ H s)(h:H p=some (.lst xs)):
  ∃(ah:List Value) (n:Nat),Vals xs ah/\s.heap.get? p=some {cls:=.type "list",data:=.seq ah.toArray n}/\xs.length<=sizeLine:=by
 obtain⟨z,ah,n,r,e⟩:=I.av p _ h
 grind
theorem Inv.ZcZ{pins:List (Addr×Obj)}{σ:St}{H:Hp}{s:Shared}{p:Addr}{xs ys:List V}{ah its':List Value}{n n':Nat}{f:Obj->Obj}(I:Inv X pins σ H s)(h:H p=some (.lst xs))
  (ho:s.heap.get? p=some {cls:=.type "list",data:=.seq ah.toArray n})(hf:f {cls:=.type "list",data:=.seq ah.toArray n}={cls:=.type "list",data:=.seq its'.toArray n'})(r:Vals ys its')(hz:ys.length<=sizeLine)(t:Nat):
  Inv X pins σ (upd H p (.lst ys)) {s with heap:=s.heap.update p f,toks:=t}:=by
 have e:(s.heap.update p f).get? p=some {cls:=.type "list",data:=.seq its'.toArray n'}:=by
  rw[J1 f ho (by rw[hf]<;>rfl),hf]
 refine I.write (x:=p) (e:=p) (by rw[h];trivial) (.inl rfl) (λb u hb q=>(Heap.get?_update_other _ _ (Ne.symm hb)).trans q) ⟨_,e⟩ ?_;exact⟨hz,its',n',r,e⟩
def Zek:V->V->V->Hp->(Hp->Prop)->Prop:=λo i v H Q=>∃p xs k j,o=.ref p/\i=.int k/\H p=some (.lst xs)/\kM xs.length k=some j/\Q (upd H p (.lst (xs.set j v)))
theorem set_list:rH X Zek:=by
 rintro pins s σ H o i v ov iv u Q I ro ri rv ⟨p,xs,k,j,rfl,rfl,hp,hj,q⟩;cases ro;obtain⟨t,rfl⟩:=ri;obtain⟨ah,n,r,ho,hz⟩:=I.lst hp;obtain⟨h1,h2,h3,h4⟩:=Fh hj;have hl:=r.length;have hn:=qZ;have I':Inv X pins σ (upd H p (.lst (xs.set j v))) {s with heap:=s.heap.update p (Obj.mapSeq (·.setIfInBounds j u))}:=
  I.ZcZ hp ho (X4 ah n j u) (r.set rv j) (by rw[Jd];exact hz) s.toks
 by_cases h0:0<=k
 ·have hk:k.toNat=j:=by
   rw[seqIndex_of h0 h4] at h1
   grind
  exact PySem.W.ki_setAt ho h0 (by omega) (by rw[Yv,←hl];exact h4) (by rw[hk];exact⟨_,I',q⟩)
 ·have hk:(k+(ah.toArray.size:Int)).toNat=j:=by
   rw[seqIndex_neg (by omega) h3] at h1
   grind
  exact PySem.W.ki_setBack ho (by omega) (by rw[Yv,←hl];exact h3) (by omega) (by rw[hk];exact⟨_,I',q⟩)
theorem V9(lo hi:Option Int)(n:Nat):(sliceBounds lo hi none n).1=((HT.fT n 0 lo:Nat):Int)/\(sliceBounds lo hi none n).2.1=((HT.fT n n hi:Nat):Int)/\(sliceBounds lo hi none n).2.2=1:=by
 refine⟨?_,?_,rfl⟩
 ·cases lo with
  |none=>rfl
  |some i=>
   simp only[sliceBounds,HT.fT]
   grind
 ·cases hi with
  |none=>rfl
  |some i=>
   simp only[sliceBounds,HT.fT]
   grind
theorem VJ(ah:List Value)(lo hi:Option Int):slicePick ah.toArray lo hi none=((ah.drop (HT.fT ah.length 0 lo)).take (HT.fT ah.length ah.length hi-HT.fT ah.length 0 lo)).toArray:=by
 obtain⟨h1,h2,h3⟩:=V9 lo hi ah.toArray.size;unfold slicePick;rw[h1,h2,h3];simp only[sliceRange_one,pick_run]<;>rfl
def Ze6(K:PySem.W.Frag):V->Option Int->Option Int->Hp->VK->Prop:=λx lo hi H Q=>∃a xs,x=.ref a/\aj K H a xs/\∀p,H p=none->Q (.ref p) (upd H p (.lst (kH xs lo hi)))
theorem ZbK:uY X (Ze6 X.K):=by
 rintro pins s σ H x v vl vu lo hi sl Q I rx hs pl pu ⟨a,xs,rfl,hx,q⟩;cases rx;obtain⟨ah,r,ht,hz⟩:=I.list hx;have hlen:=r.length;refine⟨"list",_,slot_list_getitem.lookup,ht.isList.typeIs,wpAny_getItem_list_slice ht.isList hs pl pu .none (by simp) ?_ (by rw[Yv]<;>omega)⟩;rw[VJ,←hlen];refine⟨.ref s.heap.objs.size,_,I.laid (o:=.lst (kH xs lo hi)) (λb ob q=>Yc _ q) (Yd _) ?_,rfl,q _ (I.av.fresh (Yd _))⟩;exact⟨Y4 (Kh xs lo hi) hz,_,0,(r.drop (HT.fT xs.length 0 lo)).take (HT.fT xs.length xs.length hi-HT.fT xs.length 0 lo),Yo _ rfl⟩
def iO:V->Bool
 |.ay=>true
 |.bl _=>true
 |.int _=>true
 |.str _=>true
 |_=>false
def jr:V->V->Bool
 |.ay,.ay=>true
 |.bl a,.bl b=>a==b
 |.bl a,.int b=>(if a then 1 else 0)==b
 |.int a,.bl b=>a==(if b then 1 else 0)
 |.int a,.int b=>a==b
 |.str a,.str b=>a==b
 |_,_=>false
theorem Ph{A:Around}{s:Shared}{y x:V}{u v:Value}(ry:RelV y u)(rx:RelV x v)(fy:iO y=true)(fx:iO x=true):SeqAt.EqAt A s u v (jr y x):=by
 cases y with
 |ay=>
  cases ry;cases x with
  |ay=>cases rx;exact SeqAt.EqAt.same _
  |bl b=>cases rx;exact SeqAt.EqAt.none_bool b
  |int b=>obtain⟨t,rfl⟩:=rx;exact SeqAt.EqAt.none_int b t
  |str b=>obtain⟨t,rfl⟩:=rx;exact SeqAt.EqAt.none_str b t
  |_=>exact absurd (show false=true from fx) Yj
 |bl a=>
  cases ry;cases x with
  |ay=>cases rx;exact SeqAt.EqAt.bool_none a
  |bl b=>cases rx;exact SeqAt.EqAt.bool_bool a b
  |int b=>obtain⟨t,rfl⟩:=rx;exact SeqAt.EqAt.bool_int a b t
  |str b=>obtain⟨t,rfl⟩:=rx;exact SeqAt.EqAt.bool_str a b t
  |_=>exact absurd (show false=true from fx) Yj
 |int a=>
  obtain⟨t',rfl⟩:=ry;cases x with
  |ay=>cases rx;exact SeqAt.EqAt.int_none a t'
  |bl b=>cases rx;exact SeqAt.EqAt.int_bool a t' b
  |int b=>obtain⟨t,rfl⟩:=rx;exact SeqAt.EqAt.int_int a t' b t
  |str b=>obtain⟨t,rfl⟩:=rx;exact SeqAt.EqAt.int_str a t' b t
  |_=>exact absurd (show false=true from fx) Yj
 |str a=>
  obtain⟨t',rfl⟩:=ry;cases x with
  |ay=>cases rx;exact SeqAt.EqAt.str_none a t'
  |bl b=>cases rx;exact SeqAt.EqAt.str_bool a t' b
  |int b=>obtain⟨t,rfl⟩:=rx;exact SeqAt.EqAt.str_int a t' b t
  |str b=>obtain⟨t,rfl⟩:=rx;exact SeqAt.EqAt.str_str a t' b t
  |_=>exact absurd (show false=true from fx) Yj
 |_=>exact absurd (show false=true from fy) Yj
def gX(x:V)(u:Value):Bool:=match u with
 |.none=>jr .ay x
 |.bool b=>jr (.bl b) x
 |.int i _=>jr (.int i) x
 |.str z _=>jr (.str z) x
 |_=>false
theorem Pj{x y:V}{u:Value}(r:RelV y u)(f:iO y=true):gX x u=jr y x:=by
 cases y with
 |ay=>cases r;rfl
 |bl b=>cases r;rfl
 |int i=>obtain⟨t,rfl⟩:=r;rfl
 |str z=>obtain⟨t,rfl⟩:=r;rfl
 |_=>exact absurd (show false=true from f) Yj
theorem wu{x:V}:∀{xs:List V} {us:List Value},Vals xs us->xs.all iO=true->us.any (gX x)=xs.any λy=>jr y x
 |_,_,.nil,_=>rfl
 |y::xs,u::us,.cons r t,f=>by
  rw[Je,Wn] at f;rw[Jn,Jn,Pj r f.1,wu t f.2]
theorem wm{A:Around}{s:Shared}{x:V}{v:Value}(rx:RelV x v)(fx:iO x=true):∀{xs:List V} {us:List Value},Vals xs us->xs.all iO=true->∀u∈us,SeqAt.EqAt A s u v (gX x u):=by
 intro xs us h;induction h with
 |nil=>intro _ u hu;cases hu
 |cons r t ih=>
  intro f u' hu;rw[Je,Wn] at f;rcases Yp.mp hu with rfl|hu;·rw[Pj r f.1];exact Ph r rx f.1 fx
  ·exact ih f.2 u' hu
def eZ(x:V)(xs:List V):Bool:=xs.any λy=>jr y x
def xF(K:PySem.W.Frag)(neg:Bool):R2:=λx y H Q=>∃p xs,y=.ref p/\(aj K H p xs\/aA K H p xs)/\iO x=true/\xs.all iO=true/\Q (.bl (if neg then !eZ x xs else eZ x xs)) H
theorem Zw:cD X (compareOp .In) (xF X.K false):=by
 rintro pins s σ H x y v u Q I rx ry ⟨p,xs,rfl,hq,fx,fs,q⟩;cases ry;rcases hq with hq|hq
 ·obtain⟨ah,r,pl,hz⟩:=I.list hq;refine SeqAt.in_listAt (gX x) pl.isList (λw hw=>wm rx fx r fs w (by simpa using hw)) ⟨.bl _,H,I,rfl,?_⟩;rw[show ah.toArray.any (gX x)=ah.any (gX x) by simp,wu r fs];exact q
 ·obtain⟨ah,r,pl,hz⟩:=I.tuple hq;refine SeqAt.in_tupleAt (gX x) pl (λw hw=>wm rx fx r fs w (by simpa using hw)) ⟨.bl _,H,I,rfl,?_⟩;rw[show ah.toArray.any (gX x)=ah.any (gX x) by simp,wu r fs];exact q
theorem V_:cD X (compareOp .NotIn) (xF X.K true):=by
 rintro pins s σ H x y v u Q I rx ry ⟨p,xs,rfl,hq,fx,fs,q⟩;cases ry;rcases hq with hq|hq
 ·obtain⟨ah,r,pl,hz⟩:=I.list hq;refine SeqAt.notIn_listAt (gX x) pl.isList (λw hw=>wm rx fx r fs w (by simpa using hw)) ⟨.bl _,H,I,rfl,?_⟩;rw[show ah.toArray.any (gX x)=ah.any (gX x) by simp,wu r fs];exact q
 ·obtain⟨ah,r,pl,hz⟩:=I.tuple hq;refine SeqAt.notIn_tupleAt (gX x) pl (λw hw=>wm rx fx r fs w (by simpa using hw)) ⟨.bl _,H,I,rfl,?_⟩;rw[show ah.toArray.any (gX x)=ah.any (gX x) by simp,wu r fs];exact q
theorem Ka:cY X (.builtin "len") (λxs H Q=>∃p ys,xs=[.ref p]/\(aj X.K H p ys\/aA X.K H p ys)/\Q (.int ys.length) H):=by
 rintro pins s σ H xs us Q I r ⟨p,ys,rfl,hq,q⟩;obtain⟨u,rfl,rx⟩:=vals1 r;cases rx;have hn:=qZ;rcases hq with hq|hq
 ·obtain⟨ah,r',pl,hz⟩:=I.list hq;have hlen:=r'.length;exact Calls.call_len_list pl.isList (by simp only[Yv]<;>omega) ⟨.int ys.length,H,I.tok _,⟨s.toks+1,by rw[Yv,hlen]⟩,q⟩
 ·obtain⟨ah,r',pl,hz⟩:=I.tuple hq;have hlen:=r'.length;exact len_tuple pl (by simp only[Yv]<;>omega) ⟨.int ys.length,H,I.tok _,⟨s.toks+1,by rw[Yv,hlen]⟩,q⟩
theorem WA:cY X (.builtin "len") (λxs H Q=>∃z,xs=[.str z]/\z.length<=sizeLine/\Q (.int z.length) H):=by
 rintro pins s σ H xs us Q I r ⟨z,rfl,hz,q⟩;obtain⟨u,rfl,t,rfl⟩:=vals1 r;have hn:=qZ;exact len_str (by omega) ⟨.int z.length,H,I.tok _,⟨_,rfl⟩,q⟩
theorem tK:cY X (.type "tuple") (λxs H Q=>∃p ys,xs=[.ref p]/\((aj X.K H p ys/\∀l,H l=none->Q (.ref l) (upd H l (.tup ys)))\/(aA X.K H p ys/\Q (.ref p) H))):=by
 rintro pins s σ H xs us Q I r ⟨p,ys,rfl,h⟩;obtain⟨u,rfl,rx⟩:=vals1 r;cases rx;rcases h with⟨hq,q⟩|⟨hq,q⟩
 ·obtain⟨ah,r',pl,hz⟩:=I.list hq;have hlen:=r'.length;refine call_tuple_list pl.isList (λh' kp=>?_) (by simp only[Yv]<;>omega);have I1:=I.kept (t':=s.toks) kp;have I2:Inv X pins σ (upd H h'.objs.size (.tup ys)) {s with heap:=h'.push {cls:=.type "tuple",data:=.seq ah.toArray}}:=
   I1.laid (λb o e=>Yc _ e) (Yd _) (show cK X.prog X.w _ _ _ (.tup ys) from⟨hz,ah,r',lu.new _ _⟩)
  exact⟨.ref h'.objs.size,_,I2,rfl,q _ (I1.av.fresh (Yd _))⟩
 ·obtain⟨ah,r',pl,hz⟩:=I.tuple hq;exact call_tuple_same pl ⟨.ref p,H,I,rfl,q⟩
def G8(K:PySem.W.Frag)(T:String)(x:V)(H:Hp):Prop:=match x with
 |.str _=>T="str"
 |.int _=>T="int"
 |.ref p=>(T="list"/\∃xs,aj K H p xs)\/(T="tuple"/\∃o,K.lookup p=some o/\o.cls=.type "tuple"/\o.dict=none)\/
   (T="dict"/\((∃kvs,H p=some (.dK kvs))\/∃kvs,H p=some (.dT kvs)))\/(T="set"/\∃S n,H p=some (.set S n))
 |_=>False
theorem Pk{pins:List (Addr×Obj)}{σ:St}{H:Hp}{s:Shared}{T:String}{x:V}{v:Value}(I:Inv X pins σ H s)(r:RelV x v)(ty:G8 X.K T x H):
  s.TypeIs v T/\∀a,v=.ref a->∃ob,s.heap.get? a=some ob/\ob.dict=none:=by
 cases x with
 |str z=>
  obtain⟨t,rfl⟩:=r;cases(show T="str" from ty);exact⟨typeIs_str s z t,λ_ e=>nomatch e⟩
 |int i=>
  obtain⟨t,rfl⟩:=r;cases(show T="int" from ty);exact⟨typeIs_int s i t,λ_ e=>nomatch e⟩
 |ref p=>
  cases r;rcases ty with⟨rfl,xs,hq⟩|⟨rfl,o,hk,hc,hd⟩|⟨rfl,hk⟩|⟨rfl,S,n,hk⟩
  ·obtain⟨ah,_,pl,_⟩:=I.list hq;refine⟨pl.isList.typeIs,λa e=>?_⟩;obtain⟨o,n,e,c,hd,_⟩:=pl
   grind
  ·refine⟨⟨o,I.dE p o hk,hc⟩,λa e=>?_⟩;cases e;exact⟨o,I.dE _ o hk,hd⟩
  ·have z:∃o,s.heap.get? p=some o/\o.ExactDict:=by
    rcases hk with⟨kvs,hk⟩|⟨kvs,hk⟩
    ·obtain⟨_,_,_,_,o,_,_,e,ex,_⟩:=I.av p _ hk;exact⟨o,e,ex⟩
    ·obtain⟨_,_,_,_,o,_,_,e,ex,_⟩:=I.av p _ hk;exact⟨o,e,ex⟩
   obtain⟨o,e,ex⟩:=z;refine⟨⟨o,e,ex.1⟩,λa e2=>?_⟩;cases e2;exact⟨o,e,ex.2.1⟩
  ·obtain⟨o,_,_,_,e,ex,_⟩:=I.av p _ hk;refine⟨⟨o,e,ex.1⟩,λa e2=>?_⟩;cases e2;exact⟨o,e,ex.2.1⟩
 |_=>exact False.elim ty
def GA(K:PySem.W.Frag)(T:String)(r:V->List V->Hp->VK->Prop)(to:TE):TE:=λσ H Q=>to σ H λx H1=>G8 K T x H1/\r x [] H1 Q
def xG(K:PySem.W.Frag)(T:String)(r:V->List V->Hp->VK->Prop)(to:TE)(t:TA):TE:=λσ H Q=>to σ H λx H1=>G8 K T x H1/\t σ H1 λxs H2=>r x xs H2 Q
variable {o e:Expr}{es:List Expr}{to:TE}{t:TA}{name:Str}{apos ck:Pos}{T id:String}{r:V->List V->Hp->VK->Prop}
theorem Zc0(pa:PlainAttrs T)(slot:Slot T name id)(G9:typeOf (.builtin id)=pure (.type "method_descriptor"))(hm:Su X id r)(ho:PE X o to)
  (lI:attributeBase o name X.env (eval o X.env)=eval o X.env:=by rfl)(lJ:(apos.endLine==ck.line)=true:=by rfl):PE X (.Call (.Attribute o name apos) [] [] ck) (GA X.K T r to):=by
 intro pins s σ H Q I h;refine wpAny_Call_method0_late lI lJ (az (ho pins s σ H _ I h) λv s1 zq=>?_);obtain⟨x,H1,I1,r1,ty,q1⟩:=zq;obtain⟨h1,h2⟩:=Pk I1 r1 ty;exact⟨T,id,pa,slot,G9,h1,h2,Calls.callWith_builtin rfl (PySem.evalArgs_none (hm pins s1 σ H1 x [] v [] Q I1 r1 .nil q1))⟩
theorem ji(pa:PlainAttrs T)(slot:Slot T name id)(G9:typeOf (.builtin id)=pure (.type "method_descriptor"))(hm:Su X id r)(ho:PE X o to)(ha:PA X (e::es) t)
  (lI:attributeBase o name X.env (eval o X.env)=eval o X.env:=by rfl)
  (GB:((backTo ck (starEach (e::es) X.env)).all (λx=>!x.1)&&(backToKw ck (keywordEach [] X.env)).all (λx=>x.1.isSome)
   &&decide ((e::es).length+([]:List Keyword).length+(if([]:List Keyword).isEmpty then 0 else 1)<30))=true:=by rfl)
  (lJ:(apos.endLine==ck.line)=true:=by rfl)(hs:starEach (e::es) X.env=(false,eval e X.env)::starEach es X.env:=by rfl)(Zc1:(backTo ck (starEach es X.env)).any (·.1)=false:=by rfl):
  PE X (.Call (.Attribute o name apos) (e::es) [] ck) (xG X.K T r to t):=by
 intro pins s σ H Q I h;refine wpAny_Call_method_late lI GB lJ rfl (az (ho pins s σ H _ I h) λv s1 zq=>?_);obtain⟨x,H1,I1,r1,ty,q1⟩:=zq;obtain⟨h1,h2⟩:=Pk I1 r1 ty;refine⟨T,id,pa,slot,G9,h1,h2,?_⟩;have hA:=ha ck pins s1 σ H1 _ I1 q1;rw[hs] at hA⊢;exact Calls.callWith_builtin (by show(false||(backTo ck (starEach es X.env)).any (·.1))=false;rw[Zc1]<;>rfl) (Calls.evalArgs_plain (az hA λus s2 ⟨vs,H2,I2,r2,q2⟩=>hm pins s2 σ H2 x vs v us Q I2 r1 r2 q2))
end
def m8(X:Cx)(id:String)(r:V->List V->Hp->VK->Prop):Prop:=
 ∀(pins:List (Addr×Obj)) (s:Shared) (σ:St) (H:Hp) (x:V) (xs:List V) (v:Value) (us:List Value) (Q:VK),Inv X pins σ H s->RelV x v->Vals xs us->r x xs H Q->
  wpAny (model X.prog X.w) X.A (call (.builtin id) (v::us)) (EP X pins σ Q) X.xe s
theorem Vals.one:∀{x:V} {us:List Value},Vals [x] us->∃u,us=[u]/\RelV x u:=by
 intro x us h;cases h with
 |cons r t=>
  cases t;exact⟨_,rfl,r⟩
theorem Vals.zero:∀{us:List Value},Vals [] us->us=[]
 |_,.nil=>rfl
theorem Vals.eraseIdx:∀{xs:List V} {us:List Value} (i:Nat),Vals xs us->Vals (xs.eraseIdx i) (us.eraseIdx i)
 |_,_,_,.nil=>.nil
 |_,_,0,.cons _ t=>t
 |_,_,i+1,.cons r t=>.cons r (Vals.eraseIdx i t)
section
variable {X:Cx}{pins:List (Addr×Obj)}{σ:St}{H:Hp}{s:Shared}{l b:Addr}{xs ys zs:List V}
theorem Inv.Aa{ah its':List Value}{n:Nat}{f:Array Value->Array Value}{t':Nat}(I:Inv X pins σ H s)(hH:H l=some (.lst xs))
  (e:s.heap.get? l=some {cls:=.type "list",data:=.seq ah.toArray n})(hf:f ah.toArray=its'.toArray)(hv:Vals ys its')(hz:ys.length<=sizeLine):
  Inv X pins σ (upd H l (.lst ys)) {s with heap:=s.heap.update l (Obj.mapSeq f),toks:=t'}:=by
 have q:=PySem.IsL.update e f;rw[hf] at q;refine I.write (by rw[hH];exact trivial) (.inl rfl) (λb' u hb hu=>(Heap.get?_update_other s.heap (Obj.mapSeq f) (Ne.symm hb)).trans hu) ⟨_,q⟩ ?_;exact⟨hz,its',_,hv,q⟩
theorem Inv.Ze7{ah:List Value}{t':Nat}(I:Inv X pins σ H s)(hv:Vals ys ah)(hz:ys.length<=sizeLine):
  Inv X pins σ (upd H s.heap.objs.size (.lst ys)) {s with heap:=s.heap.push {cls:=.type "list",data:=.seq ah.toArray},toks:=t'}:=
 I.laid (λ_ _ q=>Yc _ q) (Yd _) ⟨hz,ah,0,hv,Yo _ rfl⟩
theorem Inv.fresh(I:Inv X pins σ H s):H s.heap.objs.size=none:=I.av.fresh (Yd _)
theorem Inv.rN(I:Inv X pins σ H s)(hH:H l=some (.lst xs)):xs.length<=sizeLine/\∃(ah:List Value) (n:Nat),Vals xs ah/\xs.length=ah.length/\s.heap.get? l=some {cls:=.type "list",data:=.seq ah.toArray n}:=by
 obtain⟨z,ah,n,r,e⟩:=I.av l _ hH;exact⟨z,ah,n,r,r.length,e⟩
theorem Zam{n:Nat}(h:n<=sizeLine):Builtin.List.listTooLong n=false:=by
 exact decide_eq_false (by omega)
end
section
variable {X:Cx}
def ZbL:V->List V->Hp->VK->Prop:=λx vs H Q=>∃l xs y,x=.ref l/\vs=[y]/\H l=some (.lst xs)/\xs.length<sizeLine/\Q .ay (upd H l (.lst (xs++[y])))
theorem wc:m8 X "list.append" ZbL:=by
 intro pins s σ H x vs v us Q I rx rv h;obtain⟨l,xs,y,rfl,rfl,hH,hz,q⟩:=h;cases rx;obtain⟨u,rfl,ru⟩:=rv.one;obtain⟨z,ah,n,r,hl,e⟩:=I.rN hH;refine call_meets F.slot_list_append ⟨_,e,rfl⟩ F.entry_list_append (F.args_list_append_2 _ _) (PySem.list_append l ah.toArray n u (by rw[Yv];omega)) ⟨e,?_⟩;refine⟨.ay,_,I.Aa (its':=ah++[u]) hH e (by simp) (r.append (.cons ru .nil)) ?_,rfl,q⟩
 grind
def ZbM:V->List V->Hp->VK->Prop:=λx vs H Q=>∃l b xs zs,x=.ref l/\vs=[.ref b]/\H l=some (.lst xs)/\H b=some (.lst zs)/\xs.length+zs.length<=sizeLine/\Q .ay (upd H l (.lst (xs++zs)))
theorem Zx:m8 X "list.extend" ZbM:=by
 rintro pins s σ H x vs v us Q I rx rv ⟨l,b,xs,zs,rfl,rfl,hH,hB,hz,q⟩;cases rx;obtain⟨u,rfl,ru⟩:=rv.one;cases ru;obtain⟨z,ah,n,r,hl,e⟩:=I.rN hH;obtain⟨z2,ib,n2,r2,uZ,e2⟩:=I.rN hB;have hsz:ah.toArray.size+ib.toArray.size<=sizeLine:=by rw[Yv,Yv];omega
 have Zel:¬(!ah.toArray.isEmpty&&Builtin.List.listTooLong (ah.toArray.size+ib.toArray.size))=true:=by
  rw[Zam hsz,Bool.and_false]
  grind
 refine call_meets F.slot_list_extend ⟨_,e,rfl⟩ F.entry_list_extend (F.args_list_extend_2 _ _)
  (AutoSeq1.list_extend_list_list_0 l ah.toArray n b ib.toArray n2 Zel (by rw[Yv];omega) (by omega)) ⟨e,e2,?_⟩
 refine⟨.ay,_,I.Aa hH e (by simp) (r.append r2) ?_,rfl,q⟩
 grind
def Zc2:V->List V->Hp->VK->Prop:=λx vs H Q=>∃l xs i k y,x=.ref l/\vs=[.int i]/\H l=some (.lst xs)/\-(2^63)<=i/\i<2^63/\seqIndex? i xs.length=some k/\xs[k]?=some y/\Q y (upd H l (.lst (xs.eraseIdx k)))
theorem Zan:m8 X "list.pop" Zc2:=by
 rintro pins s σ H x vs v us Q I rx rv ⟨l,xs,i,k,y,rfl,rfl,hH,h1,h2,hk,hy,q⟩;cases rx;obtain⟨u,rfl,ru⟩:=rv.one;obtain⟨t,rfl⟩:=ru;obtain⟨z,ah,n,r,hl,e⟩:=I.rN hH;obtain⟨w,hw,fU⟩:=r.get hy;refine call_meets F.slot_list_pop ⟨_,e,rfl⟩ F.entry_list_pop (F.args_list_pop_2 _ _)
  (MeetsSeq.list_pop_at l ah.toArray n i t k w (fitsIndex_both h1 h2) (by rw[Yv,←hl];exact hk) (by rw[←Jj];exact hw) (by rw[Yv];omega)) ⟨e,?_⟩
 refine⟨y,_,I.Aa hH e ?_ (r.eraseIdx k) ?_,fU,q⟩;·grind
 ·grind
def Zc3:V->List V->Hp->VK->Prop:=λx vs H Q=>∃l xs,x=.ref l/\vs=[]/\H l=some (.lst xs)/\Q .ay (upd H l (.lst []))
theorem Zao:m8 X "list.clear" Zc3:=by
 rintro pins s σ H x vs v us Q I rx rv ⟨l,xs,rfl,rfl,hH,q⟩;cases rx;have hus:=rv.zero;subst hus;obtain⟨z,ah,n,r,hl,e⟩:=I.rN hH;exact call_meets F.slot_list_clear ⟨_,e,rfl⟩ F.entry_list_clear (F.args_list_clear_1 _) (AutoSeq1.list_clear_list_0 l ah.toArray n (by rw[Yv];omega)) ⟨e,⟨.ay,_,I.Aa hH e rfl .nil (Yw _),rfl,q⟩⟩
def Ze8:R2:=λx y H Q=>∃l b xs zs,x=.ref l/\y=.ref b/\H l=some (.lst xs)/\H b=some (.lst zs)/\xs.length+zs.length<=sizeLine/\∀p,H p=none->Q (.ref p) (upd H p (.lst (xs++zs)))
theorem Zc4:cD X (binaryOp .Add) Ze8:=by
 rintro pins s σ H x y v u Q I rx ry ⟨l,b,xs,zs,rfl,rfl,hH,hB,hz,q⟩;cases rx;cases ry;obtain⟨z,ah,n,r,hl,e⟩:=I.rN hH;obtain⟨z2,ib,n2,r2,uZ,e2⟩:=I.rN hB;refine PySem.P.add_list e e2 ?_ (by rw[Yv,Yv];omega);have ea:ah.toArray++ib.toArray=(ah++ib).toArray:=by simp
 rw[ea];exact⟨.ref _,_,I.Ze7 (r.append r2) (by rw[Yk];omega),rfl,q _ I.fresh⟩
end
section
variable {prog:Program}{w:World}{A:Around}{E:Value->Shared->Prop}{s:Shared}
set_option maxRecDepth 100000 in
end
section
variable {X:Cx}
end
end L2
namespace Sv
open PySem PySem.W PySem.Calls PyProof.Rows
theorem Ve{P:Params}{h:Heap}:∀(ns:List Int) (vs:List Value),WellAll P h vs (ns.map WData.int)->IntsAre vs ns:=by
 intro ns;induction ns with
 |nil=>
  intro vs w;cases w;exact .nil
 |cons n ns ih=>
  intro vs w;cases w with
  |cons a b=>
   cases a;exact .cons _ _ (ih _ b)
theorem Zy{l:OpenLaw}{n:Nat}(hn:l.most=some n){P:Params}{h:Heap}{args:List WData}{vals:List Value}
  (Ab:l.row.toRowW.claim.pre args=true)(xH:WellAll P h vals args):
  ∃a vs ns,vals=[Value.ref a]/\args=[WData.list (ns.map WData.int)]/\h.get? a=some {cls:=.type "list",data:=.seq vs.toArray}/\IntsAre vs ns/\ns.length<=n:=by
 obtain⟨d,r,rfl,h1,h2⟩:=hasAllW_cons ((pre_splitW Ab).1);obtain rfl:=hasAllW_nil h2;obtain⟨xs,rfl,h3⟩:=hasW_list h1;obtain⟨ns,rfl⟩:=items_int h3;have hlen:ns.length<=n:=by
  have h4:(WTm.not (.lt (.lit (.int (n:Int))) (.len (.arg 0)))).holds [] {args:=[.list (ns.map .int)]}=true:=by
   have h4:=(holds_andW ((pre_splitW Ab).2)).1;rw[hn] at h4;exact h4
  have h5:=condW_of h4 (w_not (w_lt w_lit (w_len_list (w_arg rfl))))
  grind
 cases xH with
 |cons w1 w2=>
  cases w2;cases w1 with
  |list ho GC=>exact⟨_,_,ns,rfl,rfl,ho,Ve ns _ GC,hlen⟩
theorem Zz(l:OpenLaw)(args:List WData):l.row.toRowW.claim.post args (.bool true) args=true:=
 postW_of (X:=(true==true))
  (show WShape.has [] (.bool true) .bool=true by first|rfl|decide|simp[WShape.has])
  (show(WTm.eq .res (.lit (.bool true))).value [] {args:=args,res:=some (.bool true),after:=args}=some (.bool (true==true)) from w_eq_bool (w_res rfl) w_lit) rfl
theorem Xg{l:OpenLaw}{n:Nat}{q:Program}{loose:List Str}{XP:(Str->Option Value)->Heap->Prop}{YP:World->Heap->Prop}{d:DefRec}
  (hn:l.most=some n)(xI:d.params.defaults=[])
  (call:∀(w:World) (cR bC:Shared) (mg mb:Str->Option Value) (fa:Addr) (o:Obj) (pm cd doc:Value) (a:Addr) (vs:List Value) (ns:List Int),
   Ground q loose [] XP w cR mg mb bC.heap->YP w bC.heap->
   bC.heap.get? fa=some o->o.data=.func (docDef d.name d.params d.body d.scope pm cd doc)->bC.heap.CodeRec cd d.name->mg d.name=some (.ref fa)->
   bC.heap.get? a=some {cls:=.type "list",data:=.seq vs.toArray}->IntsAre vs ns->ns.length<=n->bC.gens=#[]->
   codeAny (model l.prog w) callerA (.call (.ref fa) ⟨[.ref a],[]⟩) (λr s'=>r=.ok (.ret (.bool true))/\OldK bC.heap s'.heap/\s'.os=bC.os/\AllBare s'.gens) bC):
  WalkO q loose XP YP l.row.toRowW d [] (λf vs=>PySem.call f vs):=by
 intro w cR bC mg mb G Y fa o pm cd doc dV kV ho hd iX hD xJ hg args vals as Ab Zhh hrd xH hlo;obtain rfl:dV=.none:=Dflts.none hD xI;obtain rfl:kV=.none:=Dflts.noKw hD;obtain⟨a,vs,ns,rfl,rfl,GD,hints,hlen⟩:=Zy hn Ab xH;refine enter_call (codeAny_mono (call w cR bC mg mb fa o pm cd doc a vs ns G Y ho (fd_plain hd) iX xJ GD hints hlen hg) λr s' hq=>?_);obtain⟨rfl,h2,h3,h4⟩:=hq;exact⟨.inl ⟨.bool true,.bool true,[],rfl,λ_=>rfl,.bool true,Zz l _,λ_=>⟨List.Pairwise.nil,λ_ hm=>(nomatch hm)⟩⟩,h2,h3,h4⟩
section
variable {prog:Program}{w:World}{A:Around}{E:Value->Shared->Prop}{s:Shared}{K:Frag}
end
end Sv
namespace L2
open PySem PySem.Spec PyProof.Rows
theorem Lo:∀{vs:List Value} {ns:List Int},IntsAre vs ns->Vals (ns.map V.int) vs:=by
 intro vs ns h;induction h with
 |nil=>exact .nil
 |cons n t h ih=>exact .cons ⟨t,rfl⟩ ih
def GF(H:Hp):Prop:=∀b,H b=none\/∃o xs,H b=some (.bG o (.lst xs))
theorem Zap{P:Program}{w:World}{K:PySem.W.Frag}{mg mb:Str->Option Value}{CX:jJ}{k:Nat}{fa a:Addr}{fd:FuncData}{x:Str}{sp:Sp}{bC:Shared}{vs:List Value}{ns:List Int}
  (KX:K.In bC.heap)(Sw:bC.heap.Ns mainGlobals mg)(hb:bC.heap.Ns builtinsNs mb)(hbb:∀x:Str,x≠"__name__"->mb x=bootBuiltins x)(Ze9:bC.heap.NoLimit)(hg:bC.gens=#[])
  (ha:bC.heap.get? a=some {cls:=.type "list",data:=.seq vs.toArray})(hi:IntsAre vs ns)(hl:ns.length<=sizeLine)(hr:cZ k callerA)
  (F:∀base:Heap,K.In base->base.Ns mainGlobals mg->aG P w K mg base CX k fa fd [x] sp)(Zem:∀(s:Shared) (u:Value),BindsTo s fd ⟨[u],[]⟩ [(x,u)])
  (m6:∀H:Hp,GF H->aj K H a (ns.map V.int)->sp [.ref a] H (λv _=>v=.bl true) λ_ _ _=>False)
  (G_:∀H e s',CX [] H bC (λ_ _ _=>False) e s'->False):
  codeAny (model P w) callerA (.call (.ref fa) ⟨[.ref a],[]⟩) (λr s'=>r=.ok (.ret (.bool true))/\OldK bC.heap s'.heap/\s'.os=bC.os/\AllBare s'.gens) bC:=by
 have rv:=Lo hi;have Ze_:=hi.length
 --from an abstract heap in Zg9 nothing but oE O4 may be tracked
 have core:∀H:Hp,GF H->aj K H a (ns.map V.int)->dh P w H bC.heap->(∀b,H b≠none->b=a)->(H a≠none->K.lookup a=none)->
   codeAny (model P w) callerA (.call (.ref fa) ⟨[.ref a],[]⟩) (λr s'=>r=.ok (.ret (.bool true))/\OldK bC.heap s'.heap/\s'.os=bC.os/\AllBare s'.gens) bC:=by
  intro H hO hS av hA hK;have NK:∀{b:Addr} {o:Obj},bC.heap.get? b=some o->H b=none->(oA bC.heap H).get? b=some o:=λe n=>Zae e n;have xE:∀{b:Addr} {o:Obj} {es:Array DictEntry} {ep:Nat},bC.heap.get? b=some o->o.data=.dict es ep->H b=none:=λ{b o es ep} e d=>by
   cases q:H b with
   |none=>rfl
   |some u=>
    have e':b=a:=hA b (by rw[q];simp);subst e';rw[ha] at e;cases e;have d':Data.seq vs.toArray _=Data.dict es ep:=d;cases d'
  have AD:∀{b:Addr} {m:Str->Option Value},bC.heap.Ns b m->(oA bC.heap H).Ns b m:=λ{b m} ⟨o,es,ep,e,d,r⟩=>⟨o,es,ep,NK e (xE e d),d,r⟩;have Sx:K.In (oA bC.heap H):=λb o e=>NK (KX b o e) (by
   cases q:H b with
   |none=>rfl
   |some u=>
    have e':b=a:=hA b (by rw[q];simp);subst e';rw[hK (by rw[q];simp)] at e;cases e)
  have hM:Mod K mg (oA bC.heap H):=⟨Sx,AD Sw,⟨mb,AD hb,hbb⟩,let⟨mc,h1,h2⟩:=Ze9;⟨mc,AD h1,h2⟩⟩;have e0:rM P w K mg (oA bC.heap H) callerA [] bC H:=⟨rfl,hM,λb o e=>Zbz e,G5 (Zo _ _),trivial,λb hb=>absurd (show b∈([]:List Addr) from hb) (by simp),av,.of_eq hg⟩;refine codeAny_mono ((F _ Sx (AD Sw)).run callerA [] bC H ⟨[.ref a],[]⟩ [.ref a] [.ref a] _ _ hr e0 (Zem bC (.ref a)) (.cons rfl .nil) (m6 H hO hS)) λr s' h=>?_;cases r with
  |error e=>exact(G_ H e s' h).elim
  |ok fl=>
   cases fl with
   |next=>exact False.elim h
   |brk=>exact False.elim h
   |cont=>exact False.elim h
   |ret u=>
    obtain⟨v,H',os,bare,un,Zfa,r',q⟩:=h;have q':v=.bl true:=q;subst q';obtain rfl:u=Value.bool true:=r';refine⟨rfl,OldK.of_keep λb o e=>?_,os,bare⟩;cases q:H b with
    |none=>exact un.keep b o e q (by intro z;exact absurd (show b∈([]:List Addr) from z) (by simp)) (by simp)
    |some u=>
     rcases hO b with z|⟨ob,xs,z⟩;·rw[q] at z;cases z
     ·have z2:=un.lN b ob _ z;obtain⟨e1,_⟩:=av b _ z;obtain⟨e2,_⟩:=Zfa b _ z2;rw[e] at e1;cases e1;exact e2
 cases hk:K.lookup a with
 |some o=>
  --oE O4 is one of oE Zg1 own objects
  have e:=KX a o hk;rw[ha] at e;cases e;refine core (λ_=>none) (λ_=>.inl rfl) (.inr ⟨_,vs.toArray,_,hk,rfl,rfl,rfl,by rw[Yv,Ze_];exact hl,by simpa using rv⟩) (λb u z=>by have z':(none:Option HO)=some u:=z;cases z') (λb z=>absurd rfl z) λz=>absurd rfl z
 |none=>
  refine core (λb=>if b=a then some (.bG {cls:=.type "list",data:=.seq vs.toArray} (.lst (ns.map V.int))) else none) (λb=>?_) (.inl (.inr ⟨{cls:=.type "list",data:=.seq vs.toArray},if_pos rfl⟩)) (λb u z=>?_) (λb z=>?_) λ_=>hk
  ·by_cases hb:b=a;·exact .inr ⟨_,_,if_pos hb⟩
   ·exact .inl (if_neg hb)
  ·by_cases hb:b=a
   ·have z':=(if_pos hb).symm.trans z;cases z';subst hb;exact⟨ha,by rw[Ya];exact hl,vs,_,rv,ha⟩
   ·have z':=(if_neg hb).symm.trans z;cases z'
  ·by_cases hb:b=a;·exact hb
   ·exact absurd (if_neg hb) z
theorem ZbN{l:PySem.W.OpenLaw}{n k:Nat}{q:Program}{loose:List Str}{XP:(Str->Option Value)->Heap->Prop}{YP:World->Heap->Prop}{d:DefRec}{K:Params->PySem.W.Frag}{CX:World->jJ}{sp:World->Sp}{x:Str}
  (hn:l.most=some n)(eS:n<=sizeLine)(xI:d.params.defaults=[])(hr:cZ k callerA)
  (hY:∀(w:World) (h:Heap),YP w h->(K w.params).In h)
  (F:∀(w:World) (mg:Str->Option Value) (fa:Addr) (h:Heap),(K w.params).In h->h.Ns mainGlobals mg->mg d.name=some (.ref fa)->
   ∃fd:FuncData,(∀(s:Shared) (u:Value),BindsTo s fd ⟨[u],[]⟩ [(x,u)])/\
    ∀base:Heap,(K w.params).In base->base.Ns mainGlobals mg->aG l.prog w (K w.params) mg base (CX w) k fa fd [x] (sp w))
  (m6:∀(w:World) (H:Hp) (a:Addr) (ns:List Int),ns.length<=n->GF H->aj (K w.params) H a (ns.map V.int)->sp w [.ref a] H (λv _=>v=.bl true) λ_ _ _=>False)
  (G_:∀(w:World) (H:Hp) (s:Shared) (e:Value) (s':Shared),CX w [] H s (λ_ _ _=>False) e s'->False):
  PySem.W.WalkO q loose XP YP l.row.toRowW d [] (λf vs=>PySem.call f vs):=by
 refine Sv.Xg hn xI λw cR bC mg mb fa o pm cd doc a vs ns G Y ho hd iX xJ GD hints hlen hg=>?_;have KX:=hY w _ Y;obtain⟨fd,hb,hF⟩:=F w mg fa _ KX G.T.g xJ;exact Zap KX G.T.g G.T.b G.T.builtins G.T.nolimit hg GD hints (Y4 hlen eS) hr hF hb (λH hO hS=>m6 w H a ns hlen hO hS) λH e s'=>G_ w H bC e s'
def inClass(s:Stmt)(j:Nat):Stmt:=match s with
 |.ClassDef _ _ _ body _ _ _ _ _ _ _=>body.getD j (.Pass ⟨0,0,0,0⟩)
 |_=>.Pass ⟨0,0,0,0⟩
def oa(s:Stmt):Arguments:=match s with
 |.FunctionDef _ a _ _ _ _ _ _ _ _=>a
 |_=>{posonlyargs:=[],args:=[],vararg:=none,kwonlyargs:=[],kw_defaults:=[],kwarg:=none,defaults:=[]}
def kh(s:Stmt):List Stmt:=match s with
 |.FunctionDef _ _ b _ _ _ _ _ _ _=>b
 |_=>[]
def aH(s:Stmt):Scope:=match s with
 |.FunctionDef _ _ _ _ _ _ sc _ _ _=>sc
 |_=>{kind:=.function,names:=[],isGenerator:=false,isCoroutine:=false}
abbrev aM:jJ:=λ_ _ _ _ _ _=>False
abbrev E0:XK:=λ_ _ _=>False
theorem zU{X:Cx}:Passes aM X E0:=λ_ _ _ _ _ _ _ h=>h.elim
structure aJ(K:PySem.W.Frag)(x qual:Str)(st:Stmt)(f:Addr)(fd:FuncData):Prop where
 ex:∃(oc:Value) (od:Option Addr) (kV doc pm:Value) (an:Option Addr) (aB ct:Value) (oK:Array (Option Value)),
  fd=fnOf x qual (oa st) (kh st) (aH st) .none kV doc pm an aB ct/\K.lookup f=some ⟨oc,od,.func fd,oK⟩/\codeIn K aB qual=true
 kp:keepIn K (.ref f)=true
section
variable {P:Program}{w:World}{K:PySem.W.Frag}{mg:Str->Option Value}{base:Heap}
theorem aJ.ok{x qual:Str}{st:Stmt}{f:Addr}{fd:FuncData}{N ps:List Str}{k:Nat}{sp:Sp}(F:aJ K x qual st f fd)(S:aN N ps (aH st))(len:∀vs H Q E,sp vs H Q E->vs.length=ps.length)
  (rq:∀(aB:Value) (A:Around) (outer:List Env) (s:Shared) (H:Hp) (vs:List V) (Q:VK) (E:XK),cZ k (A.deeper (envOfC qual (aH st) s.heap.objs.size f aB))->sp vs H Q E->
   ∃t,fS (lP aM P w K mg base N qual (aH st) f aB A outer s H E).xB (kh st) t/\t {nx:=λ_ H'=>Q .ay H',rt:=Q} (start N vs) H):aG P w K mg base aM (k+1) f fd ps sp:=by
 obtain⟨oc,od,kV,doc,pm,an,aB,ct,oK,rfl,lk,iX⟩:=F.ex;refine QB lk iX S len λA outer s H vs Q E hr m6=>?_;obtain⟨t,h,q⟩:=rq aB A outer s H vs Q E hr m6;exact⟨t,h.xB,q⟩
theorem aJ.binds{x qual:Str}{st:Stmt}{f:Addr}{fd:FuncData}{ps:List Str}(F:aJ K x qual st f fd)
  (h:∀(kV doc pm:Value) (an:Option Addr) (aB ct:Value) (us:List Value),us.length=ps.length->bindArgs (fnOf x qual (oa st) (kh st) (aH st) .none kV doc pm an aB ct) ⟨us,[]⟩=pure (ps.zip us)):Binds K fd ps []:=by
 obtain⟨oc,od,kV,doc,pm,an,aB,ct,oK,rfl,lk,iX⟩:=F.ex;exact .all (h kV doc pm an aB ct)
theorem wM{x qual:Str}{st:Stmt}{f:Addr}{oc:Value}{od an:Option Addr}{oK:Array (Option Value)}{kV doc pm aB ct:Value}(l:K.lookup f=some ⟨oc,od,.func (fnOf x qual (oa st) (kh st) (aH st) .none kV doc pm an aB ct),oK⟩)
  (c:codeIn K aB qual=true)(k:keepIn K (.ref f)=true):aJ K x qual st f (fnOf x qual (oa st) (kh st) (aH st) .none kV doc pm an aB ct):=⟨⟨oc,od,kV,doc,pm,an,aB,ct,oK,rfl,l,c⟩,k⟩
end
theorem bu{A:Around}{k:Nat}(hr:cZ k A):A.units+1<cLine:=W9 (Nat.add_le_add_left (by decide:1<=64) _) hr.units
theorem jy{n:Nat}(h:n<=1000):n<sizeLine:=W9 h (by decide)
section
variable {X:Cx}
theorem pv(i:Nat){x:Str}{pos:Pos}(hN:X.N[i]?=some x:=by rfl)(hv:uR X.env.scope x:=by first|exact Or.inl rfl|exact Or.inr (Or.inl rfl)|exact Or.inr (Or.inr rfl))(hd:(x==("__debug__":Str))=false:=by decide)
  (iX:(x==("__classdict__":Str))=false:=by decide):PE X (.Name x pos) (gq i):=ZcP hN hv hd iX
end
theorem bY{A B:Prop}(h:B):if false=true then A else B:=by
 grind
theorem cS{A B:Prop}(h:A):if true=true then A else B:=by
 grind
theorem bB{c A B:Prop}[Decidable c](h1:c->A)(h2:¬c->B):if c then A else B:=by
 grind
theorem uz{c A B:Prop}[Decidable c](hc:c)(h:B):if(!decide c)=true then A else B:=by
 grind
def ai(H H':Hp):Prop:=∀b o,H b=some o->H' b=some o
theorem ai.refl(H:Hp):ai H H:=λ_ _ h=>h
theorem ai.trans{H H1 H2:Hp}(a:ai H H1)(b:ai H1 H2):ai H H2:=λc o h=>b c o (a c o h)
theorem ai.free{H H':Hp}(e:ai H H'){l:Addr}(h:H' l=Option.none):H l=Option.none:=by
 cases q:H l with
 |none=>rfl
 |some o=>
  rw[e l o q] at h;cases h
theorem ai.seq{K:PySem.W.Frag}{H H':Hp}{a:Addr}{xs:List V}(e:ai H H')(h:aj K H a xs):aj K H' a xs:=by
 rcases h with(h|⟨o,h⟩)|h;·exact .inl (.inl (e _ _ h))
 ·exact .inl (.inr ⟨o,e _ _ h⟩)
 ·exact .inr h
def pL(cells:List (Str×Addr)):List (Str×Addr)->Prop
 |[]=>True
 |p::r=>cells.lookup p.1=some p.2/\pL cells r
theorem pL.look:∀{cl:List (Str×Addr)},pL cells cl->∀(x:Str) (c:Addr),cl.lookup x=some c->cells.lookup x=some c
 |[],_,x,c,h=>by simp at h
 |(n,a)::r,hh,x,c,h=>by
  rw[Wv] at h;cases e:x==n with
  |true=>
   rw[e] at h;rw[(eq_of_beq e),←(Yq h)];exact hh.1
  |false=>
   rw[e] at h;exact pL.look hh.2 x c h
theorem CQ{env:Env}:∀{names:List (Str×NameKind)} {x:Str} {k:NameKind},
  (names.map λ(n,k)=>if(k==NameKind.free&&env.scope.kind==.function&&env.kindOf n==some .cell) then(n,NameKind.cell) else(n,k)).lookup x=some k->
  ∃k0,(x,k0)∈names/\(k=k0\/k0=.free)
 |[],_,_,h=>by simp at h
 |(n,k0)::r,x,k,h=>by
  have h:List.lookup x ((if(k0==NameKind.free&&env.scope.kind==.function&&env.kindOf n==some .cell)=true then(n,NameKind.cell) else(n,k0))::(r.map λ(n,k)=>if(k==NameKind.free&&env.scope.kind==.function&&env.kindOf n==some .cell) then(n,NameKind.cell) else(n,k)))=some k:=h;by_cases hc:(k0==NameKind.free&&env.scope.kind==.function&&env.kindOf n==some .cell)=true
  ·rw[if_pos hc,Wv] at h;cases e:x==n with
   |true=>grind
   |false=>
    rw[e] at h;obtain⟨k1,m,q⟩:=CQ h
    grind
  ·rw[if_neg hc,Wv] at h;cases e:x==n with
   |true=>grind
   |false=>
    rw[e] at h;obtain⟨k1,m,q⟩:=CQ h
    grind
structure Pl(X:Cx)(scope:Scope)(cl:List (Str×Addr))(y:Str)(j:Nat):Prop where
 ix:X.N[j]?=some y
 out:X.env.kindOf y=some .cell\/X.env.kindOf y=some .free
 sr:(relabel scope X.env).names.lookup y=some .cell\/(relabel scope X.env).names.lookup y=some .free
 cl:(cl.lookup y).isSome=true
def pM(X:Cx)(scope:Scope)(cl:List (Str×Addr)):List (Str×Nat)->Prop
 |[]=>True
 |p::r=>Pl X scope cl p.1 p.2/\pM X scope cl r
theorem pM.get:∀{fr:List (Str×Nat)} {k:Nat} {p:Str×Nat},pM X scope cl fr->fr[k]?=some p->Pl X scope cl p.1 p.2
 |[],k,p,_,h=>by simp at h
 |q::r,0,p,hh,h=>by
  have e:q=p:=by simpa using h
  rw[←e];exact hh.1
 |q::r,k+1,p,hh,h=>pM.get hh.2 (by simpa using h)
structure we(X:Cx)(scope:Scope)(cl:List (Str×Addr))(x:Str)(fr:List (Str×Nat)):Prop where
 uI:closureFor scope X.env=pure cl
 sub:pL X.env.cells cl
 kind:scope.kind=.function
 names:∀y∈scope.names,y.2=.local->scope.names.lookup y.1=some .local
 lx:scope.names.lookup x=some .local
 zV:∀y∈scope.names,y.2≠.cell
 has:(scope.names.all λy=>!(y.2==.free)||(cl.lookup y.1).isSome)=true
 fI:pM X scope cl fr
 nd:(x::fr.map (·.1)).Nodup
def gh(σ:St)(fr:List (Str×Nat)):St:=fr.map λp=>(σ[p.2]?).join
structure pC(X:Cx)(scope:Scope)(cl:List (Str×Addr))(xs:List Str)(fr:List (Str×Nat)):Prop where
 uI:closureFor scope X.env=pure cl
 sub:pL X.env.cells cl
 kind:scope.kind=.function
 names:∀y∈scope.names,y.2=.local->scope.names.lookup y.1=some .local
 zV:∀y∈scope.names,y.2≠.cell
 has:(scope.names.all λy=>!(y.2==.free)||(cl.lookup y.1).isSome)=true
 fI:pM X scope cl fr
 nd:(xs++fr.map (·.1)).Nodup
def cM(X:Cx)(xs:List Str)(fr:List (Str×Nat))(scope:Scope)(cl:List (Str×Addr))(C:Addr)(s:Shared)(H:Hp)(fp:List Addr):Cx where
 prog:=X.prog
 w:=X.w
 K:=X.K
 mg:=X.mg
 base:=X.base
 A:=X.A
 N:=xs++fr.map (·.1)
 cR:=s
 jj:=H
 env:=compEnvC scope cl C X.env
 outer:=X.stack
 stack:=X.stack
 ex:=fp
 fn:=λ_=>false
 calm:=X.calm
 pn:=[]
 xe:=λ_ _=>False
section
variable {X:Cx}{scope:Scope}{cl:List (Str×Addr)}{xs:List Str}{fr:List (Str×Nat)}{pins:List (Addr×Obj)}{σ:St}{H:Hp}{s:Shared}
theorem ZA(S:pC X scope cl xs fr)(I:Inv X pins σ H s)(hC:C=s.heap.objs.size)(hf:∀b∈fp,ia X pins H b)(bH:∀b∈fp,b<s.heap.objs.size)
  (old:∀b o,s.heap.get? b=some o->gu.get? b=some o)(hn:gu.Ns C m):Inv (cM X xs fr scope cl C s H fp) [] (List.replicate xs.length none++gh σ fr) H {s with heap:=gu,toks:=tk}:=by
 have look:=S.sub.look;refine⟨⟨I.ok.mod,S.kind,I.ok.glob,I.ok.blt,by show s.heap.objs.size<=C;rw[hC];exact Yd _,λy z c h1 h2=>I.ok.inj y z c (look y c h1) (look z c h2),λy hy=>?_,λy c h=>?_,I.ok.hd,I.ok.frames,.inl rfl,λb hb=>⟨?_,λy c h=>?_⟩,
   I.bs,Y4 I.ok.oF I.sz,λb o e hb=>?_,λb hb hb2=>?_,I.stack,I.Nx⟩,
  rfl,I.bare,Un.kept old,⟨m,hn,λi y v h1 h2 h3=>?_⟩,λy c h=>?_,?_,λy c h=>I.kr y c (look y c h),λp hp=>absurd (show p∈([]:List (Addr×Obj)) from hp) (by simp),I.av.kept old,?_⟩
 ·have hy:(relabel scope X.env).names.lookup y=some .cell\/(relabel scope X.env).names.lookup y=some .free:=hy;have fin:∀{k:NameKind},(relabel scope X.env).names.lookup y=some k->(k=.cell\/k=.free)->∃c,cl.lookup y=some c:=λ{k} e hk=>by
   obtain⟨k0,hm,q⟩:=CQ (env:=X.env) e;have hk0:k0=.free:=by
    rcases q with q|q
    ·rcases hk with z|z;·exact absurd (q.symm.trans z) (S.zV _ hm)
     ·exact q.symm.trans z
    ·exact q
   have hq:=Wr.mp S.has _ hm;rw[hk0] at hq;exact Jc.mp (by simpa using hq)
  rcases hy with e|e;·exact fin e (.inl rfl)
  ·exact fin e (.inr rfl)
 ·exact absurd (show false=true from h) Yj
 ·show b≠C;exact λz=>absurd (bH b hb) (by rw[show b=C from z,hC];exact Wg _)
 ·exact(hf b hb).2.2.2.2.1 y c (look y c h)
 ·obtain⟨_,_,_,z,_⟩:=hf b hb;rcases z with z|z;·exact I.ok.xg b o e z
  ·have h1:=Yx e;have h2:=I.ok.oF;exact absurd (Y1 h1 (Y4 h2 z)) (Wg _)
 ·have z:=I.Fz b hb2;rcases Yp.mp z with z|z;·exact(hf b hb).2.1 z
  ·exact(hf b hb).2.2.1 z
 ·by_cases hi:i<xs.length;·grind
  ·have h1:(xs++fr.map (·.1))[i]?=some y:=h1;rw[Jq (Nat.le_of_not_lt hi)] at h1;rw[Jq (by rw[W4];exact Nat.le_of_not_lt hi),W4] at h2;generalize i-xs.length=k at h1 h2;have h2:(fr.map λp=>(σ[p.2]?).join)[k]?=some (some v):=h2;rw[Yg] at h1 h2;cases e:fr[k]? with
   |none=>rw[e] at h1;cases h1
   |some p=>
    rw[e] at h1 h2;have e1:p.1=y:=Yq h1;have e2:(σ[p.2]?).join=some v:=Yq h2;have F:=S.fI.get e;rw[e1] at F;have e3:σ[p.2]?=some (some v):=by
     cases q:σ[p.2]? with
     |none=>rw[q] at e2;cases e2
     |some o=>grind
    obtain⟨m0,_,hl⟩:=I.loc;have G4:uR X.env.scope y:=by
     rcases F.out with z|z;·exact .inr (.inl z)
     ·exact .inr (.inr z)
    obtain⟨u,r,l⟩:=hl p.2 y v F.ix e3 G4;refine⟨u,r,.inr ⟨F.sr,?_⟩⟩;obtain⟨c,hc⟩:=Jc.mp F.cl;refine⟨c,hc,?_⟩;rcases l with⟨k1,_⟩|⟨_,c',e',z⟩
    ·rcases F.out with q|q;·rw[q] at k1;cases k1
     ·rw[q] at k1;cases k1
    ·have e4:=look y c hc;rw[e'] at e4;cases e4;obtain⟨o,ho,hd⟩:=z;exact⟨o,old _ _ ho,hd⟩
 ·obtain⟨v,o,ho,hd⟩:=I.cell y c (look y c h);exact⟨v,o,old _ _ ho,hd⟩
 ·show H C=none;rw[hC];exact I.av.fresh (Yd _)
 ·show(List.replicate xs.length none++gh σ fr).length=(xs++fr.map (·.1)).length;simp[gh]
end
abbrev uv(X:Cx)(x:Str)(fr:List (Str×Nat))(scope:Scope)(cl:List (Str×Addr))(C:Addr)(s:Shared)(H:Hp)(fp:List Addr):Cx:=cM X [x] fr scope cl C s H fp
section
variable {prog:Program}{w:World}{A:Around}{R:Result->Shared->Prop}{s:Shared}
theorem UQ(I:Nat->Shared->Prop)
  (turn:∀n s,I n s->wpAny (model prog w) A (pyNext it) (λr bC=>match r with
   |none=>R (.ok .next) bC
   |some v=>wpAny (model prog w) A (letOwnedTupleGo target it v) (λ_ cR=>wpAny (model prog w) A (assign target env v) (λ_ dW=>
     wpAny (model prog w) A (forIn ifs true λc r=>if r=true then do let ok←isTrue c env (eval c env);pure (ForInStep.yield ok) else pure (ForInStep.yield r)) (λok dO=>
      if ok=true then wpAny (model prog w) A (eval elt env) (λx ic=>
       wpAny (model prog w) A (call (.builtin "list.append") [acc,x]) (λ_ lQ=>∃m,m<n/\I m lQ) (notedBy (model prog w) A env λe s'=>R (.error e) s') ic) (notedBy (model prog w) A env λe s'=>R (.error e) s') dO
      else ∃m,m<n/\I m dO) (notedBy (model prog w) A env λe s'=>R (.error e) s') dW) (notedBy (model prog w) A env λe s'=>R (.error e) s') cR) (notedBy (model prog w) A env λe s'=>R (.error e) s') bC) (notedBy (model prog w) A env λe s'=>R (.error e) s') s)
  (n:Nat)(h:I n s):codeAny (model prog w) A (.compLoop (.ListComp elt [⟨target,iter,ifs,0⟩] scope pos) 0 it acc env) R s:=by
 refine codeAny_loop rfl I (λn s hI=>wpAny_noted (wpAny_bind (wpAny_standAt (wpAny_bind (wpAny_mono (turn n s hI) (λr bC gu=>?_) λ_ _ h'=>h'))))) n h;cases r with
 |none=>exact wpAny_pure gu
 |some v=>
  refine wpAny_bind (wpAny_mono gu (λ_ cR h₀=>wpAny_bind (wpAny_mono h₀ (λ_ dW oC=>wpAny_bind (wpAny_mono oC (λok dO uJ=>?_) λ_ _ h'=>h')) λ_ _ h'=>h')) λ_ _ h'=>h');cases ok with
  |false=>exact wpAny_pure ⟨rfl,uJ⟩
  |true=>
   exact wpAny_bind (wpAny_bind (wpAny_mono uJ (λx ic xl=>wpAny_bind (wpAny_mono xl (λ_ lQ xn=>wpAny_pure (wpAny_pure ⟨rfl,xn⟩)) λ_ _ h'=>h')) λ_ _ h'=>h'))
end
def su(X:Cx)(ifs:List Expr)(t:TT):Prop:=
 ∀(pins:List (Addr×Obj)) (s:Shared) (σ:St) (H:Hp) (Q:Bool->Hp->Prop),Inv X pins σ H s->t σ H Q->
  wpAny (model X.prog X.w) X.A (forIn ifs true λc r=>if r=true then do let ok←isTrue c X.env (eval c X.env);pure (ForInStep.yield ok) else pure (ForInStep.yield r)) (TP X pins σ Q) X.xe s
def Ac:TT:=λ_ H Q=>Q true H
theorem lq:su X [] Ac:=λ_ _ _ H _ I h=>wpAny_tests_nil ⟨H,I,h⟩
theorem uj(h:PT X c t):su X [c] t:=λpins s σ H Q I hw=>wpAny_tests_one (h pins s σ H Q I hw)
def FG(n:Nat)(J:It)(tg:TG)(tt:TT)(te:TE)(fv:St)(D:Addr)(H:Hp)(Q:VK):Prop:=
 ∃W:Nat->Nat->List V->Hp->Prop,(∃m,W 0 m [] (upd H D (.lst [])))/\∀i m ys H,W i m ys H->
  (J.stop i H/\Q (.ref D) H)\/(J.go i H/\∃N:List V->Hp->Prop,(∀gv H',N gv H'->∃m',m'<m/\W (i+1) m' gv H')/\
   ∀v H',J.qg i H v H'->∀os:St,os.length=n->tg v (os++fv) H' λc6 H2=>(∃jL:St,jL.length=n/\c6=jL++fv)/\tt c6 H2 λc H1=>if c=true then te c6 H1 λy H3=>H3 D=some (.lst ys)/\ys.length<sizeLine/\N (ys++[y]) (upd H3 D (.lst (ys++[y]))) else N ys H1)
section
variable {X:Cx}{elt iter tgt:Expr}{xs:List Str}{pos:Pos}{ifs:List Expr}{scope:Scope}{cl:List (Str×Addr)}{fr:List (Str×Nat)}{tg:TG}{tt:TT}{te:TE}{pins:List (Addr×Obj)}{σ:St}
theorem Mj{H2:Hp}{s2:Shared}{it:Addr}{fp:List Addr}{tn:Nat->Heap->Prop}{J:It}{Q:VK}{RR:Value->Addr->Result->Shared->Prop}{E:Value->Shared->Prop}{rest:List Comprehension}(S:pC X scope cl xs fr)
  (I2:Inv X pins σ H2 s2)(T:Turn X.prog X.w X.K tgt J fp it tn)(dQ:tn 0 s2.heap)(f2:∀b∈fp,ia X pins H2 b)
  (hR:∀D C s1 H1 m,Inv X pins σ H1 s1->s1.heap.Ns C m->H1 C=none->C≠X.env.locals->X.cR.heap.objs.size<=C->(∀y c,X.env.cells.lookup y=some c->c≠C)->(∀p∈X.pn++pins,p.1≠C)->Q (.ref D) H1->RR (.ref D) C (.ok .next) s1)
  (hl:∀(D C:Addr) (s:Shared) (H3:Hp) (dO:Shared),H2 D=none->H3=upd H2 D (.lst [])->Inv (cM X xs fr scope cl C s H3 fp) [] (List.replicate xs.length none++gh σ fr) H3 dO->tn 0 dO.heap->(∀b∈fp,H3 b=none)->
   (∀s6 AA H5,Inv (cM X xs fr scope cl C s H3 fp) [] AA H5 s6->Q (.ref D) H5->RR (.ref D) C (.ok .next) s6)->
   codeAny (model X.prog X.w) X.A (.compLoop (.ListComp elt (⟨tgt,iter,ifs,0⟩::rest) scope pos) 0 (.ref it) (.ref D) (compEnvC scope cl C X.env)) (RR (.ref D) C) dO):
  wpAny (model X.prog X.w) X.A (newList []) (λacc dO=>wpAny (model X.prog X.w) X.A (newFunctionEnv scope X.env.globals cl [] X.env.qual none .none (some X.env)) (λlR ic=>
   codeAny (model X.prog X.w) X.A (.compStart (.ListComp elt (⟨tgt,iter,ifs,0⟩::rest) scope pos) 0 (.ref it) acc {lR with scope:=relabel scope X.env}) (RR acc lR.locals) ic) E dO) E s2:=by
 refine wpAny_newObj_type (wpAny_newFunctionEnv S.zV (by intro y hy;simp at hy) (λgu FH FI=>?_) S.kind);dsimp only at FH FI⊢;have I3:Inv X pins σ (upd H2 s2.heap.objs.size (.lst [])) {s2 with heap:=s2.heap.push {cls:=.type "list",dict:=none,data:=.seq ([]:List Value).toArray}}:=
  I2.laid (t':=s2.toks) (λb u e=>Yc _ e) (Yd _) ⟨Yw _,[],0,.nil,Yo _ rfl⟩
 have hDn:H2 s2.heap.objs.size=none:=I2.av.fresh (Yd _);have Ro:∀b∈fp,b<s2.heap.objs.size:=λb hb=>by
  obtain⟨o,e,_⟩:=T.obj _ _ dQ b hb;exact Yx e
 generalize Sy:s2.heap.push {cls:=.type "list",dict:=none,data:=.seq ([]:List Value).toArray}=G2 at FH FI I3⊢;have hC:G2.objs.size=s2.heap.objs.size+1:=by rw[←Sy,Jh]
 have old:∀b o,G2.get? b=some o->gu.get? b=some o:=λb o e=>FI.extBut b o (Y2 (Yx e)) (Yc _ e);have f3:∀b∈fp,ia X pins (upd H2 s2.heap.objs.size (.lst [])) b:=λb hb=>by
  have:=Ro b hb;exact⟨by rw[aQ (Y2 this)];exact(f2 b hb).1,(f2 b hb).2⟩
 have lt3:∀b∈fp,b<G2.objs.size:=λb hb=>by
  rw[hC];exact W6 (Ro b hb)
 have u3:tn 0 gu:=T.keep _ _ _ dQ λb hb o e=>old b o ((λb o e=>Sy▸Yc _ e) b o e);have I4:Inv (cM X xs fr scope cl G2.objs.size {s2 with heap:=G2} (upd H2 s2.heap.objs.size (.lst [])) fp) [] (List.replicate xs.length none++gh σ fr) (upd H2 s2.heap.objs.size (.lst [])) {s2 with heap:=gu,toks:=s2.toks+([]:List (Str×Value)).length}:=
  ZA (tk:=s2.toks+([]:List (Str×Value)).length) S I3 rfl f3 lt3 old FH
 have loop:=hl s2.heap.objs.size G2.objs.size {s2 with heap:=G2} _ {s2 with heap:=gu,toks:=s2.toks+([]:List (Str×Value)).length} hDn rfl I4 u3 (λb hb=>(f3 b hb).1) λs6 AA H5 I6 qn=>by
   obtain⟨m,hnC,_⟩:=I6.loc;have I7:Inv X pins σ H5 s6:=I3.Zea (ch:=fp) I6.os I6.base I6.av I6.bare λb hb=>⟨(f2 b hb).2.2.2.1,(f2 b hb).2.1,(f2 b hb).2.2.2.2.1,(f2 b hb).2.2.2.2.2⟩;refine hR _ _ s6 H5 m I7 hnC I6.free ?_ ?_ (λy c e z=>?_) (λp hp z=>?_) qn;·exact Az I3.lt
   ·exact I3.sz
   ·obtain⟨v,q⟩:=I3.cell y c e;exact absurd q.lt (by rw[z];exact Wg _)
   ·exact absurd (Yx (I3.pin p hp).1) (by rw[z];exact Wg _)
 exact codeAny_compStart_list loop (T.self _ 0 _ _ _ u3 loop)
theorem KG{H2:Hp}{s2:Shared}{it:Addr}{fp:List Addr}{tn:Nat->Heap->Prop}{J:It}{Q:VK}{RR:Value->Addr->Result->Shared->Prop}{E:Value->Shared->Prop}
  (hc:X.calm=true)(S:pC X scope cl xs fr)(hg:∀C s H fp,PG (cM X xs fr scope cl C s H fp) tgt tg)
  (ht:∀C s H fp,su (cM X xs fr scope cl C s H fp) ifs tt)(he:∀C s H fp,PE (cM X xs fr scope cl C s H fp) elt te)
  (I2:Inv X pins σ H2 s2)(T:Turn X.prog X.w X.K tgt J fp it tn)(dQ:tn 0 s2.heap)(f2:∀b∈fp,ia X pins H2 b)
  (hw:∀D,H2 D=none->FG xs.length J tg tt te (gh σ fr) D H2 Q)
  (hR:∀D C s1 H1 m,Inv X pins σ H1 s1->s1.heap.Ns C m->H1 C=none->C≠X.env.locals->X.cR.heap.objs.size<=C->(∀y c,X.env.cells.lookup y=some c->c≠C)->(∀p∈X.pn++pins,p.1≠C)->Q (.ref D) H1->RR (.ref D) C (.ok .next) s1):
  wpAny (model X.prog X.w) X.A (newList []) (λacc dO=>wpAny (model X.prog X.w) X.A (newFunctionEnv scope X.env.globals cl [] X.env.qual none .none (some X.env)) (λlR ic=>
   codeAny (model X.prog X.w) X.A (.compStart (.ListComp elt [⟨tgt,iter,ifs,0⟩] scope pos) 0 (.ref it) acc {lR with scope:=relabel scope X.env}) (RR acc lR.locals) ic) E dO) E s2:=by
 refine Mj (rest:=[]) S I2 T dQ f2 hR λD C s H3 dO hD e3 I4 u3 uX fin=>?_;obtain⟨W,⟨m0,w0⟩,turn⟩:=hw D hD;rw[←e3] at w0;refine UQ (λk s'=>∃i ys H' os,os.length=xs.length/\Inv (cM X xs fr scope cl C s H3 fp) [] (os++gh σ fr) H' s'/\tn i s'.heap/\(∀b∈fp,H' b=none)/\W i k ys H') ?_ m0
  ⟨0,[],_,List.replicate xs.length none,W4,I4,u3,uX,w0⟩
 rintro n s5 ⟨i,ys,H5,os,oM,I5,oI,r_,w5⟩;have lO:∀{H':Hp},(∀b∈fp,H' b=none)->∀b∈fp,ia (cM X xs fr scope cl C s H3 fp) [] H' b:=λ{H'} hn b hb=>
  ⟨hn b hb,(I5.ok.uS b hb).1,I5.ok.uF b hb,.inl hb,(I5.ok.uS b hb).2,λp hp=>absurd (show p∈([]:List (Addr×Obj)) from hp) (by simp)⟩
 rcases turn i n ys H5 w5 with⟨stop,qn⟩|⟨go,N,hN,step⟩
 ·refine az (T.done (cM X xs fr scope cl C s H3 fp) rfl rfl rfl hc i [] s5 _ H5 _ I5 (lO r_) oI stop) λr s6 zq=>?_;obtain⟨hr,I6⟩:=zq;subst hr;exact fin _ _ _ I6 qn
 ·refine az (T.item (cM X xs fr scope cl C s H3 fp) rfl rfl rfl hc i [] s5 _ H5 _ I5 (lO r_) oI go) λr s6 zq=>?_;obtain⟨u,hr,h6⟩:=zq;subst hr;refine az h6 λ_ s7 zq=>?_;obtain⟨v,H7,I7,r7,y7,sv,Hd⟩:=zq;have Hf:=I7.pinned (lO Hd) (T.obj _ _ sv);refine wpAny_mono (hg _ _ _ _ _ s7 _ H7 v u _ Hf r7 (step v H7 y7 os oM)) (λ_ s8 zq=>?_) λ_ _ z=>False.elim z;obtain⟨σ8,H8,I8,⟨jL,GG,e8⟩,q8⟩:=zq;subst e8;have again:∀{oN:St} {H9:Hp} {s9:Shared} {oO:List V},oN.length=xs.length->Inv (cM X xs fr scope cl C s H3 fp) ([]++pQ fp s7.heap) (oN++gh σ fr) H9 s9->N oO H9->
    ∃m,m<n/\∃i ys H' os,os.length=xs.length/\Inv (cM X xs fr scope cl C s H3 fp) [] (os++gh σ fr) H' s9/\tn i s9.heap/\(∀b∈fp,H' b=none)/\W i m ys H':=λ{oN H9 s9 oO} l1 I9 n9=>by
   obtain⟨m',hm,w9⟩:=hN oO H9 n9;refine⟨m',hm,i+1,oO,H9,oN,l1,I9.ue,T.keep _ _ _ sv λb hb o e=>(I9.pin (b,o) (Yr _ (Yr _ (pB hb e)))).1,λb hb=>?_,w9⟩;obtain⟨o,e,d⟩:=T.obj _ _ sv b hb;exact(I9.pin (b,o) (Yr _ (Yr _ (pB hb e)))).2.1
  refine wpAny_mono (ht _ _ _ _ _ s8 _ H8 _ I8 q8) (λok s9 zq=>?_) λ_ _ z=>False.elim z;obtain⟨H9,I9,q9⟩:=zq;cases ok with
  |false=>
   rw[if_neg Yj] at q9⊢;exact again GG I9 q9
  |true=>
   rw[if_pos rfl];rw[if_pos rfl] at q9;refine wpAny_mono (he _ _ _ _ _ s9 _ H9 _ I9 q9) (λu1 Hg zq=>?_) λ_ _ z=>False.elim z;obtain⟨y,oP,Hh,r10,hD,hz,oQ⟩:=zq;refine wpAny_mono (wc (X:=cM X xs fr scope cl C s H3 fp) _ Hg _ oP (.ref D) [y] _ [u1] (λ_ H'=>N (ys++[y]) H') Hh rfl (.cons r10 .nil) ⟨_,ys,y,rfl,rfl,hD,hz,oQ⟩) (λ_ Hi zq=>?_) λ_ _ z=>False.elim z;obtain⟨_,xK,AE,_,q11⟩:=zq;exact again GG AE q11
end
def iP(J:It)(tt:TT)(te:TE)(fv:St)(D:Addr)(H:Hp)(Q:VK):Prop:=
 ∃W:Nat->Nat->List V->Hp->Prop,(∃m,W 0 m [] (upd H D (.lst [])))/\∀i m ys H,W i m ys H->
  (J.stop i H/\Q (.ref D) H)\/(J.go i H/\∃N:List V->Hp->Prop,(∀gv H',N gv H'->∃m',m'<m/\W (i+1) m' gv H')/\
   ∀v H',J.qg i H v H'->tt (some v::fv) H' λc H1=>if c=true then te (some v::fv) H1 λy H3=>H3 D=some (.lst ys)/\ys.length<sizeLine/\N (ys++[y]) (upd H3 D (.lst (ys++[y]))) else N ys H1)
section
variable {X:Cx}{elt iter:Expr}{x:Str}{px pos:Pos}{ifs:List Expr}{scope:Scope}{cl:List (Str×Addr)}{fr:List (Str×Nat)}{tt:TT}{te:TE}{pins:List (Addr×Obj)}{σ:St}
theorem Lp{H2:Hp}{s2:Shared}{it:Addr}{fp:List Addr}{tn:Nat->Heap->Prop}{J:It}{Q:VK}{RR:Value->Addr->Result->Shared->Prop}{E:Value->Shared->Prop}
  (hc:X.calm=true)(S:we X scope cl x fr)
  (ht:∀C s H fp,su (uv X x fr scope cl C s H fp) ifs tt)(he:∀C s H fp,PE (uv X x fr scope cl C s H fp) elt te)
  (I2:Inv X pins σ H2 s2)(T:Turn X.prog X.w X.K (.Name x px) J fp it tn)(dQ:tn 0 s2.heap)(f2:∀b∈fp,ia X pins H2 b)
  (hw:∀D,H2 D=none->iP J tt te (gh σ fr) D H2 Q)
  (hR:∀D C s1 H1 m,Inv X pins σ H1 s1->s1.heap.Ns C m->H1 C=none->C≠X.env.locals->X.cR.heap.objs.size<=C->(∀y c,X.env.cells.lookup y=some c->c≠C)->(∀p∈X.pn++pins,p.1≠C)->Q (.ref D) H1->RR (.ref D) C (.ok .next) s1):
  wpAny (model X.prog X.w) X.A (newList []) (λacc dO=>wpAny (model X.prog X.w) X.A (newFunctionEnv scope X.env.globals cl [] X.env.qual none .none (some X.env)) (λlR ic=>
   codeAny (model X.prog X.w) X.A (.compStart (.ListComp elt [⟨.Name x px,iter,ifs,0⟩] scope pos) 0 (.ref it) acc {lR with scope:=relabel scope X.env}) (RR acc lR.locals) ic) E dO) E s2:=by
 refine KG (xs:=[x]) hc ⟨S.uI,S.sub,S.kind,S.names,S.zV,S.has,S.fI,S.nd⟩ (λC s H fp=>pK (i:=0) S.nd rfl (.inl (lookup_relabel_local S.lx)) (.inr (lookup_relabel_local S.lx))) ht he I2 T dQ f2 (λD hD=>?_) hR;obtain⟨W,h0,h⟩:=hw D hD;refine⟨W,h0,λi m ys H p=>?_⟩;rcases h i m ys H p with z|⟨z,N,hN,q⟩;·exact .inl z
 ·refine .inr ⟨z,N,hN,λv H' y os hl=>?_⟩;match os,hl with
  |[o],_=>exact⟨⟨[some v],rfl,rfl⟩,q v H' y⟩
def QD(wi:TI)(fr:List (Str×Nat))(tt:TT)(te:TE):TE:=λσ H Q=>wi σ H λJ H1=>∀D,H1 D=none->iP J tt te (gh σ fr) D H1 Q
theorem iM(hc:X.calm=true)(S:we X scope cl x fr)(hi:PI X (.Name x px) iter wi)
  (ht:∀C s H fp,su (uv X x fr scope cl C s H fp) ifs tt)(he:∀C s H fp,PE (uv X x fr scope cl C s H fp) elt te)
  (hs:∀x,foldedSetIterable iter X.env x=pure x:=by intro _;rfl):PE X (.ListComp elt [⟨.Name x px,iter,ifs,0⟩] scope pos) (QD wi fr tt te):=by
 intro pins s σ H Q I h;refine wpAny_comprehension_free rfl hs S.uI S.kind S.names (az (hi pins s σ H _ I h) λv s1 h1=>az h1 λr9 s2 h2=>?_);obtain⟨it,fp,tn,J,H2,e,I2,T,dQ,f2,hw⟩:=h2;subst e;refine Lp (RR:=λacc C=>compPost (model X.prog X.w) X.A X.xe none (EP X pins σ Q) acc C) hc S ht he I2 T dQ f2 hw ?_;intro D C s1 H1 m I1 hn f0 f1 f3 f4 f5 q;exact⟨m,hn,λh' lV=>⟨.ref D,H1,I1.turned (λb o hb e=>lV.extBut b o hb e) f0 f1 (.inr f3) f4 f5,rfl,q⟩⟩
theorem X5(hc:X.calm=true)(hN:X.N.Nodup)(hiy:X.N[i]?=some y)(hy:Loc X.env.scope y)(S:we X scope cl x fr)(hi:PI X (.Name x px) iter wi)
  (ht:∀C s H fp,su (uv X x fr scope cl C s H fp) ifs tt)(he:∀C s H fp,PE (uv X x fr scope cl C s H fp) elt te)
  (hsw:swapsWith (.ListComp elt [⟨.Name x px,iter,ifs,0⟩] scope pos) (some (.Name y py)) Zfb.line X.env=pure true:=by with_unfolding_all rfl)
  (hf:X.fn y=true\/X.env.scope.names.lookup y=some .local:=by first|exact .inl rfl|exact .inr rfl|assumption)
  (hs:∀x,foldedSetIterable iter X.env x=pure x:=by intro _;rfl):PS X (.Assign [.Name y py] (.ListComp elt [⟨.Name x px,iter,ifs,0⟩] scope pos) Zfb) (rJ (QD wi fr tt te) (ou i)):=by
 intro pins s σ H D I h;rw[exec_Assign_Name_used _ _ _ _ hsw];refine wpAny_bind (wpAny_standAt (wpAny_bind ?_));show wpAny _ X.A (do let _←comprehension (.ListComp elt [⟨.Name x px,iter,ifs,0⟩] scope pos) scope X.env _ (newList []) false (eval iter X.env) (some (assign (.Name y py) X.env))) _ _ s;refine wpAny_bind (wpAny_mono (wpAny_comprehension_free (use:=some (assign (.Name y py) X.env)) (Q:=λ_ s'=>SP X pins D .next s') rfl hs S.uI S.kind S.names
  (az (hi pins s σ H _ I h) λv s1 h1=>az h1 λr9 s2 h2=>?_)) (λ_ s' hq=>wpAny_pure (wpAny_pure hq)) λ_ _ e=>e)
 obtain⟨it,fp,tn,J,H2,e,I2,T,dQ,f2,hw⟩:=h2;subst e;refine Lp (Q:=λv H1=>ou i v σ H1 D.nx) (RR:=λacc C=>compPost (model X.prog X.w) X.A X.xe (some (assign (.Name y py) X.env)) (λ_ s'=>SP X pins D .next s') acc C) hc S ht he I2 T dQ f2 hw ?_;intro Dl C s1 H1 m I1 hn f0 f1 f3 f4 f5 q;show wpAny _ X.A (assign (.Name y py) X.env (.ref Dl)) _ _ s1;refine wpAny_assign_Name (Li I1 hN hiy hy (v:=.ref Dl) rfl (λs3 I3 z=>?_) hf);obtain⟨a,sb,ha⟩:=z;have hCa:C≠a:=by
  rcases ha with z|z;·rw[z];exact f1
  ·exact λq=>f4 _ _ z q.symm
 refine⟨m,hn.sameBut sb hCa,λh' lV=>?_⟩;exact⟨_,H1,I3.turned (t':=s3.toks) (λb o hb e=>lV.extBut b o hb e) f0 f1 (.inr f3) f4 f5,q⟩
end
theorem Ef{K:PySem.W.Frag}{a:Addr}{xs:List V}{tt:TT}{te:TE}{fv:St}{D:Addr}{H:Hp}{Q:VK}(Pv:Nat->List V->Hp->Prop)(h0:Pv 0 [] (upd H D (.lst [])))(hl:∀i ys H,i<=xs.length->Pv i ys H->aj K H a xs)
  (hs:∀i v ys H,xs[i]?=some v->Pv i ys H->tt (some v::fv) H λc H1=>if c=true then te (some v::fv) H1 λy H3=>H3 D=some (.lst ys)/\ys.length<sizeLine/\Pv (i+1) (ys++[y]) (upd H3 D (.lst (ys++[y]))) else Pv (i+1) ys H1)
  (hd:∀ys H,Pv xs.length ys H->Q (.ref D) H):iP (jq K a) tt te fv D H Q:=by
 refine⟨λi m ys H=>m=xs.length-i/\i<=xs.length/\Pv i ys H,⟨xs.length,by simp,Yw _,h0⟩,?_⟩;rintro i m ys H ⟨rfl,hi,p⟩;have q:=hl i ys H hi p;by_cases bH:i<xs.length
 ·refine .inr ⟨⟨xs,xs[i],q,by simp[bH]⟩,Pv (i+1),λgv H' p'=>⟨xs.length-(i+1),by omega,rfl,bH,p'⟩,λx H' y=>?_⟩;obtain⟨e,y⟩:=y
  grind
 ·have e:i=xs.length:=by omega
  subst e;exact .inl ⟨⟨xs,q,Yd _⟩,hd ys H p⟩
theorem y_{K:PySem.W.Frag}{a:Addr}{xs:List V}{tt:TT}{te:TE}{fv:St}{D:Addr}{H:Hp}{Q:VK}(Pv:Nat->List V->Hp->Prop)(h0:Pv 0 [] (upd H D (.lst [])))(hl:∀i ys H,i<=xs.length->Pv i ys H->aA K H a xs)
  (hs:∀i v ys H,xs[i]?=some v->Pv i ys H->tt (some v::fv) H λc H1=>if c=true then te (some v::fv) H1 λy H3=>H3 D=some (.lst ys)/\ys.length<sizeLine/\Pv (i+1) (ys++[y]) (upd H3 D (.lst (ys++[y]))) else Pv (i+1) ys H1)
  (hd:∀ys H,Pv xs.length ys H->Q (.ref D) H):iP (uW K a) tt te fv D H Q:=by
 refine⟨λi m ys H=>m=xs.length-i/\i<=xs.length/\Pv i ys H,⟨xs.length,by simp,Yw _,h0⟩,?_⟩;rintro i m ys H ⟨rfl,hi,p⟩;have q:=hl i ys H hi p;by_cases bH:i<xs.length
 ·refine .inr ⟨⟨xs,xs[i],q,by simp[bH]⟩,Pv (i+1),λgv H' p'=>⟨xs.length-(i+1),by omega,rfl,bH,p'⟩,λx H' y=>?_⟩;obtain⟨e,y⟩:=y
  grind
 ·have e:i=xs.length:=by omega
  subst e;exact .inl ⟨⟨xs,q,Yd _⟩,hd ys H p⟩
theorem v8{lo:Int}{n:Nat}{tt:TT}{te:TE}{fv:St}{D:Addr}{H:Hp}{Q:VK}(Pv:Nat->List V->Hp->Prop)(h0:Pv 0 [] (upd H D (.lst [])))
  (hs:∀i ys H,i<n->Pv i ys H->tt (some (.int (lo+i))::fv) H λc H1=>if c=true then te (some (.int (lo+i))::fv) H1 λy H3=>H3 D=some (.lst ys)/\ys.length<sizeLine/\Pv (i+1) (ys++[y]) (upd H3 D (.lst (ys++[y]))) else Pv (i+1) ys H1)
  (hd:∀ys H,Pv n ys H->Q (.ref D) H):iP (oH lo n) tt te fv D H Q:=by
 refine⟨λi m ys H=>m=n-i/\i<=n/\Pv i ys H,⟨n,by simp,Yw _,h0⟩,?_⟩;rintro i m ys H ⟨rfl,hi,p⟩;by_cases bH:i<n
 ·refine .inr ⟨bH,Pv (i+1),λgv H' p'=>⟨n-(i+1),by omega,rfl,bH,p'⟩,λx H' y=>?_⟩;obtain⟨e,y⟩:=y
  grind
 ·have e:i=n:=by omega
  subst e;exact .inl ⟨Yd _,hd ys H p⟩
def Zfc(K:PySem.W.Frag)(tl:TE):TI:=λσ H R=>tl σ H λx H1=>∃a,x=.ref a/\((∃xs,aj K H1 a xs)/\R (jq K a) H1\/(∃xs,aA K H1 a xs)/\R (uW K a) H1)
theorem Zc5(hl:PE X l tl):PI X tg l (Zfc X.K tl):=by
 intro pins s σ H R I h;refine az (hl pins s σ H _ I h) λv s1 zq=>?_;obtain⟨x,H1,I1,r1,q1⟩:=zq;obtain⟨a,e,q1⟩:=q1;subst e;cases r1;rcases q1 with⟨⟨xs,hq⟩,q⟩|⟨⟨xs,hq⟩,q⟩
 ·obtain⟨ah,rv,p,hz⟩:=I1.list hq;refine wpAny_pyIter_list p.isList ⟨s1.heap.objs.size,[s1.heap.objs.size],_,_,H1,rfl,I1.kept λb o e=>Yc _ e,Lj a _,⟨_,Yo _ rfl,rfl,rfl⟩,λb hb=>?_,q⟩;have e:b=s1.heap.objs.size:=by simpa using hb
  subst e;exact I1.oB (Yd _) (I1.av.fresh (Yd _))
 ·obtain⟨ah,rv,p,hz⟩:=I1.tuple hq;refine wpAny_pyIter_tuple (show s1.heap.IsTuple a ah.toArray from p) ⟨s1.heap.objs.size,[s1.heap.objs.size],_,_,H1,rfl,I1.kept λb o e=>Yc _ e,Kz a _,⟨_,Yo _ rfl,rfl,rfl⟩,λb hb=>?_,q⟩;have e:b=s1.heap.objs.size:=by simpa using hb
  subst e;exact I1.oB (Yd _) (I1.av.fresh (Yd _))
theorem C8:∀{xs:List V} {us:List Value},xs.length=us.length->(∀(i:Nat) (x:V) (u:Value),xs[i]?=some x->us[i]?=some u->RelV x u)->Vals xs us
 |[],[],_,_=>.nil
 |[],_::_,h,_=>by simp at h
 |_::_,[],h,_=>by simp at h
 |x::xs,u::us,h,k=>.cons (k 0 x u rfl rfl) (C8 (by simpa using h) λi y w e1 e2=>k (i+1) y w (by simpa using e1) (by simpa using e2))
theorem KH:∀{bs:List Bool} {us:List Value},Vals (bs.map V.bl) us->us=bs.map Value.bool:=by
 intro bs;induction bs with
 |nil=>intro us r;cases r;rfl
 |cons b bs ih=>
  intro us r;rw[Wl] at r;cases r with
  |cons r t=>
   have e1:_=Value.bool b:=r;rw[e1,ih t];rfl
def bh(n:Nat):List Int:=(List.range n).map λi:Nat=>(i:Int)
theorem eM(n:Nat):(bh n).length=n:=by simp[bh]
theorem k_(h:i<n):(bh n)[i]?=some (i:Int):=by
 unfold bh
 grind
theorem Zaq(bs:List Bool):(List.range bs.length).any (λi=>bs.getD i false)=bs.any id:=by
 rw[Wc,J5,J5];constructor
 ·rintro⟨i,hi,hb⟩;rw[Y7] at hi;have e:bs.getD i false=bs[i]:=by rw[Yl,Yb hi];rfl
  rw[e] at hb;exact⟨bs[i],Jf hi,hb⟩
 ·rintro⟨b,hb,e⟩;obtain⟨i,hi,rfl⟩:=Wu.mp hb;refine⟨i,Y7.mpr hi,?_⟩
  grind
theorem Zar(bs:List Bool):(List.range bs.length).all (λi=>bs.getD i false)=bs.all id:=by
 rw[Wc,Wr,Wr];constructor
 ·intro h b hb;obtain⟨i,hi,rfl⟩:=Wu.mp hb;simp_all
 ·intro h i hi;rw[Y7] at hi;rw[Yl,Yb hi];exact h _ (Jf hi)
theorem Xh:∀{ns ms:List Int},ns.length=ms.length->(List.range ns.length).all (λj=>ns.getD j 0==ms.getD j 0)=decide (ns=ms):=by
 intro ns ms hl;rw[Wc,Wr,decide_eq_true_iff];constructor
 ·intro h;refine List.ext_getElem hl λi h1 h2=>?_;simp_all
 ·grind
section
variable {X:Cx}
def Rp(K:PySem.W.Frag):List V->Hp->VK->Prop:=λxs H Q=>∃(p:Addr) (bs:List Bool),xs=[.ref p]/\aj K H p (bs.map V.bl)/\Q (.bl (bs.any id)) H
def Rq(K:PySem.W.Frag):List V->Hp->VK->Prop:=λxs H Q=>∃(p:Addr) (bs:List Bool),xs=[.ref p]/\aj K H p (bs.map V.bl)/\Q (.bl (bs.all id)) H
theorem Vv(hc:X.calm=true):cY X (.builtin "any") (Rp X.K):=by
 rintro pins s σ H xs us Q I r ⟨p,bs,rfl,hq,q⟩;obtain⟨u,rfl,rx⟩:=vals1 r;cases rx;obtain⟨ah,r',pl,hz⟩:=I.list hq;have e:=KH r';subst e;have hl:=pl.isList;have bH:p<s.heap.objs.size:=by obtain⟨_,e,_⟩:=hl;exact Yx e
 refine call_any_walk (wpAny_pyIter_list hl ⟨s.heap.objs.size,_,_,_,_,_,λi=>bs.getD i false,rfl,Walks.list (show X.A.in1.handled=none from I.ok.hd hc) s.heap.objs.size p (Y2 bH) (bs.map Value.bool).toArray,⟨⟨_,Yo _ rfl,rfl,rfl⟩,hl.push _⟩,?_,λh' tk hk=>?_⟩)
 ·intro i v s' Q' E' hP hQ;have kN:(bs.map Value.bool)[i]?=some v:=by simpa using hP
  rw[Yg] at kN;cases e:bs[i]? with
  |none=>grind
  |some b=>
   rw[e] at kN;have ev:=Yq kN;subst ev;refine wpAny_truthy_bool ?_
   grind
 ·refine⟨.bl (bs.any id),H,I.kept (λb o e=>hk b o (by simpa using Y2 (Yx e)) (Yc _ e)),?_,q⟩;show Value.bool _=Value.bool _;have e:(bs.map Value.bool).toArray.size=bs.length:=by simp
  rw[e,Zaq]
theorem Vw(hc:X.calm=true):cY X (.builtin "all") (Rq X.K):=by
 rintro pins s σ H xs us Q I r ⟨p,bs,rfl,hq,q⟩;obtain⟨u,rfl,rx⟩:=vals1 r;cases rx;obtain⟨ah,r',pl,hz⟩:=I.list hq;have e:=KH r';subst e;have hl:=pl.isList;have bH:p<s.heap.objs.size:=by obtain⟨_,e,_⟩:=hl;exact Yx e
 refine call_all_walk (wpAny_pyIter_list hl ⟨s.heap.objs.size,_,_,_,_,_,λi=>bs.getD i false,rfl,Walks.list (show X.A.in1.handled=none from I.ok.hd hc) s.heap.objs.size p (Y2 bH) (bs.map Value.bool).toArray,⟨⟨_,Yo _ rfl,rfl,rfl⟩,hl.push _⟩,?_,λh' tk hk=>?_⟩)
 ·intro i v s' Q' E' hP hQ;have kN:(bs.map Value.bool)[i]?=some v:=by simpa using hP
  rw[Yg] at kN;cases e:bs[i]? with
  |none=>grind
  |some b=>
   rw[e] at kN;have ev:=Yq kN;subst ev;refine wpAny_truthy_bool ?_
   grind
 ·refine⟨.bl (bs.all id),H,I.kept (λb o e=>hk b o (by simpa using Y2 (Yx e)) (Yc _ e)),?_,q⟩;show Value.bool _=Value.bool _;have e:(bs.map Value.bool).toArray.size=bs.length:=by simp
  rw[e,Zar]
inductive Pm(K:PySem.W.Frag)(xs:List V)(H:Hp)(Q:VK):Prop
 |mk (x:V) (t:Value) (c:String) (b:Bool) (aC:xs=[x,.ty c]) (aT:iS K H x t) (bc:kitOne K t (.type c)=some b) (bK:Q (.bl b) H):Pm K xs H Q
def Ad(K:PySem.W.Frag):List V->Hp->VK->Prop:=λxs H Q=>Pm K xs H Q
theorem Xi:cY X (.builtin "isinstance") (Ad X.K):=by
 rintro pins s σ H xs us Q I r ⟨x,t,c,b,rfl,ty,e,q⟩;obtain⟨u,w',rfl,rx,ry⟩:=vals2 r;cases ry;exact Zu I rx ty e λtk=>⟨.bl b,H,I.tok tk,rfl,q⟩
theorem KI(hT:T="list"\/T="tuple")
  (ho:s.heap.get? l=some o)(hc:o.cls=.type T)(hd:o.data=.seq ah.toArray n)(hI:IntsAre ah ns)(iZ:ah.length<64)(hsz:ah.toArray.size<=sizeLine)
  (h:∀(h1 h':Heap) (out:Array Value) (c9:List Int) (e:Nat),(∀b o,s.heap.get? b=some o->h1.get? b=some o)->(∀b o,h1.get? b=some o->h'.get? b=some o)->h'.get? h1.objs.size=some (seqObj "list" out e)->IntsAre out.toList c9->c9.Perm ns->c9.Pairwise (·<=·)->Q (.ref h1.objs.size) {s with heap:=h'}):
  wpAny (model prog w) A (call (.builtin "sorted") [.ref l]) Q E s:=by
 refine Calls.call_function_entry kind_sorted plain_sorted entry_sorted (args_sorted1 _) (wpAny_bind (wpAny_pure ?_));refine wpAny_bind (wpAny_collect_seq l hT ho hc hd (λh1 kp=>wpAny_bind (wpAny_newList ?_)) hsz);have e1:ah.toArray.toList=ah:=by simp
 rw[e1];have oG:(h1.push (seqObj "list" ah.toArray 0)).get? h1.objs.size=some (seqObj "list" ah.toArray 0):=Yo _ rfl;refine wpAny_bind (wpAny_holding (wpAny_call_entry slot_list_sort ⟨_,oG,rfl⟩ entry_list_sort (list_sort_tree oG hI iZ λout c9 a1 a2 a3=>⟨_,rfl,?_⟩) (args_list_sort _)));obtain⟨e,he⟩:=sortedHeap_at oG;exact wpAny_pure ⟨_,rfl,h h1 _ out c9 e kp (λb ob hb=>by
  have bH:=Yx hb;rw[sortedHeap_old (Y2 bH) (by rw[size_push'];exact W6 bH),Jo _ _ _ (Y2 bH)];exact hb) he a1 a2 a3⟩
def Fm(K:PySem.W.Frag):List V->Hp->VK->Prop:=λxs H Q=>∃(p:Addr) (ns:List Int),xs=[.ref p]/\(aj K H p (ns.map V.int)\/aA K H p (ns.map V.int))/\ns.length<64/\
  ∀(l:Addr) (c9:List Int),H l=none->c9.Perm ns->c9.Pairwise (·<=·)->Q (.ref l) (upd H l (.lst (c9.map V.int)))
theorem Ki:cY X (.builtin "sorted") (Fm X.K):=by
 rintro pins s σ H xs us Q I r ⟨p,ns,rfl,hq,iZ,q⟩;obtain⟨u,rfl,rx⟩:=vals1 r;cases rx;have fin:∀(h1 h':Heap) (out:Array Value) (c9:List Int) (e:Nat),(∀b o,s.heap.get? b=some o->h1.get? b=some o)->(∀b o,h1.get? b=some o->h'.get? b=some o)->h'.get? h1.objs.size=some (seqObj "list" out e)->IntsAre out.toList c9->c9.Perm ns->c9.Pairwise (·<=·)->
   EP X pins σ Q (.ref h1.objs.size) {s with heap:=h'}:=λh1 h' out c9 e kp Hj he a1 a2 a3=>by
  have I1:=I.kept (t':=s.toks) kp;refine⟨.ref h1.objs.size,_,I1.laid (o:=.lst (c9.map V.int)) Hj (Yd _) ⟨?_,out.toList,e,Lo a1,by simpa[seqObj] using he⟩,rfl,q _ c9 (I1.av.fresh (Yd _)) a2 a3⟩;rw[Ya,a2.length_eq];exact Jv (jy (by omega))
 rcases hq with hq|hq
 ·obtain⟨ah,r',pl,hz⟩:=I.list hq;obtain⟨o,n,ho,hc,_,hd⟩:=pl;have hl:=r'.length;rw[Ya] at hl;rw[Ya] at hz;exact KI (.inl rfl) ho hc hd (intsAre_of r') (by omega) (by rw[Yv];omega) fin
 ·obtain⟨ah,r',pl,hz⟩:=I.tuple hq;obtain⟨o,ho,hc,n,hd⟩:=pl;have hl:=r'.length;rw[Ya] at hl;rw[Ya] at hz;exact KI (.inr rfl) ho hc hd (intsAre_of r') (by omega) (by rw[Yv];omega) fin
def NL:List V->Hp->VK->Prop:=λxs H Q=>∃j:Int,xs=[.int j]/\∀p:Addr,H p=none->Q (.ref p) (upd H p (.jo 0 j))
def Ml:List V->Hp->VK->Prop:=λxs H Q=>∃(p:Addr) (n:Nat),xs=[.ref p]/\H p=some (.jo 0 (n:Int))/\n<=1000/\∀l:Addr,H l=none->Q (.ref l) (upd H l (.lst ((bh n).map V.int)))
def xp(K:PySem.W.Frag):List V->Hp->VK->Prop:=λxs H Q=>∃(p:Addr) (ys:List V),xs=[.ref p]/\(aj K H p ys\/aA K H p ys)/\Q (.int ys.length) H
theorem X6:cY X (.builtin "len") (xp X.K):=Ka
theorem yJ:cY X (.type "range") NL:=by
 rintro pins s σ H xs us Q I r ⟨j,rfl,q⟩;obtain⟨u,rfl,t,rfl⟩:=vals1 r;exact call_range_1 ⟨.ref s.heap.objs.size,_,I.laid (o:=.jo 0 j) (λb o e=>Yc _ e) (Yd _) ⟨_,_,_,Yo _ rfl⟩,rfl,q _ (I.av.fresh (Yd _))⟩
theorem Cy(hc:X.calm=true):cY X (.type "list") Ml:=by
 rintro pins s σ H xs us Q I r ⟨p,n,rfl,hp,hn,q⟩;obtain⟨u,rfl,rx⟩:=vals1 r;cases rx;obtain⟨t,u,v,ho⟩:=I.av p _ hp;refine call_list_range (I.ok.hd hc) ho (small_one (by omega) (by omega) (by omega) (by omega)) (n:=n) (by rw[rangeSize_one];split<;>omega) (by omega) λh' tk Zfd c' hk hS' Rr=>⟨.ref s.heap.objs.size,_,I.laid (o:=.lst ((bh n).map V.int)) hk (Yd _) ⟨?_,Zfd.toList,c',?_,by simpa using hS'⟩,rfl,q _ (I.av.fresh (Yd _))⟩
 ·rw[Ya,eM];exact Jv (jy hn)
 ·refine C8 (by rw[Ya,eM];simp[Rr.1]) λi x u e1 e2=>?_;obtain⟨t',rfl⟩:=Rr.2 i u (by simpa using e2);have hi:i<n:=by
   have:=(Yh.mp e1).1;rw[Ya,eM] at this;exact this
  rw[Yg,k_ hi] at e1;have e3:=Yq e1;subst e3;exact⟨t',by rw[show(0:Int)+(i:Int)*1=(i:Int) by omega]⟩
theorem NM{ns:List Int}{ah:List Value}(r:Vals (ns.map V.int) ah){j:Nat}(h:j<ah.length):∃t,ah[j]=.int (ns.getD j 0) t:=by
 have hl:=r.length;rw[Ya] at hl;have hj:j<ns.length:=by omega
 obtain⟨u,hu,t,rfl⟩:=r.get (by rw[Yg,Yb hj];rfl)
 grind
def Rt(K:PySem.W.Frag)(neg:Bool):R2:=λx y H Q=>∃(p q:Addr) (ns ms:List Int),x=.ref p/\y=.ref q/\aj K H p (ns.map V.int)/\aj K H q (ms.map V.int)/\Q (.bl (if neg=true then !decide (ns=ms) else decide (ns=ms))) H
theorem Pn(hu:X.A.units<cLine):cD X (compareOp .Eq) (Rt X.K false):=by
 rintro pins s σ H x y v u Q I rx ry ⟨p,q,ns,ms,rfl,rfl,h1,h2,k⟩;cases rx;cases ry;obtain⟨ah,r1,p1,z1⟩:=I.list h1;obtain⟨ib,r2,p2,z2⟩:=I.list h2;have l1:=r1.length;have l2:=r2.length;rw[Ya] at l1 l2;by_cases hl:ns.length=ms.length
 ·refine SeqAt.eq_listAt (e:=λj=>ns.getD j 0==ms.getD j 0) p1.isList p2.isList (by simp;omega) hu (λj h1 h2=>?_) (cF I k ?_)
  ·obtain⟨t,e1⟩:=NM r1 (by simpa using h1);obtain⟨t',e2⟩:=NM r2 (by simpa using h2);have sy:ah.toArray[j]=.int (ns.getD j 0) t:=by simpa using e1
   have e2':ib.toArray[j]=.int (ms.getD j 0) t':=by simpa using e2
   rw[sy,e2'];exact SeqAt.EqAt.int_int _ _ _ _
  ·rw[if_neg Yj,Yv,←l1,Xh hl]
 ·refine SeqAt.eq_list_lengthsAt p1.isList p2.isList (by simp;omega) hu (cF I k ?_)
  grind
theorem fP(M:St->Hp->Prop)(h1:∀nx:St->Hp->Prop,(∀σ H,M σ H->nx σ H)->t {D with nx:=nx} σ H)(h2:∀σ H,M σ H->u D σ H):xh t u D σ H:=h1 _ h2
theorem ku(hg:Gl X x)(hm:X.mg x=none)(hv:bootBuiltins x=some (.type T))(hn:x≠"__name__":=by decide)(hd:(x==("__debug__":Str))=false:=by decide):PE X (.Name x pos) (tC (.ty T)):=ZbA hg hm hv rfl hn hd
end
def HasFn(P:Program)(w:World)(K:PySem.W.Frag)(mg:Str->Option Value)(base:Heap)(k:Nat)(x:Str)(ps:List Str)(sp:Sp):Prop:=
 ∃f fd,aG P w K mg base aM k f fd ps sp/\Binds K fd ps []/\keepIn K (.ref f)=true/\mg x=some (.ref f)
section
variable {P:Program}{w:World}{K:PySem.W.Frag}{mg:Str->Option Value}{base:Heap}{X:Cx}{k j:Nat}{sp:Sp}{x:Str}{ps:List Str}
theorem zW(h:HasFn X.prog X.w X.K X.mg X.base k x ps sp)(hr:cZ j X.A)(hj:k<=j)(hg:Gl X x)(ha:PA X (e::es) t)
  (jK:(x==("__debug__":Str))=false:=by decide)(he:starEach (e::es) X.env=(false,eval e X.env)::starEach es X.env:=by rfl)(cL:(backTo pos (starEach es X.env)).any (·.1)=false:=by rfl):
  PE X (.Call (.Name x p) (e::es) [] pos) (F8 sp [] E0 t):=by
 obtain⟨f,fd,F,b,kp,m⟩:=h;exact ZbD F (hr.mono hj) hg m kp b .nil zU ha jK he cL
theorem cj(h:H p=none)(o:HO):ai H (upd H p o):=λb u q=>by rw[aQ (bX q h)];exact q
theorem ai.i4(e:ai H H')(h:aA K H a xs):aA K H' a xs:=by
 rcases h with(h|⟨o,h⟩)|h;·exact .inl (.inl (e _ _ h))
 ·exact .inl (.inr ⟨o,e _ _ h⟩)
 ·exact .inr h
theorem Zas(h:X.K=K):ij X (uH K):=h▸Fj
theorem ZbO(h:X.K=K):ij X (z_ K):=h▸Pg
theorem ZbP(h:X.K=K):cY X (.builtin "isinstance") (Ad K):=h▸Xi
theorem Zfe(h:X.K=K):cY X (.builtin "len") (xp K):=h▸X6
theorem kI(h:Q true H):Ac σ H Q:=h
theorem aV(h:n σ H):Qw ⟨n,rt,bk,ct⟩ σ H:=h
theorem mM(M:St->Hp->Prop)(h1:∀nx:St->Hp->Prop,(∀σ H,M σ H->nx σ H)->Gu c a b {D with nx:=nx} σ H)(h2:∀σ H,M σ H->u D σ H):xh (Gu c a b) u D σ H:=h1 _ h2
theorem Zc6(x:Int)(h0:0<m)(h1:m<=2^62):-(2^64)<x % m/\x % m<2^64:=by
 have a:=W7 x (Hk h0);have b:=Wt x h0;omega
theorem KJ:∀(l:List α) (k:Nat) (h:k<l.length),l.Perm (l[k]::l.eraseIdx k)
 |[],k,h=>absurd h (Wm k)
 |a::r,0,_=>List.Perm.refl _
 |a::r,k+1,h=>(List.Perm.cons a (KJ r k (Nat.lt_of_succ_lt_succ h))).trans (List.Perm.swap _ _ _)
theorem Lq(f:α->β):∀(l:List α) (k:Nat),(l.map f).eraseIdx k=(l.eraseIdx k).map f
 |[],_=>rfl
 |_::_,0=>rfl
 |a::r,k+1=>by
  show f a::(r.map f).eraseIdx k=f a::(r.eraseIdx k).map f;rw[Lq f r k]
theorem FJ{n:Nat}{i:Int}(h0:0<=i)(h1:i<n):kM n i=some i.toNat:=by
 unfold kM
 grind
theorem mN{ns:List Int}{i:Int}(h0:0<=i)(h1:i<ns.length):dt (ns.map V.int) i=some (.int (ns.getD i.toNat 0)):=by
 have e:i=((i.toNat:Nat):Int):=by omega
 rw[e];refine fF ?_
 grind
theorem mG{ns:List Int}{i:Nat}{y:V}(h:(ns.map V.int)[i]?=some y):∃z,y=.int z/\ns[i]?=some z:=by
 rw[Yg] at h;cases e:ns[i]? with
 |none=>grind
 |some z=>grind
theorem Mm(ns:List Int)(z:Int):ns.map V.int++[V.int z]=(ns++[z]).map V.int:=by simp
theorem Mn(ns:List Int)(lo hi:Option Int):∃ms:List Int,kH (ns.map V.int) lo hi=ms.map V.int:=by
 refine⟨(ns.drop (HT.fT ns.length 0 lo)).take (HT.fT ns.length ns.length hi-HT.fT ns.length 0 lo),?_⟩;unfold kH;simp_all
end
theorem Po:bootBuiltins "abs"=some (.builtin "abs"):=by decide+kernel
theorem Zc7:bootBuiltins "any"=some (.builtin "any"):=by decide+kernel
theorem Pp:bootBuiltins "all"=some (.builtin "all"):=by decide+kernel
theorem zI:bootBuiltins "len"=some (.builtin "len"):=by decide+kernel
theorem Zc8:bootBuiltins "min"=some (.builtin "min"):=by decide+kernel
theorem Eg:bootBuiltins "sorted"=some (.builtin "sorted"):=by decide+kernel
theorem VL:bootBuiltins "isinstance"=some (.builtin "isinstance"):=by decide+kernel
theorem qR:bootBuiltins "list"=some (.type "list"):=by decide+kernel
theorem mD:bootBuiltins "tuple"=some (.type "tuple"):=by decide+kernel
theorem uf:bootBuiltins "range"=some (.type "range"):=by decide+kernel
theorem zr:bootBuiltins "bool"=some (.type "bool"):=by decide+kernel
theorem Pq:bootBuiltins "int"=some (.type "int"):=by decide+kernel
theorem wO:bootBuiltins "str"=some (.type "str"):=by decide+kernel
def Bd(d p:Int):Prop:=0<=d/\d<p
inductive Mo(K:PySem.W.Frag)(vs:List V)(H:Hp)(Q:VK):Prop
 |mk (a:Addr) (ns:List Int) (k:Int) (aC:vs=[.ref a,.int k]) (aT:aj K H a (ns.map V.int)) (bc:0<=k) (bK:∀c:Int,Q (.int c) H):Mo K vs H Q
def Pr(K:PySem.W.Frag):Sp:=λvs H Q _=>Mo K vs H Q
inductive Lr(K:PySem.W.Frag)(vs:List V)(H:Hp)(Q:VK):Prop
 |mk (c:Int) (a:Addr) (ps:List Int) (aC:vs=[.int c,.ref a]) (aT:aj K H a (ps.map V.int)) (bc:(∀p∈ps,0<p/\p<1073741824)) (bK:ps.length<=60) (cE:∀(l:Addr) (ds:List Int) (H':Hp),H l=none->ai H H'->H' l=some (.lst (ds.map V.int))->Paired Bd ds ps->Q (.ref l) H'):Lr K vs H Q
def zt(K:PySem.W.Frag):Sp:=λvs H Q _=>Lr K vs H Q
inductive Mp(vs:List V)(H:Hp)(Q:VK):Prop
 |mk (c:Int) (n:Nat) (aC:vs=[.int c,.int (n:Int)]) (aT:n<=60) (bc:∀(t:Addr) (ns:List Int) (H':Hp),H t=none->ai H H'->H' t=some (.tup (ns.map V.int))->ns.Perm (bh n)->Q (.ref t) H'):Mp vs H Q
def Pt:Sp:=λvs H Q _=>Mp vs H Q
theorem NN(ho:PE X o to)(hi:PE X i ti)(hs:rH X t)(he:PE X e te)
  (h1:swapsWithSole [.Subscript o i tp] e pos.line X.env=pure false:=by rfl)(h2:swappedStores [.Subscript o i tp] e X.env=pure none:=by rfl)
  (h3:(assignEach [.Subscript o i tp] X.env).map (·.2)=[assign (.Subscript o i tp) X.env]:=by rfl)
  (ha:∀v,assign (.Subscript o i tp) X.env v=(do
   let ov←holding [v] (eval o X.env);let iv←holding [v,ov] (eval i X.env)
   standAt tp
   holding [v,ov,iv] (setItem ov iv v)
   release [v,ov,iv] []):=by intro _;rfl):PS X (.Assign [.Subscript o i tp] e pos) (rJ te (Rj to ti t)):=mK he (ZcU ho hi hs ha) h1 h2 h3
def Ru(h:Heap)(a C:Addr)(d:Option Addr)(vs:Array Value):Prop:=∃oe:Obj,h.get? a=some oe/\oe.cls=.ref C/\oe.dict=d/\oe.data=.fields vs/\1<vs.size
def xo(a C:Addr)(d:Option Addr):HO:=.ext λh=>∃vs,Ru h a C d vs
def Fly(lo:Nat)(H:Hp)(h:Heap)(vs:Array Value):Prop:=
 vs[1]?=some Value.none\/∃T oT ts,vs[1]?=some (Value.ref T)/\lo<=T/\H T=none/\h.get? T=some oT/\oT.data=.fields ts/\ts[3]?=some Value.none
inductive QE(P:Program)(w:World)(outer:List Env)(H:Hp)(s:Shared)(E:XK)(e:Value)(s':Shared):Prop
 |mk (a C d:Addr) (H':Hp) (vs:Array Value) (aC:e=.ref a) (aT:s.heap.objs.size<=a) (bc:s'.os=s.os) (bK:AllBare s'.gens) (cE:Un (fI outer) [] H H' s.heap s'.heap) (dI:dh P w H' s'.heap) (gw:H' a=some (xo a C (some d))) (ik:Ru s'.heap a C (some d) vs) (oR:Fly s.heap.objs.size H' s'.heap vs) (u4:E (.ref C) (some d) H'):QE P w outer H s E e s'
def m9(P:Program)(w:World):jJ:=λouter H s E e s'=>QE P w outer H s E e s'
section
variable {M:Model}{A:Around}{Er:Value->Shared->Prop}{s:Shared}
end
section
variable {P:Program}{w:World}{A:Around}{Er:Value->Shared->Prop}
end
section
variable {P:Program}{w:World}{K:PySem.W.Frag}{mg:Str->Option Value}{base:Heap}{N:List Str}{qual:Str}{scope:Scope}{f:Addr}{cd:Value}{A:Around}{outer:List Env}{s:Shared}{H:Hp}{E:XK}
theorem GH:PassesOwn (model P w) (lP (m9 P w) P w K mg base N qual scope f cd A outer s H E).A (lP (m9 P w) P w K mg base N qual scope f cd A outer s H E).env (lP (m9 P w) P w K mg base N qual scope f cd A outer s H E).xe:=
 λe s' h=>PassesOwn.leaving (Q₁:=λe sf=>m9 P w outer H s E e sf) e s' h
end
section
variable {X:Cx}{k j:Nat}{f C:Addr}{fd:FuncData}{ps:List Str}{sp:Sp}{d7:List V}{ds:List Value}{E:St->XK}{x m:Str}{p pos apos:Pos}{e o:Expr}{es:List Expr}{ta:TE}{t:TA}
end
section
variable {P:Program}{w:World}{K:PySem.W.Frag}{mg:Str->Option Value}{base:Heap}
theorem aJ.okX{x qual:Str}{st:Stmt}{f:Addr}{fd:FuncData}{N ps:List Str}{k:Nat}{sp:Sp}(F:aJ K x qual st f fd)(S:aN N ps (aH st))(len:∀vs H Q E,sp vs H Q E->vs.length=ps.length)
  (rq:∀(aB:Value) (A:Around) (outer:List Env) (s:Shared) (H:Hp) (vs:List V) (Q:VK) (E:XK),cZ k (A.deeper (envOfC qual (aH st) s.heap.objs.size f aB))->sp vs H Q E->
   ∃t,fS (lP (m9 P w) P w K mg base N qual (aH st) f aB A outer s H E) (kh st) t/\t {nx:=λ_ H'=>Q .ay H',rt:=Q} (start N vs) H):aG P w K mg base (m9 P w) (k+1) f fd ps sp:=by
 obtain⟨oc,od,kV,doc,pm,an,aB,ct,oK,rfl,lk,iX⟩:=F.ex;exact QB lk iX S len λA outer s H vs Q E hr m6=>rq aB A outer s H vs Q E hr m6
end
section
variable {prog:Program}{w:World}{A:Around}{E:Value->Shared->Prop}{h:Heap}{g:Array GenState}{d:Drawn}{t:Nat}{os:OsState}
variable {nm q:Str}{C N:Addr}{bs bm:List Value}{Zhi:Bool}{sn:List Str}{sub:List Value}{ab:Bool}{col:Option Bool}{dd:Option Addr}{k0 k1 k2 k3 k5:Option Value}
local macro_rules|`(tactic|walk_at "vlu")=>`(tactic|exact PySem.F.excBase_ValueError)
end
end L2
namespace L2
open PySem PySem.Spec PyProof.Rows
open PySem.W (Looks InstAt looks_findIn looks_typeIn looks_clsIn looks_mroIn looks_find findObj findIn mroIn clsIn)
section
variable {prog:Program}{w:World}{A:Around}{E:Value->Shared->Prop}{s:Shared}{K:PySem.W.Frag}{x C:Addr}{ox:Obj}{od:Option Obj}{name:Str}
end
section
variable {prog:Program}{w:World}{A:Around}{E:Value->Shared->Prop}{s:Shared}{K:PySem.W.Frag}{x C:Addr}{name:Str}{nV v:Value}{b:Bool}{tk:Tok}
end
section
variable {X:Cx}{o e value:Expr}{f:Str}{pos pos':Pos}{ta tv:TE}
end
section
variable {X:Cx}{CX:jJ}{k:Nat}{f C:Addr}{fd:FuncData}{ps:List Str}{sp:Sp}{d7:List V}{ds:List Value}{E:XK}{x m:Str}{p pos apos:Pos}{e:Expr}{es:List Expr}{t:TA}
end
section
variable {M:Model}{A:Around}{E:Value->Shared->Prop}{s:Shared}{K:PySem.W.Frag}{a C:Addr}
end
section
variable {X:Cx}{x:Str}{p pos apos:Pos}{e:Expr}{es:List Expr}{t:TA}
end
section
variable {X:Cx}{k:Nat}{f C:Addr}{fd:FuncData}{ps:List Str}{sp:Sp}{d7:List V}{ds:List Value}{E:St->XK}{x:Str}{p pos ck:Pos}{e:Expr}{es:List Expr}{t:TA}
end
section
variable {X:Cx}{pins:List (Addr×Obj)}{σ:St}{H:Hp}{s:Shared}
end
section
variable {M:Model}{A:Around}{E:Value->Shared->Prop}{s:Shared}{K:PySem.W.Frag}{a C B:Addr}{d:Option Addr}{vs:Array Value}
end
section
variable {X:Cx}{B:Addr}{i:Nat}{n x:Str}{body Zg_:List Stmt}{b0:Stmt}{px hp pos:Pos}{tb:(St->XK)->TS}{th:TS}
end
section
variable {X:Cx}{e:Expr}{te:TE}{pos:Pos}
end
section
variable {X:Cx}{e e2:Expr}{es:List Expr}{te:TE}{t:TJ}{pos:Pos}
end
end L2
namespace L2
open PySem PySem.Spec PyProof.Rows
structure Bl(mg:Str->Option Value):Prop where
 zX:mg "len"=none
 Zen:mg "abs"=none
 q0:mg "list"=none
 jb:mg "range"=none
 mH:mg "tuple"=none
 Zeo:mg "any"=none
 QF:mg "all"=none
 WB:mg "isinstance"=none
 zJ:mg "bool"=none
 QG:mg "int"=none
 wZ:mg "str"=none
 EJ:mg "sorted"=none
 Zep:mg "min"=none
 Zeq:mg "max"=none
 Zha:mg "sum"=none
 Zc9:mg "dict"=none
 ZgU:mg "reversed"=none
 ZgE:mg "ValueError"=none
theorem Zff{X:Cx}{K:PySem.W.Frag}(hc:X.calm=true)(h:X.K=K):cY X (.builtin "any") (Rp K):=h▸Vv hc
theorem Rv{X:Cx}{K:PySem.W.Frag}(hc:X.calm=true)(h:X.K=K):cY X (.builtin "all") (Rq K):=h▸Vw hc
theorem sortedK{X:Cx}{K:PySem.W.Frag}(h:X.K=K):cY X (.builtin "sorted") (Fm K):=h▸Ki
theorem lW{X:Cx}{K:PySem.W.Frag}(h:X.K=K):cD X (compareOp .In) (xF K false):=h▸Zw
theorem zK{X:Cx}{K:PySem.W.Frag}(h:X.K=K):cD X (compareOp .NotIn) (xF K true):=h▸V_
theorem NO{X:Cx}{K:PySem.W.Frag}(h:X.K=K):ij X (G7 K):=h▸ZcY
section
variable {P:Program}{w:World}{K:PySem.W.Frag}{mg:Str->Option Value}{base:Heap}
end
theorem Pu{K:PySem.W.Frag}:kitOne K (.type "int") (.type "int")=some true:=by kernel_rfl
theorem FK{K:PySem.W.Frag}:kitOne K (.type "int") (.type "bool")=some false:=by kernel_rfl
theorem Px{K:PySem.W.Frag}:kitOne K (.type "bool") (.type "bool")=some true:=by kernel_rfl
theorem Zc_{K:PySem.W.Frag}:kitOne K (.type "str") (.type "bool")=some false:=by kernel_rfl
theorem Zda{K:PySem.W.Frag}:kitOne K (.type "str") (.type "int")=some false:=by kernel_rfl
theorem Py{K:PySem.W.Frag}:kitOne K (.type "str") (.type "str")=some true:=by kernel_rfl
theorem Zdb{K:PySem.W.Frag}:kitOne K (.type "list") (.type "bool")=some false:=by kernel_rfl
theorem Zdc{K:PySem.W.Frag}:kitOne K (.type "list") (.type "int")=some false:=by kernel_rfl
theorem Zdd{K:PySem.W.Frag}:kitOne K (.type "list") (.type "str")=some false:=by kernel_rfl
theorem Zde{K:PySem.W.Frag}:kitOne K (.type "list") (.type "list")=some true:=by kernel_rfl
theorem Zdf{K:PySem.W.Frag}:kitOne K (.type "list") (.type "tuple")=some false:=by kernel_rfl
theorem Zdg{K:PySem.W.Frag}:kitOne K (.type "tuple") (.type "bool")=some false:=by kernel_rfl
theorem Zdh{K:PySem.W.Frag}:kitOne K (.type "tuple") (.type "int")=some false:=by kernel_rfl
theorem Zdi{K:PySem.W.Frag}:kitOne K (.type "tuple") (.type "str")=some false:=by kernel_rfl
theorem Zdj{K:PySem.W.Frag}:kitOne K (.type "tuple") (.type "list")=some false:=by kernel_rfl
theorem Zdk{K:PySem.W.Frag}:kitOne K (.type "tuple") (.type "tuple")=some true:=by kernel_rfl
theorem Eh(ns:List Int)(o:Option Int):(ns++o.toList).map V.int=ns.map V.int++o.toList.map V.int:=by simp
inductive Dt where
 |ay|bl (b:Bool)|int (i:Int)|str (x:Str)|lst (ds:List Dt)|tup (ds:List Dt)
def At(H:Hp):Nat->V->Dt->Prop
 |_,v,.ay=>v=.ay
 |_,v,.bl b=>v=.bl b
 |_,v,.int i=>v=.int i
 |_,v,.str x=>v=.str x
 |0,_,.lst _=>False
 |0,_,.tup _=>False
 |m+1,v,.lst ds=>∃a xs,v=.ref a/\H a=some (.lst xs)/\ds.length<=1000/\Paired (At H m) xs ds
 |m+1,v,.tup ds=>∃a xs,v=.ref a/\H a=some (.tup xs)/\ds.length<=1000/\Paired (At H m) xs ds
theorem At.same(g:ai H H'):∀{m:Nat} {v:V} {d:Dt},At H m v d->At H' m v d
 |_,_,.ay,h=>by unfold At at h⊢;exact h
 |_,_,.bl _,h=>by unfold At at h⊢;exact h
 |_,_,.int _,h=>by unfold At at h⊢;exact h
 |_,_,.str _,h=>by unfold At at h⊢;exact h
 |0,_,.lst _,h=>by unfold At at h;exact h.elim
 |0,_,.tup _,h=>by unfold At at h;exact h.elim
 |m+1,_,.lst _,h=>by
  obtain⟨a,xs,e,h1,h2,h3⟩:=h;exact⟨a,xs,e,g _ _ h1,h2,L2.Paired.bw h3 λ_ _ z=>At.same g z⟩
 |m+1,_,.tup _,h=>by
  obtain⟨a,xs,e,h1,h2,h3⟩:=h;exact⟨a,xs,e,g _ _ h1,h2,L2.Paired.bw h3 λ_ _ z=>At.same g z⟩
section
variable {H:Hp}{m:Nat}
theorem Zdl(x:Str):At H m (.str x) (.str x):=by unfold At;rfl
theorem Zdm(h:H a=some (.lst xs))(l:ds.length<=1000)(p:Paired (At H m) xs ds):At H (m+1) (.ref a) (.lst ds):=by unfold At;exact⟨a,xs,rfl,h,l,p⟩
end
theorem fO:∀{xs:List α} {ys:List β} {i:Nat} {x:α},Paired F xs ys->xs[i]?=some x->∃y,ys[i]?=some y/\F x y:=by
 intro xs ys i x h;induction h generalizing i with
 |nil=>intro e;simp at e
 |cons r t ih=>
  intro e;cases i with
  |zero=>
   have e:=Yq (show some _=some _ by simpa using e);subst e;exact⟨_,rfl,r⟩
  |succ i=>
   obtain⟨y,h1,h2⟩:=ih (i:=i) (by simpa using e);exact⟨y,by simpa using h1,h2⟩
theorem cI:∀{xs:List α} {ys:List β},Paired F xs ys->xs.length=ys.length:=by
 intro xs ys h;induction h with
 |nil=>rfl
 |cons _ _ ih=>rw[Wq,Wq,ih]
theorem Mq{α:Type}{xs:List α}{i:Nat}{x:α}(h:xs[i]?=some x):dt xs (0+(i:Int))=some x:=by
 rw[show(0:Int)+(i:Int)=(i:Int) from by omega];exact fF h
def ZbQ:List V->Hp->VK->Prop:=λxs H Q=>∃(p:Addr) (n:Nat),xs=[.ref p]/\H p=some (.jo 0 (n:Int))/\n<=1000/\∀l:Addr,H l=none->Q (.ref l) (upd H l (.tup ((bh n).map V.int)))
section
variable {prog:Program}{w:World}{A:Around}{E:Value->Shared->Prop}{s:Shared}
theorem Xj{Q:List Value->Shared->Prop}{r:Addr}{n:Nat}{t u v:Tok}(hh:A.handled=none)(hr:IsRange s.heap r 0 (n:Int) 1 t u v)(hn:n<=1000)
  (k:∀h' tk (acc:Array Value),(∀b o,s.heap.get? b=some o->h'.get? b=some o)->ItemsOf (λi v=>∃t,v=.int (0+i*1) t) acc n->Q acc.toList {s with heap:=h',toks:=tk}):
  wpAny (model prog w) A (collect (.ref r)) Q E s:=by
 refine wpAny_bind (wpAny_runValue (codeAny_builtin PySem.F.entry_proto_collect (wpAny_bind (wpAny_newObj_type (wpAny_pure ⟨plainId_quiet PySem.F.plain_list_iadd _,codeAny_builtin PySem.F.entry_list_iadd ?_⟩)))));have Zer:∀s':Shared,(∃(h':Heap) (tk:Nat) (acc:Array Value) (c:Nat),s'={s with heap:=h',toks:=tk}/\(∀b o,b≠s.heap.objs.size->(s.heap.push {cls:=.type "list",data:=.seq ([]:List Value).toArray}).get? b=some o->h'.get? b=some o)/\
   h'.get? s.heap.objs.size=some {cls:=.type "list",dict:=none,data:=.seq acc c,slots:=#[]}/\ItemsOf (λi v=>∃t,v=.int (0+i*1) t) acc n)->
   wpAny (model prog w) A (match Value.ref s.heap.objs.size with
    |Value.ref a=>do
     match(←load a).data with
      |Data.seq xs _=>pure xs.toList
      |_=>unsupported "internal:collect"
    |_=>unsupported "internal:collect") Q E s':=by
  rintro s' ⟨h',tk,acc,c,rfl,kp,here,ah⟩;exact wpAny_bind (wpAny_load here (wpAny_pure (k h' tk acc (λb o hb=>kp b o (Y2 (Yx hb)) (Yc _ hb)) ah)))
 refine wpAny_mono (wpAny_extend_range (s:={s with heap:=s.heap.push {cls:=.type "list",data:=.seq ([]:List Value).toArray}})
  (R:=λr s'=>r=.ok (.ret (.ref s.heap.objs.size))/\∃(h':Heap) (tk:Nat) (acc:Array Value) (c:Nat),s'={s with heap:=h',toks:=tk}/\(∀b o,b≠s.heap.objs.size->(s.heap.push {cls:=.type "list",data:=.seq ([]:List Value).toArray}).get? b=some o->h'.get? b=some o)/\
   h'.get? s.heap.objs.size=some {cls:=.type "list",dict:=none,data:=.seq acc c,slots:=#[]}/\ItemsOf (λi v=>∃t,v=.int (0+i*1) t) acc n)
  hh (Yc _ hr) (small_one (by omega) (by omega) (by omega) (by omega)) (by rw[rangeSize_one];split<;>omega) (by omega) _ _ 0 (Yo _ rfl) λh' tk acc c kp here ah=>⟨rfl,h',tk,acc,c,rfl,kp,here,ah⟩) (λfin s' z=>?_) λe s' z=>?_
 ·cases fin with
  |done f=>grind
  |again c'=>exact⟨z.1,codeAny_mono z.2 λr sf hr=>by obtain⟨rfl,hz⟩:=hr;exact Zer sf hz⟩
 ·grind
theorem ZbR(r:Addr)(n:Nat)(t u v:Tok)(hn:n<=1000):
  Meets (Builtin.«tuple.__new__» ⟨[.type "tuple",.ref r],[]⟩) (λA R s=>A.handled=none/\IsRange s.heap r 0 (n:Int) 1 t u v/\∀(h':Heap) (tk:Nat) (acc:Array Value),(∀b o,s.heap.get? b=some o->h'.get? b=some o)->ItemsOf (λi v=>∃t,v=.int (0+i*1) t) acc n->
   R (.ok (.ret (.ref h'.objs.size))) {s with heap:=h'.push {cls:=.type "tuple",data:=.seq acc},toks:=tk}):=
 .of_wp λprog w A R s h=>by
  obtain⟨hp,g,d,tk,os⟩:=s;obtain⟨hh,ht,q⟩:=h;have sub:=sub_tuple_self;have ini:=init_tuple_lookup;have mh:=madeHere_tuple;have hh1:A.in1.handled=none:=hh
  wp_walk using PySem.AutoSeq1.wpAny_loadPart' ht,wpAny_typeOf ty,Xj (A:=A.in1) hh1 ht hn
  intro h' tk' acc kp ah;show wpAny _ _ (Builtin.Tuple.tupleExact acc.toList.toArray>>=λv=>ret v) _ _ _;unfold Builtin.Tuple.tupleExact;have lz:acc.toList.toArray.size<=sizeLine:=by
   have e:=ah.1;rw[sizeLine_eq];simp;omega
  refine wpAny_bind (wpAny_newObj_type (wpAny_pure ⟨_,rfl,?_⟩) lz);have e:acc.toList.toArray=acc:=by simp
  rw[e];exact q h' tk' acc kp ah
end
theorem JX(hc:X.calm=true):cY X (.type "tuple") ZbQ:=by
 intro pins s σ H xs us Q I r h;obtain⟨p,n,rfl,hp,hn,q⟩:=h;obtain⟨u,rfl,rx⟩:=vals1 r;cases rx;obtain⟨t,u,v,ho⟩:=I.av p _ hp;refine callType_new PySem.F.called_tuple (by decide) (PySem.F.typeCall_tuple_1 _) (PySem.F.newCall_tuple_1 _) (λobj=>PySem.F.args_object_init_2 obj _) PySem.F.entry_tuple_new (ZbR p n t u v hn) ⟨I.ok.hd hc,ho,λh' tk acc kp ah=>⟨⟨_,Yo _ rfl,rfl⟩,?_⟩⟩;have I1:=I.kept (t':=tk) kp;have vs:Vals ((bh n).map V.int) acc.toList:=by
  refine C8 (by rw[Ya,eM];simp[ah.1]) λi x u e1 e2=>?_;obtain⟨t',rfl⟩:=ah.2 i u (by simpa using e2);have hi:i<n:=by
   have:=(Yh.mp e1).1;rw[Ya,eM] at this;exact this
  rw[Yg,k_ hi] at e1;have e3:=Yq e1;subst e3;exact⟨t',by rw[show(0:Int)+(i:Int)*1=(i:Int) by omega]⟩
 have I2:Inv X pins σ (upd H h'.objs.size (.tup ((bh n).map V.int))) {s with heap:=h'.push {cls:=.type "tuple",data:=.seq acc},toks:=tk}:=
  I1.laid (t':=tk) (λb o e=>Yc _ e) (Yd _) (show cK X.prog X.w _ _ _ (.tup _) from⟨by rw[Ya,eM];exact Jv (jy hn),acc.toList,vs,by simpa using lu.new h' acc⟩)
 exact⟨.ref h'.objs.size,_,I2,rfl,q _ (I1.av.fresh (Yd _))⟩
section
variable {X:Cx}{e e2:Expr}{es:List Expr}{te:TE}{t:TF}{pos:Pos}
end
end L2
namespace L2
open PySem PySem.Spec PyProof.Rows
open PySem.W (Looks InstAt looks_findIn looks_typeIn looks_clsIn looks_mroIn looks_find findObj findIn mroIn clsIn)
section
variable {X:Cx}{B1 B2:Addr}{i:Nat}{n x1 x2:Str}{body Zg4 Zg5:List Stmt}{b1 b2:Stmt}{px1 px2 oS dv pos:Pos}{tb:(St->XK)->TS}{th1 th2:TS}
end
end L2
namespace AF
open L2
theorem DG(n:Nat):(bh n).Nodup:=by
 exact List.Pairwise.map _ (λa b h e=>h (by omega)) List.nodup_range
section
variable {t:List Int}{n:Nat}
end
end AF
namespace L2
open PySem PySem.Spec PyProof.Rows
def Row(K:PySem.W.Frag)(H:Hp)(p:Addr)(ns:List Int):Prop:=aj K H p (ns.map V.int)\/aA K H p (ns.map V.int)
theorem Row.same{K:PySem.W.Frag}{H H':Hp}{p:Addr}{ns:List Int}(e:ai H H')(h:Row K H p ns):Row K H' p ns:=by
 rcases h with h|h;·exact .inl (e.seq h)
 ·exact .inr (e.i4 h)
def full(ns:List Int):Bool:=decide (ns.Perm (bh ns.length))
theorem pG(h:full ns=true):ns.Perm (bh ns.length):=of_decide_eq_true h
theorem qS(h:ns.Perm (bh n)):full ns=true:=decide_eq_true (by rw[h.length_eq,eM];exact h)
theorem Xk(n:Nat):(bh n).Pairwise (·<=·):=by
 unfold bh;rw[Wx];exact List.pairwise_lt_range.imp λh=>by omega
theorem KL:∀{as bs:List Int},as.Perm bs->as.Pairwise (·<=·)->bs.Pairwise (·<=·)->as=bs
 |[],bs,p,_,_=>by
  simp_all
 |a::as,[],p,_,_=>by
  simp_all
 |a::as,b::bs,p,h1,h2=>by
  rw[List.pairwise_cons] at h1 h2;have e:a=b:=by
   have ha:=p.subset Yf;have hb:=p.symm.subset Yf
   grind
  subst e;rw[KL (List.Perm.cons_inv p) h1.2 h2.2]
theorem Xl(p:c9.Perm ns)(h:c9.Pairwise (·<=·)):decide (c9=bh ns.length)=full ns:=by
 unfold full;rw[Wc,decide_eq_true_iff,decide_eq_true_iff];constructor;·grind
 ·intro q;exact KL (p.trans q) h (Xk _)
def QH(K:PySem.W.Frag)(neg:Bool)(tr:TE):TE:=iY (Rt K neg) (m7 (Fm K) (gf tr iU)) (m7 Ml (gf (m7 NL (gf (m7 (xp K) (gf tr iU)) iU)) iU))
theorem Zat{K:PySem.W.Frag}{i:Nat}{neg:Bool}{σ:St}{H:Hp}{p:Addr}{ns:List Int}{Q:VK}(hi:σ[i]?=some (some (.ref p)))(hR:Row K H p ns)(iZ:ns.length<64)(q:∀H',ai H H'->Q (.bl (if neg=true then !full ns else full ns)) H'):
   (QH K neg (gq i)) σ H Q:=by
 refine⟨_,hi,p,ns,rfl,hR,iZ,λl c9 hl pm so=>?_⟩;have g1:ai H (upd H l (.lst (c9.map V.int))):=cj hl _;refine⟨_,hi,p,ns.map V.int,rfl,Row.same g1 hR,_,rfl,λr hr=>⟨r,(ns.map V.int).length,rfl,aS,by rw[Ya];omega,λu hu=>?_⟩⟩;have g3:=(g1.trans (cj hr (.jo 0 (((ns.map V.int).length:Nat):Int)))).trans (cj hu (.lst ((bh (ns.map V.int).length).map V.int)));refine⟨l,u,c9,bh (ns.map V.int).length,rfl,rfl,aj.of ?_,aj.of aS,?_⟩
 ·rw[aQ (bX ((cj hr _) _ _ aS) hu)];exact(cj hr _) _ _ aS
 ·rw[Ya,Xl pm so]
  grind
theorem any_false(n:Nat):(List.replicate n false).any id=false:=by
 induction n with
 |zero=>rfl
 |succ n ih=>grind
section
open PySem.AutoSeq1 (wpAny_loadPart')
open PySem.MeetsSeq PySem.SeqAt
theorem VM(l:Addr)(items:Array Value)(n:Nat)(dd:Option Addr)(sl:Array (Option Value))(x:Value)(e:Value->Bool)(j:Nat)(hj:j<items.size)
  (hit:e items[j]=true)(Hm:∀m (hm:m<items.size),m<j->e items[m]=false):
  Meets (Builtin.«tuple.index» ⟨[.ref l,x],[]⟩)
   (λA R s=>s.heap.get? l=some {cls:=.type "tuple",dict:=dd,data:=.seq items n,slots:=sl}/\(∀y,y∈items->EqAt A.in1 s y x (e y))/\R (.ok (.ret (.int j s.toks))) {s with toks:=s.toks+1}):=
 .of_wp λprog w A R s h=>by
  obtain⟨hp,g,d,tk,os⟩:=s;obtain⟨hl,he,h⟩:=h
  wp_walk using wpAny_loadPart' hl
  show wpAny _ _ (forIn (m:=Sem) [:min items.size items.size] (none,()) _) _ _ _;rw[Std.Legacy.Range.forIn_eq_forIn_range'];refine wpAny_forIn_list _ (λrest b s'=>s'=⟨hp,g,d,tk,os⟩/\∃i,i<=j/\rest=List.range' i (items.size-i)) _ ?_ ?_ _ _ ⟨rfl,0,Yw _,by simp⟩
  ·rintro k rest b s' ⟨rfl,i,hi,hr⟩;have bH:i<items.size:=by omega
   obtain⟨rfl,rA⟩:k=i/\rest=List.range' (i+1) (items.size-(i+1)):=by
    have e:items.size-i=(items.size-(i+1))+1:=by omega
    rw[e,List.range'_succ] at hr;injection hr with h1 h2;exact⟨h1,h2⟩
   rw[Jb bH];refine wpAny_bind (he _ (Array.getElem_mem bH) prog w _ _ ?_);rcases Nat.lt_or_ge k j with hk|hk
   ·rw[Hm k bH hk]
    wp_walk
    exact⟨rfl,k+1,by omega,rA⟩
   ·obtain rfl:k=j:=by omega
    rw[hit]
    wp_walk
    exact⟨_,rfl,h⟩
  ·grind
end
def Zdn(to:TE)(t:TA):TE:=λσ H Q=>to σ H λx H1=>∃(p:Addr) (ns:List Int),x=.ref p/\H1 p=some (.tup (ns.map V.int))/\t σ H1 λvs H2=>∃(z:Int) (j:Nat),vs=[.int z]/\H2 p=some (.tup (ns.map V.int))/\ns[j]?=some z/\(∀m,m<j->ns[m]?≠some z)/\Q (.int (j:Int)) H2
theorem VN:∀{ns:List Int} {us:List Value} {j:Nat} (h:j<us.length),Vals (ns.map V.int) us->∃n t,ns[j]?=some n/\us[j]=.int n t:=by
 intro ns;induction ns with
 |nil=>intro us j h r;cases r;simp at h
 |cons n ns ih=>
  intro us j h r;rw[Wl] at r;cases r with
  |cons r t=>
   cases j with
   |zero=>
    obtain⟨t',rfl⟩:=r;exact⟨n,t',rfl,rfl⟩
   |succ j=>
    obtain⟨n',t',e1,e2⟩:=ih (j:=j) (by simpa using h) t;exact⟨n',t',by simpa using e1,by simpa using e2⟩
theorem ZC(ns:List Int):(ns.map V.int).all iO=true:=by
 induction ns with
 |nil=>rfl
 |cons n ns ih=>rw[Wl,Je,ih];rfl
theorem Kj(ho:PE X o to)(ha:PA X [e] t)
  (lI:attributeBase o "index" X.env (eval o X.env)=eval o X.env:=by rfl)
  (GB:((backTo ck (starEach [e] X.env)).all (λx=>!x.1)&&(backToKw ck (keywordEach [] X.env)).all (λx=>x.1.isSome)
   &&decide ([e].length+([]:List Keyword).length+(if([]:List Keyword).isEmpty then 0 else 1)<30))=true:=by rfl)
  (lJ:(apos.endLine==ck.line)=true:=by rfl)(hs:starEach [e] X.env=(false,eval e X.env)::starEach [] X.env:=by rfl):
  PE X (.Call (.Attribute o "index" apos) [e] [] ck) (Zdn to t):=by
 intro pins s σ H Q I h;refine wpAny_Call_method_late lI GB lJ rfl (az (ho pins s σ H _ I h) λv s1 zq=>?_);obtain⟨x,H1,I1,r1,p,ns,ex,hp,q1⟩:=zq;subst ex;obtain rfl:v=Value.ref p:=r1;obtain⟨_,_,_,ob,g,oc,_,_,od⟩:=(show cK X.prog X.w H1 s1.heap p (.tup (ns.map V.int)) from I1.av p _ hp);refine⟨"tuple","tuple.index",F.plainAttrs_tuple,F.slot_tuple_index,F.type_tuple_index,⟨ob,g,oc⟩,λa ea=>by cases ea;exact⟨ob,g,od⟩,?_⟩;have hA:=ha ck pins s1 σ H1 _ I1 q1;rw[hs] at hA⊢;refine Calls.callWith_builtin rfl (Calls.evalArgs_plain ?_);refine az hA λus s2 zq=>?_;obtain⟨vs,H2,I2,r2,z,j,ev,dv,hj,Hm,q2⟩:=zq;subst ev;obtain⟨u,rfl,ru⟩:=r2.one;obtain⟨tz,rfl⟩:=ru;obtain⟨_,ah,rv,⟨cls,dd,data,sl⟩,g2,Sz,n2,SA,_⟩:=(show cK X.prog X.w H2 s2.heap p (.tup (ns.map V.int)) from I2.av p _ dv);simp only at Sz SA;subst Sz SA;have hlen:ah.length=ns.length:=by have:=rv.length;rw[Ya] at this;omega
 have SD:j<ah.length:=by rw[hlen];exact(Yh.mp hj).1
 have ix:∀m (hm:m<ah.length),gX (.int z) ah[m]=decide (ns[m]?=some z):=λm hm=>by
  obtain⟨n',t',e1,e2⟩:=VN hm rv;rw[e1,e2];show(n'==z)=decide (some n'=some z)
  grind
 refine call_meets F.slot_tuple_index ⟨_,g2,rfl⟩ F.entry_tuple_index (F.args_tuple_index_2 _ _) (VM p ah.toArray n2 dd sl (.int z tz) (gX (.int z)) j (by rw[Yv];exact SD) ?_ ?_) ⟨g2,?_,?_⟩;·rw[List.getElem_toArray,ix j SD];exact decide_eq_true hj
 ·intro m hm bH;rw[List.getElem_toArray,ix m (by simpa using hm)];exact decide_eq_false (Hm m bH)
 ·intro y hy;exact wm (x:=.int z) ⟨tz,rfl⟩ rfl rv (ZC ns) y (by simpa using hy)
 ·exact⟨.int _,H2,I2.tok _,⟨_,rfl⟩,q2⟩
section
variable {κ:Type}[DecidableEq κ]
def aO(kvs:List (κ×V))(k:κ):Option V:=(kvs.find? λkv=>decide (kv.1=k)).map (·.2)
def putK(kvs:List (κ×V))(k:κ)(v:V):List (κ×V):=
 if(kvs.any λkv=>decide (kv.1=k))=true then kvs.map (λkv=>if kv.1=k then(kv.1,v) else kv) else kvs++[(k,v)]
def gm(kvs:List (κ×V))(k:κ):List (κ×V):=kvs.filter λkv=>decide (kv.1≠k)
theorem fE{p:κ×V}{r:List (κ×V)}{k:κ}(e:p.1=k):aO (p::r) k=some p.2:=by simp[aO,J8,e]
theorem eX{p:κ×V}{r:List (κ×V)}{k:κ}(e:¬p.1=k):aO (p::r) k=aO r k:=by simp[aO,J8,e]
theorem ug(k:κ):∀kvs:List (κ×V),(kvs.any λkv=>decide (kv.1=k))=(aO kvs k).isSome
 |[]=>rfl
 |p::r=>by
  rw[Jn];by_cases e:p.1=k;·simp only[fE e,decide_eq_true e,Bool.true_or,Option.isSome_some]
  ·rw[eX e,decide_eq_false e,J6];exact ug k r
theorem Mr(k j:κ)(y:V):∀kvs:List (κ×V),aO (kvs.map λkv=>if kv.1=k then(kv.1,y) else kv) j=(aO kvs j).map λx=>if j=k then y else x
 |[]=>rfl
 |p::r=>by
  have ih:=Mr k j y r;rw[Wl];by_cases h:p.1=k
  ·rw[if_pos h];by_cases e:p.1=j;·rw[fE (p:=(p.1,y)) e,fE e,Option.map_some,if_pos (e.symm.trans h)]
   ·rw[eX (p:=(p.1,y)) e,eX e,ih]
  ·rw[if_neg h];by_cases e:p.1=j;·rw[fE e,fE e,Option.map_some,if_neg (λz=>h (e.trans z))]
   ·rw[eX e,eX e,ih]
theorem t8(k j:κ)(y:V):∀kvs:List (κ×V),aO kvs k=none->aO (kvs++[(k,y)]) j=if j=k then some y else aO kvs j
 |[],_=>by
  by_cases e:k=j;·rw[if_pos e.symm];exact fE (p:=(k,y)) e
  ·rw[if_neg (λz=>e z.symm)];exact eX (p:=(k,y)) e
 |p::r,hn=>by
  rw[SE];have hk:¬p.1=k:=λz=>by rw[fE z] at hn;cases hn
  rw[eX hk] at hn;by_cases e:p.1=j;·rw[fE e,fE e,if_neg (λz=>hk (e.trans z))]
  ·rw[eX e,eX e,(t8 k j y r hn)]
theorem Ms(kvs:List (κ×V))(k j:κ)(y:V):aO (putK kvs k y) j=if j=k then some y else aO kvs j:=by
 unfold putK;by_cases a:(kvs.any λkv=>decide (kv.1=k))=true
 ·rw[if_pos a,Mr];rw[ug] at a;by_cases e:j=k
  ·obtain⟨x,hx⟩:=Jc.mp a
   grind
  ·simp_all
 ·rw[if_neg a];refine t8 k j y kvs ?_;rw[ug] at a;cases q:aO kvs k with
  |none=>rfl
  |some x=>grind
theorem vV(kvs:List (κ×V))(k:κ)(v:V):(putK kvs k v).length<=kvs.length+1:=by
 unfold putK
 grind
theorem ke{kvs:List (κ×V)}{k:κ}(v:V)(h:aO kvs k=none):putK kvs k v=kvs++[(k,v)]:=by
 unfold putK;rw[ug,h];rfl
theorem fQ.t9(r:fQ o u):o.isSome=u.isSome:=by
 cases o with
 |none=>cases u with
  |none=>rfl
  |some _=>exact(show False from r).elim
 |some _=>cases u with
  |none=>exact(show False from r).elim
  |some _=>rfl
theorem fQ.getD(r:fQ o u)(rd:RelV d d'):RelV (o.getD d) (u.getD d'):=by
 cases o with
 |none=>cases u with
  |none=>exact rd
  |some _=>exact(show False from r).elim
 |some _=>cases u with
  |none=>exact(show False from r).elim
  |some _=>exact r
theorem KV.val{kvs:List (κ×V)}{vs:List (κ×Value)}(r:KV kvs vs)(k:κ):fQ (aO kvs k) (valueAt vs k):=by
 unfold KV at r;induction r with
 |nil=>exact True.intro
 |@cons p q ps qs h t ih=>
  obtain⟨h1,h2⟩:=h;by_cases e:p.1=k
  ·have e':q.1=k:=h1.symm.trans e;have b:valueAt (q::qs) k=some q.2:=by simp[valueAt,J8,e']
   rw[fE e,b];exact h2
  ·have e':¬q.1=k:=λz=>e (h1.trans z);have b:valueAt (q::qs) k=valueAt qs k:=by simp[valueAt,J8,e']
   rw[eX e,b];exact ih
theorem KV.any(r:KV kvs vs)(k:κ):(kvs.any λkv=>decide (kv.1=k))=vs.any λkv=>decide (kv.1=k):=by
 induction r with
 |nil=>rfl
 |cons h t ih=>grind
theorem KV.GI(r:KV kvs vs)(k:κ)(ry:RelV y u):
  KV (kvs.map λkv=>if kv.1=k then(kv.1,y) else kv) (vs.map λkv=>if kv.1=k then(kv.1,u) else kv):=by
 induction r with
 |nil=>exact .nil
 |@cons p q ps qs h t ih=>
  refine .cons ?_ ih
  grind
theorem KV.put(r:KV kvs vs)(k:κ)(ry:RelV y u):KV (putK kvs k y) (stored vs k u):=by
 unfold putK stored;rw[r.any k];by_cases e:(vs.any λkv=>decide (kv.1=k))=true;·rw[if_pos e,if_pos e];exact r.GI k ry
 ·rw[if_neg e,if_neg e];exact Paired.snoc r ⟨rfl,ry⟩
theorem KV.drop(r:KV kvs vs)(k:κ):KV (gm kvs k) (without vs k):=by
 unfold gm without;induction r with
 |nil=>exact .nil
 |@cons p q ps qs h t ih=>
  obtain⟨h1,h2⟩:=h;rw[Wb,Wb];by_cases e:p.1=k;·grind
  ·have e':¬q.1=k:=λz=>e (h1.trans z);have a:decide (p.1≠k)=true:=by simp[e]
   have b:decide (q.1≠k)=true:=by simp[e']
   rw[if_pos a,if_pos b];exact .cons ⟨h1,h2⟩ ih
theorem KV.keys{kvs:List (κ×V)}{vs:List (κ×Value)}(r:KV kvs vs):kvs.map (·.1)=vs.map (·.1):=by
 induction r with
 |nil=>rfl
 |cons h t ih=>grind
theorem KV.length(r:KV kvs vs):kvs.length=vs.length:=Paired.length r
theorem Mt(kvs:List (κ×V))(k:κ):(gm kvs k).length<=kvs.length:=Wh _ _
end
theorem lK(r:RelV (kV k) u):(de P w).is k u=true:=by
 cases k with
 |inl i=>obtain⟨t,e⟩:=(show ∃t,u=Value.int i t from r);subst e;exact Xe P w i t
 |inr x=>obtain⟨t,e⟩:=(show ∃t,u=Value.str x t from r);subst e;exact Xf P w x t
theorem Ls:∀{ks:List Key} {us:List Value},Vals (ks.map kV) us->ItemsAre (de P w) ks us
 |[],_,r=>by rw[List.map_nil] at r;cases r;exact .nil
 |k::ks,_,r=>by
  cases r with
  |cons h t=>exact .cons (lK h) (Ls t)
abbrev KT(H:Hp):List (List Key×V)->List (List Key×Addr×Value)->Prop:=Paired λp q=>p.1=q.1/\H q.2.1=some (.tup (p.1.map kV))/\RelV p.2 q.2.2
theorem KT.val{H:Hp}{kvs:List (List Key×V)}{xs:List (List Key×Addr×Value)}(r:KT H kvs xs)(k:List Key):fQ (aO kvs k) ((atKey xs k).map (·.2)):=by
 induction r with
 |nil=>exact True.intro
 |@cons p q ps qs h t ih=>
  obtain⟨h1,_,h2⟩:=h;by_cases e:p.1=k
  ·have e':q.1=k:=h1.symm.trans e;have b:atKey (q::qs) k=some q.2:=by simp[atKey,e']
   rw[fE e,b];exact h2
  ·have e':¬q.1=k:=λz=>e (h1.trans z);have b:atKey (q::qs) k=atKey qs k:=by simp[atKey,e']
   rw[eX e,b];exact ih
theorem KT.GI(r:KT H kvs xs)(k:List Key)(ry:RelV y u):
  KT H (kvs.map λkv=>if kv.1=k then(kv.1,y) else kv) (xs.map (putAt k u)):=by
 induction r with
 |nil=>exact .nil
 |@cons p q ps qs h t ih=>
  refine .cons ?_ ih;unfold putAt
  grind
theorem KT.put(r:KT H kvs xs)(k:List Key)(hb:H b=some (.tup (k.map kV)))(ry:RelV y u):
  KT H (putK kvs k y) (storedH xs k b u):=by
 have e:(kvs.any λkv=>decide (kv.1=k))=(atKey xs k).isSome:=by
  rw[ug,(r.val k).t9,SF]
 unfold putK storedH;rw[e];by_cases q:(atKey xs k).isSome=true;·rw[if_pos q,if_pos q];exact r.GI k ry
 ·rw[if_neg q,if_neg q];exact Paired.snoc r ⟨rfl,hb,ry⟩
theorem KT.keeps(r:KT H kvs xs)(ht:∀b ys,H b=some (.tup ys)->H' b=some (.tup ys)):KT H' kvs xs:=
 Paired.bw r λ_ _ z=>⟨z.1,ht _ _ z.2.1,z.2.2⟩
section
variable {P:Program}{w:World}{H:Hp}{h:Heap}{a:Addr}
theorem QI(ok:dh P w H h)(e:Rd H a u):cK P w H h a u:=e.ok ok
theorem ow(ok:dh P w H h)(e:Rd H a (.dK kvs)):kvs.length<=sizeLine/\(a==sysModules)=false/\∃vs,KV kvs vs/\h.DictOf (de P w) a vs:=
 show cK P w H h a (.dK kvs) from QI ok e
theorem kz(ok:dh P w H h)(e:H a=some (.dK kvs)):kvs.length<=sizeLine/\(a==sysModules)=false/\∃vs,KV kvs vs/\h.DictOf (de P w) a vs:=ow ok (.inl e)
theorem pR(ok:dh P w H h)(e:H a=some (.tup (ks.map kV))):(tupleKind (de P w)).is h ks a:=by
 obtain⟨_,ah,r,o,h1,h2,n,h3,_⟩:=(show cK P w H h a (.tup (ks.map kV)) from ok a _ e);exact⟨o,ah.toArray,n,h1,h2,h3,by simpa using Ls r⟩
theorem pV(ok:dh P w H h)(e:Rd H a (.dT kvs)):kvs.length<=sizeLine/\(a==sysModules)=false/\
  ∃xs,KT H kvs xs/\h.DictOfH (tupleKind (de P w)) a xs:=by
 obtain⟨z,y,xs,r,o,es,ep,h1,h2,h3,h4,h5⟩:=(show cK P w H h a (.dT kvs) from QI ok e);refine⟨z,y,xs,r,o,es,ep,h1,h2,h3,h4,λx hx=>?_,h5⟩;have all:∀{l:List (List Key×V)} {m:List (List Key×Addr×Value)},KT H l m->∀x∈m,(tupleKind (de P w)).is h x.1 x.2.1:=by
  intro l m q;induction q with
  |nil=>grind
  |@cons p q ps qs hq t ih=>
   intro x hx;rcases Yp.mp hx with e|hx
   ·subst e;exact pR ok (by rw[←hq.1];exact hq.2.1)
   ·exact ih x hx
 grind
theorem QJ(ok:dh P w H h)(e:H a=some (.dT kvs)):kvs.length<=sizeLine/\(a==sysModules)=false/\
  ∃xs,KT H kvs xs/\h.DictOfH (tupleKind (de P w)) a xs:=pV ok (.inl e)
end
def dX(H:Hp)(a:Addr)(y:V)(r:Option V):Prop:=
 (∃kvs k,Rd H a (.dK kvs)/\y=kV k/\r=aO kvs k)\/∃kvs k b,Rd H a (.dT kvs)/\y=.ref b/\H b=some (.tup (k.map kV))/\r=aO kvs k
def rO(H:Hp)(a:Addr)(y v:V)(H':Hp):Prop:=
 (∃kvs k,H a=some (.dK kvs)/\y=kV k/\kvs.length<sizeLine/\H'=upd H a (.dK (putK kvs k v)))\/
 ∃kvs k b,H a=some (.dT kvs)/\y=.ref b/\H b=some (.tup (k.map kV))/\kvs.length<sizeLine/\H'=upd H a (.dT (putK kvs k v))
theorem dX.k{H:Hp}{a:Addr}{kvs:List (Key×V)}{k:Key}(e:H a=some (.dK kvs)):dX H a (kV k) (aO kvs k):=.inl ⟨kvs,k,.inl e,rfl,rfl⟩
theorem dX.t{H:Hp}{a b:Addr}{kvs:List (List Key×V)}{k:List Key}(e:H a=some (.dT kvs))(eb:H b=some (.tup (k.map kV))):dX H a (.ref b) (aO kvs k):=.inr ⟨kvs,k,b,.inl e,rfl,eb,rfl⟩
theorem rO.k{H:Hp}{a:Addr}{kvs:List (Key×V)}{k:Key}{v:V}(e:H a=some (.dK kvs))(hl:kvs.length<sizeLine):rO H a (kV k) v (upd H a (.dK (putK kvs k v))):=.inl ⟨kvs,k,e,rfl,hl,rfl⟩
theorem rO.t{H:Hp}{a b:Addr}{kvs:List (List Key×V)}{k:List Key}{v:V}(e:H a=some (.dT kvs))(eb:H b=some (.tup (k.map kV)))(hl:kvs.length<sizeLine):
  rO H a (.ref b) v (upd H a (.dT (putK kvs k v))):=.inr ⟨kvs,k,b,e,rfl,eb,hl,rfl⟩
section
variable {X:Cx}{pins:List (Addr×Obj)}{σ:St}{H:Hp}{s:Shared}{a:Addr}{y v:V}{u r:Value}{o:Option V}{A:Around}{E:Value->Shared->Prop}
theorem Inv.big(I:Inv X pins σ H s):sysModules<s.heap.objs.size:=by
 exact Nat.lt_trans (by decide) ((I.mod.glob.keeps I.bk).lt)
theorem ZD(hu:A.units+1<cLine)(I:Inv X pins σ H s)(g:dX H a y (some v))(ry:RelV y u)(h:∀w' s',Inv X pins σ H s'->RelV v w'->Q w' s'):
  wpAny (model X.prog X.w) A (getItem (.ref a) u) Q E s:=by
 rcases g with⟨kvs,k,e,ey,l⟩|⟨kvs,k,b,e,ey,eb,l⟩
 ·subst ey;obtain⟨z,hd,vs,rel,dd⟩:=ow I.av e;obtain⟨w',hw,fU⟩:=fQ.some_of (v:=v) (o:=valueAt vs k) (by rw[l];exact rel.val k);exact wpAny_getItem_of (lK ry) dd.mapOf hw (h w' _ (I.tok _) fU)
 ·subst ey;cases(show u=Value.ref b from ry);obtain⟨z,hd,xs,rel,dd⟩:=pV I.av e;obtain⟨w',hw,fU⟩:=fQ.some_of (v:=v) (o:=(atKey xs k).map (·.2)) (by rw[l];exact rel.val k);obtain⟨p,hp,dv⟩:=Option.map_eq_some_iff.mp hw;refine wpAny_getItem_heap (tupleKind_room_in1 hu) (pR I.av eb) dd hp ?_;rw[dv];exact h w' _ (I.tok _) fU
theorem Zfg(hu:A.units+1<cLine)(I:Inv X pins σ H s)(g:dX H a y o)(ry:RelV y u)(h:∀s',Inv X pins σ H s'->Q (.bool o.isSome) s'):
  wpAny (model X.prog X.w) A (compareOp .In u (.ref a)) Q E s:=by
 rcases g with⟨kvs,k,e,ey,l⟩|⟨kvs,k,b,e,ey,eb,l⟩
 ·subst ey;obtain⟨z,hd,vs,rel,dd⟩:=ow I.av e;refine wpAny_in_of (lK ry) hd dd.mapOf ?_;rw[←(rel.val k).t9,←l];exact h _ (I.tok _)
 ·subst ey;cases(show u=Value.ref b from ry);obtain⟨z,hd,xs,rel,dd⟩:=pV I.av e;refine wpAny_in_heap (tupleKind_room_in1 hu) (pR I.av eb) hd dd ?_;have q:=(rel.val k).t9;rw[SF] at q;rw[←q,←l];exact h _ (I.tok _)
theorem ZbS(hu:A.units+1<cLine)(I:Inv X pins σ H s)(g:dX H a y o)(ry:RelV y u)(h:∀s',Inv X pins σ H s'->Q (.bool (!o.isSome)) s'):
  wpAny (model X.prog X.w) A (compareOp .NotIn u (.ref a)) Q E s:=by
 rcases g with⟨kvs,k,e,ey,l⟩|⟨kvs,k,b,e,ey,eb,l⟩
 ·subst ey;obtain⟨z,hd,vs,rel,dd⟩:=ow I.av e;refine wpAny_notIn_of (lK ry) hd dd.mapOf ?_;rw[←(rel.val k).t9,←l];exact h _ (I.tok _)
 ·subst ey;cases(show u=Value.ref b from ry);obtain⟨z,hd,xs,rel,dd⟩:=pV I.av e;refine wpAny_notIn_heap (tupleKind_room_in1 hu) (pR I.av eb) hd dd ?_;have q:=(rel.val k).t9;rw[SF] at q;rw[←q,←l];exact h _ (I.tok _)
theorem qT(I:Inv X pins σ H s)(mu:xw (H a))(hs:Heap.SameBut a s.heap h')(he:∃q,h'.get? a=some q)(new:cK X.prog X.w (upd H a ob) h' a ob):
  Inv X pins σ (upd H a ob) {s with heap:=h',toks:=t'}:=
 I.write (x:=a) (e:=a) mu (.inl rfl) (λb q hb z=>(hs.2 b hb).trans z) he new
theorem wQ(z:kvs.length<=sizeLine)(hd:(a==sysModules)=false)(rel:KV kvs vs)(dd:h'.DictOf (de P w) a vs):
  cK P w H' h' a (.dK kvs):=⟨z,hd,vs,rel,dd⟩
theorem Lu(hu:A.units+1<cLine)(I:Inv X pins σ H s)(g:rO H a y v H')(ry:RelV y u)(rv:RelV v r)(h:∀s',Inv X pins σ H' s'->Q () s'):
  wpAny (model X.prog X.w) A (setItem (.ref a) u r) Q E s:=by
 rcases g with⟨kvs,k,e,ey,l,eH⟩|⟨kvs,k,b,e,ey,eb,l,eH⟩
 ·subst ey eH;obtain⟨z,hd,vs,rel,dd⟩:=kz I.av e;have hz:vs.length<=sizeLine:=by rw[←rel.length];exact z
  have hl:(putK kvs k v).length<=sizeLine:=by have:=vV kvs k v;omega
  refine wpAny_setItem_pairs (hsz:=hz) (lK ry) dd λh' iq hs=>h _ ?_;have he:∃q,h'.get? a=some q:=let⟨q,_,_,hq,_⟩:=iq;⟨q,hq⟩;exact qT I (by rw[e];exact True.intro) hs he (wQ hl hd (rel.put k rv) iq)
 ·subst ey eH;cases(show u=Value.ref b from ry);obtain⟨z,hd,xs,rel,dd⟩:=QJ I.av e;have hz:xs.length<=sizeLine:=by rw[←Paired.length rel];exact z
  have hl:(putK kvs k v).length<=sizeLine:=by have:=vV kvs k v;omega
  refine wpAny_setItem_heap (hsz:=hz) (tupleKind_room_in1 hu) (pR I.av eb) dd λh' iq hs=>h _ ?_;obtain⟨q,es,ep,hq,h2,h3,h4,_,h5⟩:=iq;refine qT I (by rw[e];exact True.intro) hs ⟨q,hq⟩ ⟨hl,hd,_,(rel.put k eb rv).keeps λc ys ec=>?_,q,es,ep,hq,h2,h3,h4,h5⟩;rw[aQ (Qs ec e (λz=>nomatch z))];exact ec
end
section
variable {X:Cx}{pins:List (Addr×Obj)}{σ:St}{H:Hp}{s:Shared}{a:Addr}{kvs:List (Key×V)}{k:Key}{u:Value}{A:Around}{E:Value->Shared->Prop}
theorem ZE(I:Inv X pins σ H s)(e:H a=some (.dK kvs))(ry:RelV (kV k) u)(l:(aO kvs k).isSome=true)(h:∀s',Inv X pins σ (upd H a (.dK (gm kvs k))) s'->Q () s'):
  wpAny (model X.prog X.w) A (delItem (.ref a) u) Q E s:=by
 obtain⟨z,hd,vs,rel,dd⟩:=kz I.av e;refine wpAny_delItem_slot dd.typeIs (by decide) slot_dict_delitem
  (call_meetsIn slot_dict_delitem dd.typeIs PySem.F.entry_dict_delitem (PySem.F.args_dict_delitem_2 _ _) (meets_dict_delitem_pairs (de X.prog X.w) a (lK ry)) ⟨vs,dd,by rw[←rel.length];exact z,by rw[←(rel.val k).t9];exact l,λh' iq hs=>h _ ?_⟩)
 have he:∃q,h'.get? a=some q:=let⟨q,_,_,hq,_⟩:=iq;⟨q,hq⟩;exact qT I (by rw[e];exact True.intro) hs he (wQ (Y4 (Mt kvs k) z) hd (rel.drop k) iq)
theorem Zes(I:Inv X pins σ H s)(e:H a=some (.dK kvs))(ry:RelV (kV k) u)(l:aO kvs k=some v)(hm:more=[]\/∃x,more=[x])
  (h:∀w' s',Inv X pins σ (upd H a (.dK (gm kvs k))) s'->RelV v w'->Q w' s'):wpAny (model X.prog X.w) A (call (.builtin "dict.pop") (.ref a::u::more)) Q E s:=by
 obtain⟨z,hd,vs,rel,dd⟩:=kz I.av e;obtain⟨w',hw,fU⟩:=fQ.some_of (v:=v) (o:=valueAt vs k) (by rw[←l];exact rel.val k);have hp:(keyPart u).isSome=true:=by
  cases k with
  |inl i=>obtain⟨t,q⟩:=(show ∃t,u=Value.int i t from ry);subst q;rfl
  |inr x=>obtain⟨t,q⟩:=(show ∃t,u=Value.str x t from ry);subst q;rfl
 have ha:argsOk "dict.pop" ⟨.ref a::u::more,[]⟩:=by
  rcases hm with q|⟨x,q⟩;·subst q;exact PySem.F.args_dict_pop_2 _ _
  ·subst q;exact PySem.F.args_dict_pop_3 _ _ _
 refine call_meetsIn slot_dict_pop dd.typeIs PySem.F.entry_dict_pop ha (meets_dict_pop_there (de X.prog X.w) a (lK ry) more hm hp)
  ⟨vs,w',dd,by rw[←rel.length];exact z,hw,λh' iq hs=>h w' _ ?_ fU⟩
 have he:∃q,h'.get? a=some q:=let⟨q,_,_,hq,_⟩:=iq;⟨q,hq⟩;exact qT I (by rw[e];exact True.intro) hs he (wQ (Y4 (Mt kvs k) z) hd (rel.drop k) iq)
theorem Zet(I:Inv X pins σ H s)(e:Rd H a (.dK kvs))(h:∀t s',Inv X pins σ H s'->Q (.int kvs.length t) s'):wpAny (model X.prog X.w) A (call (.builtin "len") [.ref a]) Q E s:=by
 obtain⟨z,hd,vs,rel,dd⟩:=ow I.av e;refine call_len_dict hd dd (by rw[←rel.length];rw[sizeLine_eq] at z;omega) ?_;rw[←rel.length];exact h _ _ (I.tok _)
end
def Rw(i:Expr):Prop:=∀ov iv,subscripted i false ov iv=operate [ov,iv] (getItem ov iv)
theorem ZbT{prog:Program}{w:World}{A:Around}{E:Value->Shared->Prop}{s:Shared}{env:Env}{value slice:Expr}{pos:Pos}{T id:String}{Q:Value->Shared->Prop}
  (hl:typeLookup (.type T) "__getitem__"=pure (some (.builtin id)))(hs:Rw slice)
  (h:wpAny (model prog w) A (eval value env) (λo bC=>wpAny (model prog w) A (eval slice env) (λi dW=>dW.TypeIs o T/\wpAny (model prog w) A (getItem o i) Q E dW) E bC) E s):
  wpAny (model prog w) A (eval (.Subscript value slice pos) env) Q E s:=by
 refine Subscript_ (wpAny_mono h (λo bC gu=>wpAny_mono gu (λi dW oC=>?_) λ_ _ x=>x) λ_ _ x=>x);obtain⟨hT,oC⟩:=oC;refine wpAny_bind (wpAny_bind (wpAny_specialOf hT hl ?_));have fin:wpAny (model prog w) A (subscripted slice false o i) (λr dO=>wpAny (model prog w) A (letTemporaryGo value o r>>=λ_=>pure r) Q E dO) E dW:=by
  rw[hs o i];exact wpAny_operating (wpAny_mono oC (λr dO uJ=>wpAny_bind (wpAny_letTemporaryGo (wpAny_pure uJ))) λ_ _ x=>x)
 first
  |exact wpAny_pure (wpAny_bind fin)
  |exact wpAny_bind (wpAny_pure (wpAny_bind fin))
  |exact wpAny_bind fin
theorem Xm(I:Inv X pins σ H s)(g:dX H a y o):s.TypeIs (.ref a) "dict":=by
 rcases g with⟨kvs,k,e,_,_⟩|⟨kvs,k,b,e,_,_,_⟩
 ·obtain⟨_,_,vs,_,dd⟩:=ow I.av e;exact dd.typeIs
 ·obtain⟨_,_,xs,_,dd⟩:=pV I.av e;exact dd.typeIs
inductive NP(Q:VK)(x:V)(y:V)(H2:Hp):Prop
 |mk (a v) (aC:x=.ref a) (aT:dX H2 a y (some v)) (bc:Q v H2):NP Q x y H2
def Zeu(td ty:TE):TE:=λσ H Q=>td σ H λx H1=>ty σ H1 λy H2=>NP Q x y H2
inductive Pz(Q:VK)(y:V)(x:V)(H2:Hp):Prop
 |mk (a o) (aC:x=.ref a) (aT:dX H2 a y o) (bc:Q (.bl o.isSome) H2):Pz Q y x H2
def Zfh(ty td:TE):TE:=λσ H Q=>ty σ H λy H1=>td σ H1 λx H2=>Pz Q y x H2
inductive Lv(Q:VK)(y:V)(x:V)(H2:Hp):Prop
 |mk (a o) (aC:x=.ref a) (aT:dX H2 a y o) (bc:Q (.bl (!o.isSome)) H2):Lv Q y x H2
def ZbU(ty td:TE):TE:=λσ H Q=>ty σ H λy H1=>td σ H1 λx H2=>Lv Q y x H2
section
variable {X:Cx}{o i e value:Expr}{pos pos' rL:Pos}{td ty tv:TE}
theorem c_(hu:X.A.units+1<cLine)(ho:PE X o td)(hi:PE X i ty)(hs:Rw i):PE X (.Subscript o i pos) (Zeu td ty):=by
 intro pins s σ H Q I h;refine ZbT PySem.F.slot_dict_getitem.lookup hs (az (ho pins s σ H _ I h) λu s1 zq=>?_);obtain⟨x,H1,I1,rx,q1⟩:=zq;refine az (hi pins s1 σ H1 _ I1 q1) λiv s2 zq=>?_;obtain⟨y,H2,I2,ry,a,v,ex,g,q2⟩:=zq;subst ex;obtain rfl:u=Value.ref a:=rx;exact⟨Xm I2 g,ZD hu I2 g ry λw' s3 I3 fU=>⟨v,H2,I3,fU,q2⟩⟩
theorem zL(hu:X.A.units+1<cLine)(hi:PE X i ty)(ho:PE X o td):PC X .In i o (Zfh ty td):=by
 intro pins s σ H Q I h;refine az (hi pins s σ H _ I h) λiv s1 zq=>?_;obtain⟨y,H1,I1,ry,q1⟩:=zq;refine az (ho pins s1 σ H1 _ I1 q1) λu s2 zq=>?_;obtain⟨x,H2,I2,rx,a,ov,ex,g,q2⟩:=zq;subst ex;obtain rfl:u=Value.ref a:=rx;exact Zfg hu I2 g ry λs3 I3=>⟨.bl ov.isSome,H2,I3,rfl,q2⟩
theorem kZ(hu:X.A.units+1<cLine)(hi:PE X i ty)(ho:PE X o td):PC X .NotIn i o (ZbU ty td):=by
 intro pins s σ H Q I h;refine az (hi pins s σ H _ I h) λiv s1 zq=>?_;obtain⟨y,H1,I1,ry,q1⟩:=zq;refine az (ho pins s1 σ H1 _ I1 q1) λu s2 zq=>?_;obtain⟨x,H2,I2,rx,a,ov,ex,g,q2⟩:=zq;subst ex;obtain rfl:u=Value.ref a:=rx;exact ZbS hu I2 g ry λs3 I3=>⟨.bl (!ov.isSome),H2,I3,rfl,q2⟩
end
theorem Mu(h:Heap)(hb:sysModules<h.objs.size):cK P w H (h.push {cls:=.type "dict",data:=.dict #[]}) h.objs.size (.dK []):=
 ⟨Yw _,beq_eq_false_iff_ne.mpr (Ne.symm (Y2 hb)),[],.nil,Heap.DictOf.new h⟩
theorem Zau(h:Heap)(hb:sysModules<h.objs.size):cK P w H (h.push {cls:=.type "dict",data:=.dict #[]}) h.objs.size (.dT []):=
 ⟨Yw _,beq_eq_false_iff_ne.mpr (Ne.symm (Y2 hb)),[],.nil,_,#[],0,Yo _ rfl,⟨rfl,rfl,rfl⟩,rfl,rfl,W1⟩
def Zdo:TE:=λ_ H Q=>∀p,H p=none->Q (.ref p) (upd H p (.dK []))
def Zdp:TE:=λ_ H Q=>∀p,H p=none->Q (.ref p) (upd H p (.dT []))
section
variable {X:Cx}{pos:Pos}
theorem Zav:PE X (.Dict [] [] pos) Zdo:=λpins s σ H Q I h=>
 wpAny_Dict_empty ⟨.ref s.heap.objs.size,_,I.laid (a:=s.heap.objs.size) (o:=.dK []) (t':=s.toks) (λ_ _ q=>Yc _ q) (Yd _) (Mu s.heap I.big),rfl,h _ (I.av.fresh (Yd _))⟩
theorem Zaw:PE X (.Dict [] [] pos) Zdp:=λpins s σ H Q I h=>
 wpAny_Dict_empty ⟨.ref s.heap.objs.size,_,I.laid (a:=s.heap.objs.size) (o:=.dT []) (t':=s.toks) (λ_ _ q=>Yc _ q) (Yd _) (Zau s.heap I.big),rfl,h _ (I.av.fresh (Yd _))⟩
end
def FN:List (TE×TE)->St->Hp->(List (V×V)->Hp->Prop)->Prop
 |[],_,H,Q=>Q [] H
 |(tk,tv)::r,σ,H,Q=>tk σ H λx H1=>tv σ H1 λy H2=>FN r σ H2 λps H3=>Q ((x,y)::ps) H3
abbrev VV:List (V×V)->List (Value×Value)->Prop:=Paired λp q=>RelV p.1 q.1/\RelV p.2 q.2
def AG(X:Cx)(pos:Pos)(keys:List (Option Expr))(values:List Expr)(sA:List (TE×TE)):Prop:=
 ∀(pins:List (Addr×Obj)) (s:Shared) (σ:St) (H:Hp) (Q:List (V×V)->Hp->Prop),Inv X pins σ H s->FN sA σ H Q->
  wpAny (model X.prog X.w) X.A (evalPairs (pairTrees keys values X.env pos)) (λvs s'=>∃ps H',Inv X pins σ H' s'/\VV ps vs/\Q ps H') X.xe s
theorem zu:AG X pos [] [] []:=λpins s σ H Q I h=>pairTrees_nil_walk ⟨[],H,I,.nil,h⟩
theorem jB(hk:PE X k tk)(hv:PE X v tv)(hr:AG X pos ks vs sA):
  AG X pos (some k::ks) (v::vs) ((tk,tv)::sA):=λpins s σ H Q I h=>
 pairTrees_cons_walk (az (hk pins s σ H _ I h) λu s1 ⟨x,H1,I1,rx,q1⟩=>az (hv pins s1 σ H1 _ I1 q1) λw2 s2 ⟨y,H2,I2,ry,q2⟩=>
  az (hr pins s2 σ H2 _ I2 q2) λws s3 ⟨ps,H3,I3,rel,q3⟩=>⟨(x,y)::ps,H3,I3,.cons ⟨rx,ry⟩ rel,q3⟩)
def oj(kvs more:List (Key×V)):List (Key×V):=more.foldl (λacc kv=>putK acc kv.1 kv.2) kvs
theorem KV.merge:∀{more:List (Key×V)} {rs:List (Key×Value)} {kvs:List (Key×V)} {vs:List (Key×Value)},KV more rs->KV kvs vs->KV (oj kvs more) (merged vs rs):=by
 intro more rs kvs vs r;induction r generalizing kvs vs with
 |nil=>intro q;exact q
 |@cons p q ps qs h t ih=>
  intro r0;have e:KV (putK kvs p.1 p.2) (stored vs q.1 q.2):=by
   have:=r0.put p.1 h.2
   grind
  exact ih e
theorem JZ:∀(more kvs:List (Key×V)),(oj kvs more).length<=kvs.length+more.length
 |[],kvs=>by show kvs.length<=kvs.length+0;omega
 |p::r,kvs=>by
  have h1:=JZ r (putK kvs p.1 p.2);have h2:=vV kvs p.1 p.2;show(oj (putK kvs p.1 p.2) r).length<=_
  grind
theorem KN:∀{kvs:List (Key×V)} {ws:List (Value×Value)},VV (kvs.map λkv=>(kV kv.1,kv.2)) ws->∃rs,Carries (de P w) ws rs/\KV kvs rs
 |[],_,r=>by rw[List.map_nil] at r;cases r;exact⟨[],True.intro,.nil⟩
 |p::kvs,_,r=>by
  cases r with
  |@cons a b as bs h t=>
   obtain⟨rs,c,q⟩:=KN t;obtain⟨b1,b2⟩:=b;exact⟨(p.1,b2)::rs,⟨lK h.1,rfl,c⟩,.cons ⟨rfl,h.2⟩ q⟩
def Zev(sA:List (TE×TE)):TE:=λσ H Q=>∀p,H p=none->FN sA σ (upd H p (.dK [])) λps H2=>H2 p=some (.dK [])/\∃kvs:List (Key×V),ps=kvs.map (λkv=>(kV kv.1,kv.2))/\kvs.length<=15/\Q (.ref p) (upd H2 p (.dK (oj [] kvs)))
theorem zw(h:AG X pos keys values sA)(GC:keys.all (·.isSome)=true)(hl:keys.length=values.length)(h0:keys≠[])
  (h15:keys.length<=15):PE X (.Dict keys values pos) (Zev sA):=by
 intro pins s σ H Q I q;refine wpAny_Dict_walk (knd:=de X.prog X.w) GC hl h0 h15 (az (h pins _ σ _ _ (I.laid (λ_ _ q=>Yc _ q) (Yd _) (Mu s.heap I.big)) (q _ (I.av.fresh (Yd s.heap.objs.size)))) λws s2 ⟨ps,H2,I2,rel,e,kvs,ep,lk,q2⟩=>?_);subst ep;obtain⟨rs,c,rk⟩:=KN rel;obtain⟨z,hd,vs0,r0,dd⟩:=kz I2.av e;cases r0;refine⟨rs,c,dd,λh' iq hs=>⟨.ref s.heap.objs.size,_,?_,rfl,q2⟩⟩;have hz:(oj [] kvs).length<=sizeLine:=by
  have h1:=JZ kvs [];rw[List.length_nil] at h1;rw[sizeLine_eq];omega
 exact qT I2 (by rw[e];exact True.intro) hs (let⟨q,_,_,hq,_⟩:=iq;⟨q,hq⟩) (wQ hz hd (rk.merge .nil) iq)
structure M1(X:Cx)(o:Expr)(m:Str)(apos:Pos)(e:Expr)(ck:Pos):Prop where
 base:attributeBase o m X.env (eval o X.env)=eval o X.env
 eT:((backTo ck (starEach [e] X.env)).all (λx=>!x.1)&&(backToKw ck (keywordEach [] X.env)).all (λx=>x.1.isSome)
  &&decide (([e]:List Expr).length+([]:List Keyword).length+(if([]:List Keyword).isEmpty then 0 else 1)<30))=true
 line:(apos.endLine==ck.line)=true
 trees:backTo ck (starEach [e] X.env)=[(false,eval e X.env)]
structure M2(X:Cx)(o:Expr)(m:Str)(apos:Pos)(e f:Expr)(ck:Pos):Prop where
 base:attributeBase o m X.env (eval o X.env)=eval o X.env
 eT:((backTo ck (starEach [e,f] X.env)).all (λx=>!x.1)&&(backToKw ck (keywordEach [] X.env)).all (λx=>x.1.isSome)
  &&decide (([e,f]:List Expr).length+([]:List Keyword).length+(if([]:List Keyword).isEmpty then 0 else 1)<30))=true
 line:(apos.endLine==ck.line)=true
 trees:backTo ck (starEach [e,f] X.env)=[(false,eval e X.env),(false,eval f X.env)]
def xM(H:Hp)(a:Addr):Prop:=(∃kvs,Rd H a (.dK kvs))\/∃kvs,Rd H a (.dT kvs)
theorem q5(I:Inv X pins σ H s)(d:xM H a):
  s.TypeIs (.ref a) "dict"/\(∀b,Value.ref a=.ref b->∃ob,s.heap.get? b=some ob/\ob.dict=none)/\(a==sysModules)=false:=by
 rcases d with⟨kvs,e⟩|⟨kvs,e⟩
 ·obtain⟨_,hd,vs,_,dd⟩:=ow I.av e;refine⟨dd.typeIs,λb q=>?_,hd⟩;cases q;obtain⟨ob,_,_,h1,h2,_⟩:=dd;exact⟨ob,h1,h2.2.1⟩
 ·obtain⟨_,hd,xs,_,dd⟩:=pV I.av e;refine⟨dd.typeIs,λb q=>?_,hd⟩;cases q;obtain⟨ob,_,_,h1,h2,_⟩:=dd;exact⟨ob,h1,h2.2.1⟩
section
variable {X:Cx}{pins:List (Addr×Obj)}{σ:St}{H:Hp}{s:Shared}{a:Addr}{y d:V}{u r:Value}{o:Option V}{A:Around}{E:Value->Shared->Prop}
theorem Zdq(hu:A.units+1<cLine)(I:Inv X pins σ H s)(g:dX H a y o)(ry:RelV y u)(h:∀w' s',Inv X pins σ H s'->RelV (o.getD .ay) w'->Q w' s'):
  wpAny (model X.prog X.w) A (call (.builtin "dict.get") [.ref a,u]) Q E s:=by
 rcases g with⟨kvs,k,e,ey,l⟩|⟨kvs,k,b,e,ey,eb,l⟩
 ·subst ey;obtain⟨z,hd,vs,rel,dd⟩:=ow I.av e;refine call_meetsIn slot_dict_get dd.typeIs entry_dict_get (PySem.F.args_dict_get_2 _ _) (meets_dict_get (de X.prog X.w) a (lK ry) hd) ⟨_,dd.mapOf,h _ _ (I.tok _) ?_⟩;rw[l];exact(rel.val k).getD rfl
 ·subst ey;cases(show u=Value.ref b from ry);obtain⟨z,hd,xs,rel,dd⟩:=pV I.av e;refine call_meetsIn slot_dict_get dd.typeIs entry_dict_get (PySem.F.args_dict_get_2 _ _) (meetsH_dict_get (tupleKind (de X.prog X.w)) a b hd) ⟨tupleKind_room_in1 hu,k,xs,pR I.av eb,dd,h _ _ (I.tok _) ?_⟩;rw[l];exact(rel.val k).getD rfl
theorem Zdr(hu:A.units+1<cLine)(I:Inv X pins σ H s)(g:dX H a y o)(ry:RelV y u)(rd:RelV d r)(h:∀w' s',Inv X pins σ H s'->RelV (o.getD d) w'->Q w' s'):
  wpAny (model X.prog X.w) A (call (.builtin "dict.get") [.ref a,u,r]) Q E s:=by
 rcases g with⟨kvs,k,e,ey,l⟩|⟨kvs,k,b,e,ey,eb,l⟩
 ·subst ey;obtain⟨z,hd,vs,rel,dd⟩:=ow I.av e;refine call_meetsIn slot_dict_get dd.typeIs entry_dict_get (PySem.F.args_dict_get_3 _ _ _) (meets_dict_get_default (de X.prog X.w) a (lK ry) hd r) ⟨_,dd.mapOf,h _ _ (I.tok _) ?_⟩;rw[l];exact(rel.val k).getD rd
 ·subst ey;cases(show u=Value.ref b from ry);obtain⟨z,hd,xs,rel,dd⟩:=pV I.av e;refine call_meetsIn slot_dict_get dd.typeIs entry_dict_get (PySem.F.args_dict_get_3 _ _ _) (meetsH_dict_get_default (tupleKind (de X.prog X.w)) a b hd r) ⟨tupleKind_room_in1 hu,k,xs,pR I.av eb,dd,h _ _ (I.tok _) ?_⟩;rw[l];exact(rel.val k).getD rd
end
def Zds(td ty:TE):TE:=λσ H Q=>td σ H λx H1=>∃a,x=.ref a/\xM H1 a/\ty σ H1 λy H2=>∃o,dX H2 a y o/\Q (o.getD .ay) H2
def Zdt(td ty tx:TE):TE:=λσ H Q=>td σ H λx H1=>∃a,x=.ref a/\xM H1 a/\ty σ H1 λy H2=>tx σ H2 λz H3=>∃o,dX H3 a y o/\Q (o.getD z) H3
section
variable {X:Cx}{o e f:Expr}{apos ck:Pos}{td ty tx:TE}
theorem Zax(hu:X.A.units+1<cLine)(ho:PE X o td)(he:PE X e ty)(m:M1 X o "get" apos e ck):PE X (.Call (.Attribute o "get" apos) [e] [] ck) (Zds td ty):=by
 intro pins s σ H Q I h;refine wpAny_Call_method m.base m.eT m.line plainAttrs_dict slot_dict_get type_dict_get (az (ho pins s σ H _ I h) λu s1 zq=>?_);obtain⟨x,H1,I1,rx,a,ex,d,q1⟩:=zq;subst ex;obtain rfl:u=Value.ref a:=rx;obtain⟨t1,t2,_⟩:=q5 I1 d;refine⟨t1,t2,?_⟩;rw[m.trees];exact Calls.callWith_builtin rfl (Calls.evalArgs_plain (Calls.spliced_cons (az (he pins s1 σ H1 _ I1 q1) λiv s2 ⟨y,H2,I2,ry,ov,g,q2⟩=>Calls.spliced_nil (Zdq hu I2 g ry λw' s3 I3 fU=>⟨_,H2,I3,fU,q2⟩))))
theorem Zay(hu:X.A.units+1<cLine)(ho:PE X o td)(he:PE X e ty)(hf:PE X f tx)(m:M2 X o "get" apos e f ck):PE X (.Call (.Attribute o "get" apos) [e,f] [] ck) (Zdt td ty tx):=by
 intro pins s σ H Q I h;refine wpAny_Call_method m.base m.eT m.line plainAttrs_dict slot_dict_get type_dict_get (az (ho pins s σ H _ I h) λu s1 zq=>?_);obtain⟨x,H1,I1,rx,a,ex,d,q1⟩:=zq;subst ex;obtain rfl:u=Value.ref a:=rx;obtain⟨t1,t2,_⟩:=q5 I1 d;refine⟨t1,t2,?_⟩;rw[m.trees];refine Calls.callWith_builtin rfl (Calls.evalArgs_plain (Calls.spliced_cons (az (he pins s1 σ H1 _ I1 q1) λiv s2 ⟨y,H2,I2,ry,q2⟩=>
  Calls.spliced_cons (az (hf pins s2 σ H2 _ I2 q2) λfv s3 ⟨z,H3,I3,rz,ov,g,q3⟩=>Calls.spliced_nil ?_))))
 exact Zdr hu I3 g ry rz λw' s4 I4 fU=>⟨_,H3,I4,fU,q3⟩
end
section
variable {X:Cx}{pins:List (Addr×Obj)}{σ:St}{H:Hp}{s:Shared}{a:Addr}{kvs:List (Key×V)}{A:Around}{E:Value->Shared->Prop}
end
section
variable {X:Cx}{pins:List (Addr×Obj)}{σ:St}{H:Hp}{s:Shared}{a:Addr}{y:V}{u:Value}{A:Around}{E:Value->Shared->Prop}
end
def uA(P:Program)(w:World)(K:PySem.W.Frag)(mg:Str->Option Value)(base:Heap)(k:Nat)(x:Str)(C:Addr)(ps:List Str)(sp:Sp):Prop:=
 ∃f fd,Mk K C f/\aG P w K mg base aM k f fd ps sp/\Binds K fd ps []/\mg x=some (.ref C)
def bT(P:Program)(w:World)(K:PySem.W.Frag)(mg:Str->Option Value)(base:Heap)(k:Nat)(m:Str)(C:Addr)(ps:List Str)(sp:Sp):Prop:=
 ∃f fd,ig K C/\Meth K C m f/\aG P w K mg base aM k f fd ps sp/\Binds K fd ps []
section
variable {X:Cx}{k j:Nat}{x m:Str}{C:Addr}{ps:List Str}{sp:Sp}{p pos apos:Pos}{o e:Expr}{es:List Expr}{t:TA}{ta:TE}
theorem F9(h:uA X.prog X.w X.K X.mg X.base k x C ps sp)(hr:cZ j X.A)(hj:k+1<=j)(hg:Gl X x)(ha:PA X (e::es) t)(jK:(x==("__debug__":Str))=false:=by decide)
  (he:starEach (e::es) X.env=(false,eval e X.env)::starEach es X.env:=by rfl)(cL:(backTo pos (starEach es X.env)).any (·.1)=false:=by rfl):PE X (.Call (.Name x p) (e::es) [] pos) (QA C sp [] E0 t):=by
 obtain⟨f,fd,M,F,b,hm⟩:=h;exact ZbF M F (hr.mono hj) hg hm b .nil zU ha jK he cL
theorem cC(h:bT X.prog X.w X.K X.mg X.base k m C ps sp)(hr:cZ j X.A)(hj:k<=j)(ho:PE X o ta)(ha:PA X (e::es) t)
  (eB:starEach (e::es) X.env=(false,eval e X.env)::starEach es X.env:=by rfl)(cL:(backTo pos (starEach es X.env)).any (·.1)=false:=by rfl)
  (ht:eval (.Call (.Attribute o m apos) (e::es) [] pos) X.env=(do
   let ov←eval o X.env
   standAt apos.atName
   let(f,first)←holding [ov] (getMethod ov m pl)
   callWith pos f first (backTo pos (starEach (e::es) X.env)) (backToKw pos (keywordEach [] X.env))):=by rfl):
  PE X (.Call (.Attribute o m apos) (e::es) [] pos) (zT C m sp [] E0 ta t):=by
 obtain⟨f,fd,c,hm,F,b⟩:=h;exact ZbE ho c hm F (hr.mono hj) b .nil zU ha eB cL ht
end
theorem wx{X:Cx}{K:PySem.W.Frag}{e:Expr}{ta:TE}{f:Str}{pos:Pos}(h:X.K=K)(he:PE X e ta)(hb:attributeBase e f X.env (eval e X.env)=eval e X.env):PE X (.Attribute e f pos) (Gz K ta f):=h▸ZcW he hb
section
open PySem.AutoSeq1 (wpAny_loadPart')
theorem ZF(lo hi x:Int):(Builtin.Range.rangePlace? lo hi 1 x).isSome=decide (lo<=x/\x<hi):=by
 unfold Builtin.Range.rangePlace?
 grind
theorem U5(p:Addr)(lo hi x:Int)(a b c t:Tok):
  Meets (Builtin.«range.__contains__» ⟨[.ref p,.int x t],[]⟩)
   (λ_ R s=>s.heap.get? p=some {cls:=.type "range",data:=.fields #[.int lo a,.int hi b,.int 1 c]}/\R (.ok (.ret (.bool (decide (lo<=x/\x<hi))))) s):=
 .of_wp λprog w A R s h=>by
  obtain⟨hp,g,d,tk,os⟩:=s;obtain⟨hl,h⟩:=h;rw[←ZF] at h
  wp_walk using wpAny_loadPart' hl
  grind
end
def Zdu(neg:Bool):R2:=λx y H Q=>∃(i lo hi:Int) (p:Addr),x=.int i/\y=.ref p/\H p=some (.jo lo hi)/\Q (.bl (if neg=true then !decide (lo<=i/\i<hi) else decide (lo<=i/\i<hi))) H
theorem WC:cD X (compareOp .NotIn) (Zdu true):=by
 rintro pins s σ H x y v u Q I rx ry ⟨i,lo,hi,p,rfl,rfl,hp,q⟩;obtain⟨t,rfl⟩:=rx;cases ry;obtain⟨a,b,c,g⟩:=(show cK X.prog X.w H s.heap p (.jo lo hi) from I.av p _ hp);exact SeqRoads2.notIn_meets ⟨_,g,rfl⟩ F.slot_range_contains F.entry_range_contains (F.args_range_contains_2 _ _) (U5 p lo hi i a b c t) ⟨g,_,rfl,.bl _,H,I,rfl,q⟩
theorem tS(p:Nat->Bool)(n:Nat):(List.range (n+1)).filter p=(List.range n).filter p++(if p n=true then[n] else[]):=by
 rw[Jk,Y9]
 grind
theorem iH{α β:Type}{F:α->β->Prop}:∀{xs:List α} {ys:List β} {x:α} {y:β},Paired F xs ys->F x y->Paired F (xs++[x]) (ys++[y]):=by
 intro xs ys x y h f;induction h with
 |nil=>exact .cons f .nil
 |cons r t ih=>exact .cons r ih
theorem C9:∀{xs:List α} {ys:List β},Paired F xs ys->xs.length=ys.length:=by
 intro xs ys h;induction h with
 |nil=>rfl
 |cons _ _ ih=>rw[Wq,Wq,ih]
theorem Cz:∀{xs:List V} {ys:List β},Paired (λx y=>x=f y) xs ys->xs=ys.map f:=by
 intro xs ys h;induction h with
 |nil=>rfl
 |cons r t ih=>rw[Wl,←r,←ih]
theorem DH(n:Nat):(List.range n).filter (λ_=>true)=List.range n:=by simp
theorem VO(xs:List α)(f:Nat->β)(g:α->β)(h:∀(i:Nat) (v:α),xs[i]?=some v->f i=g v):(List.range xs.length).map f=xs.map g:=by
 refine Ws λi=>?_
 grind
def aw(D:Addr)(H H':Hp):Prop:=∀b o,H b=some o->b≠D->H' b=some o
theorem aw.of(g:ai H H'):aw D H H':=λb o e _=>g b o e
theorem aw.put(g:aw D H H'):aw D H (upd H' D o):=λb u e n=>by rw[aQ n];exact g b u e n
def uB(tt:TT)(te:TE)(fv:St)(D:Addr)(H:Hp)(v:V)(b:Bool)(Pe:V->Hp->Prop):Prop:=
 ∀H1,ai H H1->(∃ys,H1 D=some (.lst ys))->∀(Kt:VK) (Kf:Hp->Prop),(∀y H3,b=true->ai H1 H3->Pe y H3->Kt y H3)->(∀H3,b=false->ai H1 H3->Kf H3)->tt (some v::fv) H1 λc H2=>if c=true then te (some v::fv) H2 Kt else Kf H2
theorem DI{K:PySem.W.Frag}{a:Addr}{xs:List V}{tt:TT}{te:TE}{fv:St}{D:Addr}{H:Hp}{Q:VK}(hs:aj K H a xs)(hn:xs.length<=1000)(hD:H D=none)(p:Nat->Bool)(Pe:Nat->V->Hp->Prop)(mono:∀i y H1 H2,aw D H1 H2->Pe i y H1->Pe i y H2)
  (turn:∀(i:Nat) (v:V),xs[i]?=some v->uB tt te fv D H v (p i) (Pe i))(fin:∀ys H',ai H H'->H' D=some (.lst ys)->Paired (λy i=>Pe i y H') ys ((List.range xs.length).filter p)->Q (.ref D) H'):iP (jq K a) tt te fv D H Q:=by
 refine Ef (λi ys H1=>i<=xs.length/\ai H H1/\H1 D=some (.lst ys)/\Paired (λy j=>Pe j y H1) ys ((List.range i).filter p)) ⟨Yw _,cj hD _,aS,.nil⟩ (λi ys H1 _ ⟨_,g,_,_⟩=>g.seq hs) ?_ ?_
 ·rintro i v ys H1 hi ⟨_,g,h1,pr⟩;have dF:=(Yh.mp hi).1;have ll:=C9 pr;have fl:=Wh p (List.range i);rw[Jz] at fl;refine turn i v hi H1 g ⟨_,h1⟩ _ _ (λy H3 pi g3 py=>⟨g3 _ _ h1,by rw[sizeLine_eq];omega,dF,?_,aS,?_⟩) (λH3 pi g3=>⟨dF,g.trans g3,g3 _ _ h1,?_⟩)
  ·intro b o e;rw[aQ (bX e hD)];exact g3 _ _ (g _ _ e)
  ·rw[tS,if_pos pi];exact iH (Paired.bw pr λz j q=>mono _ _ _ _ (aw.put (aw.of g3)) q) (mono _ _ _ _ (aw.put (aw.of (ai.refl _))) py)
  ·rw[tS,if_neg (by rw[pi];exact Yj),Y8];exact Paired.bw pr λz j q=>mono _ _ _ _ (aw.of g3) q
 ·grind
theorem DJ{K:PySem.W.Frag}{a:Addr}{xs:List V}{tt:TT}{te:TE}{fv:St}{D:Addr}{H:Hp}{Q:VK}(hs:aj K H a xs)(hn:xs.length<=1000)(hD:H D=none)(p:Nat->Bool)(f:Nat->V)
  (turn:∀(i:Nat) (v:V),xs[i]?=some v->uB tt te fv D H v (p i) (λy _=>y=f i))(fin:∀H',ai H H'->H' D=some (.lst (((List.range xs.length).filter p).map f))->Q (.ref D) H'):iP (jq K a) tt te fv D H Q:=
 DI hs hn hD p (λi y _=>y=f i) (λ_ _ _ _ _ e=>e) turn λys H' g h1 pr=>fin H' g (by rw[←Cz pr];exact h1)
theorem X7{K:PySem.W.Frag}{a:Addr}{xs:List V}{te:TE}{fv:St}{D:Addr}{H:Hp}{Q:VK}(hs:aj K H a xs)(hn:xs.length<=1000)(hD:H D=none)(f:V->V)
  (turn:∀(i:Nat) (v:V),xs[i]?=some v->∀H1,ai H H1->∀Kt:VK,(∀H3,ai H1 H3->Kt (f v) H3)->te (some v::fv) H1 Kt)(fin:∀H',ai H H'->H' D=some (.lst (xs.map f))->Q (.ref D) H'):iP (jq K a) Ac te fv D H Q:=by
 refine DJ hs hn hD (λ_=>true) (λi=>f (xs.getD i .ay)) (λi v hi H1 g _ Kt Kf kt _=>kI (cS ?_)) λH' g h1=>fin H' g ?_;·grind
 ·rw[h1,DH,VO xs (λi=>f (xs.getD i .ay)) f λi v hi=>by rw[Yl,hi];rfl]
theorem ZG{K:PySem.W.Frag}{a:Addr}{xs:List V}{tt:TT}{te:TE}{fv:St}{D:Addr}{H:Hp}{Q:VK}(hs:aA K H a xs)(hn:xs.length<=1000)(hD:H D=none)(p:Nat->Bool)(Pe:Nat->V->Hp->Prop)(mono:∀i y H1 H2,aw D H1 H2->Pe i y H1->Pe i y H2)
  (turn:∀(i:Nat) (v:V),xs[i]?=some v->uB tt te fv D H v (p i) (Pe i))(fin:∀ys H',ai H H'->H' D=some (.lst ys)->Paired (λy i=>Pe i y H') ys ((List.range xs.length).filter p)->Q (.ref D) H'):iP (uW K a) tt te fv D H Q:=by
 refine y_ (λi ys H1=>i<=xs.length/\ai H H1/\H1 D=some (.lst ys)/\Paired (λy j=>Pe j y H1) ys ((List.range i).filter p)) ⟨Yw _,cj hD _,aS,.nil⟩ (λi ys H1 _ ⟨_,g,_,_⟩=>g.i4 hs) ?_ ?_
 ·rintro i v ys H1 hi ⟨_,g,h1,pr⟩;have dF:=(Yh.mp hi).1;have ll:=C9 pr;have fl:=Wh p (List.range i);rw[Jz] at fl;refine turn i v hi H1 g ⟨_,h1⟩ _ _ (λy H3 pi g3 py=>⟨g3 _ _ h1,by rw[sizeLine_eq];omega,dF,?_,aS,?_⟩) (λH3 pi g3=>⟨dF,g.trans g3,g3 _ _ h1,?_⟩)
  ·intro b o e;rw[aQ (bX e hD)];exact g3 _ _ (g _ _ e)
  ·rw[tS,if_pos pi];exact iH (Paired.bw pr λz j q=>mono _ _ _ _ (aw.put (aw.of g3)) q) (mono _ _ _ _ (aw.put (aw.of (ai.refl _))) py)
  ·rw[tS,if_neg (by rw[pi];exact Yj),Y8];exact Paired.bw pr λz j q=>mono _ _ _ _ (aw.of g3) q
 ·grind
theorem ZH{K:PySem.W.Frag}{a:Addr}{xs:List V}{tt:TT}{te:TE}{fv:St}{D:Addr}{H:Hp}{Q:VK}(hs:aA K H a xs)(hn:xs.length<=1000)(hD:H D=none)(p:Nat->Bool)(f:Nat->V)
  (turn:∀(i:Nat) (v:V),xs[i]?=some v->uB tt te fv D H v (p i) (λy _=>y=f i))(fin:∀H',ai H H'->H' D=some (.lst (((List.range xs.length).filter p).map f))->Q (.ref D) H'):iP (uW K a) tt te fv D H Q:=
 ZG hs hn hD p (λi y _=>y=f i) (λ_ _ _ _ _ e=>e) turn λys H' g h1 pr=>fin H' g (by rw[←Cz pr];exact h1)
theorem Xn{lo:Int}{n:Nat}{tt:TT}{te:TE}{fv:St}{D:Addr}{H:Hp}{Q:VK}(hn:n<=1000)(hD:H D=none)(p:Nat->Bool)(Pe:Nat->V->Hp->Prop)(mono:∀i y H1 H2,aw D H1 H2->Pe i y H1->Pe i y H2)
  (turn:∀i,i<n->uB tt te fv D H (.int (lo+i)) (p i) (Pe i))(fin:∀ys H',ai H H'->H' D=some (.lst ys)->Paired (λy i=>Pe i y H') ys ((List.range n).filter p)->Q (.ref D) H'):iP (oH lo n) tt te fv D H Q:=by
 refine v8 (λi ys H1=>i<=n/\ai H H1/\H1 D=some (.lst ys)/\Paired (λy j=>Pe j y H1) ys ((List.range i).filter p)) ⟨Yw _,cj hD _,aS,.nil⟩ ?_ ?_
 ·rintro i ys H1 hi ⟨_,g,h1,pr⟩;have dF:=hi;have ll:=C9 pr;have fl:=Wh p (List.range i);rw[Jz] at fl;refine turn i hi H1 g ⟨_,h1⟩ _ _ (λy H3 pi g3 py=>⟨g3 _ _ h1,by rw[sizeLine_eq];omega,dF,?_,aS,?_⟩) (λH3 pi g3=>⟨dF,g.trans g3,g3 _ _ h1,?_⟩)
  ·intro b o e;rw[aQ (bX e hD)];exact g3 _ _ (g _ _ e)
  ·rw[tS,if_pos pi];exact iH (Paired.bw pr λz j q=>mono _ _ _ _ (aw.put (aw.of g3)) q) (mono _ _ _ _ (aw.put (aw.of (ai.refl _))) py)
  ·rw[tS,if_neg (by rw[pi];exact Yj),Y8];exact Paired.bw pr λz j q=>mono _ _ _ _ (aw.of g3) q
 ·grind
theorem Xo{lo:Int}{n:Nat}{tt:TT}{te:TE}{fv:St}{D:Addr}{H:Hp}{Q:VK}(hn:n<=1000)(hD:H D=none)(p:Nat->Bool)(f:Nat->V)
  (turn:∀i,i<n->uB tt te fv D H (.int (lo+i)) (p i) (λy _=>y=f i))(fin:∀H',ai H H'->H' D=some (.lst (((List.range n).filter p).map f))->Q (.ref D) H'):iP (oH lo n) tt te fv D H Q:=
 Xn hn hD p (λi y _=>y=f i) (λ_ _ _ _ _ e=>e) turn λys H' g h1 pr=>fin H' g (by rw[←Cz pr];exact h1)
abbrev Nw(H:Hp)(o:HO)(Q:VK):Prop:=∀(p:Addr) (H':Hp),H p=none->ai H H'->H' p=some o->Q (.ref p) H'
theorem Nw.at(h:Nw H o Q):∀p,H p=none->Q (.ref p) (upd H p o):=λp np=>h p _ np (cj np o) aS
def w8(t:TA):TE:=λσ H Q=>t σ H λxs H1=>xs.length<=sizeLine/\Nw H1 (.tup xs) Q
def QK(t:TA):TE:=λσ H Q=>t σ H λxs H1=>xs.length<=sizeLine/\Nw H1 (.lst xs) Q
section
variable {X:Cx}{es:List Expr}{t:TA}{pos:Pos}{K:PySem.W.Frag}
theorem dz{x1}(h:PA X es t):PE X (.Tuple es x1 pos) (w8 t):=by
 intro pins s σ H Q I hq;refine wpAny_Tuple_spliced (az (h pos pins s σ H _ I hq) λus s1 ⟨xs,H1,I1,r,z,q⟩=>⟨by rw[←r.length];exact z,⟨.ref s1.heap.objs.size,upd H1 s1.heap.objs.size (.tup xs),I1.laid (λb u e=>Yc _ e) (Yd _) ?_,rfl,q.at _ (I1.av.fresh (Yd _))⟩⟩);exact⟨z,us,r,⟨_,Yo _ rfl,rfl,_,rfl,rfl⟩⟩
theorem c8(h:PA X es t):PE X (.List es pos) (QK t):=by
 intro pins s σ H Q I hq;refine wpAny_List_spliced (az (h pos pins s σ H _ I hq) λus s1 ⟨xs,H1,I1,r,z,q⟩=>⟨by rw[←r.length];exact z,⟨.ref s1.heap.objs.size,upd H1 s1.heap.objs.size (.lst xs),I1.laid (λb u e=>Yc _ e) (Yd _) ?_,rfl,q.at _ (I1.av.fresh (Yd _))⟩⟩);exact⟨z,us,0,r,Yo _ rfl⟩
theorem cY.mono(h:cY X f r)(m:∀xs H Q,r' xs H Q->r xs H Q):cY X f r':=λpins s σ H xs us Q I v q=>h pins s σ H xs us Q I v (m xs H Q q)
theorem cD.mono(h:cD X f r)(m:∀x y H Q,r' x y H Q->r x y H Q):cD X f r':=λpins s σ H x y v u Q I rx ry q=>h pins s σ H x y v u Q I rx ry (m x y H Q q)
theorem uY.mono(h:uY X r)(m:∀x lo hi H Q,r' x lo hi H Q->r x lo hi H Q):uY X r':=λpins s σ H x v vl vu lo hi sl Q I rx hs pl pu q=>h pins s σ H x v vl vu lo hi sl Q I rx hs pl pu (m x lo hi H Q q)
inductive KO(xs:List V)(H:Hp)(Q:VK):Prop
 |mk (j:Int) (aC:xs=[.int j]) (aT:Nw H (.jo 0 j) Q):KO xs H Q
def Zaz:List V->Hp->VK->Prop:=λxs H Q=>KO xs H Q
theorem CS:cY X (.type "range") Zaz:=yJ.mono λ_ _ _ zq=>by obtain⟨j,e,q⟩:=zq;exact⟨j,e,q.at⟩
inductive Kk(xs:List V)(H:Hp)(Q:VK):Prop
 |mk (p:Addr) (n:Nat) (aC:xs=[.ref p]) (aT:H p=some (.jo 0 (n:Int))) (bc:n<=1000) (bK:Nw H (.lst ((bh n).map V.int)) Q):Kk xs H Q
def ZI:List V->Hp->VK->Prop:=λxs H Q=>Kk xs H Q
theorem Vx(hc:X.calm=true):cY X (.type "list") ZI:=(Cy hc).mono λ_ _ _ zq=>by obtain⟨p,n,e,h,l,q⟩:=zq;exact⟨p,n,e,h,l,q.at⟩
inductive KP(xs:List V)(H:Hp)(Q:VK):Prop
 |mk (p:Addr) (n:Nat) (aC:xs=[.ref p]) (aT:H p=some (.jo 0 (n:Int))) (bc:n<=1000) (bK:Nw H (.tup ((bh n).map V.int)) Q):KP xs H Q
def ZaA:List V->Hp->VK->Prop:=λxs H Q=>KP xs H Q
theorem Vf(hc:X.calm=true):cY X (.type "tuple") ZaA:=(JX hc).mono λ_ _ _ zq=>by obtain⟨p,n,e,h,l,q⟩:=zq;exact⟨p,n,e,h,l,q.at⟩
def ZaB(K:PySem.W.Frag):List V->Hp->VK->Prop:=λxs H Q=>∃(p:Addr) (ns:List Int),xs=[.ref p]/\(aj K H p (ns.map V.int)\/aA K H p (ns.map V.int))/\ns.length<64/\
  ∀c9:List Int,c9.Perm ns->c9.Pairwise (·<=·)->Nw H (.lst (c9.map V.int)) Q
theorem ZaC(h:X.K=K):cY X (.builtin "sorted") (ZaB K):=h▸Ki.mono λ_ _ _ zq=>by obtain⟨p,ns,e,s,l,q⟩:=zq;exact⟨p,ns,e,s,l,λa c9 na pm so=>(q c9 pm so).at a na⟩
inductive NQ(K:PySem.W.Frag)(x:V)(lo:Option Int)(hi:Option Int)(H:Hp)(Q:VK):Prop
 |mk (a xs) (aC:x=.ref a) (aT:aj K H a xs) (bc:Nw H (.lst (kH xs lo hi)) Q):NQ K x lo hi H Q
def Zew(K:PySem.W.Frag):V->Option Int->Option Int->Hp->VK->Prop:=λx lo hi H Q=>NQ K x lo hi H Q
theorem EK(h:X.K=K):uY X (Zew K):=h▸ZbK.mono λ_ _ _ _ _ zq=>by obtain⟨a,xs,e,s,q⟩:=zq;exact⟨a,xs,e,s,q.at⟩
def Zex:R2:=λx y H Q=>∃l b xs zs,x=.ref l/\y=.ref b/\H l=some (.lst xs)/\H b=some (.lst zs)/\xs.length+zs.length<=sizeLine/\Nw H (.lst (xs++zs)) Q
theorem wy:cD X (binaryOp .Add) Zex:=Zc4.mono λ_ _ _ _ zq=>by obtain⟨l,b,xs,zs,e1,e2,h1,h2,z,q⟩:=zq;exact⟨l,b,xs,zs,e1,e2,h1,h2,z,q.at⟩
def ZbV:TE:=λ_ H Q=>Nw H (.dK []) Q
theorem nT:PE X (.Dict [] [] pos) ZbV:=λpins s σ H Q I q=>Zav pins s σ H Q I q.at
def ZbW:TE:=λ_ H Q=>Nw H (.dT []) Q
theorem Lw:PE X (.Dict [] [] pos) ZbW:=λpins s σ H Q I q=>Zaw pins s σ H Q I q.at
end
abbrev Ch(H:Hp)(a:Addr)(o:HO)(R:Hp->Prop):Prop:=∀H',aw a H H'->H' a=some o->R H'
theorem Ch.at(h:Ch H a o R):R (upd H a o):=h _ (aw.put (aw.of (ai.refl _))) aS
section
variable {X:Cx}
theorem m8.mono{id:String}{r r':V->List V->Hp->VK->Prop}(h:m8 X id r)(m:∀x xs H Q,r' x xs H Q->r x xs H Q):m8 X id r':=λpins s σ H x xs v us Q I rx rv q=>h pins s σ H x xs v us Q I rx rv (m x xs H Q q)
inductive KQ(x:V)(vs:List V)(H:Hp)(Q:VK):Prop
 |mk (l xs y) (aC:x=.ref l) (aT:vs=[y]) (bc:H l=some (.lst xs)) (bK:xs.length<sizeLine) (cE:Ch H l (.lst (xs++[y])) (Q .ay)):KQ x vs H Q
def Mv:V->List V->Hp->VK->Prop:=λx vs H Q=>KQ x vs H Q
theorem mC:m8 X "list.append" Mv:=wc.mono λ_ _ _ _ zq=>by obtain⟨l,xs,y,e1,e2,h,z,q⟩:=zq;exact⟨l,xs,y,e1,e2,h,z,q.at⟩
def ZaD:V->List V->Hp->VK->Prop:=λx vs H Q=>∃l b xs zs,x=.ref l/\vs=[.ref b]/\H l=some (.lst xs)/\H b=some (.lst zs)/\xs.length+zs.length<=sizeLine/\Ch H l (.lst (xs++zs)) (Q .ay)
theorem X8:m8 X "list.extend" ZaD:=Zx.mono λ_ _ _ _ zq=>by obtain⟨l,b,xs,zs,e1,e2,h1,h2,z,q⟩:=zq;exact⟨l,b,xs,zs,e1,e2,h1,h2,z,q.at⟩
def ZbX:V->List V->Hp->VK->Prop:=λx vs H Q=>∃l xs,x=.ref l/\vs=[]/\H l=some (.lst xs)/\Ch H l (.lst []) (Q .ay)
theorem ZJ:m8 X "list.clear" ZbX:=Zao.mono λ_ _ _ _ zq=>by obtain⟨l,xs,e1,e2,h,q⟩:=zq;exact⟨l,xs,e1,e2,h,q.at⟩
theorem rH.mono(h:rH X t)(m:∀o i v H Q,t' o i v H Q->t o i v H Q):rH X t':=by
 intro pins s σ H o i x ov iv v Q I r1 r2 r3 q;exact h pins s σ H o i x ov iv v Q I r1 r2 r3 (m _ _ _ _ _ q)
def Zdv:V->V->V->Hp->(Hp->Prop)->Prop:=λo i v H Q=>∃p xs k j,o=.ref p/\i=.int k/\H p=some (.lst xs)/\kM xs.length k=some j/\Ch H p (.lst (xs.set j v)) Q
theorem Lx:rH X Zdv:=set_list.mono λ_ _ _ _ _ zq=>by obtain⟨p,xs,k,j,e1,e2,h,z,q⟩:=zq;exact⟨p,xs,k,j,e1,e2,h,z,q.at⟩
variable {o i value:Expr}{td ty tv ta:TE}{pos pos':Pos}{f:Str}
inductive Mw(D:Ends)(σ:St)(v:V)(x:V)(y:V)(H3:Hp):Prop
 |mk (a kvs k) (aC:x=.ref a) (aT:H3 a=some (.dK kvs)) (bc:y=kV k) (bK:kvs.length<sizeLine) (cE:Ch H3 a (.dK (putK kvs k v)) (D.nx σ)):Mw D σ v x y H3
def Zdw(td ty tv:TE):TS:=λD σ H=>tv σ H λv H1=>td σ H1 λx H2=>ty σ H2 λy H3=>Mw D σ v x y H3
inductive Ly(D:Ends)(σ:St)(v:V)(x:V)(y:V)(H3:Hp):Prop
 |mk (a b kvs k) (aC:x=.ref a) (aT:H3 a=some (.dT kvs)) (bc:y=.ref b) (bK:H3 b=some (.tup (k.map kV))) (cE:kvs.length<sizeLine) (dI:Ch H3 a (.dT (putK kvs k v)) (D.nx σ)):Ly D σ v x y H3
def ZbY(td ty tv:TE):TS:=λD σ H=>tv σ H λv H1=>td σ H1 λx H2=>ty σ H2 λy H3=>Ly D σ v x y H3
theorem mE(hu:X.A.units+1<cLine)(ho:PE X o td)(hi:PE X i ty)(hv:PE X value tv)(hs:swapsWith value (some (.Subscript o i pos')) pos.line X.env=pure false:=by rfl):
  PS X (.Assign [.Subscript o i pos'] value pos) (Zdw td ty tv):=by
 intro pins s σ H D I h;refine wpAny_Assign_Subscript (az (hv pins s σ H _ I h) λr s1 zq=>?_) hs;obtain⟨v,H1,I1,rv,q1⟩:=zq;refine az (ho pins s1 σ H1 _ I1 q1) λu s2 zq=>?_;obtain⟨x,H2,I2,rx,q2⟩:=zq;refine az (hi pins s2 σ H2 _ I2 q2) λiv s3 zq=>?_;obtain⟨y,H3,I3,ry,a,kvs,k,ex,ha,ey,l,q3⟩:=zq;subst ex;subst ey;obtain rfl:u=Value.ref a:=rx;exact Lu hu I3 (rO.k ha l) ry rv λs4 I4=>⟨σ,_,I4,q3.at⟩
theorem Lz(hu:X.A.units+1<cLine)(ho:PE X o td)(hi:PE X i ty)(hv:PE X value tv)(hs:swapsWith value (some (.Subscript o i pos')) pos.line X.env=pure false:=by rfl):
  PS X (.Assign [.Subscript o i pos'] value pos) (ZbY td ty tv):=by
 intro pins s σ H D I h;refine wpAny_Assign_Subscript (az (hv pins s σ H _ I h) λr s1 zq=>?_) hs;obtain⟨v,H1,I1,rv,q1⟩:=zq;refine az (ho pins s1 σ H1 _ I1 q1) λu s2 zq=>?_;obtain⟨x,H2,I2,rx,q2⟩:=zq;refine az (hi pins s2 σ H2 _ I2 q2) λiv s3 zq=>?_;obtain⟨y,H3,I3,ry,a,b,kvs,k,ex,ha,ey,hb,l,q3⟩:=zq;subst ex;subst ey;obtain rfl:u=Value.ref a:=rx;exact Lu hu I3 (rO.t ha hb l) ry rv λs4 I4=>⟨σ,_,I4,q3.at⟩
def Zey(K:PySem.W.Frag)(ta tv:TE)(f:Str):TS:=λD σ H=>tv σ H λy H1=>ta σ H1 λx H2=>∃a C dx fs,x=.ref a/\H2 a=some (.ins C dx fs)/\ig K C/\dD K C f/\fs.length<1000/\Ch H2 a (.ins C dx (cN f y fs)) (D.nx σ)
theorem fZ{K:PySem.W.Frag}(hK:X.K=K)(ha:PE X o ta)(hv:PE X value tv)(hs:swapsWith value (some (.Attribute o f pos')) pos.line X.env=pure false:=by rfl):PS X (.Assign [.Attribute o f pos'] value pos) (Zey K ta tv f):=by
 subst hK;intro pins s σ H D I h;refine plainObj_wpAny_Assign_Attribute (az (hv pins s σ H _ I h) λu s1 zq=>?_) hs;obtain⟨y,H1,I1,ry,q⟩:=zq;refine az (ha pins s1 σ H1 _ I1 q) λov s2 zq=>?_;obtain⟨x,H2,I2,rx,a,C,dx,fs,ex,ea,c,n,l,q2⟩:=zq;subst ex;obtain rfl:ov=Value.ref a:=rx;exact KD I2 ea c n l ry λs3 I3=>⟨σ,_,I3,q2.at⟩
end
def xN(x:Str):It:=⟨λi _=>i<x.length,λi H v H'=>H'=H/\∃c,x.cps[i]?=some c/\v=.str ⟨#[c]⟩,λi _=>x.length<=i⟩
theorem Vy{P:Program}{w:World}{K:PySem.W.Frag}{tg:Expr}(it:Addr)(x:Str)(t:Tok):Turn P w K tg (xN x) [it] it (λi h=>h.IsStrIter it "str_ascii_iterator" x t i) where
 mem:=by simp
 obj:=λi h st b hb=>by
  have e:b=it:=by simpa using hb
  obtain⟨o,e,c,d⟩:=st
  grind
 keep:=λi h h' st k=>let⟨o,e,r⟩:=st;⟨o,k it (by simp) o e,r⟩
 item:=by
  intro X hP hw hK hc i pins s σ H E I hf st hg;obtain⟨f0,f1,f2,f3,f4,f5⟩:=hf it (by simp);have hx:=Jb hg;refine wpAny_pyNext_ascii_item st hx λh' aI sb=>?_;obtain⟨o,e,c,d⟩:=id aI;exact⟨_,rfl,rp e c d (by decide) ⟨.str ⟨#[x.cps[i]]⟩,H,(I.turned (λb o hb e=>(sb.2 b hb).trans e) f0 f1 f3 f4 f5),⟨_,rfl⟩,⟨rfl,_,hx,rfl⟩,aI,λb hb=>(hf b hb).1⟩⟩
 done:=by
  intro X hP hw hK hc i pins s σ H E I hf st hg;obtain⟨f0,f1,f2,f3,f4,f5⟩:=hf it (by simp);exact wpAny_pyNext_ascii_end (I.ok.hd hc) st (Jy hg) λh' eb=>⟨rfl,I.turned (λb o hb e=>eb b o hb e) f0 f1 f3 f4 f5⟩
 self:=λ_ _ _ _ _ st h=>wpAny_pyIter_striter_ascii st h
theorem VP{P:Program}{w:World}{K:PySem.W.Frag}{tg:Expr}(it:Addr)(x:Str)(t:Tok):Turn P w K tg (xN x) [it] it (λi h=>h.IsStrIter it "str_iterator" x t i) where
 mem:=by simp
 obj:=λi h st b hb=>by
  have e:b=it:=by simpa using hb
  obtain⟨o,e,c,d⟩:=st
  grind
 keep:=λi h h' st k=>let⟨o,e,r⟩:=st;⟨o,k it (by simp) o e,r⟩
 item:=by
  intro X hP hw hK hc i pins s σ H E I hf st hg;obtain⟨f0,f1,f2,f3,f4,f5⟩:=hf it (by simp);have hx:=Jb hg;refine wpAny_pyNext_wide_item st hx λh' aI sb=>?_;obtain⟨o,e,c,d⟩:=id aI;exact⟨_,rfl,rp e c d (by decide) ⟨.str ⟨#[x.cps[i]]⟩,H,(I.turned (λb o hb e=>(sb.2 b hb).trans e) f0 f1 f3 f4 f5),⟨_,rfl⟩,⟨rfl,_,hx,rfl⟩,aI,λb hb=>(hf b hb).1⟩⟩
 done:=by
  intro X hP hw hK hc i pins s σ H E I hf st hg;obtain⟨f0,f1,f2,f3,f4,f5⟩:=hf it (by simp);exact wpAny_pyNext_wide_end (I.ok.hd hc) st (Jy hg) λh' eb=>⟨rfl,I.turned (λb o hb e=>eb b o hb e) f0 f1 f3 f4 f5⟩
 self:=λ_ _ _ _ _ st h=>wpAny_pyIter_striter_wide st h
inductive PB(R:It->Hp->Prop)(v:V)(H1:Hp):Prop
 |mk (x) (aC:v=.str x) (aT:R (xN x) H1):PB R v H1
def Zfi(te:TE):TI:=λσ H R=>te σ H λv H1=>PB R v H1
theorem Zdx{X:Cx}{tg l:Expr}{tl:TE}(hl:PE X l tl):PI X tg l (Zfi tl):=by
 intro pins s σ H R I h;refine az (hl pins s σ H _ I h) λv s1 zq=>?_;obtain⟨x,H1,I1,r1,q1⟩:=zq;obtain⟨z,e,q⟩:=q1;subst e;obtain⟨t,rfl⟩:=r1;have fin:∀b∈[s1.heap.objs.size],ia X pins H1 b:=λb hb=>by
  have e:b=s1.heap.objs.size:=by simpa using hb
  subst e;exact I1.oB (Yd _) (I1.av.fresh (Yd _))
 cases ha:z.cps.all (·<128) with
 |true=>exact wpAny_pyIter_ascii ha ⟨s1.heap.objs.size,[s1.heap.objs.size],_,_,H1,rfl,I1.kept λb o e=>Yc _ e,Vy _ z t,⟨_,Yo _ rfl,rfl,rfl⟩,fin,q⟩
 |false=>exact wpAny_pyIter_wide ha ⟨s1.heap.objs.size,[s1.heap.objs.size],_,_,H1,rfl,I1.kept λb o e=>Yc _ e,VP _ z t,⟨_,Yo _ rfl,rfl,rfl⟩,fin,q⟩
abbrev sg(c:Nat):V:=.str ⟨#[c]⟩
theorem ZaE(Pv:Nat->List V->Hp->Prop)(h0:Pv 0 [] (upd H D (.lst [])))
  (hs:∀(i c:Nat) (ys:List V) (H:Hp),x.cps[i]?=some c->Pv i ys H->tt (some (sg c)::fv) H λb H1=>if b=true then te (some (sg c)::fv) H1 λy H3=>H3 D=some (.lst ys)/\ys.length<sizeLine/\Pv (i+1) (ys++[y]) (upd H3 D (.lst (ys++[y]))) else Pv (i+1) ys H1)
  (hd:∀ys H,Pv x.length ys H->Q (.ref D) H):iP (xN x) tt te fv D H Q:=by
 refine⟨λi m ys H=>m=x.length-i/\i<=x.length/\Pv i ys H,⟨x.length,by simp,Yw _,h0⟩,?_⟩;rintro i m ys H ⟨rfl,hi,p⟩;by_cases bH:i<x.length
 ·refine .inr ⟨bH,Pv (i+1),λgv H' p'=>⟨x.length-(i+1),by omega,rfl,bH,p'⟩,λv H' y=>?_⟩;obtain⟨e,c,hc,rfl⟩:=y
  grind
 ·have e:i=x.length:=by omega
  subst e;exact .inl ⟨Yd _,hd ys H p⟩
theorem ZK(hn:x.length<=100000)(hD:H D=none)(f:Nat->V)
  (turn:∀(i c:Nat),x.cps[i]?=some c->∀H1,ai H H1->∀Kt:VK,(∀H3,ai H1 H3->Kt (f c) H3)->te (some (sg c)::fv) H1 Kt)(fin:∀H',ai H H'->H' D=some (.lst (x.cps.toList.map f))->Q (.ref D) H'):iP (xN x) Ac te fv D H Q:=by
 refine ZaE (λi ys H1=>i<=x.length/\ai H H1/\H1 D=some (.lst ys)/\ys=(x.cps.toList.take i).map f) ⟨Yw _,cj hD _,aS,rfl⟩ ?_ ?_
 ·rintro i c ys H1 hi ⟨_,g,h1,e⟩;have dF:i<x.length:=(Array.getElem?_eq_some_iff.mp hi).1;refine kI (cS (turn i c hi H1 g _ λH3 g3=>⟨g3 _ _ h1,?_,dF,?_,aS,?_⟩))
  ·rw[e,Ya,Wf,sizeLine_eq];omega
  ·intro b o q;rw[aQ (bX q hD)];exact g3 _ _ (g _ _ q)
  ·have ir:x.cps.toList[i]?=some c:=by rw[Jj];exact hi
   rw[e,Y0,ir,Yn];rfl
 ·rintro ys H1 ⟨_,g,h1,e⟩;refine fin H1 g ?_;rw[h1,e,Wp (by show x.cps.toList.length<=x.cps.size;simp)]
end L2
namespace L2
open PySem PySem.W PySem.Spec PyProof.Rows
def Zdy:List V->Hp->VK->Prop:=λxs H Q=>∃(p:Addr) (kvs:List (Key×V)),xs=[.ref p]/\H p=some (.dK kvs)/\Nw H (.lst (kvs.map λkv=>kV kv.1)) Q
theorem LA:∀{ks:List Key} {us:List Value},us.length=ks.length->(∀(j:Nat) (v:Value),us[j]?=some v->∃k,ks[j]?=some k/\(de P w).is k v=true)->Vals (ks.map kV) us
 |[],[],_,_=>.nil
 |k::ks,u::us,hl,h=>by
  obtain⟨k',e,hk⟩:=h 0 u rfl;have e':k=k':=by simpa using e
  subst e';refine .cons ?_ (LA (by simpa using hl) λj v hj=>by simpa using h (j+1) v (by simpa using hj));rcases kX (show rh k u=true from hk) with⟨i,t,rfl,rfl⟩|⟨x,t,rfl,rfl⟩;·exact⟨t,rfl⟩
  ·exact⟨t,rfl⟩
 |[],_::_,hl,_=>by simp at hl
 |_::_,[],hl,_=>by simp at hl
theorem Xp(hc:X.calm=true):cY X (.type "list") Zdy:=by
 rintro pins s σ H xs us Q I r ⟨p,kvs,rfl,hp,q⟩;obtain⟨u,rfl,ru⟩:=vals1 r;obtain rfl:u=Value.ref p:=ru;obtain⟨lim,Ae,vs,kv,dd⟩:=kz I.av hp;obtain⟨ep,da⟩:=dd.dictAt;have kl:=kv.length;refine kdl_call (kdl_dict Ae) (I.ok.hd hc) da (by omega) λh' tk acc c kp hD it=>?_;have vals:Vals (kvs.map λkv=>kV kv.1) acc.toList:=by
  have e:(kvs.map λkv=>kV kv.1)=(vs.map (·.1)).map kV:=by rw[←kv.keys,Wa];rfl
  rw[e];refine LA (P:=X.prog) (w:=X.w) (by rw[Wy,Ya];exact it.1) λj v hj=>?_;obtain⟨k,x,hx,hk⟩:=it.2 j v (by rw[←Jj];exact hj)
  grind
 exact⟨.ref s.heap.objs.size,_,(I.laid (o:=.lst (kvs.map λkv=>kV kv.1)) kp (Yd _) ⟨by rw[Ya];exact lim,acc.toList,c,vals,by rw[Array.toArray_toList];exact hD⟩),rfl,q.at _ (I.av.fresh (Yd _))⟩
end L2
namespace L2
open PySem PySem.Spec PyProof.Rows
abbrev zY(D:List (Str×Str)):List (Str×PyData):=D.map λp=>(p.1,PyData.str p.2)
def uK(K:PySem.W.Frag)(a:Addr)(D:List (Str×Str)):Prop:=KTD.tabLook KTD.flatLooks (λb=>K.lookup b) a (zY D)=true
theorem wg(f:δ->ε)(k:Str):∀D:List (Str×δ),KTD.datumAt k (D.map λp=>(p.1,f p.2))=(KTD.datumAt k D).map f
 |[]=>rfl
 |p::D=>by
  rw[Wl];unfold KTD.datumAt;by_cases e:k=p.1;·simp[e]
  ·simp only[e];exact wg f k D
theorem uK.here{K:PySem.W.Frag}{a:Addr}{D:List (Str×Str)}{h:Heap}(t:uK K a D)(rZ:K.In h):KTD.Here h h a ((zY D).map λp=>(p.1,KTD.Dat.flat p.2)):=
 ⟨KTD.TabOf.text (KTD.tab_of_look (λ_ _=>KTD.flat_of_looks) (λa o e=>rZ a o e) t),λ_ _ e=>e⟩
def mX(D:List (Str×Str))(z:Str):Bool:=(KTD.datumAt z D).isSome
theorem keys_has(D:List (Str×Str))(z:Str):KTD.inKeys z ((zY D).map λp=>(p.1,KTD.Dat.flat p.2))=mX D z:=by
 rw[←KTD.isSome_datumAt,wg KTD.Dat.flat,wg PyData.str];unfold mX
 grind
def Zdz(K:PySem.W.Frag)(neg:Bool):R2:=λx y H Q=>∃(z:Str) (a:Addr) (D:List (Str×Str)),x=.str z/\y=.ref a/\uK K a D/\Q (.bl (if neg=true then !mX D z else mX D z)) H
theorem ZdA{X:Cx}{K:PySem.W.Frag}(hK:X.K=K):cD X (compareOp .In) (Zdz K false):=by
 subst hK;rintro pins s σ H x y v u Q I rx ry ⟨z,a,D,rfl,rfl,t,q⟩;obtain⟨tk,rfl⟩:=rx;obtain rfl:u=Value.ref a:=ry;refine KTD.in_text (t.here I.dE) ?_;rw[keys_has];exact⟨.bl (mX D z),H,I.tok _,rfl,q⟩
def ZdB(K:PySem.W.Frag):R2:=λx y H Q=>∃(a:Addr) (z r:Str) (D:List (Str×Str)),x=.ref a/\y=.str z/\uK K a D/\KTD.datumAt z D=some r/\Q (.str r) H
theorem ZbZ{X:Cx}{K:PySem.W.Frag}(hK:X.K=K):ij X (ZdB K):=by
 subst hK;intro value slice pins s σ H x y v u Q I rx ry h hs;obtain⟨a,z,r,D,rfl,rfl,t,e,q⟩:=h;obtain⟨tk,rfl⟩:=ry;obtain rfl:v=Value.ref a:=rx;have T:=t.here I.dE;refine tail_any T.typeIs slot_dict_getitem.lookup ?_ hs;unfold getItem;try with_reducible refine wpAny_holding ?_
 refine wpAny_bind (wpAny_sequenceKey T.typeIs (by decide) ?_);refine wpAny_bind (wpAny_callSpecial?_slot T.typeIs slot_dict_getitem
  (wpAny_call_entry slot_dict_getitem T.typeIs entry_dict_getitem ?_ (args_dict_getitem _ _)))
 show wpAny _ _ (dictGet a (.str z tk)>>=_) _ _ s;have ed:KTD.datumAt z ((zY D).map λp=>(p.1,KTD.Dat.flat p.2))=some (.flat (.str r)):=by rw[wg KTD.Dat.flat,wg PyData.str,e];rfl
 refine wpAny_bind (KTD.dictGet_text T (λd v ha hv=>wpAny_pure ⟨v,rfl,wpAny_pure ?_⟩) λhn=>by rw[ed] at hn;cases hn);rw[ed] at ha;cases ha;cases hv s.heap with
 |str x t'=>exact⟨.str r,H,I.tok _,⟨t',rfl⟩,q⟩
theorem oo(h:bT X.prog X.w X.K X.mg X.base k m C ps sp)(hr:cZ j X.A)(hj:k<=j)(ho:PE X o ta)
  (ht:eval (.Call (.Attribute o m apos) [] [] pos) X.env=(do
   let ov←eval o X.env
   standAt apos.atName
   let(f,first)←holding [ov] (getMethod ov m pl)
   callWith pos f first (backTo pos (starEach [] X.env)) (backToKw pos (keywordEach [] X.env))):=by rfl):
  PE X (.Call (.Attribute o m apos) [] [] pos) (zT C m sp [] E0 ta iU):=by
 obtain⟨f,fd,c,hm,F,b⟩:=h;exact Zak ho c hm F (hr.mono hj) b .nil zU ht
def Af(K:PySem.W.Frag)(neg:Bool):R2:=λx y H Q=>∃(p q:Addr) (xs:List V),x=.ref p/\y=.ref q/\aj K H p xs/\aj K H q []/\Q (.bl (if neg=true then !xs.isEmpty else xs.isEmpty)) H
theorem ZdC(hu:X.A.units<cLine):cD X (compareOp .Eq) (Af X.K false):=by
 rintro pins s σ H x y v u Q I rx ry ⟨p,q,xs,rfl,rfl,h1,h2,k⟩;cases rx;cases ry;obtain⟨ah,r1,p1,z1⟩:=I.list h1;obtain⟨ib,r2,p2,z2⟩:=I.list h2;cases r2;have l1:=r1.length;cases xs with
 |nil=>
  cases r1;exact SeqAt.eq_listAt (e:=λ_=>true) p1.isList p2.isList rfl hu (λj h1 _=>absurd h1 (by simp)) (cF I k (by simp))
 |cons a r=>exact SeqAt.eq_list_lengthsAt p1.isList p2.isList (by simp;intro z;subst z;simp at l1) hu (cF I k (by simp))
theorem ZdD(hu:X.A.units<cLine):cD X (compareOp .NotEq) (Af X.K true):=by
 rintro pins s σ H x y v u Q I rx ry ⟨p,q,xs,rfl,rfl,h1,h2,k⟩;cases rx;cases ry;obtain⟨ah,r1,p1,z1⟩:=I.list h1;obtain⟨ib,r2,p2,z2⟩:=I.list h2;cases r2;have l1:=r1.length;cases xs with
 |nil=>
  cases r1;exact SeqAt.RcNeAt.lists (e:=λ_=>true) p1.isList p2.isList rfl hu (λj h1 _=>absurd h1 (by simp)) _ _ _ _ (cF I k (by simp))
 |cons a r=>exact SeqAt.RcNeAt.lists_lengths p1.isList p2.isList (by simp;intro z;subst z;simp at l1) hu _ _ _ _ (cF I k (by simp))
theorem X9:cY X (.builtin "len") (λxs H Q=>∃p kvs,xs=[.ref p]/\H p=some (.dK kvs)/\Q (.int (kvs.length:Int)) H):=by
 rintro pins s σ H xs us Q I r ⟨p,kvs,rfl,hp,q⟩;obtain⟨u,rfl,ru⟩:=vals1 r;obtain rfl:u=Value.ref p:=ru;exact Zet I (.inl hp) λt s' I'=>⟨.int (kvs.length:Int),H,I',⟨t,rfl⟩,q⟩
theorem aw.trans(g:aw D H H')(g':aw D H' Hn):aw D H Hn:=λb o e n=>g' b o (g b o e n) n
def Out(fp:List Addr)(H H':Hp):Prop:=∀b o,H b=some o->b∉fp->H' b=some o
theorem Out.of(g:ai H H'):Out fp H H':=λb o e _=>g b o e
theorem Out.trans(g:Out fp H H')(g':Out fp H' Hn):Out fp H Hn:=λb o e n=>g' b o (g b o e n) n
theorem Out.bar(g:aw a H H')(m:a∈fp):Out fp H H':=λb o e n=>g b o e λz=>n (by rw[z];exact m)
theorem setC(h:u D (σ.set i (some v)) H):xh (rJ (tC v) (ou i)) u D σ H:=h
theorem bW(h:te σ H λx H1=>u D (σ.set i (some x)) H1):xh (rJ te (ou i)) u D σ H:=h
theorem cV(h:H a=some (.dK kvs))(e:aO kvs (.inr z)=o):dX H a (.str z) o:=.inl ⟨kvs,.inr z,.inl h,rfl,e.symm⟩
section
variable {X:Cx}{elt iter tgt:Expr}{xs:List Str}{pos:Pos}{ifs:List Expr}{scope:Scope}{cl:List (Str×Addr)}{fr:List (Str×Nat)}{tg:TG}{tt:TT}{te:TE}{pins:List (Addr×Obj)}{σ:St}
def ZdE(n:Nat)(wi:TI)(fr:List (Str×Nat))(tg:TG)(tt:TT)(te:TE):TE:=λσ H Q=>wi σ H λJ H1=>∀D,H1 D=none->FG n J tg tt te (gh σ fr) D H1 Q
theorem ZaF(hc:X.calm=true)(S:pC X scope cl xs fr)(hg:∀C s H fp,PG (cM X xs fr scope cl C s H fp) tgt tg)(hi:PI X tgt iter wi)
  (ht:∀C s H fp,su (cM X xs fr scope cl C s H fp) ifs tt)(he:∀C s H fp,PE (cM X xs fr scope cl C s H fp) elt te)
  (hs:∀x,foldedSetIterable iter X.env x=pure x:=by intro _;rfl):PE X (.ListComp elt [⟨tgt,iter,ifs,0⟩] scope pos) (ZdE xs.length wi fr tg tt te):=by
 intro pins s σ H Q I h;refine wpAny_comprehension_free rfl hs S.uI S.kind S.names (az (hi pins s σ H _ I h) λv s1 h1=>az h1 λr9 s2 h2=>?_);obtain⟨it,fp,tn,J,H2,e,I2,T,dQ,f2,hw⟩:=h2;subst e;refine KG (RR:=λacc C=>compPost (model X.prog X.w) X.A X.xe none (EP X pins σ Q) acc C) hc S hg ht he I2 T dQ f2 hw ?_;intro D C s1 H1 m I1 hn f0 f1 f3 f4 f5 q;exact⟨m,hn,λh' lV=>⟨.ref D,H1,I1.turned (λb o hb e=>lV.extBut b o hb e) f0 f1 (.inr f3) f4 f5,rfl,q⟩⟩
end
theorem X_{K:PySem.W.Frag}{a:Addr}{xs:List V}{n:Nat}{tg:TG}{tt:TT}{te:TE}{fv:St}{D:Addr}{H:Hp}{Q:VK}(Pv:Nat->List V->Hp->Prop)(h0:Pv 0 [] (upd H D (.lst [])))(hl:∀i ys H,i<=xs.length->Pv i ys H->aj K H a xs)
  (hs:∀i v ys H,xs[i]?=some v->Pv i ys H->∀os:St,os.length=n->tg v (os++fv) H λc6 H2=>(∃jL:St,jL.length=n/\c6=jL++fv)/\tt c6 H2 λc H1=>if c=true then te c6 H1 λy H3=>H3 D=some (.lst ys)/\ys.length<sizeLine/\Pv (i+1) (ys++[y]) (upd H3 D (.lst (ys++[y]))) else Pv (i+1) ys H1)
  (hd:∀ys H,Pv xs.length ys H->Q (.ref D) H):FG n (jq K a) tg tt te fv D H Q:=by
 refine⟨λi m ys H=>m=xs.length-i/\i<=xs.length/\Pv i ys H,⟨xs.length,by simp,Yw _,h0⟩,?_⟩;rintro i m ys H ⟨rfl,hi,p⟩;have q:=hl i ys H hi p;by_cases bH:i<xs.length
 ·refine .inr ⟨⟨xs,xs[i],q,by simp[bH]⟩,Pv (i+1),λgv H' p'=>⟨xs.length-(i+1),by omega,rfl,bH,p'⟩,λx H' y=>?_⟩;obtain⟨e,y⟩:=y
  grind
 ·have e:i=xs.length:=by omega
  subst e;exact .inl ⟨⟨xs,q,Yd _⟩,hd ys H p⟩
abbrev qj(elt t1 i1 t2 i2:Expr)(scope:Scope)(pos:Pos):Expr:=.ListComp elt [⟨t1,i1,[],0⟩,⟨t2,i2,[],0⟩] scope pos
section
variable {prog:Program}{w:World}{A:Around}{R:Result->Shared->Prop}{s:Shared}{elt t1 i1 t2 i2:Expr}{scope:Scope}{pos:Pos}{it acc:Value}{env:Env}
theorem ZL(I:Nat->Shared->Prop)
  (turn:∀n s,I n s->wpAny (model prog w) A (pyNext it) (λr bC=>match r with
   |none=>R (.ok .next) bC
   |some v=>wpAny (model prog w) A (letOwnedTupleGo t2 it v) (λ_ cR=>wpAny (model prog w) A (assign t2 env v) (λ_ dW=>
     wpAny (model prog w) A (eval elt env) (λx ic=>
       wpAny (model prog w) A (call (.builtin "list.append") [acc,x]) (λ_ lQ=>∃m,m<n/\I m lQ) (notedBy (model prog w) A env λe s'=>R (.error e) s') ic) (notedBy (model prog w) A env λe s'=>R (.error e) s') dW) (notedBy (model prog w) A env λe s'=>R (.error e) s') cR) (notedBy (model prog w) A env λe s'=>R (.error e) s') bC) (notedBy (model prog w) A env λe s'=>R (.error e) s') s)
  (n:Nat)(h:I n s):codeAny (model prog w) A (.compLoop (qj elt t1 i1 t2 i2 scope pos) 1 it acc env) R s:=by
 refine codeAny_loop rfl I (λn s hI=>wpAny_noted (wpAny_bind (wpAny_standAt (wpAny_bind (wpAny_mono (turn n s hI) (λr bC gu=>?_) λ_ _ h'=>h'))))) n h;cases r with
 |none=>exact wpAny_pure gu
 |some v=>
  exact wpAny_bind (wpAny_mono gu (λ_ cR h₀=>wpAny_bind (wpAny_mono h₀ (λ_ dW oC=>wpAny_bind (wpAny_tests_nil (wpAny_bind (wpAny_bind (wpAny_mono oC (λx ic xl=>wpAny_bind (wpAny_mono xl (λ_ lQ xn=>wpAny_pure (wpAny_pure ⟨rfl,xn⟩)) λ_ _ h'=>h')) λ_ _ h'=>h'))))) λ_ _ h'=>h')) λ_ _ h'=>h')
theorem ZM(hs:∀x,foldedSetIterable i2 env x=pure x)(I:Nat->Shared->Prop)
  (turn:∀n s,I n s->wpAny (model prog w) A (pyNext it) (λr bC=>match r with
   |none=>R (.ok .next) bC
   |some v=>wpAny (model prog w) A (letOwnedTupleGo t1 it v) (λ_ cR=>wpAny (model prog w) A (assign t1 env v) (λ_ dW=>
     wpAny (model prog w) A (eval i2 env) (λx dO=>wpAny (model prog w) A (pyIter x) (λAH ic=>
      codeAny (model prog w) A (.compStart (qj elt t1 i1 t2 i2 scope pos) 1 AH acc env) (λr lQ=>match r with|.ok _=>∃m,m<n/\I m lQ|.error _=>False) ic)
      (notedBy (model prog w) A env λe s'=>R (.error e) s') dO) (notedBy (model prog w) A env λe s'=>R (.error e) s') dW) (notedBy (model prog w) A env λe s'=>R (.error e) s') cR) (notedBy (model prog w) A env λe s'=>R (.error e) s') bC) (notedBy (model prog w) A env λe s'=>R (.error e) s') s)
  (n:Nat)(h:I n s):codeAny (model prog w) A (.compLoop (qj elt t1 i1 t2 i2 scope pos) 0 it acc env) R s:=by
 refine codeAny_loop rfl I (λn s hI=>wpAny_noted (wpAny_bind (wpAny_standAt (wpAny_bind (wpAny_mono (turn n s hI) (λr bC gu=>?_) λ_ _ h'=>h'))))) n h;cases r with
 |none=>exact wpAny_pure gu
 |some v=>
  refine wpAny_bind (wpAny_mono gu (λ_ cR h₀=>wpAny_bind (wpAny_mono h₀ (λ_ dW oC=>wpAny_bind (wpAny_tests_nil (wpAny_bind (wpAny_mono oC (λx dO uJ=>wpAny_bind (wpAny_standAt ?_)) λ_ _ h'=>h')))) λ_ _ h'=>h')) λ_ _ h'=>h');rw[hs];refine wpAny_bind (wpAny_pure (wpAny_bind (wpAny_holding (wpAny_mono uJ (λAH ic xl=>wpAny_bind (wpAny_runOwn (codeAny_mono xl λr lQ xn=>?_))) λ_ _ h'=>h'))));cases r with
  |error e=>grind
  |ok f=>exact wpAny_pure ⟨rfl,xn⟩
theorem WD
  (h0:codeAny (model prog w) A (.compLoop (qj elt t1 i1 t2 i2 scope pos) 1 it acc env) R s)
  (h:wpAny (model prog w) A (pyIter it) (λHo s'=>codeAny (model prog w) A (.compLoop (qj elt t1 i1 t2 i2 scope pos) 1 Ho acc env) R s') (notedBy (model prog w) A env λx s'=>R (.error x) s') s):
  codeAny (model prog w) A (.compStart (qj elt t1 i1 t2 i2 scope pos) 1 it acc env) R s:=by
 refine codeAny_of_tree (wpAny_notedAt (wpAny_bind (wpAny_askSetting (wpAny_ite ?_))));split
 ·first
   |exact wpAny_bind (wpAny_pure (wpAny_pure (And.intro rfl h0)))
   |exact wpAny_pure (And.intro rfl h0)
 ·first
   |exact wpAny_bind (wpAny_rule (wpAny_bind (wpAny_standAt (wpAny_bind (wpAny_mono h (λHo s' h'=>wpAny_pure (And.intro rfl h')) λ_ _ x=>x)))))
   |(refine wpAny_bind (wpAny_rule ?_);show wpAny _ _ (standAt i2.pos>>=_) _ _ s;exact wpAny_bind (wpAny_standAt (wpAny_bind (wpAny_mono h (λHo s' h'=>wpAny_pure (And.intro rfl h')) λ_ _ x=>x))))
end
def FO(n:Nat)(J:It)(jM:TG)(jN:TI)(lX:TG)(te:TE)(fv:St)(D:Addr)(H:Hp)(Q:VK):Prop:=
 ∃W:Nat->Nat->List V->Hp->Prop,(∃m,W 0 m [] (upd H D (.lst [])))/\∀i m ys H,W i m ys H->
  (J.stop i H/\Q (.ref D) H)\/(J.go i H/\∃N:List V->Hp->Prop,(∀gv H',N gv H'->∃m',m'<m/\W (i+1) m' gv H')/\
   ∀v H',J.qg i H v H'->∀os:St,os.length=n->jM v (os++fv) H' λc6 H2=>(∃jL:St,jL.length=n/\c6=jL++fv)/\jN c6 H2 λJ2 H3=>
    ∃W2:Nat->Nat->List V->St->Hp->Prop,(∃m2,W2 0 m2 ys c6 H3)/\∀i2 m2 fV bU H4,W2 i2 m2 fV bU H4->
     (J2.stop i2 H4/\(∃u5:St,u5.length=n/\bU=u5++fv)/\N fV H4)\/(J2.go i2 H4/\∃N2:List V->St->Hp->Prop,(∀gv aE H',N2 gv aE H'->∃m',m'<m2/\W2 (i2+1) m' gv aE H')/\
      ∀v2 H5,J2.qg i2 H4 v2 H5->lX v2 bU H5 λxO H6=>te xO H6 λy H7=>H7 D=some (.lst fV)/\fV.length<sizeLine/\N2 (fV++[y]) xO (upd H7 D (.lst (fV++[y])))))
section
variable {X:Cx}{elt t1 i1 t2 i2:Expr}{xs:List Str}{pos:Pos}{scope:Scope}{cl:List (Str×Addr)}{fr:List (Str×Nat)}{jM lX:TG}{jN:TI}{te:TE}{pins:List (Addr×Obj)}{σ:St}
theorem YA{H2:Hp}{s2:Shared}{it:Addr}{fp:List Addr}{tn:Nat->Heap->Prop}{J:It}{Q:VK}{RR:Value->Addr->Result->Shared->Prop}{E:Value->Shared->Prop}
  (hc:X.calm=true)(S:pC X scope cl xs fr)(hg:∀C s H fp,PG (cM X xs fr scope cl C s H fp) t1 jM)(Hq:∀C s H fp,PI (cM X xs fr scope cl C s H fp) t2 i2 jN)(Hs:∀C s H fp,PG (cM X xs fr scope cl C s H fp) t2 lX)(he:∀C s H fp,PE (cM X xs fr scope cl C s H fp) elt te)
  (qi:∀C x,foldedSetIterable i2 (compEnvC scope cl C X.env) x=pure x)
  (I2:Inv X pins σ H2 s2)(T:Turn X.prog X.w X.K t1 J fp it tn)(dQ:tn 0 s2.heap)(f2:∀b∈fp,ia X pins H2 b)
  (hw:∀D,H2 D=none->FO xs.length J jM jN lX te (gh σ fr) D H2 Q)
  (hR:∀D C s1 H1 m,Inv X pins σ H1 s1->s1.heap.Ns C m->H1 C=none->C≠X.env.locals->X.cR.heap.objs.size<=C->(∀y c,X.env.cells.lookup y=some c->c≠C)->(∀p∈X.pn++pins,p.1≠C)->Q (.ref D) H1->RR (.ref D) C (.ok .next) s1):
  wpAny (model X.prog X.w) X.A (newList []) (λacc dO=>wpAny (model X.prog X.w) X.A (newFunctionEnv scope X.env.globals cl [] X.env.qual none .none (some X.env)) (λlR ic=>
   codeAny (model X.prog X.w) X.A (.compStart (qj elt t1 i1 t2 i2 scope pos) 0 (.ref it) acc {lR with scope:=relabel scope X.env}) (RR acc lR.locals) ic) E dO) E s2:=by
 refine Mj (tgt:=t1) (iter:=i1) (ifs:=[]) (rest:=[⟨t2,i2,[],0⟩]) S I2 T dQ f2 hR λD C s H3 dO hD e3 I4 u3 uX fin=>?_;obtain⟨W,⟨m0,w0⟩,turn⟩:=hw D hD;rw[←e3] at w0;refine ZM (qi _) (λk s'=>∃i ys H' os,os.length=xs.length/\Inv (cM X xs fr scope cl C s H3 fp) [] (os++gh σ fr) H' s'/\tn i s'.heap/\(∀b∈fp,H' b=none)/\W i k ys H') ?_ m0
  ⟨0,[],_,List.replicate xs.length none,W4,I4,u3,uX,w0⟩
 rintro n s5 ⟨i,ys,H5,os,oM,I5,oI,r_,w5⟩;have lO:∀{H':Hp},(∀b∈fp,H' b=none)->∀b∈fp,ia (cM X xs fr scope cl C s H3 fp) [] H' b:=λ{H'} hn b hb=>
  ⟨hn b hb,(I5.ok.uS b hb).1,I5.ok.uF b hb,.inl hb,(I5.ok.uS b hb).2,λp hp=>absurd (show p∈([]:List (Addr×Obj)) from hp) (by simp)⟩
 rcases turn i n ys H5 w5 with⟨stop,qn⟩|⟨go,N,hN,step⟩
 ·refine az (T.done (cM X xs fr scope cl C s H3 fp) rfl rfl rfl hc i [] s5 _ H5 _ I5 (lO r_) oI stop) λr s6 zq=>?_;obtain⟨hr,I6⟩:=zq;subst hr;exact fin _ _ _ I6 qn
 ·refine az (T.item (cM X xs fr scope cl C s H3 fp) rfl rfl rfl hc i [] s5 _ H5 _ I5 (lO r_) oI go) λr s6 zq=>?_;obtain⟨u,hr,h6⟩:=zq;subst hr;refine az h6 λ_ s7 zq=>?_;obtain⟨v,H7,I7,r7,y7,sv,Hd⟩:=zq;have Hf:=I7.pinned (lO Hd) (T.obj _ _ sv);refine wpAny_mono (hg _ _ _ _ _ s7 _ H7 v u _ Hf r7 (step v H7 y7 os oM)) (λ_ s8 zq=>?_) λ_ _ z=>False.elim z;obtain⟨σ8,H8,I8,⟨jL,GG,e8⟩,q8⟩:=zq;subst e8;have again:∀{oN:St} {H9:Hp} {s9:Shared} {oO:List V},oN.length=xs.length->Inv (cM X xs fr scope cl C s H3 fp) ([]++pQ fp s7.heap) (oN++gh σ fr) H9 s9->N oO H9->
    ∃m,m<n/\∃i ys H' os,os.length=xs.length/\Inv (cM X xs fr scope cl C s H3 fp) [] (os++gh σ fr) H' s9/\tn i s9.heap/\(∀b∈fp,H' b=none)/\W i m ys H':=λ{oN H9 s9 oO} l1 I9 n9=>by
   obtain⟨m',hm,w9⟩:=hN oO H9 n9;refine⟨m',hm,i+1,oO,H9,oN,l1,I9.ue,T.keep _ _ _ sv λb hb o e=>(I9.pin (b,o) (Yr _ (Yr _ (pB hb e)))).1,λb hb=>?_,w9⟩;obtain⟨o,e,d⟩:=T.obj _ _ sv b hb;exact(I9.pin (b,o) (Yr _ (Yr _ (pB hb e)))).2.1
  refine wpAny_mono (Hq _ _ _ _ _ s8 _ H8 _ I8 q8) (λx s9 h9=>wpAny_mono h9 (λr9 Hg h10=>?_) λ_ _ z=>False.elim z) λ_ _ z=>False.elim z;obtain⟨AH,Hu,tn2,J2,oP,oU,Hh,T2,Rx,Hv,W2,⟨m2,w2⟩,Zez⟩:=h10;subst oU;have F_:∀{H':Hp},(∀b∈Hu,H' b=none)->∀b∈Hu,ia (cM X xs fr scope cl C s H3 fp) ([]++pQ fp s7.heap) H' b:=λhn b hb=>⟨hn b hb,(Hv b hb).2⟩;have QL:codeAny (model X.prog X.w) X.A (.compLoop (qj elt t1 i1 t2 i2 scope pos) 1 (.ref AH) (.ref D) (compEnvC scope cl C X.env)) (λr lQ=>match r with|.ok _=>∃m,m<n/\∃i ys H' os,os.length=xs.length/\Inv (cM X xs fr scope cl C s H3 fp) [] (os++gh σ fr) H' lQ/\tn i lQ.heap/\(∀b∈fp,H' b=none)/\W i m ys H'|.error _=>False) Hg:=by
   refine ZL (λk s'=>∃j zs aE H',Inv (cM X xs fr scope cl C s H3 fp) ([]++pQ fp s7.heap) aE H' s'/\tn2 j s'.heap/\(∀b∈Hu,H' b=none)/\W2 j k zs aE H') ?_ m2 ⟨0,ys,_,oP,Hh,Rx,λb hb=>(Hv b hb).1,w2⟩;rintro k Hi ⟨j,zs,Zfj,xK,AE,Ry,Rz,w11⟩;rcases Zez j k zs Zfj xK w11 with⟨stop,⟨u5,Zfk,e3⟩,qn⟩|⟨go,N2,hN2,ZeA⟩
   ·refine az (T2.done (cM X xs fr scope cl C s H3 fp) rfl rfl rfl hc j _ Hi _ xK _ AE (F_ Rz) Ry stop) λr s12 zq=>?_;obtain⟨hr,I12⟩:=zq;subst hr;subst e3;exact again Zfk I12 qn
   ·refine az (T2.item (cM X xs fr scope cl C s H3 fp) rfl rfl rfl hc j _ Hi _ xK _ AE (F_ Rz) Ry go) λr s12 zq=>?_;obtain⟨u2,hr,AI⟩:=zq;subst hr;refine az AI λ_ s13 zq=>?_;obtain⟨v2,AJ,I13,r13,y13,GJ,Zfl⟩:=zq;have Zfm:=I13.pinned (F_ Zfl) (T2.obj _ _ GJ);refine wpAny_mono (Hs _ _ _ _ _ s13 _ AJ v2 u2 _ Zfm r13 (ZeA v2 AJ y13)) (λ_ s14 zq=>?_) λ_ _ z=>False.elim z;obtain⟨Zfn,qk,I14,q14⟩:=zq;refine wpAny_mono (he _ _ _ _ _ s14 _ qk _ I14 q14) (λu1 s15 zq=>?_) λ_ _ z=>False.elim z;obtain⟨y,Hw,I15,r15,hD,hz,lY⟩:=zq;refine wpAny_mono (wc (X:=cM X xs fr scope cl C s H3 fp) _ s15 _ Hw (.ref D) [y] _ [u1] (λ_ H'=>N2 (zs++[y]) Zfn H') I15 rfl (.cons r15 .nil) ⟨_,zs,y,rfl,rfl,hD,hz,lY⟩) (λ_ s16 zq=>?_) λ_ _ z=>False.elim z;obtain⟨_,SG,Hx,_,q16⟩:=zq;obtain⟨m',hm,w16⟩:=hN2 _ _ _ q16;refine⟨m',hm,j+1,_,_,SG,Hx.ue,T2.keep _ _ _ GJ λb hb o e=>(Hx.pin (b,o) (Yr _ (Yr _ (pB hb e)))).1,λb hb=>?_,w16⟩;obtain⟨o,e,d⟩:=T2.obj _ _ GJ b hb;exact(Hx.pin (b,o) (Yr _ (Yr _ (pB hb e)))).2.1
  exact WD QL (T2.self _ 0 _ _ _ Rx QL)
def ZdF(n:Nat)(wi:TI)(fr:List (Str×Nat))(jM:TG)(jN:TI)(lX:TG)(te:TE):TE:=λσ H Q=>wi σ H λJ H1=>∀D,H1 D=none->FO n J jM jN lX te (gh σ fr) D H1 Q
theorem ZaG(hc:X.calm=true)(S:pC X scope cl xs fr)(hg:∀C s H fp,PG (cM X xs fr scope cl C s H fp) t1 jM)(hi:PI X t1 i1 wi)(Hq:∀C s H fp,PI (cM X xs fr scope cl C s H fp) t2 i2 jN)(Hs:∀C s H fp,PG (cM X xs fr scope cl C s H fp) t2 lX)
  (he:∀C s H fp,PE (cM X xs fr scope cl C s H fp) elt te)(hs:∀x,foldedSetIterable i1 X.env x=pure x:=by intro _;rfl)(qi:∀C x,foldedSetIterable i2 (compEnvC scope cl C X.env) x=pure x:=by intro _ _;rfl):
  PE X (.ListComp elt [⟨t1,i1,[],0⟩,⟨t2,i2,[],0⟩] scope pos) (ZdF xs.length wi fr jM jN lX te):=by
 intro pins s σ H Q I h;refine wpAny_comprehension_free rfl hs S.uI S.kind S.names (az (hi pins s σ H _ I h) λv s1 h1=>az h1 λr9 s2 h2=>?_);obtain⟨it,fp,tn,J,H2,e,I2,T,dQ,f2,hw⟩:=h2;subst e;refine YA (RR:=λacc C=>compPost (model X.prog X.w) X.A X.xe none (EP X pins σ Q) acc C) hc S hg Hq Hs he qi I2 T dQ f2 hw ?_;intro D C s1 H1 m I1 hn f0 f1 f3 f4 f5 q;exact⟨m,hn,λh' lV=>⟨.ref D,H1,I1.turned (λb o hb e=>lV.extBut b o hb e) f0 f1 (.inr f3) f4 f5,rfl,q⟩⟩
end
theorem eY{X:Cx}{K:PySem.W.Frag}{tg l:Expr}{tl:TE}(h:X.K=K)(hl:PE X l tl):PI X tg l (Qy K tl):=h▸NB hl
theorem hV{X:Cx}{K:PySem.W.Frag}{pos:Pos}{es:List Expr}{k:Nat}{t:m5}{n:Nat}(h:X.K=K)(hc:X.calm=true)(hg:xC X es t)
  (hn:(assignEach es X.env).length=n:=by rfl)(eB:(assignEach es X.env).findIdx? (·.1)=none:=by rfl):PG X (.Tuple es k pos) (Ri K n t):=h▸ZcT hc hg hn eB
theorem Zb0{K:PySem.W.Frag}{a:Addr}{xs:List V}{n:Nat}{jM:TG}{jN:TI}{lX:TG}{te:TE}{fv:St}{D:Addr}{H:Hp}{Q:VK}(Pv:Nat->List V->Hp->Prop)(h0:Pv 0 [] (upd H D (.lst [])))(hl:∀i ys H,i<=xs.length->Pv i ys H->aj K H a xs)
  (hs:∀i v ys H,xs[i]?=some v->Pv i ys H->∀os:St,os.length=n->jM v (os++fv) H λc6 H2=>(∃jL:St,jL.length=n/\c6=jL++fv)/\jN c6 H2 λJ2 H3=>∃(b:Addr) (zs:List V) (Pw:Nat->List V->St->Hp->Prop),J2=jq K b/\Pw 0 ys c6 H3/\
   (∀k ys σ H,k<=zs.length->Pw k ys σ H->aj K H b zs)/\
   (∀k v2 ys σ H,zs[k]?=some v2->Pw k ys σ H->lX v2 σ H λxO H6=>te xO H6 λy H7=>H7 D=some (.lst ys)/\ys.length<sizeLine/\Pw (k+1) (ys++[y]) xO (upd H7 D (.lst (ys++[y]))))/\
   ∀ys σ H,Pw zs.length ys σ H->(∃u5:St,u5.length=n/\σ=u5++fv)/\Pv (i+1) ys H)
  (hd:∀ys H,Pv xs.length ys H->Q (.ref D) H)(ZeB:∀σ H (R R':It->Hp->Prop),(∀J H,R J H->R' J H)->jN σ H R->jN σ H R')(ZeC:∀v σ H (R R':St->Hp->Prop),(∀σ H,R σ H->R' σ H)->jM v σ H R->jM v σ H R'):FO n (jq K a) jM jN lX te fv D H Q:=by
 refine⟨λi m ys H=>m=xs.length-i/\i<=xs.length/\Pv i ys H,⟨xs.length,by simp,Yw _,h0⟩,?_⟩;rintro i m ys H ⟨rfl,hi,p⟩;have q:=hl i ys H hi p;by_cases bH:i<xs.length
 ·refine .inr ⟨⟨xs,xs[i],q,by simp[bH]⟩,Pv (i+1),λgv H' p'=>⟨xs.length-(i+1),by omega,rfl,bH,p'⟩,λx H' y os oM=>?_⟩;obtain⟨e,y⟩:=y;subst e;refine ZeC _ _ _ _ _ (λc6 H2 ⟨h1,h2⟩=>⟨h1,ZeB _ _ _ _ (λJ2 H3 h3=>?_) h2⟩) (hs i x ys _ (y xs q) p os oM);obtain⟨b,zs,Pw,rfl,w0,wl,ws,wd⟩:=h3;refine⟨λk m2 fV bU H4=>m2=zs.length-k/\k<=zs.length/\Pw k fV bU H4,⟨zs.length,by simp,Yw _,w0⟩,?_⟩;rintro k m2 fV bU H4 ⟨rfl,hk,w⟩;have q2:=wl k fV bU H4 hk w;by_cases AK:k<zs.length
  ·refine .inr ⟨⟨zs,zs[k],q2,by simp[AK]⟩,Pw (k+1),λgv aE H' p'=>⟨zs.length-(k+1),by omega,rfl,AK,p'⟩,λv2 H5 y2=>?_⟩;obtain⟨e2,y2⟩:=y2;subst e2;exact ws k v2 fV bU _ (y2 zs q2) w
  ·have e:k=zs.length:=by omega
   subst e;exact .inl ⟨⟨zs,q2,Yd _⟩,(wd fV bU H4 w).1,(wd fV bU H4 w).2⟩
 ·have e:i=xs.length:=by omega
  subst e;exact .inl ⟨⟨xs,q,Yd _⟩,hd ys H p⟩
section
variable {prog:Program}{w:World}{κ:Type}[DecidableEq κ]{knd:PySem.KeyKind prog w κ}{A:Around}{E:Value->Shared->Prop}{s:Shared}
theorem UN{d:Addr}{kvs:List (κ×Value)}{k:κ}{key dflt:Value}{Q:Value->Shared->Prop}(kG:knd.is k key=true)(hm:s.heap.DictOf knd d kvs)
  (ZdG:∀v,valueAt kvs k=some v->Q v {s with toks:=s.toks+1})
  (Zfo:valueAt kvs k=none->∀h',h'.DictOf knd d (stored kvs k dflt)->Heap.SameBut d s.heap h'->Q dflt {s with heap:=h',toks:=s.toks+1})
  (hsz:kvs.length<=sizeLine):wpAny (model prog w) A (dictSetDefault d key dflt) Q E s:=by
 obtain⟨o,es,ep,ho,hc,hd,hk,hp,hn⟩:=hm;have hes:es.size<=sizeLine:=by
  have e1:=hp.length
  grind
 have hf:∀x,findBy knd.is es x=valueAt kvs x:=λx=>by
  rw[←hp.find x];simp[findBy]
 unfold dictSetDefault;try with_reducible refine wpAny_holding ?_
 refine wpAny_bind (knd.pyHash kG (wpAny_bind (wpAny_dictFind_of kG ho hd hk ?_)));have Zhj:(es.findIdx? λe=>knd.is k e.key)=kvs.findIdx? λkv=>decide (kv.1=k):=by
  rw[←hp.findIdx k];obtain⟨l⟩:=es;simp
 cases hi:es.findIdx? λe=>knd.is k e.key with
 |some i=>
  have AL:valueAt kvs k=(es[i]?).map (·.val):=by rw[←hf k,findBy_of_findIdx?,hi]
  refine wpAny_bind (wpAny_dictEntries ho hd ?_);cases he:es[i]? with
  |none=>
   have:=Array.findIdx?_eq_some_iff_findIdx_eq.mp hi
   grind
  |some e=>
   rw[he] at AL;exact wpAny_bind (wpAny_rule (wpAny_pure (ZdG e.val AL)))
 |none=>
  have AL:valueAt kvs k=none:=by rw[←hf k,findBy_of_findIdx?,hi]
  have RA:¬(kvs.any λkv=>decide (kv.1=k))=true:=by
   grind
  refine wpAny_bind (wpAny_rule (wpAny_bind (wpAny_updateDictKeys ho hd (wpAny_pure (Zfo AL _ ⟨_,_,ep+1,J1 _ ho (Obj.isFreed_of_dict (Obj.data_mapDictKeys hd _)),
   hc.mapDictKeys _,Obj.data_mapDictKeys hd _,hk.push kG _,?_,?_⟩ (Heap.SameBut.update ..))))))
  ·rw[stored,if_neg RA];have:=hp.append kG (knd.hash k) dflt
   grind
  ·rw[stored,if_neg RA,Yn,Wo]
   grind
theorem U6{d:Addr}{k:κ}{key:Value}(kG:knd.is k key=true)(hd:(d==sysModules)=false)(dflt:Value):
  MeetsIn prog w (Builtin.«dict.setdefault» ⟨[.ref d,key,dflt],[]⟩) (λ_ R s=>∃kvs,s.heap.DictOf knd d kvs/\kvs.length<=sizeLine/\
   (∀v,valueAt kvs k=some v->R (.ok (.ret v)) {s with toks:=s.toks+1})/\
   (valueAt kvs k=none->∀h',h'.DictOf knd d (stored kvs k dflt)->Heap.SameBut d s.heap h'->R (.ok (.ret dflt)) {s with heap:=h',toks:=s.toks+1})):=
 .of_wp λA R s ⟨kvs,hm,hz,h1,h2⟩=>by
  refine wpAny_bind (wpAny_bind (wpAny_notOrdered_dict hm.typeIs (wpAny_pure ?_)));show wpAny _ _ (if(d==sysModules)=true then _ else(dictSetDefault d key dflt>>=_)) _ _ s;rw[if_neg (by rw[hd];exact Yj)];exact wpAny_bind (UN kG hm (λv hv=>wpAny_pure ⟨v,rfl,h1 v hv⟩) (λhn h' hm' lV=>wpAny_pure ⟨dflt,rfl,h2 hn h' hm' lV⟩) hz)
end
section
variable {X:Cx}{pins:List (Addr×Obj)}{σ:St}{H:Hp}{s:Shared}{a:Addr}{kvs:List (Key×V)}{k:Key}{z:V}{u r:Value}{A:Around}{E:Value->Shared->Prop}
theorem ZaH(I:Inv X pins σ H s)(e:H a=some (.dK kvs))(ry:RelV (kV k) u)(rz:RelV z r)(l:kvs.length<sizeLine)
  (h1:∀v w' s',aO kvs k=some v->Inv X pins σ H s'->RelV v w'->Q w' s')(h2:∀s',aO kvs k=none->Inv X pins σ (upd H a (.dK (putK kvs k z))) s'->Q r s'):
  wpAny (model X.prog X.w) A (call (.builtin "dict.setdefault") [.ref a,u,r]) Q E s:=by
 obtain⟨zz,hd,vs,rel,dd⟩:=kz I.av e;have hz:vs.length<=sizeLine:=by rw[←rel.length];exact zz
 have rv:=rel.val k;refine call_meetsIn PySem.F.slot_dict_setdefault dd.typeIs PySem.F.entry_dict_setdefault (PySem.F.args_dict_setdefault_3 _ _ _) (U6 (lK ry) hd r) ⟨vs,dd,hz,λv hv=>?_,λhn h' iq hs=>?_⟩
 ·cases ev:aO kvs k with
  |none=>rw[ev,hv] at rv;cases rv
  |some x=>
   rw[ev,hv] at rv;exact h1 x v _ ev (I.tok _) rv
 ·have ev:aO kvs k=none:=by
   cases ev:aO kvs k with
   |none=>rfl
   |some x=>rw[ev,hn] at rv;cases rv
  have hl:(putK kvs k z).length<=sizeLine:=by have:=vV kvs k z;omega
  exact h2 _ ev (qT I (by rw[e];exact True.intro) hs (let⟨q,_,_,hq,_⟩:=iq;⟨q,hq⟩) (wQ hl hd (rel.put k rz) iq))
end
def EL(td ty tx:TE):TE:=λσ H Q=>td σ H λx H1=>∃a,x=.ref a/\xM H1 a/\ty σ H1 λy H2=>tx σ H2 λz H3=>∃kvs k,H3 a=some (.dK kvs)/\y=kV k/\kvs.length<sizeLine/\
 (∀v,aO kvs k=some v->Q v H3)/\(aO kvs k=none->Ch H3 a (.dK (kvs++[(k,z)])) (Q z))
def Zb1(td ty:TE):TE:=λσ H Q=>td σ H λx H1=>∃a,x=.ref a/\xM H1 a/\ty σ H1 λy H2=>∃kvs k v,H2 a=some (.dK kvs)/\y=kV k/\aO kvs k=some v/\Ch H2 a (.dK (gm kvs k)) (Q v)
section
variable {X:Cx}{o e f:Expr}{apos ck:Pos}{td ty tx:TE}
theorem DK(ho:PE X o td)(he:PE X e ty)(hf:PE X f tx)(m:M2 X o "setdefault" apos e f ck):PE X (.Call (.Attribute o "setdefault" apos) [e,f] [] ck) (EL td ty tx):=by
 intro pins s σ H Q I h;refine wpAny_Call_method m.base m.eT m.line plainAttrs_dict PySem.F.slot_dict_setdefault PySem.F.type_dict_setdefault (az (ho pins s σ H _ I h) λu s1 zq=>?_);obtain⟨x,H1,I1,rx,a,ex,d,q1⟩:=zq;subst ex;obtain rfl:u=Value.ref a:=rx;obtain⟨t1,t2,_⟩:=q5 I1 d;refine⟨t1,t2,?_⟩;rw[m.trees];refine Calls.callWith_builtin rfl (Calls.evalArgs_plain (Calls.spliced_cons (az (he pins s1 σ H1 _ I1 q1) λiv s2 ⟨y,H2,I2,ry,q2⟩=>
  Calls.spliced_cons (az (hf pins s2 σ H2 _ I2 q2) λfv s3 ⟨z,H3,I3,rz,kvs,k,ea,ey,lz,q3,q4⟩=>Calls.spliced_nil ?_))))
 subst ey;refine ZaH I3 ea ry rz lz (λv w' s4 ev I4 rv=>⟨v,H3,I4,rv,q3 v ev⟩) λs4 ev I4=>?_;rw[ke _ ev] at I4;exact⟨z,_,I4,rz,(q4 ev).at⟩
theorem LB(ho:PE X o td)(he:PE X e ty)(m:M1 X o "pop" apos e ck):PE X (.Call (.Attribute o "pop" apos) [e] [] ck) (Zb1 td ty):=by
 intro pins s σ H Q I h;refine wpAny_Call_method m.base m.eT m.line plainAttrs_dict slot_dict_pop PySem.F.type_dict_pop (az (ho pins s σ H _ I h) λu s1 zq=>?_);obtain⟨x,H1,I1,rx,a,ex,d,q1⟩:=zq;subst ex;obtain rfl:u=Value.ref a:=rx;obtain⟨t1,t2,_⟩:=q5 I1 d;refine⟨t1,t2,?_⟩;rw[m.trees];refine Calls.callWith_builtin rfl (Calls.evalArgs_plain (Calls.spliced_cons (az (he pins s1 σ H1 _ I1 q1) λiv s2 ⟨y,H2,I2,ry,kvs,k,v,ea,ey,l,q2⟩=>Calls.spliced_nil ?_)));subst ey;exact Zes I2 ea ry l (.inl rfl) λw' s3 I3 fU=>⟨v,_,I3,fU,q2.at⟩
end
end L2
namespace L2
open PySem PySem.W PySem.Calls PySem.Spec PyProof.Rows
def dY{α:Type}(n:Nat)(P:α->Prop):KasT α->Prop
 |.ret a=>P a
 |.ask i j k=>i<n/\j<n/\∀b,dY n P (k b)
theorem dY.bind{α β:Type}{n:Nat}{P:α->Prop}{Q:β->Prop}{f:α->KasT β}(hf:∀a,P a->dY n Q (f a)):∀{t:KasT α},dY n P t->dY n Q (t.bind f)
 |.ret a,h=>hf a h
 |.ask _ _ _,h=>⟨h.1,h.2.1,λb=>dY.bind hf (h.2.2 b)⟩
def Good(n:Nat)(p:Array Nat):Prop:=0<n/\p.Perm (List.range n).toArray
theorem Good.get(g:Good n p)(m:Nat):p.getD m 0<n:=by
 by_cases h:m<p.size
 ·have e:p.getD m 0=p[m]:=by rw[We,Jb h];rfl
  rw[e];have:=g.2.mem_iff.mp (Array.getElem_mem h);simpa using this
 ·have e:p.getD m 0=0:=by rw[We,Jy (by omega)];rfl
  rw[e];exact g.1
theorem Good.rev(g:Good n p)(i j:Nat):Good n (kas_rev p i j):=⟨g.1,(mirror_perm p i j _).trans g.2⟩
theorem EM(g:Good n p):∀f m,dY n (λ_=>True) (kas_asc p f m)
 |0,_=>trivial
 |f+1,m=>⟨g.get m,g.get (m-1),λb=>by
  cases b with
  |true=>(dsimp only;rw[if_pos rfl]);exact trivial
  |false=>(dsimp only;rw[if_neg Yj]);exact EM g f (m+1)⟩
theorem yX:∀f (p:Array Nat) m q,Good n p->dY n (λr=>Good n r.1) (kas_desc f p m q)
 |0,_,_,_,g=>g
 |f+1,p,m,q,g=>⟨g.get m,g.get (m-1),λb=>by
  cases b with
  |true=>
   split;·exact yX f _ _ _ (g.rev _ _)
   ·exact yX f _ _ _ g
  |false=>
   refine⟨g.get (m-1),g.get m,λd=>?_⟩;cases d with
   |true=>(dsimp only;rw[if_pos rfl]);exact g
   |false=>(dsimp only;rw[if_neg Yj]);exact yX f _ _ _ g⟩
theorem KR{n m k:Nat}{p:Array Nat}(g:Good n p):dY n (λr=>Good n r.2) (kas_tail3 m k p):=by
 refine dY.bind (λa _=>?_) (EM (g.rev 0 m) _ _);exact g.rev 0 m
theorem J_{n m k:Nat}{p:Array Nat}(g:Good n p):dY n (λr=>Good n r.2) (kas_descPart m k p):=by
 refine dY.bind (λr hr=>?_) (yX _ p _ _ g);split;·exact KR (Good.rev hr _ _)
 ·exact KR hr
theorem KS{n k:Nat}{p:Array Nat}(g:Good n p):dY n (λr=>Good n r.2) (kas_count k p):=by
 refine dY.bind (λm _=>?_) (EM g _ _);split;·exact g
 ·split
  ·refine⟨g.get _,g.get _,λb=>?_⟩;cases b with
   |true=>(dsimp only;rw[if_pos rfl]);exact g
   |false=>(dsimp only;rw[if_neg Yj]);exact J_ (g.rev _ _)
  ·exact J_ g
theorem DL(g:Good n p):∀f l r,dY n (λ_=>True) (kas_place p k f l r)
 |0,_,_=>trivial
 |f+1,l,r=>by
  unfold kas_place;split;·exact trivial
  ·refine⟨g.get _,g.get _,λb=>?_⟩;cases b with
   |true=>(dsimp only;rw[if_pos rfl]);exact DL g f _ _
   |false=>(dsimp only;rw[if_neg Yj]);exact DL g f _ _
theorem Mx{n:Nat}:∀f (p:Array Nat) k,Good n p->dY n (Good n) (kas_bin f p k)
 |0,_,_,g=>g
 |f+1,p,k,g=>dY.bind (λl _=>Mx f _ _ ⟨g.1,(bubble_perm p k _).trans g.2⟩) (DL g _ _ _)
theorem ZN{n:Nat}(h:0<n):dY n (Good n) (kas_sort n):=by
 refine dY.bind (λr hr=>?_) (KS ⟨h,Array.Perm.refl _⟩);split;·exact Mx _ _ _ hr
 ·exact hr
theorem range_getD(vs:List α)(d:α):(List.range vs.length).map (λi=>vs.getD i d)=vs:=by
 refine Ws λi=>?_
 grind
section
variable {prog:Program}{w:World}{A:Around}{E:Value->Shared->Prop}{s:Shared}
end
def zM(h:Heap)(vs:List Value):Prop:=∀v∈vs,∃(a:Addr) (o:Obj) (n:Nat) (x y:Int) (t u:Tok),v=.ref a/\h.get? a=some o/\o.cls=.type "tuple"/\o.data=.seq #[.int x t,.int y u] n
theorem zM.SH:∀{vs:List Value},zM h vs->∃fs:List Value,KatTups h vs fs/\fs.length=vs.length/\∀v∈fs,∃x t,v=Value.int x t
 |[],_=>⟨[],KatTups.nil,rfl,λ_ h=>by cases h⟩
 |v::vs,hv=>by
  obtain⟨a,o,n,x,y,t,u,rfl,h1,h2,h3⟩:=hv v Yf;obtain⟨fs,k1,k2,k3⟩:=zM.SH λz hz=>hv z (Yu _ hz);refine⟨.int x t::fs,KatTups.cons h1 h2 h3 rfl k1,by rw[Wq,Wq,k2],λv hv=>?_⟩
  grind
section
variable {prog:Program}{w:World}{A:Around}{E:Value->Shared->Prop}{s:Shared}
end
section
variable {prog:Program}{w:World}{A:Around}{E:Value->Shared->Prop}{s:Shared}
end
theorem LC:∀{as:List Addr} {us:List Value},Vals (as.map V.ref) us->us=as.map Value.ref
 |[],_,.nil=>rfl
 |a::as,u::us,.cons r t=>by
  rw[r,LC t,Wl]
theorem LD:∀as:List Addr,Vals (as.map V.ref) (as.map Value.ref)
 |[]=>.nil
 |_::as=>.cons rfl (LD as)
def Run{α:Type}(lt:Nat->Nat->Bool):KasT α->α
 |.ret a=>a
 |.ask i j k=>Run lt (k (lt i j))
theorem Run.bind:∀t:KasT α,Run lt (t.bind f)=Run lt (f (Run lt t))
 |.ret _=>rfl
 |.ask i j k=>Run.bind (k (lt i j))
theorem dY.run(hc:∀i j (C:Bool->Shared->Prop),i<n->j<n->C (lt i j) s->cmp i j C s):∀{t:KasT α},dY n P t->G (Run lt t) s->t.kasWp cmp G s
 |.ret _,_,hG=>hG
 |.ask i j k,h,hG=>hc i j _ h.1 h.2.1 (dY.run hc (h.2.2 _) hG)
structure jO(n:Nat)(lt:Nat->Nat->Bool):Prop where
 trans:∀i j k,i<n->j<n->k<n->lt i j=true->lt j k=true->lt i k=true
 AM:∀i j,i<n->j<n->i≠j->lt i j=false->lt j i=true
 Zfp:∀i j,i<n->j<n->lt i j=true->lt j i=false
def Sd(lt:Nat->Nat->Bool)(p:Array Nat)(m:Nat):Prop:=∀i j,i<j->j<m->lt (p.getD i 0) (p.getD j 0)=true
def Ds(lt:Nat->Nat->Bool)(p:Array Nat)(m:Nat):Prop:=∀i j,i<j->j<m->lt (p.getD j 0) (p.getD i 0)=true
theorem Good.size(g:Good n p):p.size=n:=by
 have:=g.2.size_eq
 grind
theorem Good.ne(g:Good n p)(hi:i<n)(hj:j<n)(ne:i≠j):p.getD i 0≠p.getD j 0:=by
 have nd:p.toList.Nodup:=by
  have:=(Jr.mp g.2).nodup_iff.mpr (by simpa using List.nodup_range);exact this
 have sz:=g.size;have e:∀k (hk:k<n),p.getD k 0=p.toList[k]'(by rw[Wy];omega):=λk hk=>by
  simp_all
 have pw:=W3.mp nd
 grind
section
variable {n:Nat}{lt:Nat->Nat->Bool}
theorem NR(L:jO n lt)(g:Good n p)(h1:1<=m)(sd:Sd lt p m)(h:lt (p.getD (m-1) 0) (p.getD m 0)=true):Sd lt p (m+1):=by
 intro i j jP hj;by_cases e:j=m
 ·subst e;by_cases e2:i=j-1;·rw[e2];exact h
  ·exact L.trans _ _ _ (g.get _) (g.get _) (g.get _) (sd i (j-1) (by omega) (by omega)) h
 ·exact sd i j jP (by omega)
theorem Zb2(L:jO n lt)(g:Good n p)(h1:1<=m)(ds:Ds lt p m)(h:lt (p.getD m 0) (p.getD (m-1) 0)=true):Ds lt p (m+1):=by
 intro i j jP hj;by_cases e:j=m
 ·subst e;by_cases e2:i=j-1;·rw[e2];exact h
  ·exact L.trans _ _ _ (g.get _) (g.get _) (g.get _) h (ds i (j-1) (by omega) (by omega))
 ·exact ds i j jP (by omega)
theorem zx(L:jO n lt)(g:Good n p):∀f m,1<=m->m+f<=n->Sd lt p m->Sd lt p (Run lt (kas_asc p f m))/\m<=Run lt (kas_asc p f m)/\Run lt (kas_asc p f m)<=m+f
 |0,m,_,_,sd=>⟨sd,Yd _,Yd _⟩
 |f+1,m,h1,h2,sd=>by
  have e:Run lt (kas_asc p (f+1) m)=Run lt (if lt (p.getD m 0) (p.getD (m-1) 0)=true then KasT.ret m else kas_asc p f (m+1)):=rfl;rw[e];by_cases c:lt (p.getD m 0) (p.getD (m-1) 0)=true
  ·rw[if_pos c];exact⟨sd,Yd _,by show m<=_;omega⟩
  ·rw[if_neg c];have c':lt (p.getD m 0) (p.getD (m-1) 0)=false:=by cases z:lt (p.getD m 0) (p.getD (m-1) 0) with|true=>exact absurd z c|false=>rfl
   obtain⟨a,b,d⟩:=zx L g f (m+1) (by omega) (by omega) (NR L g h1 sd (L.AM _ _ (g.get _) (g.get _) (g.ne (by omega) (by omega) (by omega)) c'))
   grind
theorem My(L:jO n lt)(g:Good n p):∀f m,1<=m->m+f<=n->Ds lt p m->∃m',Run lt (kas_desc f p m 0)=(p,m',0)/\Ds lt p m'/\m<=m'/\m'<=m+f
 |0,m,_,_,ds=>⟨m,rfl,ds,Yd _,Yd _⟩
 |f+1,m,h1,h2,ds=>by
  have e:Run lt (kas_desc (f+1) p m 0)=Run lt (if lt (p.getD m 0) (p.getD (m-1) 0)=true then(if 0>0 then kas_desc f (kas_rev p (m-(0+1)) m) (m+1) 0 else kas_desc f p (m+1) 0) else KasT.ask (p.getD (m-1) 0) (p.getD m 0) λd=>if d=true then KasT.ret (p,m,0) else kas_desc f p (m+1) (0+1)):=rfl;rw[e];by_cases c:lt (p.getD m 0) (p.getD (m-1) 0)=true
  ·rw[if_pos c,if_neg (by omega)];obtain⟨m',a,b,d,d'⟩:=My L g f (m+1) (by omega) (by omega) (Zb2 L g h1 ds c)
   grind
  ·rw[if_neg c];have c':lt (p.getD m 0) (p.getD (m-1) 0)=false:=by cases z:lt (p.getD m 0) (p.getD (m-1) 0) with|true=>exact absurd z c|false=>rfl
   have e2:Run lt (KasT.ask (p.getD (m-1) 0) (p.getD m 0) λd=>if d=true then KasT.ret (p,m,0) else kas_desc f p (m+1) (0+1))=Run lt (if lt (p.getD (m-1) 0) (p.getD m 0)=true then KasT.ret (p,m,0) else kas_desc f p (m+1) (0+1)):=rfl;rw[e2,if_pos (L.AM _ _ (g.get m) (g.get (m-1)) (g.ne (by omega) (by omega) (by omega)) c')];exact⟨m,rfl,ds,Yd _,by omega⟩
theorem NS(hm:m<=p.size)(hi:i<m):(kas_rev p 0 m).getD i 0=p.getD (m-1-i) 0:=by
 unfold kas_rev;rw[We,getElem?_mirror_all hm,if_pos ⟨Yw _,hi⟩,←We]
 congr 1
 omega
theorem ZO(L:jO n lt)(g:Good n p)(h1:1<=m)(hm:m<=n)(ds:Ds lt p m):Good n (Run lt (kas_tail3 m n p)).2/\Sd lt (Run lt (kas_tail3 m n p)).2 (Run lt (kas_tail3 m n p)).1/\m<=(Run lt (kas_tail3 m n p)).1/\(Run lt (kas_tail3 m n p)).1<=n:=by
 have sd:Sd lt (kas_rev p 0 m) m:=λi j jP hj=>by
  rw[NS (by rw[g.size];exact hm) (by omega),NS (by rw[g.size];exact hm) hj];exact ds _ _ (by omega) (by omega)
 have e:Run lt (kas_tail3 m n p)=(Run lt (kas_asc (kas_rev p 0 m) (n-m) m),kas_rev p 0 m):=by
  unfold kas_tail3;rw[Run.bind];rfl
 obtain⟨a,b,c⟩:=zx L (g.rev 0 m) (n-m) m h1 (by omega) sd;rw[e];exact⟨g.rev 0 m,a,b,by show Run lt _<=n;omega⟩
theorem ZP(L:jO n lt)(g:Good n p):Good n (Run lt (kas_count n p)).2/\Sd lt (Run lt (kas_count n p)).2 (Run lt (kas_count n p)).1/\1<=(Run lt (kas_count n p)).1/\(Run lt (kas_count n p)).1<=n:=by
 have n0:=g.1;obtain⟨sd,h1,h2⟩:=zx L g (n-1) 1 (Yd _) (by omega) (λi j jP hj=>by omega);have e:Run lt (kas_count n p)=Run lt (if(Run lt (kas_asc p (n-1) 1)==n)=true then KasT.ret (Run lt (kas_asc p (n-1) 1),p) else if Run lt (kas_asc p (n-1) 1)>1 then KasT.ask (p.getD 0 0) (p.getD (Run lt (kas_asc p (n-1) 1)-1) 0) λc=>if c=true then KasT.ret (Run lt (kas_asc p (n-1) 1),p) else kas_descPart (Run lt (kas_asc p (n-1) 1)) n (kas_rev p 0 (Run lt (kas_asc p (n-1) 1))) else kas_descPart (Run lt (kas_asc p (n-1) 1)) n p):=by
  unfold kas_count;rw[Run.bind]
 rw[e];generalize er:Run lt (kas_asc p (n-1) 1)=r at sd h1 h2;by_cases c1:(r==n)=true
 ·rw[if_pos c1];exact⟨g,sd,h1,by show r<=n;omega⟩
 ·rw[if_neg c1];have rn:r≠n:=λz=>c1 (beq_iff_eq.mpr z);by_cases c2:r>1
  ·rw[if_pos c2];have e2:Run lt (KasT.ask (p.getD 0 0) (p.getD (r-1) 0) λc=>if c=true then KasT.ret (r,p) else kas_descPart r n (kas_rev p 0 r))=Run lt (if lt (p.getD 0 0) (p.getD (r-1) 0)=true then KasT.ret (r,p) else kas_descPart r n (kas_rev p 0 r)):=rfl;rw[e2,if_pos (sd 0 (r-1) (by omega) (by omega))];exact⟨g,sd,h1,by show r<=n;omega⟩
  ·rw[if_neg c2];have r1:r=1:=by omega
   subst r1;have hd:lt (p.getD 1 0) (p.getD 0 0)=true:=by
    have:n-1=(n-2)+1:=by omega
    rw[this] at er;have e3:Run lt (kas_asc p (n-2+1) 1)=Run lt (if lt (p.getD 1 0) (p.getD (1-1) 0)=true then KasT.ret 1 else kas_asc p (n-2) (1+1)):=rfl;rw[e3] at er;by_cases c:lt (p.getD 1 0) (p.getD (1-1) 0)=true;·exact c
    ·rw[if_neg c] at er;have c':lt (p.getD 1 0) (p.getD (1-1) 0)=false:=by cases z:lt (p.getD 1 0) (p.getD (1-1) 0) with|true=>exact absurd z c|false=>rfl
     have Hy:Sd lt p 2:=NR L g (m:=1) (Yd _) (λi j jP hj=>by omega) (L.AM _ _ (g.get _) (g.get _) (g.ne (by omega) (by omega) (by omega)) c');obtain⟨_,b,_⟩:=zx L g (n-2) 2 (by omega) (by omega) Hy;rw[show 1+1=2 from rfl] at er;omega
   have ds2:Ds lt p 2:=λi j jP hj=>by
    grind
   obtain⟨m',a,b,c,d⟩:=My L g (n-(1+1)) (1+1) (by omega) (by omega) ds2;have e4:Run lt (kas_descPart 1 n p)=Run lt (kas_tail3 m' n p):=by
    unfold kas_descPart;rw[Run.bind,a];dsimp only;rw[if_neg (by omega)]
   rw[e4];obtain⟨x1,x2,x3,x4⟩:=ZO L g (m:=m') (by omega) (by omega) b;exact⟨x1,x2,by omega,x4⟩
theorem NT(L:jO n lt)(g:Good n p)(sd:Sd lt p n):∀f m,1<=m->m+f<=n->Run lt (kas_asc p f m)=m+f
 |0,_,_,_=>rfl
 |f+1,m,h1,h2=>by
  have e:Run lt (kas_asc p (f+1) m)=Run lt (if lt (p.getD m 0) (p.getD (m-1) 0)=true then KasT.ret m else kas_asc p f (m+1)):=rfl;rw[e,if_neg (by rw[L.Zfp _ _ (g.get _) (g.get _) (sd (m-1) m (by omega) (by omega))];exact Yj),NT L g sd f (m+1) (by omega) (by omega)];omega
theorem ZQ(L:jO n lt)(g:Good n p)(sd:Sd lt p n):Run lt (kas_count n p)=(n,p):=by
 have n0:=g.1;unfold kas_count;rw[Run.bind,(NT L g sd (n-1) 1 (Yd _) (by omega)),if_pos (beq_iff_eq.mpr (by omega))];show(1+(n-1),p)=(n,p)
 grind
theorem Ei(L:jO n lt)(g:Good n p)(hk:k<n)(sd:Sd lt p k):∀f l r,l<=r->r<=k->r-l<=f->(∀i,i<l->lt (p.getD i 0) (p.getD k 0)=true)->(∀i,r<=i->i<k->lt (p.getD k 0) (p.getD i 0)=true)->
  Run lt (kas_place p k f l r)<=k/\(∀i,i<Run lt (kas_place p k f l r)->lt (p.getD i 0) (p.getD k 0)=true)/\∀i,Run lt (kas_place p k f l r)<=i->i<k->lt (p.getD k 0) (p.getD i 0)=true
 |0,l,r,h1,h2,h3,hl,hr=>⟨by show l<=k;omega,hl,λi (hi:l<=i) xP=>hr i (by omega) xP⟩
 |f+1,l,r,h1,h2,h3,hl,hr=>by
  rw[kas_place];by_cases c:l≥r
  ·rw[if_pos c];exact⟨by show l<=k;omega,hl,λi (hi:l<=i) xP=>hr i (by omega) xP⟩
  ·rw[if_neg c];have m1:l<=(l+r)/2:=by omega
   have m2:(l+r)/2<r:=by omega
   generalize(l+r)/2=m at m1 m2;have e2:Run lt (KasT.ask (p.getD k 0) (p.getD m 0) λc=>if c=true then kas_place p k f l m else kas_place p k f (m+1) r)=Run lt (if lt (p.getD k 0) (p.getD m 0)=true then kas_place p k f l m else kas_place p k f (m+1) r):=rfl;rw[e2];by_cases c2:lt (p.getD k 0) (p.getD m 0)=true
   ·rw[if_pos c2];refine Ei L g hk sd f l m m1 (by omega) (by omega) hl λi hi xP=>?_;by_cases e:i=m;·rw[e];exact c2
    ·exact L.trans _ _ _ (g.get _) (g.get _) (g.get _) c2 (sd m i (by omega) xP)
   ·rw[if_neg c2];have c':lt (p.getD k 0) (p.getD m 0)=false:=by cases z:lt (p.getD k 0) (p.getD m 0) with|true=>exact absurd z c2|false=>rfl
    have t:=L.AM _ _ (g.get k) (g.get m) (g.ne hk (by omega) (by omega)) c';refine Ei L g hk sd f (m+1) r (by omega) h2 (by omega) (λi hi=>?_) hr;by_cases e:i=m;·rw[e];exact t
    ·exact L.trans _ _ _ (g.get _) (g.get _) (g.get _) (sd i m (by omega) (by omega)) t
theorem NU(L:jO n lt):∀f (p:Array Nat) k,Good n p->k+f=n->Sd lt p k->Good n (Run lt (kas_bin f p k))/\Sd lt (Run lt (kas_bin f p k)) n
 |0,p,k,g,e,sd=>by
  have e':k=n:=by omega
  refine⟨g,?_⟩;rw[←e'];exact sd
 |f+1,p,k,g,e,sd=>by
  have hk:k<n:=by omega
  obtain⟨a,b,c⟩:=Ei L g hk sd k 0 k (Yw _) (Yd _) (by omega) (λi hi=>absurd hi (Wm _)) (λi h1 h2=>by omega);have e2:Run lt (kas_bin (f+1) p k)=Run lt (kas_bin f (bubble p k (k-Run lt (kas_place p k k 0 k))) (k+1)):=by
   rw[kas_bin,Run.bind]
  rw[e2];generalize Run lt (kas_place p k k 0 k)=l at a b c;have gb:Good n (bubble p k (k-l)):=⟨g.1,(bubble_perm p k _).trans g.2⟩;have sz:=g.size;have get:∀i,(bubble p k (k-l)).getD i 0=if i=l then p.getD k 0 else if l<i/\i<=k then p.getD (i-1) 0 else p.getD i 0:=λi=>by
   have h:=getElem?_bubble (xs:=p) (src:=k) (by omega) (k-l) (by omega) i;rw[show k-(k-l)=l by omega] at h;rw[We,h];by_cases z:i=l;·rw[if_pos z,if_pos z,←We]
   ·rw[if_neg z,if_neg z];by_cases z2:l<i/\i<=k;·rw[if_pos z2,if_pos z2,←We]
    ·rw[if_neg z2,if_neg z2,←We]
  refine NU L f _ (k+1) gb (by omega) λi j jP hj=>?_;rw[get i,get j];by_cases i1:i=l
  ·rw[if_pos i1,if_neg (by omega),if_pos (by omega)];exact c (j-1) (by omega) (by omega)
  ·rw[if_neg i1];by_cases i2:l<i/\i<=k
   ·rw[if_pos i2,if_neg (by omega),if_pos (by omega)];exact sd (i-1) (j-1) (by omega) (by omega)
   ·rw[if_neg i2];have il:i<l:=by omega
    by_cases j1:j=l;·rw[if_pos j1];exact b i il
    ·rw[if_neg j1];by_cases j2:l<j/\j<=k
     ·rw[if_pos j2];exact sd i (j-1) (by omega) (by omega)
     ·rw[if_neg j2];exact sd i j jP (by omega)
theorem ZaI(L:jO n lt)(h:0<n):Good n (Run lt (kas_sort n))/\Sd lt (Run lt (kas_sort n)) n:=by
 obtain⟨a,b,c,d⟩:=ZP L ⟨h,Array.Perm.refl _⟩;have e:Run lt (kas_sort n)=Run lt (if(Run lt (kas_count n (List.toArray (List.range n)))).1<n then kas_bin (n-max (Run lt (kas_count n (List.toArray (List.range n)))).1 1) (Run lt (kas_count n (List.toArray (List.range n)))).2 (max (Run lt (kas_count n (List.toArray (List.range n)))).1 1) else KasT.ret (Run lt (kas_count n (List.toArray (List.range n)))).2):=by
  unfold kas_sort;rw[Run.bind]
 rw[e];generalize Run lt (kas_count n (List.toArray (List.range n)))=r at a b c d;have mx:max r.1 1=r.1:=by omega
 by_cases z:r.1<n
 ·rw[if_pos z,mx];exact NU L _ _ _ a (by omega) b
 ·rw[if_neg z];have:r.1=n:=by omega
  refine⟨a,?_⟩;rw[this] at b;exact b
end
def iQ(p q:Int×Int):Prop:=p.1<q.1\/(p.1=q.1/\p.2<q.2)
def ltB(p q:Int×Int):Bool:=if p.1=q.1 then decide (p.2<q.2) else decide (p.1<q.1)
theorem ltB_iff:ltB p q=true↔iQ p q:=by
 unfold ltB iQ
 grind
def jQ(ps:List (Int×Int))(i j:Nat):Bool:=ltB (ps.getD i (0,0)) (ps.getD j (0,0))
theorem ZdH(nd:ps.Nodup):jO ps.length (jQ ps):=by
 have fl:∀{p q:Int×Int},ltB p q=false->¬iQ p q:=λ{p q} h z=>by rw[ltB_iff.mpr z] at h;cases h
 refine⟨λi j k _ _ _ h1 h2=>?_,λi j hi hj ne h=>?_,λi j _ _ h=>?_⟩
 ·have a:=ltB_iff.mp h1;have b:=ltB_iff.mp h2;refine ltB_iff.mpr ?_;unfold iQ at*;omega
 ·refine ltB_iff.mpr ?_;have a:=fl h;have e:ps.getD i (0,0)≠ps.getD j (0,0):=by
   rw[Yl,Yl,Yb hi,Yb hj];have pw:=W3.mp nd
   grind
  have e':¬((ps.getD i (0,0)).1=(ps.getD j (0,0)).1/\(ps.getD i (0,0)).2=(ps.getD j (0,0)).2):=λz=>e (Prod.ext z.1 z.2);unfold iQ at*;omega
 ·cases z:jQ ps j i with
  |false=>rfl
  |true=>
   have a:=ltB_iff.mp h;have b:=ltB_iff.mp z;unfold iQ at a b;omega
def rB(h:Heap)(vs:List Value)(ps:List (Int×Int)):Prop:=Paired (λv (p:Int×Int)=>∃(a:Addr) (o:Obj) (n:Nat) (t u:Tok),v=.ref a/\h.get? a=some o/\o.cls=.type "tuple"/\o.data=.seq #[.int p.1 t,.int p.2 u] n) vs ps
theorem rB.kC(q:rB h vs ps):zM h vs:=by
 intro v hv;induction q with
 |nil=>cases hv
 |cons f _ ih=>grind
theorem C_{α β:Type}{F:α->β->Prop}{xs:List α}{ys:List β}(h:Paired F xs ys){i:Nat}(hi:i<xs.length)(x:α)(y:β):F (xs.getD i x) (ys.getD i y):=by
 obtain⟨b,e,f⟩:=fO h (Yb hi)
 grind
section
variable {prog:Program}{w:World}{A:Around}{E:Value->Shared->Prop}{s:Shared}
theorem ZaJ{vs:List Value}{ps:List (Int×Int)}(tv:rB s.heap vs ps){i j:Nat}{C:Bool->Shared->Prop}(hi:i<vs.length)(hj:j<vs.length)(hC:C (jQ ps i j) s):kas_ask prog w A (tuples' true) vs i j C s:=by
 unfold kas_ask;obtain⟨a,o,n,t,u,e1,h1,h2,h3⟩:=C_ tv hi Value.none (0,0);obtain⟨a',o',n',t',u',sy,kO,kP,SI⟩:=C_ tv hj Value.none (0,0);unfold jQ at hC;rw[e1,sy];generalize ps.getD i (0,0)=p at hC h3;generalize ps.getD j (0,0)=q at hC SI;refine kat_lt h1 h3 kO SI ?_;unfold ltB at hC;refine kat_cons (SeqAt.EqAt.int_int p.1 t q.1 t' prog w _ _ (kat_go (λb1=>kat_yes (kat_cons (SeqAt.EqAt.int_int p.2 u q.2 u' prog w _ _ (kat_go (λb2=>kat_yes (kat_nil ?_)) λb2=>kat_no ?_)))) λb1=>kat_no ?_));·grind
 ·rw[if_pos (beq_iff_eq.mp b1)] at hC;exact kat_one _ _ (lt_int hC)
 ·rw[if_neg (λz=>by rw[beq_iff_eq.mpr z] at b1;cases b1)] at hC;show wpAny _ _ (oneLt' true _ _) _ _ _;exact kat_lt_int hC
theorem ZdI
  (hQ:∀aI:SortSt,arrOf aI=(List.toArray (List.range 64)).map (kas_item it)->failedOf aI=none->Q () aI s)
  (h:(kas_count 64 (List.toArray (List.range 64))).kasWp (kas_cmp prog w A κ it) (λr s'=>r=(64,List.toArray (List.range 64))/\s'=s) s):kasC (model prog w) A E sortRuns' Q (kas_st κ it (List.toArray (List.range 64))) s:=by
 have RB:(List.toArray (List.range 64)).size=64:=rfl;have szA:(arrOf (kas_st κ it (List.toArray (List.range 64)))).size=64:=(Array.size_map (f:=kas_item it)).trans RB;have mr:minRun' 64 64 0=32:=by decide+kernel
 rw[sortRuns'_eq];refine kasC_bind (kasC_get ?_);(try dsimp only);simp only[szA,mr];refine kasC_bind (kasC_range ?_);show kasC _ _ _ (forIn (0::1::List.range' 2 62) _ _) _ _ _;refine kasC_cons ?_;(try dsimp only);rw[if_neg (show ¬(0:Nat)≥64 by omega)];simp only[Nat.sub_zero];refine kasC_bind (kas_count_ (show 1<=64 by omega) (G5 RB.symm) (λm p' s' _ _ _ hg=>?_) h);obtain⟨e,rfl⟩:=hg;cases e;(try dsimp only);rw[if_neg (show ¬(64:Nat)<32 by omega)];refine kasC_bind (kasC_get ?_);rw[show(pendingOf (kas_st κ it (List.toArray (List.range 64)))).back?=none from rfl];(try dsimp only);refine kasC_bind (kasC_modify (kasC_pure ?_));show kasC _ _ _ (forIn (1::List.range' 2 62) _ _) _ _ _;refine kasC_cons ?_;(try dsimp only);rw[if_pos (show(0:Nat)+64≥64 by omega)];refine kasC_pure ?_;(try dsimp only);refine kasC_bind (kasC_range ?_);show kasC _ _ _ (forIn (0::1::List.range' 2 62) _ _) _ _ _;refine kasC_cons ?_;refine kasC_bind (kasC_get ?_);(try dsimp only);rw[if_pos (show(pendingOf (setPending (kas_st κ it (List.toArray (List.range 64))) ((pendingOf (kas_st κ it (List.toArray (List.range 64)))).push (0,64,0)))).size<=1 from Yd 1)];refine kasC_pure ?_;(try dsimp only);exact kasC_pure (hQ _ rfl rfl)
theorem VQ{R:Array Nat->Prop}{a:Addr}{vs:List Value}{n:Nat}{P:PySem.Fin->Shared->Prop}(ho:s.heap.get? a=some (seqObj "list" vs.toArray n))(iZ:vs.length<=64)
  (hk:2<=vs.length->∀h':Heap,(∀b o,b≠a->s.heap.get? b=some o->h'.get? b=some o)->∃κ:SortKind,(∀(Q:SortKind->Shared->Prop),Q κ {s with heap:=h'}->wpAny (model prog w) A (keyKind' vs.toArray) Q E {s with heap:=h'})/\
   ∀Q':SortSt->Shared->Prop,(∀(p:Array Nat) (aI:SortSt),p.size=vs.length->arrOf aI=p.map (kas_item (vs.toArray.zip vs.toArray))->failedOf aI=none->Good vs.length p->R p->Q' aI {s with heap:=h'})->wpAny (model prog w) A (sortRuns'.run (SortSt.mk' κ (vs.toArray.zip vs.toArray) #[] 7 none)) (λr s'=>Q' r.2 s') E {s with heap:=h'})
  (h:∀out:List Value,out.Perm vs->(2<=vs.length->∃p:Array Nat,Good vs.length p/\R p/\out=p.toList.map λi=>vs.getD i Value.none)->P (.done (.ret .none)) {s with heap:=sortedHeap s.heap a vs out.toArray}):
  wpAny (model prog w) A (Builtin.«list.sort» ⟨[.ref a],[]⟩) P E s:=by
 rw[list_sort_plain];have ha:a<s.heap.objs.size:=Yx ho;refine wpAny_bind (listItems_at ho rfl ?_);refine wpAny_bind (listUpdate_at ho rfl ?_);obtain⟨e1,sC⟩:∃e1,(s.heap.update a (Obj.mapSeq λ_=>#[])).get? a=some (seqObj "list" #[] e1):=⟨_,get?_update_seq ho (λ_=>#[])⟩;refine wpAny_bind (seqEpoch_at sC rfl ?_);refine wpAny_bind (wpAny_newTuple ?_);refine wpAny_bind (wpAny_newList ?_);refine wpAny_holding ?_;have AN:(((s.heap.update a (Obj.mapSeq λ_=>#[])).push (seqObj "tuple" vs.toArray 0)).push (seqObj "list" #[] 0)).get? a=some (seqObj "list" #[] e1):=by
  rw[Jo _ _ _ (by rw[size_push',Heap.size_update];exact Y2 (W6 ha)),Jo _ _ _ (by rw[Heap.size_update];exact Y2 ha)];exact sC
 have keep:∀b o,b≠a->s.heap.get? b=some o->(((s.heap.update a (Obj.mapSeq λ_=>#[])).push (seqObj "tuple" vs.toArray 0)).push (seqObj "list" #[] 0)).get? b=some o:=λb o nb e=>
  Yc _ (Yc _ (by rw[Heap.get?_update_ne _ _ _ _ nb];exact e))
 dsimp only;have hsz:vs.toArray.size=vs.length:=by simp
 by_cases h2:vs.toArray.size<2
 ·rw[if_pos h2,if_pos h2];refine wpAny_bind (wpAny_pure ?_);rw[StateT.run_pure];refine wpAny_bind (wpAny_pure ?_);dsimp only;refine wpAny_bind (seqEpoch_at AN rfl ?_);refine wpAny_bind (listUpdate_at AN rfl ?_ (hsz2:=by rw[Array.size_map];show(pairsOf vs).size<=_;rw[pairsOf_size,sizeLine_eq];omega));simp only[bne_self_eq_false,Bool.false_eq_true,if_false];have e:(arrOf (SortSt.mk' general' (vs.toArray.zip vs.toArray) #[] 7 none)).map (·.2)=vs.toArray:=by
   grind
  have:=h vs (List.Perm.refl _) (λz=>by omega);rw[←e] at this;exact wpAny_pure this
 ·rw[if_neg h2,if_neg h2];have kP:2<=vs.length:=by omega
  obtain⟨κ,kk,cmp⟩:=hk kP _ keep;refine wpAny_bind (kk _ ?_);refine wpAny_bind (wpAny_mono (cmp (λaI s'=>s'={s with heap:=((s.heap.update a (Obj.mapSeq λ_=>#[])).push (seqObj "tuple" vs.toArray 0)).push (seqObj "list" #[] 0)}/\∃p:Array Nat,p.size=vs.length/\arrOf aI=p.map (kas_item (vs.toArray.zip vs.toArray))/\failedOf aI=none/\R p/\Good vs.length p) λp aI a1 a2 a3 a4 a5=>⟨rfl,p,a1,a2,a3,a5,a4⟩) ?_ λ_ _ e=>e);rintro⟨⟨⟩,aI⟩ s' ⟨rfl,p,hp,har,hf,ep,g⟩;dsimp only;have RC:=kat_snds rfl har;have perm:(p.toList.map λi=>vs.getD i Value.none).Perm vs:=by
   have e1:p.toList.Perm (List.range vs.length):=by
    have:=Jr.mp g.2;simpa using this
   have e2:=e1.map λi=>vs.getD i Value.none;rw[range_getD] at e2;exact e2
  refine wpAny_bind (seqEpoch_at AN rfl ?_);refine wpAny_bind (listUpdate_at AN rfl ?_ (hsz2:=by rw[RC,Yv,perm.length_eq,sizeLine_eq];omega));rw[hf];simp only[bne_self_eq_false,Bool.false_eq_true,if_false];have:=h _ perm (λ_=>⟨p,g,ep,rfl⟩);rw[←RC] at this;exact wpAny_pure this
theorem ZaK(h:ps.Pairwise iQ):Sd (jQ ps) (List.toArray (List.range ps.length)) ps.length:=λi j jP hj=>by
 have e:∀k,k<ps.length->(List.toArray (List.range ps.length)).getD k 0=k:=λk hk=>by
  simp_all
 rw[e i (by omega),e j hj];refine ltB_iff.mpr ?_;rw[Yl,Yl,Yb (by omega),Yb hj];exact W3.mp h i j (by omega) hj jP
theorem ZeD{κ:SortKind}{ah:List Value}{ps:List (Int×Int)}{Q':SortSt->Shared->Prop}(Hz:ah.length=64)(lp:ah.length=ps.length)(L:jO ah.length (jQ ps))(pw:ps.Pairwise iQ)(ask:∀i j (C:Bool->Shared->Prop),i<ah.length->j<ah.length->C (jQ ps i j) s->kas_ask prog w A κ ah i j C s)
  (HQ:∀(p:Array Nat) (aI:SortSt),p.size=ah.length->arrOf aI=p.map (kas_item (ah.toArray.zip ah.toArray))->failedOf aI=none->Good ah.length p->Sd (jQ ps) p ah.length->Q' aI s):wpAny (model prog w) A (sortRuns'.run (SortSt.mk' κ (ah.toArray.zip ah.toArray) #[] 7 none)) (λr s'=>Q' r.2 s') E s:=by
 have gR:Good ah.length (List.toArray (List.range ah.length)):=⟨by omega,Array.Perm.refl _⟩;have SJ:Sd (jQ ps) (List.toArray (List.range ah.length)) ah.length:=by rw[lp];exact ZaK pw
 rw[kat_ask_eq (vs:=ah) rfl] at ask;have sz0:(ah.toArray.zip ah.toArray).size=ah.length:=by simp
 have HU:SortSt.mk' κ (ah.toArray.zip ah.toArray) #[] 7 none=kas_st κ (ah.toArray.zip ah.toArray) (List.toArray (List.range ah.length)):=by
  unfold kas_st;rw[←sz0,kas_range]
 rw[HU];have wp:=dY.run (G:=λr s'=>r=(ah.length,List.toArray (List.range ah.length))/\s'=s) ask (KS gR) ⟨(ZQ L gR SJ),rfl⟩;have SK:=λaI a b=>HQ _ aI (by simp) a b gR SJ;rw[Hz] at wp SK⊢;exact ZdI (Q:=λ_ aI s'=>Q' aI s') SK wp
theorem WE(ho:s.heap.get? l=some o)(hc:o.cls=.type "list")(hd:o.data=.seq ah.toArray n)(tv:rB s.heap ah ps)(nd:ps.Nodup)(iZ:ah.length<64\/(ah.length=64/\ps.Pairwise iQ))(hsz:ah.toArray.size<=sizeLine)
  (h:∀(h1 h':Heap) (out:List Value) (e:Nat),(∀b o,s.heap.get? b=some o->h1.get? b=some o)->(∀b o,h1.get? b=some o->h'.get? b=some o)->h'.get? h1.objs.size=some (seqObj "list" out.toArray e)->out.Perm ah->(2<=ah.length->∃p:Array Nat,Good ah.length p/\Sd (jQ ps) p ah.length/\out=p.toList.map λi=>ah.getD i Value.none)->Q (.ref h1.objs.size) {s with heap:=h'}):
  wpAny (model prog w) A (call (.builtin "sorted") [.ref l]) Q E s:=by
 refine Calls.call_function_entry kind_sorted plain_sorted entry_sorted (args_sorted1 _) ?_;unfold Builtin.«sorted»;refine wpAny_bind (m:=checkCount "sorted" 1 1 _) (wpAny_pure ?_);refine wpAny_bind (wpAny_collect_seq l (.inl rfl) ho hc hd (λh1 kp=>?_) hsz);refine wpAny_bind (wpAny_newList ?_);have e1:ah.toArray.toList=ah:=by simp
 rw[e1];have oG:(h1.push (seqObj "list" ah.toArray 0)).get? h1.objs.size=some (seqObj "list" ah.toArray 0):=Yo _ rfl;refine wpAny_bind (wpAny_holding (wpAny_call_entry slot_list_sort ⟨_,oG,rfl⟩ entry_list_sort (VQ (R:=λp=>Sd (jQ ps) p ah.length) oG (by omega) (λh2 h' kp'=>?_) λout pm eo=>⟨_,rfl,?_⟩) (args_list_sort _)))
 ·have HV:rB h' ah ps:=L2.Paired.bw tv λv p ⟨a,o,n,t,u,e,q1,q2,q3⟩=>by
   have SM:=kp _ _ q1;exact⟨a,o,n,t,u,e,kp' _ _ (Y2 (Yx SM)) (Yc _ SM),q2,q3⟩
  obtain⟨fs,k1,k2,k3⟩:=HV.kC.SH;have lp:=cI HV;have ask:∀(B:Around) i j (C:Bool->Shared->Prop),i<ah.length->j<ah.length->C (jQ ps i j) {s with heap:=h'}->kas_ask prog w B (tuples' true) ah i j C {s with heap:=h'}:=λB i j C hi hj hC=>ZaJ (s:={s with heap:=h'}) HV hi hj hC;have L:=ZdH nd;rw[←lp] at L;refine⟨tuples' true,λQ hQ=>?_,λQ' HQ=>?_⟩
  rotate_left
  ·rcases iZ with lt|⟨Hz,pw⟩
   ·obtain⟨g,sd⟩:=ZaI L (by omega);refine kat_run (ks:=ah) (vs:=ah) (G:=λp s'=>s'={s with heap:=h'}/\p=Run (jQ ps) (kas_sort ah.length)) rfl h2 lt (λp aI s' a1 a2 a3 a4=>?_) (dY.run (ask _) (ZN (by omega)) ⟨rfl,rfl⟩)
    grind
   ·exact ZeD (s:={s with heap:=h'}) Hz lp L pw (ask _) HQ
  refine kat_kind (s:={s with heap:=h'}) (T:=.type "int") k1 (by omega) (λv hv=>?_) (by decide) hQ;obtain⟨x,t,rfl⟩:=k3 v hv;exact .now
 ·obtain⟨e,he⟩:=sortedHeap_at (out:=out.toArray) oG;exact wpAny_pure ⟨_,rfl,h h1 _ out e kp (λb ob hb=>by
   have bH:=Yx hb;rw[sortedHeap_old (Y2 bH) (by rw[size_push'];exact W6 bH),Jo _ _ _ (Y2 bH)];exact hb) he pm eo⟩
end
def ZaL(K:PySem.W.Frag):List V->Hp->VK->Prop:=λxs H Q=>∃(p:Addr) (as:List Addr) (bN:List (Int×Int)),xs=[.ref p]/\aj K H p (as.map V.ref)/\Paired (λa (p:Int×Int)=>H a=some (.tup [.int p.1,.int p.2])) as bN/\bN.Nodup/\(as.length<64\/(as.length=64/\bN.Pairwise iQ))/\
 ∀(iu:List Addr) (lS:List (Int×Int)),Paired (λa (p:Int×Int)=>H a=some (.tup [.int p.1,.int p.2])) iu lS->lS.Perm bN->lS.Pairwise iQ->Nw H (.lst (iu.map V.ref)) Q
theorem Kl:∀{zs:List γ},(∀z∈zs,F (f z) (g z))->Paired F (zs.map f) (zs.map g)
 |[],_=>.nil
 |z::zs,h=>.cons (h z Yf) (Kl λz hz=>h z (Yu _ hz))
theorem ZaM{X:Cx}{K:PySem.W.Frag}(hK:X.K=K):cY X (.builtin "sorted") (ZaL K):=by
 subst hK;intro pins s σ H xs us Q I r h;obtain⟨p,as,bN,rfl,hq,ht,nd,iZ,q⟩:=h;obtain⟨u,rfl,rx⟩:=vals1 r;cases rx;obtain⟨ah,r',pl,hz⟩:=I.list hq;obtain⟨o,n,ho,hc,_,hd⟩:=pl;have ei:=LC r';subst ei;rw[Ya] at hz;have lp:=cI ht;have tq:rB s.heap (as.map Value.ref) bN:=by
  have aux:∀{as:List Addr} {bN:List (Int×Int)},Paired (λa (p:Int×Int)=>H a=some (.tup [.int p.1,.int p.2])) as bN->rB s.heap (as.map Value.ref) bN:=λ{as bN} h=>by
   induction h with
   |nil=>exact .nil
   |cons h1 _ ih=>
    refine .cons ?_ ih;obtain⟨ib,r2,⟨o2,g1,g2,n2,g3⟩,_⟩:=I.tuple (aA.of h1);obtain⟨u1,u2,rfl,⟨t1,rfl⟩,⟨t2,rfl⟩⟩:=vals2 r2
    grind
  exact aux ht
 refine WE (ps:=bN) ho hc hd tq nd (by rw[Ya];exact iZ) (by rw[Yv,Ya];exact hz) λh1 h' out e kp Hj he pm eo=>?_;have I1:Inv X pins σ H {s with heap:=h1}:=I.kept (t':=s.toks) kp;obtain⟨iu,lS,Zfq,pa,pr,pw⟩:∃(iu:List Addr) (lS:List (Int×Int)),out=iu.map Value.ref/\Paired (λa (p:Int×Int)=>H a=some (.tup [.int p.1,.int p.2])) iu lS/\lS.Perm bN/\lS.Pairwise iQ:=by
  by_cases z:2<=(as.map Value.ref).length
  ·have eo:=eo z;rw[Ya] at eo z;obtain⟨P,g,sd,eo⟩:=eo;rw[lp] at g sd;have e1:P.toList.Perm (List.range bN.length):=by
    have:=Jr.mp g.2;simpa using this
   have e_:∀i∈P.toList,i<bN.length:=λi hi=>Y7.mp (e1.subset hi);refine⟨P.toList.map λi=>as.getD i 0,P.toList.map λi=>bN.getD i (0,0),?_,Kl λi hi=>C_ ht (by rw[lp];exact e_ i hi) 0 (0,0),?_,?_⟩
   ·rw[eo,Wa];refine Wj λi hi=>?_;have:=e_ i hi;show(as.map Value.ref).getD i Value.none=Value.ref (as.getD i 0);rw[Yl,Yg,Yb (by omega),Yl,Yb (by omega)];rfl
   ·have:=e1.map λi=>bN.getD i (0,0);rw[range_getD] at this;exact this
   ·rw[Wx,W3];intro i j hi hj jP;have sz:=g.size;have gi:P.toList[i]=P.getD i 0:=by
     rw[Wy] at hi;simp_all
    have gj:P.toList[j]=P.getD j 0:=by
     rw[Wy] at hj;simp_all
    rw[gi,gj];rw[Wy] at hj;exact ltB_iff.mp (sd i j jP (by omega))
  ·rw[Ya] at z;have eq:out=as.map Value.ref:=by
    match as,out,z,pm with
    |[],out,_,pm=>exact List.Perm.eq_nil pm
    |[a],out,_,pm=>exact List.Perm.eq_singleton pm
    |_::_::_,_,z,_=>exact absurd (by simp) z
   refine⟨as,bN,eq,ht,List.Perm.refl _,?_⟩;match bN,lp with
   |[],_=>exact .nil
   |[a],_=>exact List.pairwise_singleton _ _
   |_::_::_,lp=>exact absurd lp (by simp;omega)
 refine⟨.ref h1.objs.size,_,I1.laid (t':=s.toks) (o:=.lst (iu.map V.ref)) Hj (Yd _) ⟨?_,out,e,by rw[Zfq];exact LD iu,by simpa[seqObj] using he⟩,rfl,(q iu lS pa pr pw).at _ (I1.av.fresh (Yd _))⟩;rw[Ya,cI pa,pr.length_eq];exact Jv (jy (by omega))
end L2
namespace L2
open PySem PySem.Spec PyProof.Rows
theorem lE{X:Cx}{K:PySem.W.Frag}{ex:Expr}{T:String}{r:V->List V->Hp->VK->Prop}{to:TE}{t:TA}(h:X.K=K)(p:PE X ex (xG X.K T r to t)):PE X ex (xG K T r to t):=h▸p
theorem Zb3{X:Cx}{K:PySem.W.Frag}{ex:Expr}{T:String}{r:V->List V->Hp->VK->Prop}{to:TE}(h:X.K=K)(p:PE X ex (GA X.K T r to)):PE X ex (GA K T r to):=h▸p
theorem LF{X:Cx}{K:PySem.W.Frag}{a:Expr}{ta:TE}(h:X.K=K)(p:PT X a (λσ H Q=>ta σ H λx H'=>∃k,z9 X.K x H' k/\Q k H')):PT X a (λσ H Q=>ta σ H λx H'=>∃k,z9 K x H' k/\Q k H'):=h▸p
theorem NV{X:Cx}{K:PySem.W.Frag}{f:Value->Value->Sem Value}{b:Bool}(h:X.K=K)(p:cD X f (Af X.K b)):cD X f (Af K b):=h▸p
def kA(H0:Hp)(d:Addr):Prop:=(∀xs,H0 d≠some (.tup xs))/\(∀o u,H0 d≠some (.bG o u))/\∀ps,H0 d≠some (.qf ps)
section
variable {X:Cx}{pins:List (Addr×Obj)}{σ:St}{H:Hp}{s:Shared}{d:Addr}{kvs:List (Key×V)}
theorem Inv.Ga(I:Inv X pins σ H s)(e:H d=some (.dK kvs)):kA X.jj d:=
 ⟨(λxs z=>by have:=I.base.kC d xs z;rw[e] at this;cases this),(λo u z=>by have:=I.base.lN d o u z;rw[e] at this;cases this),(λps z=>by obtain⟨m,h⟩:=I.base.mV d ps z;rw[e] at h;cases h)⟩
theorem Inv.swap(I:Inv X pins σ H s)(e:H d=some o)(nf:kA X.jj d)(no:∀a,o≠.own a)(nt:∀xs,o≠.tup xs)(ok:cK X.prog X.w H s.heap d o'):Inv X pins σ (upd H d o') s:=by
 have jG:∀{a:Addr} {o1:HO},cK X.prog X.w H s.heap a o1->cK X.prog X.w (upd H d o') s.heap a o1:=λ{a o1} x=>x.jG (λ_ _ _ z=>z)
  (λb z=>by rw[aQ (λq=>no a (Yq (e.symm.trans (by rw[←q];exact z))))];exact z)
  (λb xs z=>by rw[aQ (λq=>nt xs (Yq (e.symm.trans (by rw[←q];exact z))))];exact z)
 have ne:∀{b:Addr},H b=none->b≠d:=λ{b} hb z=>by rw[z,e] at hb;cases hb
 refine⟨I.ok,I.os,I.bare,⟨I.base.keep,I.base.slot,λb ob q n hx=>?_,I.base.there,λb xs q=>?_,λb ob u q=>?_,λb ps q=>?_⟩,I.loc,I.cell,?_,λx c ec=>?_,λp hp=>?_,λa o1 e1=>?_,I.len⟩
 ·have h:=I.base.free b ob q n hx;rw[aQ (ne h)];exact h
 ·rw[aQ (λz=>nf.1 xs (by rw[←z];exact q))];exact I.base.kC b xs q
 ·rw[aQ (λz=>nf.2.1 ob u (by rw[←z];exact q))];exact I.base.lN b ob u q
 ·rw[aQ (λz=>nf.2.2 ps (by rw[←z];exact q))];exact I.base.mV b ps q
 ·rw[aQ (ne I.free)];exact I.free
 ·rw[aQ (ne (I.kr x c ec))];exact I.kr x c ec
 ·obtain⟨p1,p2,p3⟩:=I.pin p hp;exact⟨p1,by rw[aQ (ne p2)];exact p2,p3⟩
 ·by_cases z:a=d
  ·subst z;rw[aS] at e1
   grind
  ·rw[aQ z] at e1;exact jG (I.av a o1 e1)
end
def HW(d:Addr)(od:Obj)(kvs:List (Key×V)):It:=⟨λi H=>H d=some (.bG od (.dK kvs))/\i<kvs.length,λi H v H'=>∃a k y,kvs[i]?=some (k,y)/\H a=none/\v=.ref a/\H'=upd H a (.tup [kV k,y]),λi H=>H d=some (.bG od (.dK kvs))/\kvs.length<=i⟩
theorem QM(h:(de P w).is k u=true):RelV (kV k) u:=by
 rcases kX h with⟨i,t,rfl,rfl⟩|⟨x,t,rfl,rfl⟩;·exact⟨t,rfl⟩
 ·exact⟨t,rfl⟩
theorem FP:∀{kvs:List (Key×V)} {vs:List (Key×Value)} {i:Nat} {k:Key} {y:V},KV kvs vs->kvs[i]?=some (k,y)->∃v,vs[i]?=some (k,v)/\RelV y v:=λ{kvs vs i k y} r h=>by
 obtain⟨q,e,h1,h2⟩:=fO (F:=λ(p:Key×V) (q:Key×Value)=>p.1=q.1/\RelV p.2 q.2) r h
 grind
theorem uw(I:Inv X pins σ H s)(e:H d=some (.bG od (.dK kvs)))(fJ:od.data=.dict es ep):∃vs,KV kvs vs/\s.heap.DictAt (de X.prog X.w) d vs ep:=by
 obtain⟨g,_,_,vs,rel,o,Av,Aw,h1,h2,h3,h4⟩:=(show cK X.prog X.w H s.heap d (.bG od (.dK kvs)) from I.av d _ e);rw[g] at h1;cases h1;rw[fJ] at h3;cases h3;exact⟨vs,rel,od,es,g,h2,fJ,h4⟩
theorem UR:entryFor table "dict_itemiterator.__iter__"=some Builtin.«dict_keyiterator.__iter__»:=entryFor_alias (id':="dict_keyiterator.__iter__") (by kernel_rfl) rfl (by decide+kernel) (by kernel_rfl)
theorem YB{P:Program}{w:World}{K:PySem.W.Frag}{elts:List Expr}{x1:Nat}{pos:Pos}(it d:Addr)(od:Obj)(es:Array DictEntry)(ep:Nat)(fJ:od.data=.dict es ep)(kvs:List (Key×V)):Turn P w K (.Tuple elts x1 pos) (HW d od kvs) [it] it (λi h=>∃ok ov,IsItemIter h it d i kvs.length ep ok ov) where
 mem:=by simp
 obj:=λi h st b hb=>by
  grind
 keep:=λi h h' st k=>let⟨ok,ov,e⟩:=st;⟨ok,ov,k it (by simp) _ e⟩
 item:=by
  intro X hP hw hK hc i pins s σ H E I hf st hg;subst hP hw hK;obtain⟨f0,f1,f2,f3,f4,f5⟩:=hf it (by simp);obtain⟨ok,ov,st⟩:=st;obtain⟨hz,bH⟩:=hg;obtain⟨vs,rel,da⟩:=uw I hz fJ;have ll:=rel.length;obtain⟨k,y,hk⟩:∃k y,kvs[i]?=some (k,y):=⟨kvs[i].1,kvs[i].2,Yb bH⟩;obtain⟨v,hv,ry⟩:=FP rel hk;rw[ll] at st;have RD:=Yx st;refine wpAny_pyNext_items_item st da hv λkey h' kG out Zhk hsz keep=>⟨_,rfl,wpAny_letOwnedTupleGo_items out λh'' Zfr sb=>?_⟩;have sz:(2:Nat)<=sizeLine:=by rw[sizeLine_eq];omega
  have I1:Inv X pins σ (upd H s.heap.objs.size (.tup [kV k,y])) {s with heap:=h'',toks:=s.toks}:=Inv.turned (s:={s with heap:=s.heap.push {cls:=.type "tuple",data:=.seq #[key,v]},toks:=s.toks}) (I.laid (λb o e=>Yc _ e) (Yd _) ⟨sz,[key,v],.cons (QM kG) (.cons ry .nil),lu.new _ _⟩) (λb o hb e=>by
   refine(sb.2 b hb).trans ?_;by_cases z:b=s.heap.objs.size
   ·subst z;rw[Yo _ rfl] at e
    grind
   ·rw[Jo _ _ _ z] at e;exact keep b o hb e) (by rw[aQ (Y2 RD)];exact f0) f1 f3 f4 f5
  refine⟨.ref s.heap.objs.size,_,I1,rfl,⟨_,k,y,hk,I.av.fresh (Yd _),rfl,rfl⟩,⟨key,v,by rw[ll];exact Zfr⟩,λb hb=>?_⟩;have e:b=it:=by simpa using hb
  subst e;rw[aQ (Y2 RD)];exact f0
 done:=by
  intro X hP hw hK hc i pins s σ H E I hf st hg;subst hP hw hK;obtain⟨f0,f1,f2,f3,f4,f5⟩:=hf it (by simp);obtain⟨ok,ov,st⟩:=st;obtain⟨hz,hle⟩:=hg;obtain⟨vs,rel,da⟩:=uw I hz fJ;have ll:=rel.length;rw[ll] at st;exact wpAny_pyNext_items_end (I.ok.hd hc) st da (Y6 (by omega)) λh' eb=>⟨rfl,I.turned (λb o hb e=>eb b o hb e) f0 f1 f3 f4 f5⟩
 self:=λA i s Q E st h=>by
  obtain⟨ok,ov,st⟩:=st;have hT:s.TypeIs (.ref it) "dict_itemiterator":=⟨_,st,rfl⟩;exact wpAny_pyIter_slot hT PySem.F.slot_dict_itemiterator_iter (wpAny_call_entry PySem.F.slot_dict_itemiterator_iter hT UR (wpAny_pure ⟨_,rfl,"dict_itemiterator",_,hT,PySem.F.slot_dict_itemiterator_next.lookup,h⟩) (PySem.F.args_dict_itemiterator_iter_1 _))
def FQ(H0:Hp)(td:TE):TI:=λσ H R=>td σ H λx H1=>∃d kvs,x=.ref d/\H1 d=some (.dK kvs)/\∀od,kA H0 d->R (HW d od kvs) (upd H1 d (.bG od (.dK kvs)))
theorem ZaN{X:Cx}{H0:Hp}{elts:List Expr}{x1:Nat}{pos apos ck:Pos}{o:Expr}{td:TE}(h0:X.jj=H0)(ho:PE X o td)(lI:attributeBase o "items" X.env (eval o X.env)=eval o X.env:=by rfl)(lJ:(apos.endLine==ck.line)=true:=by rfl):PI X (.Tuple elts x1 pos) (.Call (.Attribute o "items" apos) [] [] ck) (FQ H0 td):=by
 subst h0;intro pins s σ H R I h;refine wpAny_Call_method0_late lI lJ (az (ho pins s σ H _ I h) λv s1 zq=>?_);obtain⟨x,H1,I1,r1,d,kvs,ex,hd,q⟩:=zq;subst ex;obtain rfl:v=Value.ref d:=r1;obtain⟨t1,t2,sD⟩:=q5 I1 (.inl ⟨kvs,.inl hd⟩);refine⟨"dict","dict.items",plainAttrs_dict,PySem.F.slot_dict_items,PySem.F.type_dict_items,t1,t2,Calls.callWith_builtin rfl (PySem.evalArgs_none ?_)⟩;obtain⟨zz,_,vs,rel,dd⟩:=kz I1.av hd;refine call_meetsIn PySem.F.slot_dict_items dd.typeIs PySem.F.entry_dict_items (PySem.F.args_dict_items_1 _) (meets_dict_items (de X.prog X.w) d sD) ⟨⟨vs,dd⟩,?_⟩;obtain⟨od,es,ep,lZ,hx,fJ,rA⟩:=id dd;have nf:=I1.Ga hd;have up:∀b o,s1.heap.get? b=some o->(s1.heap.push {cls:=.type "dict_items",data:=.fields #[.ref d]}).get? b=some o:=λb o e=>Yc _ e;refine wpAny_pyIter_items (knd:=de X.prog X.w) (d:=d) (kvs:=vs) (ep:=ep) ⟨_,Yo _ rfl,rfl,rfl⟩ ⟨od,es,up _ _ lZ,hx,fJ,rA⟩ ?_;generalize hG:s1.heap.push {cls:=.type "dict_items",data:=.fields #[.ref d]}=G at up⊢;have I2:Inv X pins σ H1 {s1 with heap:=G.push {cls:=.type "dict_itemiterator",data:=.fields #[.none,.bool false,.ref d,.int 0 0,.int vs.length 0,.int ep 0,.none,.none]},toks:=s1.toks}:=I1.kept (t':=s1.toks) λb o e=>Yc _ (up b o e);have HX:cK X.prog X.w H1 _ d (.dK kvs):=I2.av d _ hd;have I3:=I2.swap (o':=.bG od (.dK kvs)) hd nf (λa z=>by cases z) (λxs z=>by cases z) ⟨Yc _ (up _ _ lZ),HX⟩;have sE:s1.heap.objs.size<=G.objs.size:=by rw[←hG,Jh];omega
 refine⟨G.objs.size,[G.objs.size],_,HW d od kvs,_,rfl,I3,YB _ d od es ep fJ kvs,⟨.none,.none,?_⟩,λb hb=>?_,q od nf⟩
 ·show(G.push _).get? G.objs.size=_;rw[rel.length];exact Yo _ rfl
 ·have e:b=G.objs.size:=by simpa using hb
  subst e;have HY:d<s1.heap.objs.size:=Yx lZ;exact I1.oB sE (by rw[aQ (Az (Y1 HY sE))];exact I1.av.fresh sE)
def PD(H0:Hp)(td:TE)(g:TG)(tb:TS):TS:=λD σ H=>z8 (FQ H0 td) g tb ⟨λaE H'=>∃d od kvs,kA H0 d/\H' d=some (.bG od (.dK kvs))/\D.nx aE (upd H' d (.dK kvs)),λv H'=>∃d od kvs,kA H0 d/\H' d=some (.bG od (.dK kvs))/\D.rt v (upd H' d (.dK kvs)),λ_ _=>False,λ_ _=>False⟩ σ H
theorem Inv.uL(I:Inv X pins σ H s)(nf:kA X.jj d)(e:H d=some (.bG od (.dK kvs))):Inv X pins σ (upd H d (.dK kvs)) s:=
 I.swap e nf (λa z=>by cases z) (λxs z=>by cases z) (show cK X.prog X.w H s.heap d (.bG od (.dK kvs)) from I.av d _ e).2
theorem Xq(h0:X.jj=H0)(hp:PassesOwn (model X.prog X.w) X.A X.env X.xe)(hc:X.calm=true)(hi:PI X (.Tuple elts x1 rL) (.Call (.Attribute o "items" apos) [] [] ck) (FQ H0 td))(hg:PG X (.Tuple elts x1 rL) g)(hb:fS X body tb):
  PS X (.For (.Tuple elts x1 rL) (.Call (.Attribute o "items" apos) [] [] ck) body [] pos) (PD H0 td g tb):=by
 subst h0;intro pins s σ H D I h;refine az (fH hp hc hi hg hb (λ_=>rfl) pins s σ H _ I h) λf s1 q=>?_;cases f with
 |next=>obtain⟨aE,H',I',d,od,kvs,nf,e,q⟩:=q;exact⟨aE,_,I'.uL nf e,q⟩
 |brk=>obtain⟨_,_,_,q⟩:=q;exact False.elim q
 |cont=>obtain⟨_,_,_,q⟩:=q;exact False.elim q
 |ret u=>obtain⟨v,aE,H',I',r,d,od,kvs,nf,e,q⟩:=q;exact⟨v,aE,_,I'.uL nf e,r,q⟩
theorem ZR(dw:∀Q:VK,Q (.ref d) H->td σ H Q)(hd:H d=some (.dK kvs))(Pv:Nat->St->Prop)(p0:Pv 0 σ)
  (hs:∀i k y aE H' a (N:St->Hp->Prop) (rt:VK) (bk:St->Hp->Prop),kvs[i]?=some (k,y)->Pv i aE->(∀b o,H b=some o->b≠d->H' b=some o)->H' a=some (.tup [kV k,y])->(∀bU,Pv (i+1) bU->N bU H')->g (.ref a) aE H' λc6 H2=>tb ⟨N,rt,bk,N⟩ c6 H2)
  (rP:∀aE H',Pv kvs.length aE->ai H H'->D.nx aE H'):PD H0 td g tb D σ H:=by
 refine dw _ ⟨d,kvs,rfl,hd,λod nf=>⟨λi m aE H'=>m=kvs.length-i/\i<=kvs.length/\Pv i aE/\(∀b o,H b=some o->b≠d->H' b=some o)/\H' d=some (.bG od (.dK kvs)),⟨kvs.length,by omega,Yw _,p0,λb o e n=>by rw[aQ n];exact e,aS⟩,?_⟩⟩;rintro i m aE H' ⟨rfl,hi,p,kp,fz⟩;by_cases bH:i<kvs.length
 ·refine .inr ⟨⟨fz,bH⟩,λbU H3=>Pv (i+1) bU/\(∀b o,H b=some o->b≠d->H3 b=some o)/\H3 d=some (.bG od (.dK kvs)),λbU H3 ⟨a,b,c⟩=>⟨kvs.length-(i+1),by omega,rfl,bH,a,b,c⟩,?_⟩;rintro x H4 ⟨a,k,y,hk,na,rfl,rfl⟩;have nad:d≠a:=λz=>by rw[←z,fz] at na;cases na
  have SN:∀b o,H b=some o->b≠d->upd H' a (.tup [kV k,y]) b=some o:=λb o e n=>by rw[aQ (λz=>by rw[←z,kp b o e n] at na;cases na)];exact kp b o e n
  exact hs i k y aE _ a (λbU H3=>Pv (i+1) bU/\(∀b o,H b=some o->b≠d->H3 b=some o)/\H3 d=some (.bG od (.dK kvs))) _ _ hk p SN aS λbU p3=>⟨p3,SN,by rw[aQ nad];exact fz⟩
 ·have e:i=kvs.length:=by omega
  subst e;refine .inl ⟨⟨fz,Yd _⟩,d,od,kvs,nf,fz,rP _ _ p λb o e=>?_⟩;by_cases z:b=d;·subst z;rw[aS];rw[hd] at e;exact e
  ·rw[aQ z];exact kp b o e z
theorem ZdJ{X:Cx}:G3 X .Mult (λx y H Q=>∃i j,x=.int i/\y=.int j/\uG i j/\Q (.int (i*j)) H):=by
 rintro pins s σ H x y v u Q I r1 r2 ⟨i,j,e1,e2,hc,q⟩;subst e1;subst e2;obtain⟨t,rfl⟩:=r1;obtain⟨t',rfl⟩:=r2;exact imul_int ⟨.int _,H,I.tok _,⟨_,rfl⟩,q⟩ hc.ok
def HZ(d:Addr)(od:Obj)(kvs:List (Key×V)):It:=⟨λi H=>H d=some (.bG od (.dK kvs))/\i<kvs.length,λi H v H'=>H'=H/\∃k y,kvs[i]?=some (k,y)/\v=kV k,λi H=>H d=some (.bG od (.dK kvs))/\kvs.length<=i⟩
theorem ZS{P:Program}{w:World}{K:PySem.W.Frag}{tg:Expr}(it d:Addr)(od:Obj)(es:Array DictEntry)(ep:Nat)(fJ:od.data=.dict es ep)(kvs:List (Key×V)):Turn P w K tg (HZ d od kvs) [it] it (λi h=>h.IsKeyIter it d i kvs.length ep) where
 mem:=by simp
 obj:=λi h st b hb=>by
  have e:b=it:=by simpa using hb
  obtain⟨o,e,c,dd⟩:=st
  grind
 keep:=λi h h' st k=>let⟨o,e,r⟩:=st;⟨o,k it (by simp) o e,r⟩
 item:=by
  intro X hP hw hK hc i pins s σ H E I hf st hg;subst hP hw hK;obtain⟨f0,f1,f2,f3,f4,f5⟩:=hf it (by simp);obtain⟨hz,bH⟩:=hg;obtain⟨vs,rel,da⟩:=uw I hz fJ;have ll:=rel.length;obtain⟨k,y,hk⟩:∃k y,kvs[i]?=some (k,y):=⟨kvs[i].1,kvs[i].2,Yb bH⟩;obtain⟨v,hv,ry⟩:=FP rel hk;rw[ll] at st;refine wpAny_pyNext_dict_item st da hv λkey h' kG aI sb=>?_;obtain⟨o,e,c,dd⟩:=id aI;exact⟨_,rfl,rp e c dd (by decide) ⟨kV k,H,(I.turned (λb o hb e=>sb.extBut b o hb e) f0 f1 f3 f4 f5),QM kG,⟨rfl,k,y,hk,rfl⟩,by rw[ll];exact aI,λb hb=>(hf b hb).1⟩⟩
 done:=by
  intro X hP hw hK hc i pins s σ H E I hf st hg;subst hP hw hK;obtain⟨f0,f1,f2,f3,f4,f5⟩:=hf it (by simp);obtain⟨hz,hle⟩:=hg;obtain⟨vs,rel,da⟩:=uw I hz fJ;have ll:=rel.length;rw[ll] at st;exact wpAny_pyNext_dict_end (I.ok.hd hc) st da (Y6 (by omega)) λh' eb=>⟨rfl,I.turned (λb o hb e=>eb b o hb e) f0 f1 f3 f4 f5⟩
 self:=λA i s Q E st h=>wpAny_pyIter_keyiter st h
def Gb(H0:Hp)(td:TE):TI:=λσ H R=>td σ H λx H1=>∃d kvs,x=.ref d/\H1 d=some (.dK kvs)/\∀od,kA H0 d->R (HZ d od kvs) (upd H1 d (.bG od (.dK kvs)))
theorem NW{X:Cx}{H0:Hp}{tg l:Expr}{td:TE}(h0:X.jj=H0)(hl:PE X l td):PI X tg l (Gb H0 td):=by
 subst h0;intro pins s σ H R I h;refine az (hl pins s σ H _ I h) λv s1 zq=>?_;obtain⟨x,H1,I1,r1,d,kvs,ex,hd,q⟩:=zq;subst ex;obtain rfl:v=Value.ref d:=r1;obtain⟨zz,sD,vs,rel,dd⟩:=kz I1.av hd;obtain⟨od,es,ep,lZ,hx,fJ,rA⟩:=id dd;have nf:=I1.Ga hd;refine wpAny_pyIter_dict sD ⟨od,es,lZ,hx,fJ,rA⟩ ?_;have I2:Inv X pins σ H1 {s1 with heap:=s1.heap.push {cls:=.type "dict_keyiterator",data:=.fields #[.ref d,.int 0 0,.int vs.length 0,.int ep 0]},toks:=s1.toks}:=I1.kept λb o e=>Yc _ e;refine⟨s1.heap.objs.size,[s1.heap.objs.size],_,HZ d od kvs,_,rfl,(I2.swap (o':=.bG od (.dK kvs)) hd nf (λa z=>by cases z) (λxs z=>by cases z) ⟨Yc _ lZ,(I2.av d _ hd)⟩),ZS _ d od es ep fJ kvs,⟨_,Yo _ rfl,rfl,by rw[rel.length];rfl⟩,λb hb=>?_,q od nf⟩;have e:b=s1.heap.objs.size:=by simpa using hb
 subst e;exact I1.oB (Yd _) (by rw[aQ (Az (Yx lZ))];exact I1.av.fresh (Yd _))
def Gd(H0:Hp)(td:TE)(g:TG)(tb:TS):TS:=λD σ H=>z8 (Gb H0 td) g tb ⟨λaE H'=>∃d od kvs,kA H0 d/\H' d=some (.bG od (.dK kvs))/\D.nx aE (upd H' d (.dK kvs)),λv H'=>∃d od kvs,kA H0 d/\H' d=some (.bG od (.dK kvs))/\D.rt v (upd H' d (.dK kvs)),λ_ _=>False,λ_ _=>False⟩ σ H
theorem KU(h0:X.jj=H0)(hp:PassesOwn (model X.prog X.w) X.A X.env X.xe)(hc:X.calm=true)(hi:PI X tg l (Gb H0 td))(hg:PG X tg g)(hb:fS X body tb)(hs:∀x,foldedSetIterable l X.env x=pure x:=by intro _;rfl):PS X (.For tg l body [] pos) (Gd H0 td g tb):=by
 subst h0;intro pins s σ H D I h;refine az (fH hp hc hi hg hb hs pins s σ H _ I h) λf s1 q=>?_;cases f with
 |next=>obtain⟨aE,H',I',d,od,kvs,nf,e,q⟩:=q;exact⟨aE,_,I'.uL nf e,q⟩
 |brk=>obtain⟨_,_,_,q⟩:=q;exact False.elim q
 |cont=>obtain⟨_,_,_,q⟩:=q;exact False.elim q
 |ret u=>obtain⟨v,aE,H',I',r,d,od,kvs,nf,e,q⟩:=q;exact⟨v,aE,_,I'.uL nf e,r,q⟩
theorem Mz(dw:∀R:VK,R (.ref d) H1->td σ H R)(hd:H1 d=some (.dK kvs))(Pv:Nat->St->Hp->Prop)
  (p0:∀od,Pv 0 σ (upd H1 d (.bG od (.dK kvs))))
  (hs:∀od i k y aE H' (N:St->Hp->Prop) (rt:VK) (bk:St->Hp->Prop),kvs[i]?=some (k,y)->Pv i aE H'->H' d=some (.bG od (.dK kvs))->(∀bU H3,Pv (i+1) bU H3->H3 d=some (.bG od (.dK kvs))->N bU H3)->g (kV k) aE H' λc6 H2=>tb ⟨N,rt,bk,N⟩ c6 H2)
  (rP:∀od aE H',Pv kvs.length aE H'->H' d=some (.bG od (.dK kvs))->D.nx aE (upd H' d (.dK kvs))):Gd H0 td g tb D σ H:=by
 refine dw _ ⟨d,kvs,rfl,hd,λod nf=>⟨λi m aE H'=>m=kvs.length-i/\i<=kvs.length/\Pv i aE H'/\H' d=some (.bG od (.dK kvs)),⟨kvs.length,by omega,Yw _,p0 od,aS⟩,?_⟩⟩;rintro i m aE H' ⟨rfl,hi,p,fz⟩;by_cases bH:i<kvs.length
 ·refine .inr ⟨⟨fz,bH⟩,λbU H3=>Pv (i+1) bU H3/\H3 d=some (.bG od (.dK kvs)),λbU H3 ⟨a,c⟩=>⟨kvs.length-(i+1),by omega,rfl,bH,a,c⟩,?_⟩;rintro x H4 ⟨rfl,k,y,hk,rfl⟩;exact hs od i k y aE H4 (λbU H3=>Pv (i+1) bU H3/\H3 d=some (.bG od (.dK kvs))) _ _ hk p fz λbU H3 p3 f3=>⟨p3,f3⟩
 ·have e:i=kvs.length:=by omega
  subst e;exact .inl ⟨⟨fz,Yd _⟩,d,od,kvs,nf,fz,rP od _ _ p fz⟩
theorem ZT(G:Addr->Hp->List (Key×V)->Prop)(dw:∀R:VK,(∀d H1 kvs,G d H1 kvs->R (.ref d) H1)->td σ H R)
  (hb:∀d H1 kvs,G d H1 kvs->H1 d=some (.dK kvs)/\∃Pv:Nat->St->Hp->Prop,(∀od,Pv 0 σ (upd H1 d (.bG od (.dK kvs))))/\
   (∀od i k y aE H' (N:St->Hp->Prop) (rt:VK) (bk:St->Hp->Prop),kvs[i]?=some (k,y)->Pv i aE H'->H' d=some (.bG od (.dK kvs))->(∀bU H3,Pv (i+1) bU H3->H3 d=some (.bG od (.dK kvs))->N bU H3)->g (kV k) aE H' λc6 H2=>tb ⟨N,rt,bk,N⟩ c6 H2)/\
   ∀od aE H',Pv kvs.length aE H'->H' d=some (.bG od (.dK kvs))->D.nx aE (upd H' d (.dK kvs))):Gd H0 td g tb D σ H:=
 dw _ λd H1 kvs gd=>by
  obtain⟨hd,Pv,p0,hs,rP⟩:=hb d H1 kvs gd;exact Mz (td:=λ_ _ R=>R (.ref d) H1) (H:=H) (λ_ h=>h) hd Pv p0 hs rP
section
variable {P:Program}{w:World}{A:Around}{E:Value->Shared->Prop}{s:Shared}{it d:Addr}{i n ep:Nat}{ok ov:Value}{o:Obj}{es:Array DictEntry}{e:DictEntry}
end
section
variable {P:Program}{w:World}{A:Around}{E:Value->Shared->Prop}{s:Shared}{d o:Addr}{knd:HeapKind P w (List Key)}{xs ms:List (List Key×Addr×Value)}
end
section
variable {X:Cx}
theorem Zb4{H:Hp}{kvs:List (List Key×V)}{xs:List (List Key×Addr×Value)}(r:KT H kvs xs):xs.map (·.1)=kvs.map (·.1):=by
 induction r with
 |nil=>rfl
 |cons f _ ih=>grind
end
section
variable {X:Cx}{pins:List (Addr×Obj)}{σ:St}{H:Hp}{s:Shared}{d:Addr}{kvs:List (List Key×V)}
end
theorem Zb5:bootBuiltins "dict"=some (.type "dict"):=by decide+kernel
def H_(d:Addr)(od:Obj)(kvs:List (Key×V)):It:=⟨λi H=>H d=some (.bG od (.dK kvs))/\i<kvs.length,λi H v H'=>H'=H/\∃k,kvs[i]?=some (k,v),λi H=>H d=some (.bG od (.dK kvs))/\kvs.length<=i⟩
theorem ZU{P:Program}{w:World}{K:PySem.W.Frag}{tg:Expr}(it d:Addr)(od:Obj)(es:Array DictEntry)(ep:Nat)(fJ:od.data=.dict es ep)(kvs:List (Key×V)):Turn P w K tg (H_ d od kvs) [it] it (λi h=>h.IsValIter it d i kvs.length ep) where
 mem:=by simp
 obj:=λi h st b hb=>by
  have e:b=it:=by simpa using hb
  obtain⟨o,e,c,dd⟩:=st
  grind
 keep:=λi h h' st k=>let⟨o,e,r⟩:=st;⟨o,k it (by simp) o e,r⟩
 item:=by
  intro X hP hw hK hc i pins s σ H E I hf st hg;subst hP hw hK;obtain⟨f0,f1,f2,f3,f4,f5⟩:=hf it (by simp);obtain⟨hz,bH⟩:=hg;obtain⟨vs,rel,da⟩:=uw I hz fJ;have ll:=rel.length;obtain⟨k,y,hk⟩:∃k y,kvs[i]?=some (k,y):=⟨kvs[i].1,kvs[i].2,Yb bH⟩;obtain⟨v,hv,ry⟩:=FP rel hk;rw[ll] at st;refine wpAny_pyNext_values_item st da hv λh' aI sb=>?_;obtain⟨o,e,c,dd⟩:=id aI;exact⟨_,rfl,rp e c dd (by decide) ⟨y,H,(I.turned (λb o hb e=>sb.extBut b o hb e) f0 f1 f3 f4 f5),ry,⟨rfl,k,hk⟩,by rw[ll];exact aI,λb hb=>(hf b hb).1⟩⟩
 done:=by
  intro X hP hw hK hc i pins s σ H E I hf st hg;subst hP hw hK;obtain⟨f0,f1,f2,f3,f4,f5⟩:=hf it (by simp);obtain⟨hz,hle⟩:=hg;obtain⟨vs,rel,da⟩:=uw I hz fJ;have ll:=rel.length;rw[ll] at st;exact wpAny_pyNext_values_end (I.ok.hd hc) st da (Y6 (by omega)) λh' eb=>⟨rfl,I.turned (λb o hb e=>eb b o hb e) f0 f1 f3 f4 f5⟩
 self:=λA i s Q E st h=>wpAny_pyIter_valiter st h
def Ge(H0:Hp)(td:TE):TI:=λσ H R=>td σ H λx H1=>∃d kvs,x=.ref d/\H1 d=some (.dK kvs)/\∀od,kA H0 d->R (H_ d od kvs) (upd H1 d (.bG od (.dK kvs)))
theorem Zb6{X:Cx}{H0:Hp}{tg:Expr}{apos ck:Pos}{o:Expr}{td:TE}(h0:X.jj=H0)(ho:PE X o td)(lI:attributeBase o "values" X.env (eval o X.env)=eval o X.env:=by rfl)(lJ:(apos.endLine==ck.line)=true:=by rfl):PI X tg (.Call (.Attribute o "values" apos) [] [] ck) (Ge H0 td):=by
 subst h0;intro pins s σ H R I h;refine wpAny_Call_method0_late lI lJ (az (ho pins s σ H _ I h) λv s1 zq=>?_);obtain⟨x,H1,I1,r1,d,kvs,ex,hd,q⟩:=zq;subst ex;obtain rfl:v=Value.ref d:=r1;obtain⟨t1,t2,sD⟩:=q5 I1 (.inl ⟨kvs,.inl hd⟩);refine⟨"dict","dict.values",plainAttrs_dict,slot_dict_values,PySem.F.type_dict_values,t1,t2,Calls.callWith_builtin rfl (PySem.evalArgs_none ?_)⟩;obtain⟨zz,_,vs,rel,dd⟩:=kz I1.av hd;refine call_meetsIn slot_dict_values dd.typeIs PySem.F.entry_dict_values (PySem.F.args_dict_values_1 _) (meets_dict_values (de X.prog X.w) d sD) ⟨⟨vs,dd⟩,?_⟩;obtain⟨od,es,ep,lZ,hx,fJ,rA⟩:=id dd;have nf:=I1.Ga hd;have up:∀b o,s1.heap.get? b=some o->(s1.heap.push {cls:=.type "dict_values",data:=.fields #[.ref d]}).get? b=some o:=λb o e=>Yc _ e;refine wpAny_pyIter_values (knd:=de X.prog X.w) (d:=d) (kvs:=vs) (ep:=ep) ⟨_,Yo _ rfl,rfl,rfl⟩ ⟨od,es,up _ _ lZ,hx,fJ,rA⟩ ?_;generalize hG:s1.heap.push {cls:=.type "dict_values",data:=.fields #[.ref d]}=G at up⊢;have I2:Inv X pins σ H1 {s1 with heap:=G.push {cls:=.type "dict_valueiterator",data:=.fields #[.ref d,.int 0 0,.int vs.length 0,.int ep 0]},toks:=s1.toks}:=I1.kept (t':=s1.toks) λb o e=>Yc _ (up b o e);have HX:cK X.prog X.w H1 _ d (.dK kvs):=I2.av d _ hd;have I3:=I2.swap (o':=.bG od (.dK kvs)) hd nf (λa z=>by cases z) (λxs z=>by cases z) ⟨Yc _ (up _ _ lZ),HX⟩;have sE:s1.heap.objs.size<=G.objs.size:=by rw[←hG,Jh];omega
 refine⟨G.objs.size,[G.objs.size],_,H_ d od kvs,_,rfl,I3,ZU _ d od es ep fJ kvs,⟨_,Yo _ rfl,rfl,by rw[rel.length];rfl⟩,λb hb=>?_,q od nf⟩;have e:b=G.objs.size:=by simpa using hb
 subst e;have HY:d<s1.heap.objs.size:=Yx lZ;exact I1.oB sE (by rw[aQ (Az (Y1 HY sE))];exact I1.av.fresh sE)
def QN(H0:Hp)(td:TE)(g:TG)(tb:TS):TS:=λD σ H=>z8 (Ge H0 td) g tb ⟨λaE H'=>∃d od kvs,kA H0 d/\H' d=some (.bG od (.dK kvs))/\D.nx aE (upd H' d (.dK kvs)),λv H'=>∃d od kvs,kA H0 d/\H' d=some (.bG od (.dK kvs))/\D.rt v (upd H' d (.dK kvs)),λ_ _=>False,λ_ _=>False⟩ σ H
theorem YC(h0:X.jj=H0)(hp:PassesOwn (model X.prog X.w) X.A X.env X.xe)(hc:X.calm=true)(hi:PI X tg (.Call (.Attribute o "values" apos) [] [] ck) (Ge H0 td))(hg:PG X tg g)(hb:fS X body tb):
  PS X (.For tg (.Call (.Attribute o "values" apos) [] [] ck) body [] pos) (QN H0 td g tb):=by
 subst h0;intro pins s σ H D I h;refine az (fH hp hc hi hg hb (λ_=>rfl) pins s σ H _ I h) λf s1 q=>?_;cases f with
 |next=>obtain⟨aE,H',I',d,od,kvs,nf,e,q⟩:=q;exact⟨aE,_,I'.uL nf e,q⟩
 |brk=>obtain⟨_,_,_,q⟩:=q;exact False.elim q
 |cont=>obtain⟨_,_,_,q⟩:=q;exact False.elim q
 |ret u=>obtain⟨v,aE,H',I',r,d,od,kvs,nf,e,q⟩:=q;exact⟨v,aE,_,I'.uL nf e,r,q⟩
theorem ZaO(dw:∀R:VK,R (.ref d) H1->td σ H R)(hd:H1 d=some (.dK kvs))(Pv:Nat->St->Hp->Prop)
  (p0:∀od,Pv 0 σ (upd H1 d (.bG od (.dK kvs))))
  (hs:∀od i k y aE H' (N:St->Hp->Prop) (rt:VK) (bk:St->Hp->Prop),kvs[i]?=some (k,y)->Pv i aE H'->H' d=some (.bG od (.dK kvs))->(∀bU H3,Pv (i+1) bU H3->H3 d=some (.bG od (.dK kvs))->N bU H3)->g y aE H' λc6 H2=>tb ⟨N,rt,bk,N⟩ c6 H2)
  (rP:∀od aE H',Pv kvs.length aE H'->H' d=some (.bG od (.dK kvs))->D.nx aE (upd H' d (.dK kvs))):QN H0 td g tb D σ H:=by
 refine dw _ ⟨d,kvs,rfl,hd,λod nf=>⟨λi m aE H'=>m=kvs.length-i/\i<=kvs.length/\Pv i aE H'/\H' d=some (.bG od (.dK kvs)),⟨kvs.length,by omega,Yw _,p0 od,aS⟩,?_⟩⟩;rintro i m aE H' ⟨rfl,hi,p,fz⟩;by_cases bH:i<kvs.length
 ·refine .inr ⟨⟨fz,bH⟩,λbU H3=>Pv (i+1) bU H3/\H3 d=some (.bG od (.dK kvs)),λbU H3 ⟨a,c⟩=>⟨kvs.length-(i+1),by omega,rfl,bH,a,c⟩,?_⟩;rintro x H4 ⟨rfl,k,hk⟩;exact hs od i k x aE H4 (λbU H3=>Pv (i+1) bU H3/\H3 d=some (.bG od (.dK kvs))) _ _ hk p fz λbU H3 p3 f3=>⟨p3,f3⟩
 ·have e:i=kvs.length:=by omega
  subst e;exact .inl ⟨⟨fz,Yd _⟩,d,od,kvs,nf,fz,rP od _ _ p fz⟩
section
variable {X:Cx}{o i:Expr}{td ty:TE}{rL pos:Pos}
def ZdK(td ty:TE):TS:=λD σ H=>td σ H λx H1=>ty σ H1 λy H2=>∃a kvs k,x=.ref a/\H2 a=some (.dK kvs)/\y=kV k/\(aO kvs k).isSome=true/\Ch H2 a (.dK (gm kvs k)) (D.nx σ)
theorem ZaP(ho:PE X o td)(hi:PE X i ty):PS X (.Delete [.Subscript o i rL] pos) (ZdK td ty):=by
 intro pins s σ H D I h;refine wpAny_Delete (wpAny_deleteEach_cons (wpAny_delete_Subscript (az (ho pins s σ H _ I h) λu s1 zq=>?_)));obtain⟨x,H1,I1,rx,q1⟩:=zq;refine az (hi pins s1 σ H1 _ I1 q1) λiv s2 zq=>?_;obtain⟨y,H2,I2,ry,a,kvs,k,ex,e,ey,l,q2⟩:=zq;subst ex ey;obtain rfl:u=Value.ref a:=rx;exact ZE I2 e ry l λs3 I3=>wpAny_deleteEach_nil ⟨σ,_,I3,q2.at⟩
theorem MA[DecidableEq α]:∀{xs:List (α×β)} {j:Nat} {k:α} {p:β},(xs.map (·.1)).Nodup->xs[j]?=some (k,p)->xs.eraseIdx j=xs.filter λx=>decide (x.1≠k)
 |[],_,_,_,_,h=>rfl
 |x::xs,0,k,p,nd,h=>by
  have e:x=(k,p):=by simpa using h
  subst e;rw[List.eraseIdx_cons_zero,List.filter_cons_of_neg (by simp)];refine(Jt.mpr λy hy=>?_).symm
  grind
 |x::xs,j+1,k,p,nd,h=>by
  obtain⟨n1,n2⟩:=Yz.mp (show(x.1::xs.map (·.1)).Nodup from nd);have h':xs[j]?=some (k,p):=by simpa using h
  rw[List.eraseIdx_cons_succ,MA n2 h',Jw (by simpa using(λz=>n1 (by rw[z];exact Ye.mpr ⟨_,Yi h',rfl⟩)))]
theorem MB(f:α->β):∀(xs:List α) (j:Nat),(xs.map f).eraseIdx j=(xs.eraseIdx j).map f
 |[],_=>rfl
 |_::_,0=>rfl
 |x::xs,j+1=>by
  show f x::(xs.map f).eraseIdx j=f x::(xs.eraseIdx j).map f;rw[MB f xs j]
theorem Zb7(k:List Key)(r:KT H kvs xs):KT H (gm kvs k) (xs.filter λx=>decide (x.1≠k)):=by
 unfold gm;induction r with
 |nil=>exact .nil
 |@cons p x ps xs f t ih=>
  by_cases e:p.1=k;·grind
  ·rw[Jw (by simpa using e),Jw (by rw[←f.1];simpa using e)];exact .cons f ih
theorem ZaQ{P:Program}{w:World}{A:Around}{E:Value->Shared->Prop}{s:Shared}{d a:Addr}{knd:HeapKind P w (List Key)}{xs:List (List Key×Addr×Value)}{k:List Key}{Q:Option DictEntry->Shared->Prop}(room:knd.room A)(is:knd.is s.heap k a)(D:s.heap.DictOfH knd d xs)(there:k∈xs.map (·.1))(hz:xs.length<=sizeLine)
  (hQ:∀e h' t',h'.DictOfH knd d (xs.filter λx=>decide (x.1≠k))->Heap.SameBut d s.heap h'->Q (some e) {s with heap:=h',toks:=t'}):wpAny (model P w) A (Builtin.Dict.takeOut d (.ref a)) Q E s:=by
 obtain⟨ob,es,ep,g,ex,hd,he,SO,nd⟩:=D;refine wpAny_holding (wpAny_bind (knd.pyHash room is (wpAny_bind (wpAny_dictFind_heap room is g hd he SO nd (λno=>?_) λj p e=>?_))))
 ·obtain⟨x,hx,e⟩:=Ye.mp there;obtain⟨j,hj,ej⟩:=Wu.mp hx;exact absurd (show xs[j]?=some (k,x.2) by rw[Yb hj,ej,←e]) (no j x.2)
 ·have sz:es.size=xs.length:=by rw[←Wy,he,Ya]
  refine wpAny_bind (wpAny_dictEntries g hd ?_);rw[entry_at he j,e];have sb:=Heap.SameBut.update s.heap d (Obj.mapDictKeys λx=>x.eraseIdxIfInBounds j);refine wpAny_bind (wpAny_updateDictKeys g hd (wpAny_pure (hQ _ _ _ ⟨_,_,ep+1,J1 _ g (Obj.isFreed_of_dict (Obj.data_mapDictKeys hd _)),ex.mapDictKeys _,Obj.data_mapDictKeys hd _,?_,λx hx=>?_,?_⟩ sb)) (by rw[sz];exact hz))
  ·have hj:j<xs.length:=(Yh.mp e).1;rw[←MA nd e];have e1:(es.eraseIdxIfInBounds j).toList=es.toList.eraseIdx j:=by
    simp_all
   rw[e1,he,MB]
  ·exact knd.keeps (SO x (Yy.mp hx).1) g hd sb
  ·grind
theorem YD{pins:List (Addr×Obj)}{σ:St}{H:Hp}{s:Shared}{a b:Addr}{kvs:List (List Key×V)}{k:List Key}{A:Around}{E:Value->Shared->Prop}{Q:Unit->Shared->Prop}(hu:A.units+1<cLine)(I:Inv X pins σ H s)(e:H a=some (.dT kvs))(eb:H b=some (.tup (k.map kV)))(l:(aO kvs k).isSome=true)(h:∀s',Inv X pins σ (upd H a (.dT (gm kvs k))) s'->Q () s'):
  wpAny (model X.prog X.w) A (delItem (.ref a) (.ref b)) Q E s:=by
 obtain⟨z,sm,xs,rel,dd⟩:=QJ I.av e;have l1:kvs.length=xs.length:=Paired.length rel;have there:k∈xs.map (·.1):=by
  rw[Zb4 rel];cases ev:aO kvs k with
  |none=>rw[ev] at l;cases l
  |some v=>
   unfold aO at ev;cases ef:kvs.find? λkv=>decide (kv.1=k) with
   |none=>rw[ef] at ev;cases ev
   |some p=>exact Ye.mpr ⟨p,List.mem_of_find?_eq_some ef,of_decide_eq_true (by simpa using List.find?_some ef)⟩
 refine wpAny_delItem_slot dd.typeIs (by decide) slot_dict_delitem (wpAny_call_entry slot_dict_delitem dd.typeIs PySem.F.entry_dict_delitem ?_ (PySem.F.args_dict_delitem_2 _ _));unfold Builtin.«dict.__delitem__»;refine wpAny_bind ?_;unfold Builtin.Dict.dictSlotArgs;refine wpAny_bind (wpAny_notOrdered_dict dd.typeIs ?_);show wpAny _ _ (pure (Value.ref a,Value.ref b)) _ _ s;refine wpAny_pure ?_;show wpAny _ _ (Builtin.Dict.takeOut a (.ref b)>>=_) _ _ s;refine wpAny_bind (ZaQ (tupleKind_room_in1 hu) (pR I.av eb) dd there (by omega) λen h' t' d' sb=>?_);refine wpAny_bind (wpAny_letGo (wpAny_pure ⟨.none,rfl,?_⟩));obtain⟨q',es,ep,hq,h2,h3,h4,_,h5⟩:=d';refine h _ (qT (t':=t') (ob:=.dT (gm kvs k)) I (by rw[e];exact True.intro) sb ⟨q',hq⟩ ⟨Y4 (Wh _ _) z,sm,_,(Zb7 k rel).keeps λc ys ec=>by
   rw[aQ (Qs ec e (λz=>nomatch z))];exact ec,q',es,ep,hq,h2,h3,h4,h5⟩)
def ZdL(td ty:TE):TS:=λD σ H=>td σ H λx H1=>ty σ H1 λy H2=>∃a b kvs k,x=.ref a/\H2 a=some (.dT kvs)/\y=.ref b/\H2 b=some (.tup (k.map kV))/\(aO kvs k).isSome=true/\Ch H2 a (.dT (gm kvs k)) (D.nx σ)
theorem MC(hu:X.A.units+1<cLine)(ho:PE X o td)(hi:PE X i ty):PS X (.Delete [.Subscript o i rL] pos) (ZdL td ty):=by
 intro pins s σ H D I h;refine wpAny_Delete (wpAny_deleteEach_cons (wpAny_delete_Subscript (az (ho pins s σ H _ I h) λu s1 zq=>?_)));obtain⟨x,H1,I1,rx,q1⟩:=zq;refine az (hi pins s1 σ H1 _ I1 q1) λiv s2 zq=>?_;obtain⟨y,H2,I2,ry,a,b,kvs,k,ex,e,ey,eb,l,q2⟩:=zq;subst ex ey;obtain rfl:u=Value.ref a:=rx;obtain rfl:iv=Value.ref b:=ry;exact YD hu I2 e eb l λs3 I3=>wpAny_deleteEach_nil ⟨σ,_,I3,q2.at⟩
end
end L2
namespace L2
open PySem PySem.W PySem.Spec PyProof.Rows
def Zb8:List V->Hp->VK->Prop:=λxs H Q=>∃(p:Addr) (kvs:List (Key×V)),xs=[.ref p]/\H p=some (.dK kvs)/\Nw H (.dK kvs) Q
theorem Xr:cY X (.type "dict") Zb8:=by
 rintro pins s σ H xs us Q I r ⟨p,kvs,rfl,hp,q⟩;obtain⟨u,rfl,ru⟩:=vals1 r;obtain rfl:u=Value.ref p:=ru;obtain⟨lim,Ae,vs,kv,dd⟩:=kz I.av hp;have kl:=kv.length;exact PySem.kt_call_dict Ae dd (by omega) λh' d' sb=>⟨.ref s.heap.objs.size,_,I.laid (o:=.dK kvs) (λb o e=>(sb.2 b (Y2 (Yx e))).trans (Yc _ e)) (Yd _) ⟨lim,beq_eq_false_iff_ne.mpr (Ne.symm (Y2 I.big)),vs,kv,d'⟩,rfl,q.at _ (I.av.fresh (Yd _))⟩
theorem YE(val:Nat->Str)(xq:∀i v,P i v->∃t,v=.str (val i) t):CmpOf prog w A .Lt P (λi j=>decide ((val i).cps.toList<(val j).cps.toList)):=λi j vi vj s Q E hi hj h=>by
 obtain⟨t,rfl⟩:=xq i vi hi;obtain⟨u,rfl⟩:=xq j vj hj;exact richCompare_gives (op:=.Lt) (typeIs_str s _ t) (typeIs_str s _ u) F.slot_str_lt F.entry_str_lt (F.args_str_lt_2 _ _) (gives_str_lt _ _ t u) (λx=>nomatch x) h
theorem YF(val:Nat->Str)(xq:∀i v,P i v->∃t,v=.str (val i) t):CmpOf prog w A .Gt P (λi j=>decide ((val j).cps.toList<(val i).cps.toList)):=λi j vi vj s Q E hi hj h=>by
 obtain⟨t,rfl⟩:=xq i vi hi;obtain⟨u,rfl⟩:=xq j vj hj;exact richCompare_gives (op:=.Gt) (typeIs_str s _ t) (typeIs_str s _ u) F.slot_str_gt F.entry_str_gt (F.args_str_gt_2 _ _) (gives_str_gt _ _ t u) (λx=>nomatch x) h
def pZ(a b:Str):Str:=if b.cps.toList<a.cps.toList then b else a
def p_(a b:Str):Str:=if a.cps.toList<b.cps.toList then b else a
theorem ZdM{a b:Value}{s:Shared}:(s.heap.push {cls:=.type "tuple",data:=.seq #[a,b]}).IsTuple s.heap.objs.size #[a,b]:=⟨_,Yo _ rfl,rfl,0,rfl⟩
section
variable {prog:Program}{w:World}{A:Around}{E:Value->Shared->Prop}{s:Shared}
theorem NX(i:Nat)(v:Value)(h:(#[Value.str a t,Value.str b u]:Array Value)[i]?=some v):∃t',v=.str (([a,b]:List Str).getD i "") t':=by
 match i,h with
 |0,h=>grind
 |1,h=>grind
 |i+2,h=>simp at h
theorem MD{a b:Str}{t u:Tok}{Q:Value->Shared->Prop}{op:CmpOp}(f:Str->Str->Bool)(hh:A.handled=none)
  (cmp:CmpOf prog w A.in1 op (λi v=>(#[Value.str a t,Value.str b u]:Array Value)[i]?=some v) λi j=>f (([a,b]:List Str).getD i "") (([a,b]:List Str).getD j ""))
  (h:∀h' tk t',(∀c o,s.heap.get? c=some o->h'.get? c=some o)->Q (.str (if f b a=true then b else a) t') {s with heap:=h',toks:=tk}):
  wpAny (model prog w) A.in1 (pyIter (.ref s.heap.objs.size)) (λit dW=>∃I fp wr n P St bt,it=.ref I/\Walks prog w A.in1 I fp wr n P St/\St 0 dW.heap/\(∀b∈fp,b<dW.heap.objs.size)/\0<n/\CmpOf prog w A.in1 op P bt/\
   ∀v h' tk,P (argBest bt (n-1)) v->(∀b o,b∉wr->dW.heap.get? b=some o->h'.get? b=some o)->Q v {dW with heap:=h',toks:=tk}) E
   {s with heap:=s.heap.push {cls:=.type "tuple",data:=.seq #[.str a t,.str b u]}}:=by
 have hT:=ZdM (a:=.str a t) (b:=.str b u) (s:=s);refine wpAny_pyIter_tuple hT ?_;have hsz:(s.heap.push {cls:=.type "tuple",data:=.seq #[.str a t,.str b u]}).objs.size=s.heap.objs.size+1:=Jh ..;refine⟨_,[_,s.heap.objs.size],[_],_,_,_,_,rfl,Walks.tuple (A:=A.in1) hh _ s.heap.objs.size (by rw[hsz];exact Y2 (W8 _)) #[.str a t,.str b u],
  ⟨⟨_,Yo _ rfl,rfl,rfl⟩,hT.push _⟩,λc hc=>?_,by simp,cmp,λv h' tk hP hk=>?_⟩
 ·show c<((s.heap.push _).push _).objs.size;rw[Jh,hsz];rcases Yp.mp hc with rfl|hc;·rw[hsz];exact W8 _
  ·rw[Ym.mp hc];exact W6 (W8 _)
 ·have hold:∀c o,s.heap.get? c=some o->h'.get? c=some o:=λc o e=>by
   refine hk c o (λhm=>?_) (Yc _ (Yc _ e));have:=Yx e;rw[Ym.mp hm,hsz] at this;exact Wg _ (Nat.lt_of_succ_lt this)
  have kN:(#[Value.str a t,Value.str b u]:Array Value)[if f b a=true then 1 else 0]?=some v:=hP;obtain⟨t',ev⟩:∃t',v=.str (if f b a=true then b else a) t':=by
   by_cases c:f b a=true
   ·rw[if_pos c] at kN⊢;exact⟨u,by simpa using kN.symm⟩
   ·rw[if_neg c] at kN⊢;exact⟨t,by simpa using kN.symm⟩
  subst ev;exact h h' tk t' hold
end
theorem YG(hc:X.calm=true):cY X (.builtin "min") (λxs H Q=>∃i j:Str,xs=[.str i,.str j]/\Q (.str (pZ i j)) H):=by
 intro pins s σ H xs us Q I r h;obtain⟨i,j,rfl,q⟩:=h;obtain⟨u,w',rfl,⟨t,rfl⟩,⟨t',rfl⟩⟩:=vals2 r;exact call_min_two (MD (λx y=>decide (x.cps.toList<y.cps.toList)) (I.ok.hd hc) (YE _ λi v=>NX i v) λh' tk t2 k=>⟨.str (pZ i j),H,I.kept k,⟨t2,by unfold pZ;simp only[decide_eq_true_eq]⟩,q⟩)
theorem YH(hc:X.calm=true):cY X (.builtin "max") (λxs H Q=>∃i j:Str,xs=[.str i,.str j]/\Q (.str (p_ i j)) H):=by
 intro pins s σ H xs us Q I r h;obtain⟨i,j,rfl,q⟩:=h;obtain⟨u,w',rfl,⟨t,rfl⟩,⟨t',rfl⟩⟩:=vals2 r;exact call_max_two (MD (λx y=>decide (y.cps.toList<x.cps.toList)) (I.ok.hd hc) (YF _ λi v=>NX i v) λh' tk t2 k=>⟨.str (p_ i j),H,I.kept k,⟨t2,by unfold p_;simp only[decide_eq_true_eq]⟩,q⟩)
theorem ZdN:bootBuiltins "max"=some (.builtin "max"):=by decide+kernel
theorem NY:cD X (binaryOp .Mult) (λx y H Q=>∃(z:Str) (n:Nat),x=.str z/\y=.int (n:Int)/\z.length<=100/\n<=100/\Q (.str (Txt.mul z (n:Int))) H):=by
 intro pins s σ H x y v u Q I rx ry h;obtain⟨z,n,rfl,rfl,lz,ln,q⟩:=h;obtain⟨t,rfl⟩:=rx;obtain⟨t',rfl⟩:=ry;have lm:z.length*n<=10000:=Y4 (Nat.mul_le_mul lz ln) (by omega);refine PySem.SB.mul ⟨?_,λh1 _=>?_,λ_ _=>?_⟩ λt2 k=>⟨.str (Txt.mul z (n:Int)),H,I.tok k,⟨t2,rfl⟩,q⟩;·rw[decide_eq_false (by omega),decide_eq_false (by omega)];rfl
 ·have hn:(1:Int)<=(n:Int):=by omega
  intro hgt;have h3:((2:Int)^63-1)/(n:Int)≥(2^63-1)/100:=by
   refine Int.le_ediv_of_mul_le (by omega) ?_
   grind
  have h4:((2:Int)^63-1)/100>100:=by decide
  omega
 ·rw[Y5];exact decide_eq_false (by rw[sizeLine_eq];omega)
def m_:V->Bool
 |.int _=>true
 |.str _=>true
 |_=>false
theorem NZ(h:m_ x=true):iO x=true:=by cases x<;>first|rfl|cases h
theorem ZdO(hx:m_ x=true)(hy:m_ y=true):jr x y=decide (x=y):=by
 cases x with
 |int a=>
  cases y with
  |int b=>
   show(a==b)=_
   grind
  |str b=>rfl
  |_=>cases hy
 |str a=>
  cases y with
  |int b=>rfl
  |str b=>
   show(a==b)=_
   grind
  |_=>cases hy
 |_=>cases hx
theorem LG:∀{xs ys:List V},xs.length=ys.length->xs.all m_=true->ys.all m_=true->((List.range xs.length).all λj=>jr (xs.getD j .ay) (ys.getD j .ay))=decide (xs=ys)
 |[],[],_,_,_=>rfl
 |[],_::_,h,_,_=>by simp at h
 |_::_,[],h,_,_=>by simp at h
 |x::xs,y::ys,h,fx,fy=>by
  rw[Je,Wn] at fx fy;rw[Wq,List.range_succ_eq_map,Je,Ia];have e:((λj=>jr ((x::xs).getD j .ay) ((y::ys).getD j .ay))∘Nat.succ)=λj=>jr (xs.getD j .ay) (ys.getD j .ay):=rfl;rw[e,(LG (by simpa using h) fx.2 fy.2)];show(jr x y&&_)=_;rw[ZdO fx.1 fy.1,Wc,Wn,decide_eq_true_iff,decide_eq_true_iff,decide_eq_true_iff,List.cons.injEq]
def Zfs(K:PySem.W.Frag)(neg:Bool):R2:=λx y H Q=>∃(p q:Addr) (xs ys:List V),x=.ref p/\y=.ref q/\aA K H p xs/\aA K H q ys/\xs.all m_=true/\ys.all m_=true/\Q (.bl (if neg=true then !decide (xs=ys) else decide (xs=ys))) H
theorem N0(r:Vals xs us):∀{j:Nat} (h:j<us.length),RelV (xs.getD j .ay) us[j]:=by
 induction r with
 |nil=>grind
 |cons f _ ih=>grind
theorem N1{xs:List V}{j:Nat}(f:xs.all m_=true)(h:j<xs.length):m_ (xs.getD j .ay)=true:=by
 grind
theorem ZdP{X:Cx}{K:PySem.W.Frag}(hK:X.K=K)(hu:X.A.units<cLine):cD X (compareOp .NotEq) (Zfs K true):=by
 subst hK;intro pins s σ H x y v u Q I rx ry h;obtain⟨p,q,xs,ys,rfl,rfl,h1,h2,f1,f2,k⟩:=h;cases rx;cases ry;obtain⟨ah,r1,p1,z1⟩:=I.tuple h1;obtain⟨ib,r2,p2,z2⟩:=I.tuple h2;have l1:=r1.length;have l2:=r2.length;show wpAny _ _ (richCompare .NotEq _ _) _ _ _;refine SeqAt.RcNeAt.tuples (e:=λj=>jr (xs.getD j .ay) (ys.getD j .ay)) p1 p2 hu (λj h1 h2=>?_) _ _ _ _ (cF I k ?_)
 ·have j1:j<ah.length:=by simpa using h1
  have j2:j<ib.length:=by simpa using h2
  have e1:=N0 r1 j1;have e2:=N0 r2 j2;have a1:ah.toArray[j]=ah[j]:=by simp
  have a2:ib.toArray[j]=ib[j]:=by simp
  rw[a1,a2];exact Ph e1 e2 (NZ (N1 f1 (by omega))) (NZ (N1 f2 (by omega)))
 ·rw[if_pos rfl,Yv,Yv,←l1,←l2];by_cases hl:xs.length=ys.length
  ·rw[←hl,Nat.min_self,LG hl f1 f2];simp
  ·grind
section
variable {X:Cx}
end
def AO(g:Nat->Value):Nat->Nat->List Value
 |0,_=>[]
 |n+1,i=>g i::AO g n (i+1)
theorem PF(g:Nat->Value):∀(us:List Value) (i:Nat),(∀k,us[k]?=some (g (i+k))\/us.length<=k)->us=AO g us.length i
 |[],_,_=>rfl
 |a::r,i,h=>by
  have e:a=g i:=by
   rcases h 0 with z|z;·grind
   ·cases z
  refine congr (congrArg _ e) (PF g r (i+1) λk=>?_);have:=h (k+1)
  grind
inductive bO(K:PySem.W.Frag)(x:Str)(st:Stmt)(f:Addr):Prop
 |mk {od an:Option Addr} {sl:Array (Option Value)} {oc kV dc pm cd ct:Value} (a:nsIn K mainGlobals x=some (some (.ref f))) (l:K.lookup f=some ⟨oc,od,.func (fnOf x x (oa st) (kh st) (aH st) .none kV dc pm an cd ct),sl⟩) (c:codeIn K cd x=true) (k:keepIn K (.ref f)=true):bO K x st f
inductive cH(K:PySem.W.Frag)(C:Addr)(x q:Str)(st:Stmt)(f:Addr):Prop
 |mk {od an:Option Addr} {sl:Array (Option Value)} {oc kV dc pm cd ct:Value} (a:PySem.W.findIn K (.ref C) x=some (some (.ref f))) (b:isFn K (.ref f)=true) (l:K.lookup f=some ⟨oc,od,.func (fnOf x q (oa st) (kh st) (aH st) .none kV dc pm an cd ct),sl⟩) (c:codeIn K cd q=true) (k:keepIn K (.ref f)=true):cH K C x q st f
inductive kQ(P:Program)(w:World)(K:PySem.W.Frag)(mg:Str->Option Value)(base:Heap):Prop
 |mk {h:Heap} (X:K.In h) (G:h.Ns mainGlobals mg):kQ P w K mg base
abbrev ng(x q:Str)(st:Stmt)(ps:List Str):Prop:=∀(kV doc pm:Value) (an:Option Addr) (aB ct:Value) (g:Nat->Value),bindArgs (fnOf x q (oa st) (kh st) (aH st) .none kV doc pm an aB ct) ⟨AO g ps.length 0,[]⟩=pure (ps.zip (AO g ps.length 0))
theorem ng.at{x q:Str}{st:Stmt}{ps:List Str}(b:ng x q st ps)(kV doc pm:Value)(an:Option Addr)(aB ct:Value)(us:List Value)(hl:us.length=ps.length):bindArgs (fnOf x q (oa st) (kh st) (aH st) .none kV doc pm an aB ct) ⟨us,[]⟩=pure (ps.zip us):=by
 have e:=PF (λk=>us.getD k .none) us 0 λk=>by
  grind
 grind
section
variable {P:Program}{w:World}{K:PySem.W.Frag}{mg:Str->Option Value}{base:Heap}{C f:Addr}{x q:Str}{st:Stmt}{ps:List Str}{n:Nat}{sp:Sp}
theorem kQ.p(D:kQ P w K mg base)(p:bO K x st f)(b:ng x x st ps:=by intro _ _ _ _ _ _ _;rfl):∃fd,aJ K x x st f fd/\Binds K fd ps []/\keepIn K (.ref f)=true/\mg x=some (.ref f):=by
 obtain⟨X,G⟩:=D;obtain⟨a,l,c,k⟩:=p;exact⟨_,wM l c k,(wM l c k).binds (ng.at b),k,mg_of X G a⟩
theorem kQ.d(D:kQ P w K mg base)(p:bO K x st f)(o:∀fd,aJ K x x st f fd->aG P w K mg base aM n f fd ps sp)(b:ng x x st ps:=by intro _ _ _ _ _ _ _;rfl):HasFn P w K mg base n x ps sp:=by
 obtain⟨fd,F,b,k,m⟩:=D.p p b;exact⟨f,fd,o _ F,b,k,m⟩
theorem cH.p(p:cH K C x q st f)(b:ng x q st ps):∃fd,aJ K x q st f fd/\Binds K fd ps []/\Meth K C x f/\PySem.W.findIn K (.ref C) x=some (some (.ref f))/\isFn K (.ref f)=true:=by
 obtain⟨a,e,l,c,k⟩:=p;exact⟨_,wM l c k,(wM l c k).binds (ng.at b),⟨a,e,k⟩,a,e⟩
theorem kQ.m(_:kQ P w K mg base)(kc:ig K C)(p:cH K C x q st f)(o:∀fd,aJ K x q st f fd->aG P w K mg base aM n f fd ps sp)(b:ng x q st ps:=by intro _ _ _ _ _ _ _;rfl):bT P w K mg base n x C ps sp:=by
 obtain⟨fd,F,b,m,_,_⟩:=p.p b;exact⟨f,fd,kc,m,o _ F,b⟩
theorem kQ.i(_:kQ P w K mg base){y:Str}(m:mg y=some (.ref C))(cb:makesIn K C=true)(cc:keepIn K (.ref C)=true)(p:cH K C "__init__" q st f)(o:∀fd,aJ K "__init__" q st f fd->aG P w K mg base aM n f fd ps sp)(b:ng "__init__" q st ps:=by intro _ _ _ _ _ _ _;rfl):uA P w K mg base n y C ps sp:=by
 obtain⟨fd,F,b,_,a,e⟩:=p.p b;exact⟨f,fd,⟨cb,a,e,cc⟩,o _ F,b,m⟩
end
end L2
namespace L2
open PySem PySem.Spec PyProof.Rows
section
variable {X:Cx}{K:PySem.W.Frag}
theorem bP(i:Nat){x:Str}{e:Expr}{te:TE}{pos pos':Pos}(hN:X.N.Nodup)(he:PE X e te)(hi:X.N[i]?=some x:=by rfl)(hx:Loc X.env.scope x:=by exact Or.inl rfl)(hs:swapsWith e (some (.Name x pos')) pos.line X.env=pure false:=by rfl)
  (hf:X.fn x=true\/X.env.scope.names.lookup x=some .local:=by first|exact .inl rfl|exact .inr rfl|assumption):PS X (.Assign [.Name x pos'] e pos) (rJ te (ou i)):=f_ hN hi hx he hs hf
theorem bj(i:Nat){x:Str}{pos:Pos}(hN:X.N.Nodup)(hi:X.N[i]?=some x:=by rfl)(hx:Loc X.env.scope x:=by exact Or.inl rfl)
  (hf:X.fn x=true\/X.env.scope.names.lookup x=some .local:=by first|exact .inl rfl|exact .inr rfl|assumption):PG X (.Name x pos) (ou i):=pK hN hi hx hf
theorem pF(K:PySem.W.Frag)(i:Nat){x f:Str}{p pos:Pos}(h:X.K=K:=by rfl)(hN:X.N[i]?=some x:=by rfl)(hv:uR X.env.scope x:=by first|exact Or.inl rfl|exact Or.inr (Or.inl rfl)|exact Or.inr (Or.inr rfl))(hd:(x==("__debug__":Str))=false:=by decide)
  (iX:(x==("__classdict__":Str))=false:=by decide)(hb:attributeBase (.Name x p) f X.env (eval (.Name x p) X.env)=eval (.Name x p) X.env:=by rfl):PE X (.Attribute (.Name x p) f pos) (Gz K (gq i) f):=wx h (pv i hN hv hd iX) hb
theorem aP{k j:Nat}{x:Str}{ps:List Str}{sp:Sp}{p pos:Pos}{e:Expr}{es:List Expr}{t:TA}(h:HasFn X.prog X.w X.K X.mg X.base k x ps sp)(hr:cZ j X.A)(ha:PA X (e::es) t)(hj:k<=j:=by omega)(hg:Gl X x:=by rfl)
  (jK:(x==("__debug__":Str))=false:=by decide)(he:starEach (e::es) X.env=(false,eval e X.env)::starEach es X.env:=by rfl)(cL:(backTo pos (starEach es X.env)).any (·.1)=false:=by rfl):
  PE X (.Call (.Name x p) (e::es) [] pos) (F8 sp [] E0 t):=zW h hr hj hg ha jK he cL
theorem a_{r:R2}{a b:Expr}{ta tb:TE}{pos:Pos}(hr:ij X r)(ha:PE X a ta)(hb:PE X b tb)(hs:NJ b:=by exact λ_ _=>rfl):PE X (.Subscript a b pos) (iY r ta tb):=QC hr ha hb hs
end
section
variable {P:Program}{w:World}{K:PySem.W.Frag}{mg:Str->Option Value}{base:Heap}
theorem aJ.o{x qual:Str}{st:Stmt}{f:Addr}{fd:FuncData}{N ps:List Str}{k:Nat}{sp:Sp}(F:aJ K x qual st f fd)(S:aN N ps (aH st))
  (rq:∀(aB:Value) (A:Around) (outer:List Env) (s:Shared) (H:Hp) (vs:List V) (Q:VK) (E:XK),cZ k (A.deeper (envOfC qual (aH st) s.heap.objs.size f aB))->sp vs H Q E->
   ∃t,fS (lP aM P w K mg base N qual (aH st) f aB A outer s H E).xB (kh st) t/\t {nx:=λ_ H'=>Q .ay H',rt:=Q} (start N vs) H)
  (len:∀vs H Q E,sp vs H Q E->vs.length=ps.length:=by intro vs H Q E h;first|(cases h;subst_vars;rfl)|((repeat obtain⟨_,h⟩:=h);subst_vars;rfl)):aG P w K mg base aM (k+1) f fd ps sp:=F.ok S len rq
end
theorem aN.aU{N P:List Str}{sc:Scope}(a:sc.kind=.function:=by rfl)(b:sc.isCoroutine=false:=by rfl)(c:sc.isGenerator=false:=by rfl)(d:N.Nodup:=by decide+kernel)(e:N.take P.length=P:=by rfl)(f:∀x∈P,sc.names.lookup x=some .local\/sc.names.lookup x=some .cell:=by decide+kernel)(g:∀y∈sc.names,y.2≠.free:=by decide+kernel):aN N P sc:=⟨a,b,c,d,e,f,g⟩
theorem we.fW{X:Cx}{scope:Scope}{cl:List (Str×Addr)}{x:Str}{fr:List (Str×Nat)}(sub:pL X.env.cells cl)(fI:pM X scope cl fr)(a:closureFor scope X.env=pure cl:=by with_unfolding_all rfl)(b:scope.kind=.function:=by rfl)(c:∀y∈scope.names,y.2=.local->scope.names.lookup y.1=some .local:=by decide+kernel)(d:scope.names.lookup x=some .local:=by rfl)
  (e:∀y∈scope.names,y.2≠.cell:=by decide+kernel)(f:(scope.names.all λy=>!(y.2==.free)||(cl.lookup y.1).isSome)=true:=by rfl)(g:(x::fr.map (·.1)).Nodup:=by decide+kernel):we X scope cl x fr:=⟨a,sub,b,c,d,e,f,fI,g⟩
theorem pC.fW{X:Cx}{scope:Scope}{cl:List (Str×Addr)}{xs:List Str}{fr:List (Str×Nat)}(sub:pL X.env.cells cl)(fI:pM X scope cl fr)(a:closureFor scope X.env=pure cl:=by with_unfolding_all rfl)(b:scope.kind=.function:=by rfl)(c:∀y∈scope.names,y.2=.local->scope.names.lookup y.1=some .local:=by decide+kernel)
  (e:∀y∈scope.names,y.2≠.cell:=by decide+kernel)(f:(scope.names.all λy=>!(y.2==.free)||(cl.lookup y.1).isSome)=true:=by rfl)(g:(xs++fr.map (·.1)).Nodup:=by decide+kernel):pC X scope cl xs fr:=⟨a,sub,b,c,e,f,fI,g⟩
end L2
namespace L2
open PySem PySem.W PySem.Spec PyProof.Rows
inductive ql(K:PySem.W.Frag):List Str->Prop
 |nil:ql K []
 |cons {x:Str} {l:List Str} (h:nsIn K mainGlobals x=some none) (t:ql K l):ql K (x::l)
theorem ql.at{K:PySem.W.Frag}{x:Str}:∀{l:List Str},ql K l->x∈l->nsIn K mainGlobals x=some none
 |_,.cons h t,m=>by
  cases m with
  |head=>exact h
  |tail _ m=>exact t.at m
theorem ql.bl{K:PySem.W.Frag}{h:Heap}{mg:Str->Option Value}(z:ql K ["len","abs","list","range","tuple","any","all","isinstance","bool","int","str","sorted","min","max","sum","dict","reversed","ValueError"])(X:K.In h)(G:h.Ns mainGlobals mg):Bl mg:=by
 constructor<;>exact PySem.W.mg_none_of X G (z.at (by decide))
inductive xQ(K:PySem.W.Frag)(x:Str)(C:Addr):Prop
 |mk (a:nsIn K mainGlobals x=some (some (.ref C))) (b:makesIn K C=true) (c:keepIn K (.ref C)=true):xQ K x C
theorem kQ.j{P:Program}{w:World}{K:PySem.W.Frag}{mg:Str->Option Value}{base:Heap}{C f:Addr}{y q:Str}{st:Stmt}{ps:List Str}{n:Nat}{sp:Sp}(D:kQ P w K mg base)(g:xQ K y C)(p:cH K C "__init__" q st f)(o:∀fd,aJ K "__init__" q st f fd->aG P w K mg base aM n f fd ps sp)(b:ng "__init__" q st ps:=by intro _ _ _ _ _ _ _;rfl):uA P w K mg base n y C ps sp:=by
 obtain⟨a,m,k⟩:=g;exact D.i (let⟨X,G⟩:=D;mg_of X G a) m k p o b
end L2
namespace L2
open PySem PySem.Spec PyProof.Rows
section
variable {X:Cx}{a b e e2:Expr}{ta tb te SQ:TE}{p pos:Pos}
theorem cU(K:PySem.W.Frag)(bl:Bl X.mg)(he:PE X e te)(h:X.K=K:=by rfl)(hg:Gl X "len":=by rfl)(eB:starEach [e] X.env=(false,eval e X.env)::starEach [] X.env:=by rfl)(cL:(backTo pos (starEach [] X.env)).any (·.1)=false:=by rfl):PE X (.Call (.Name "len" p) [e] [] pos) (m7 (xp K) (gf te iU)):=iJ (Zfe h) hg bl.zX zI (aa he ag eB) (by decide) (by decide) eB cL
theorem kR(K:PySem.W.Frag)(bl:Bl X.mg)(he:PE X e te)(h2:PE X e2 SQ)(h:X.K=K:=by rfl)(hg:Gl X "isinstance":=by rfl)(qi:starEach [e2] X.env=(false,eval e2 X.env)::starEach [] X.env:=by rfl)(eB:starEach [e,e2] X.env=(false,eval e X.env)::starEach [e2] X.env:=by rfl)(cL:(backTo pos (starEach [e2] X.env)).any (·.1)=false:=by rfl):PE X (.Call (.Name "isinstance" p) [e,e2] [] pos) (m7 (Ad K) (gf te (gf SQ iU))):=iJ (ZbP h) hg bl.WB VL (aa he (aa h2 ag qi) eB) (by decide) (by decide) eB cL
theorem iL(K:PySem.W.Frag)(h:X.K=K:=by rfl):ij X (uH K):=Zas h
theorem iT(K:PySem.W.Frag)(h:X.K=K:=by rfl):ij X (z_ K):=ZbO h
theorem bA{op:CmpOp}{r:R2}(ho:cD X (compareOp op) r)(ha:PE X a ta)(hb:PE X b tb)(hm:behindInMarks op b=false:=by exact Pa _):PT X (.Compare a [op] [b] pos) (F7 (iY r ta tb)):=gT ho ha hb hm
theorem eC{op:CmpOp}{r:R2}(ho:cD X (compareOp op) r)(ha:PE X a ta)(hb:PE X b tb)(hm:behindInMarks op b=false:=by exact Pa _):PE X (.Compare a [op] [b] pos) (iY r ta tb):=zo ho ha hb hm
end
end L2
namespace L2
open PySem PySem.W PySem.Spec PyProof.Rows
def AQ(v d:Addr):HO:=.ext λh=>h.IsValuesView v d
def ZeE(td:TE):TE:=λσ H Q=>td σ H λx H1=>∃d kvs,x=.ref d/\H1 d=some (.dK kvs)/\∀v,H1 v=none->Q (.ref v) (upd H1 v (AQ v d))
theorem Zb9{X:Cx}{apos ck:Pos}{o:Expr}{td:TE}(ho:PE X o td)(lI:attributeBase o "values" X.env (eval o X.env)=eval o X.env:=by rfl)(lJ:(apos.endLine==ck.line)=true:=by rfl):PE X (.Call (.Attribute o "values" apos) [] [] ck) (ZeE td):=by
 intro pins s σ H R I h;refine wpAny_Call_method0_late lI lJ (az (ho pins s σ H _ I h) λv s1 zq=>?_);obtain⟨x,H1,I1,r1,d,kvs,ex,hd,q⟩:=zq;subst ex;obtain rfl:v=Value.ref d:=r1;obtain⟨t1,t2,sD⟩:=q5 I1 (.inl ⟨kvs,.inl hd⟩);refine⟨"dict","dict.values",plainAttrs_dict,slot_dict_values,PySem.F.type_dict_values,t1,t2,Calls.callWith_builtin rfl (PySem.evalArgs_none ?_)⟩;obtain⟨zz,_,vs,rel,dd⟩:=kz I1.av hd;refine call_meetsIn slot_dict_values dd.typeIs PySem.F.entry_dict_values (PySem.F.args_dict_values_1 _) (meets_dict_values (de X.prog X.w) d sD) ⟨⟨vs,dd⟩,?_⟩;exact⟨.ref s1.heap.objs.size,_,I1.laid (o:=AQ s1.heap.objs.size d) (t':=s1.toks) (λb o e=>Yc _ e) (Yd _) ⟨⟨_,Yo _ rfl,rfl,rfl⟩,⟨_,Yo _ rfl⟩,λh1 h2 ⟨o,e,z⟩ k=>⟨o,k _ e,z⟩⟩,rfl,q _ (I1.av.fresh (Yd _))⟩
def ZdQ:List V->Hp->VK->Prop:=λxs H Q=>∃(v d:Addr) (kvs:List (Key×V)),xs=[.ref v]/\H v=some (AQ v d)/\H d=some (.dK kvs)/\Nw H (.lst (kvs.map (·.2))) Q
theorem ME{R:Key×V->Key×Value->Prop}(f:∀a b,R a b->RelV a.2 b.2):∀{xs:List (Key×V)} {ys:List (Key×Value)},Paired R xs ys->Vals (xs.map (·.2)) (ys.map (·.2))
 |_,_,.nil=>.nil
 |_,_,.cons r t=>.cons (f _ _ r) (ME f t)
theorem Xs{X:Cx}(hc:X.calm=true):cY X (.type "list") ZdQ:=by
 rintro pins s σ H xs us Q I r ⟨v,d,kvs,rfl,hv,hd,q⟩;obtain⟨u,rfl,ru⟩:=vals1 r;obtain rfl:u=Value.ref v:=ru;obtain⟨vw,_,_⟩:=(show cK X.prog X.w H s.heap v (AQ v d) from I.av v _ hv);obtain⟨lim,Ae,vs,kv,dd⟩:=kz I.av hd;obtain⟨ep,da⟩:=dd.dictAt;have kl:=kv.length;refine kdl_call (kdl_values (knd:=de X.prog X.w) (kvs:=vs) (ep:=ep)) (I.ok.hd hc) ⟨vw,da⟩ (by omega) λh' tk acc c kp hD it=>?_;have ea:acc.toList=vs.map (·.2):=kdl_vals_eq acc.toList (by rw[Wy];exact it.1) λj v hj=>it.2 j v (by rw[←Jj];exact hj);have vals:Vals (kvs.map (·.2)) acc.toList:=by
  rw[ea];exact ME (λ_ _ h=>h.2) kv
 exact⟨.ref s.heap.objs.size,_,(I.laid (o:=.lst (kvs.map (·.2))) kp (Yd _) ⟨by rw[Ya];exact lim,acc.toList,c,vals,by rw[Array.toArray_toList];exact hD⟩),rfl,q.at _ (I.av.fresh (Yd _))⟩
end L2
namespace Ib
open PySem L2
variable {P:Program}{w:World}{K:PySem.W.Frag}{mg:Str->Option Value}{base:Heap}{f C CL CJ:Addr}{fd:FuncData}
def top(i:Nat):Stmt:=PySem.Challenge.pw_kinhearth_k34_fewest_who_settle_all.main.body.getD i (.Pass ⟨0,0,0,0⟩)
abbrev Ej:Stmt:=top 19
abbrev Fn:Stmt:=top 20
abbrev EN:Stmt:=top 21
abbrev FR:Stmt:=top 23
abbrev CT:Stmt:=top 25
abbrev CU:Stmt:=top 78
abbrev B3:Stmt:=top 79
abbrev Ek:Stmt:=top 80
abbrev DM:Stmt:=top 22
abbrev CA:Stmt:=top 24
abbrev DN:Stmt:=top 2
abbrev EO:Stmt:=top 34
abbrev DO:Stmt:=top 35
abbrev DP:Stmt:=top 38
abbrev Dc:Stmt:=top 39
abbrev Dd:Stmt:=top 40
abbrev El:Stmt:=top 47
abbrev Ci:Stmt:=top 48
abbrev De:Stmt:=top 49
abbrev Df:Stmt:=top 50
abbrev Cj:Stmt:=top 51
abbrev Ck:Stmt:=top 52
abbrev Cm:Stmt:=top 53
abbrev B4:Stmt:=top 54
abbrev Dg:Stmt:=top 73
abbrev Em:Stmt:=top 56
abbrev ER:Stmt:=top 58
abbrev DQ:Stmt:=top 57
abbrev DR:Stmt:=top 59
abbrev KW:Stmt:=top 82
abbrev Km:Stmt:=top 83
abbrev KY:Stmt:=top 84
abbrev En:Stmt:=top 85
abbrev CB:Stmt:=top 86
abbrev Dh:Stmt:=top 87
abbrev Di:Stmt:=top 88
abbrev yO:Stmt:=top 89
abbrev DS:Stmt:=top 90
abbrev CC:Stmt:=top 91
abbrev DT:Stmt:=top 93
abbrev DU:Stmt:=top 94
abbrev ES:Stmt:=top 95
abbrev DV:Stmt:=top 96
abbrev Dj:Stmt:=top 97
abbrev DW:Stmt:=top 98
abbrev DX:Stmt:=top 99
abbrev DY:Stmt:=top 100
abbrev Eo:Stmt:=top 101
abbrev DZ:Stmt:=top 102
abbrev D0:Stmt:=top 103
abbrev D1:Stmt:=top 92
abbrev rC:Stmt:=top 104
abbrev Dk:Stmt:=inClass (top 77) 0
abbrev Dn:Stmt:=inClass (top 77) 1
abbrev CV:Stmt:=inClass (top 61) 0
abbrev Dp:Stmt:=inClass (top 61) 1
abbrev Dq:Stmt:=inClass (top 61) 2
abbrev Dr:Stmt:=inClass (top 61) 3
abbrev B5:Stmt:=inClass (top 61) 4
abbrev CW:Stmt:=inClass (top 61) 5
abbrev BV:Stmt:=inClass (top 61) 6
abbrev CD:Stmt:=inClass (top 61) 8
abbrev Cn:Stmt:=inClass (top 61) 12
abbrev BD:Stmt:=inClass (top 61) 13
abbrev CY:Stmt:=inClass (top 61) 14
abbrev B6:Stmt:=inClass (top 61) 7
abbrev CF:Stmt:=inClass (top 61) 9
abbrev BG:Stmt:=inClass (top 61) 11
abbrev CG:Stmt:=inClass (top 72) 0
abbrev B7:Stmt:=inClass (top 72) 1
abbrev CZ:Stmt:=inClass (top 72) 2
abbrev C0:Stmt:=inClass (top 72) 3
abbrev CH:Stmt:=inClass (top 72) 4
abbrev CI:Stmt:=inClass (top 72) 5
abbrev B8:Stmt:=inClass (top 72) 10
abbrev BW:Stmt:=inClass (top 72) 11
abbrev VR:Stmt:=inClass (top 72) 12
abbrev C1:Stmt:=inClass (top 72) 13
abbrev BK:Stmt:=inClass (top 72) 17
abbrev BI:Stmt:=inClass (top 72) 18
abbrev Co:Stmt:=inClass (top 72) 19
abbrev BX:Stmt:=inClass (top 72) 20
abbrev Cp:Stmt:=inClass (top 72) 21
abbrev B9:Stmt:=inClass (top 72) 22
abbrev BM:Stmt:=inClass (top 72) 23
abbrev BQ:Stmt:=inClass (top 72) 24
abbrev BR:Stmt:=inClass (top 72) 16
abbrev QO:Stmt:=KW
abbrev PH:Stmt:=Km
abbrev QP:Stmt:=KY
section
theorem ZdR:aN ["_law_script","_law_k"] ["_law_script","_law_k"] (aH QO):=⟨rfl,rfl,rfl,by decide+kernel,rfl,by decide+kernel,by decide+kernel⟩
theorem Zb_(F:aJ K "_law_cell" "_law_cell" QO f fd)(ml:mg "len"=none):aG P w K mg base aM 1 f fd ["_law_script","_law_k"] (Pr K):=by
 refine F.ok ZdR (λvs H Q E h=>?_) (λaB A outer s H vs Q E hr h=>?_)
 ·obtain⟨a,ns,k,rfl,_⟩:=h;rfl
 obtain⟨a,ns,k,rfl,hS,h0,q⟩:=h;refine⟨_,ak (aR (bA mQ (pv 1) (iJ Ka rfl ml zI (aa (pv 0) ag))) (au (aF (QC Fj (pv 0) (pv 1) (λ_ _=>rfl)))) aW)
  (au (aF aL)),?_⟩
 refine⟨_,rfl,_,rfl,a,_,rfl,.inl hS,_,_,rfl,rfl,_,rfl,?_⟩;refine bB (λc=>?_) (λc=>?_)
 ·have c':k<(((ns.map V.int).length:Nat):Int):=of_decide_eq_true c;rw[(Ya _)] at c';exact⟨_,rfl,_,rfl,a,_,_,_,rfl,rfl,hS,mN h0 c',q _⟩
 ·exact q _
theorem og:aN ["_law_cell_here","_law_parts","_law_one","_law_two","_law_six","_law_found","_law_part"] ["_law_cell_here","_law_parts"] (aH PH):=⟨rfl,rfl,rfl,by decide+kernel,rfl,by decide+kernel,by decide+kernel⟩
theorem ZaR(F:aJ K "_law_draws" "_law_draws" PH f fd)(ma:mg "abs"=none):aG P w K mg base aM 1 f fd ["_law_cell_here","_law_parts"] (zt K):=by
 refine F.ok og (λvs H Q E h=>?_) (λaB A outer s H vs Q E hr h=>?_)
 ·obtain⟨c,a,ps,rfl,_⟩:=h;rfl
 obtain⟨c,a,ps,rfl,hS,hps,hlen,q⟩:=h;refine⟨_,ak (aR (bA mQ (iJ Mh rfl ma Po (aa (pv 0) ag)) (a9 O9 aL aL))
   (ak (f_ (i:=2) og.nd rfl (Or.inl rfl) (a9 dU (a9 gU (a9 oi (pv 0) aL) aL) aL))
   (ak (f_ (i:=3) og.nd rfl (Or.inl rfl) (a9 dU (a9 gU (a9 gU (a9 oi (pv 2) (pv 2)) (a9 oi aL (pv 2))) (pv 0)) aL))
   (ak (f_ (i:=4) og.nd rfl (Or.inl rfl) (a9 dU (a9 gU (a9 oi (pv 3) aL) (pv 2)) aL))
   (au (f_ (i:=0) og.nd rfl (Or.inl rfl) (a9 gU (pv 3) (a9 oi aL (a9 gU (pv 4) (a9 oi aL (pv 2))))))))))
   (au (f_ (i:=0) og.nd rfl (Or.inl rfl) (a9 zH (iJ Mh rfl ma Po (aa (pv 0) ag)) (a9 O9 aL aL)))))
  (ak (f_ (i:=5) og.nd rfl (Or.inl rfl) (wK ag))
  (ak (fH PassesOwn.never rfl (NB (pv 1)) (pK (i:=6) og.nd rfl (Or.inl rfl))
   (ak (cy (ji plainAttrs_list PySem.F.slot_list_append PySem.F.type_list_append wc (pv 5) (aa (a9 dU (pv 0) (pv 6)) ag)))
   (au (f_ (i:=0) og.nd rfl (Or.inl rfl) (a9 zk (pv 0) (pv 6))))))
  (au (aF (pv 5))))),?_⟩
 refine fP (λσ H'=>H'=H/\∃c' o2 o3 o4,σ=[some (.int c'),some (.ref a),o2,o3,o4,none,none]) (λnx k=>?_) ?_
 ·refine⟨_,rfl,c,rfl,_,_,rfl,rfl,⟨by decide,by decide,by decide⟩,_,_,rfl,rfl,_,rfl,?_⟩;refine bB (λ_=>?_) (λ_=>?_)
  ·refine⟨_,rfl,_,_,rfl,rfl,.inr ⟨by decide,by decide⟩,_,_,rfl,rfl,_,_,rfl,rfl,(by show(0:Int)<2147483647;decide),?_⟩;refine⟨_,rfl,_,rfl,_,_,rfl,rfl,.inl (Zc6 _ (by decide) (by decide)),_,rfl,_,_,rfl,rfl,.inl ⟨by decide,by decide⟩,_,_,rfl,rfl,_,rfl,_,_,rfl,rfl,_,_,rfl,rfl,(by show(0:Int)<2147483399;decide),?_⟩;refine⟨_,rfl,_,_,rfl,rfl,.inr ⟨by decide,by decide⟩,_,rfl,_,_,rfl,rfl,_,_,rfl,rfl,(by show(0:Int)<1000000007;decide),?_⟩;refine⟨_,rfl,_,rfl,_,rfl,_,_,rfl,rfl,.inl ⟨by decide,by decide⟩,_,_,rfl,rfl,_,_,rfl,rfl,.inl ⟨by decide,by decide⟩,_,_,rfl,rfl,k _ _ ⟨rfl,_,_,_,_,rfl⟩⟩
  ·exact⟨_,rfl,c,rfl,_,_,rfl,rfl,⟨by decide,by decide,by decide⟩,_,_,rfl,rfl,k _ _ ⟨rfl,_,_,_,_,rfl⟩⟩
 ·rintro σ H0 ⟨rfl,c',o2,o3,o4,rfl⟩;refine⟨(by show 0<=sizeLine;decide),λl hl=>?_⟩;have s1:ai H0 (upd H0 l (.lst [])):=cj hl _;refine⟨_,rfl,a,rfl,⟨_,s1.seq hS⟩,jA (K:=K) (a:=a) (xs:=ps.map V.int) (λi σ H2=>∃c o2 o3 o4 o6 ds,σ=[some (.int c),some (.ref a),o2,o3,o4,some (.ref l),o6]/\ai H0 H2/\H2 l=some (.lst (ds.map V.int))/\Paired Bd ds (ps.take i))
   ⟨c',o2,o3,o4,none,[],rfl,s1,aS,by rw[List.take_zero];exact .nil⟩ (λi σ H2 _ ⟨_,_,_,_,_,_,_,s2,_⟩=>s2.seq hS) ?_ ?_⟩
  ·rintro i y σ H2 hi ⟨c,o2,o3,o4,o6,ds,rfl,s2,h2,b2⟩;obtain⟨p,rfl,hp⟩:=mG hi;have dF:i<ps.length:=(Yh.mp hp).1;obtain⟨p0,p1⟩:=hps p (Yi hp);have dl:=b2.length;rw[Wf] at dl;refine⟨_,rfl,.inl ⟨rfl,_,aj.of h2⟩,_,rfl,_,rfl,_,_,rfl,rfl,p0,l,_,_,rfl,rfl,h2,(by rw[Ya];exact jy (by omega)),?_⟩;refine⟨_,rfl,_,rfl,_,_,rfl,rfl,⟨p0,p1⟩,?_⟩;refine⟨_,o2,o3,o4,_,ds++[c % p],rfl,λb o e=>?_,?_,?_⟩
   ·rw[aQ (bX e hl)];exact s2 b o e
   ·rw[aS,Mm]
   ·rw[Y0,hp];exact b2.snoc ⟨W7 _ (Hk p0),Wt _ p0⟩
  ·rintro σ H2 ⟨c,o2,o3,o4,o6,ds,rfl,s2,h2,b2⟩;rw[Ya,Wd] at b2;exact⟨_,rfl,q l ds H2 hl s2 h2 b2⟩
theorem wR:aN ["_law_code","_law_size","_law_free","_law_found","_law_k"] ["_law_code","_law_size"] (aH QP):=⟨rfl,rfl,rfl,by decide+kernel,rfl,by decide+kernel,by decide+kernel⟩
theorem Zca(F:aJ K "_law_turn" "_law_turn" QP f fd)(mL:mg "list"=none)(mR:mg "range"=none)(mT:mg "tuple"=none):aG P w K mg base aM 1 f fd ["_law_code","_law_size"] Pt:=by
 refine F.ok wR (λvs H Q E h=>?_) (λaB A outer s H vs Q E hr h=>?_)
 ·obtain⟨c,n,rfl,_⟩:=h;rfl
 obtain⟨c,n,rfl,hn,q⟩:=h;refine⟨_,ak (f_ (i:=2) wR.nd rfl (Or.inl rfl) (d_ (Cy rfl) rfl mL qR (aa (d_ yJ rfl mR uf (aa (pv 1) ag)) ag)))
  (ak (f_ (i:=3) wR.nd rfl (Or.inl rfl) (wK ag))
  (ak (fH PassesOwn.never rfl (nS rfl mR (aa (pv 1) ag)) (pK (i:=4) wR.nd rfl (Or.inl rfl))
   (ak (cy (ji plainAttrs_list PySem.F.slot_list_append PySem.F.type_list_append wc (pv 3) (aa (ji plainAttrs_list PySem.F.slot_list_pop PySem.F.type_list_pop Zan (pv 2) (aa (a9 dU (pv 0) (a9 zH (pv 1) (pv 4))) ag)) ag)))
   (au (f_ (i:=0) wR.nd rfl (Or.inl rfl) (a9 zk (pv 0) (a9 zH (pv 1) (pv 4)))))))
  (au (aF (d_ tK rfl mT mD (aa (pv 3) ag)))))),?_⟩
 refine⟨_,rfl,_,rfl,λr u6=>?_⟩;refine⟨r,n,rfl,aS,by omega,λu hu=>?_⟩;refine⟨(by show 0<=sizeLine;decide),λl hl=>?_⟩;have g1:ai H (upd H r (.jo 0 (n:Int))):=cj u6 _;have g2:=g1.trans (cj hu (.lst ((bh n).map V.int)));have g3:=g2.trans (cj hl (.lst []));have Ic:u≠l:=bX aS hl;refine⟨_,rfl,(n:Int),rfl,by omega,by omega,yW (lo:=0) (n:=n) (λi σ H2=>∃c o4 ds fs,σ=[some (.int c),some (.int (n:Int)),some (.ref u),some (.ref l),o4]/\ai H H2/\H2 u=some (.lst (fs.map V.int))/\H2 l=some (.lst (ds.map V.int))/\(ds++fs).Perm (bh n)/\ds.length=i)
  ⟨c,none,[],bh n,rfl,g3,by rw[aQ Ic];exact aS,aS,by rw[SR],rfl⟩ ?_ ?_⟩
 ·rintro i σ H2 hi ⟨c,o4,ds,fs,rfl,s2,Ie,uZ,pm,dl⟩;have pl:=pm.length_eq;rw[Yk,eM,dl] at pl;have Ag:(0:Int)<(n:Int)-(0+(i:Int)):=by omega
  have m0:=W7 c (Hk Ag);have m1:=Wt c Ag;have hk:(c % ((n:Int)-(0+(i:Int)))).toNat<fs.length:=by omega
  refine⟨_,rfl,.inl ⟨rfl,_,aj.of uZ⟩,_,rfl,.inl ⟨rfl,_,aj.of Ie⟩,_,rfl,_,rfl,_,rfl,_,_,rfl,rfl,_,_,rfl,rfl,Ag,u,_,_,_,.int fs[(c % ((n:Int)-(0+(i:Int)))).toNat],rfl,rfl,Ie,by omega,by omega,((Fh (FJ m0 (by rw[Ya];omega))).1),by rw[Yg,Yb hk];rfl,?_⟩;refine⟨l,_,_,rfl,rfl,by rw[aQ Ic.symm];exact uZ,(by rw[Ya];exact jy (by omega)),?_⟩;refine⟨_,rfl,_,rfl,_,rfl,_,_,rfl,rfl,_,_,rfl,rfl,⟨Ag,by omega⟩,?_⟩;refine⟨_,_,ds++[fs[(c % ((n:Int)-(0+(i:Int)))).toNat]],fs.eraseIdx (c % ((n:Int)-(0+(i:Int)))).toNat,rfl,λb o e=>?_,?_,?_,?_,?_⟩
  ·have nl:b≠l:=bX (g2 b o e) hl;have nu:b≠u:=bX (g1 b o e) hu;rw[aQ nl,aQ nu];exact s2 b o e
  ·rw[aQ Ic,aS,Lq]
  ·rw[aS,Mm]
  ·refine List.Perm.trans ?_ pm;rw[Jp];refine List.Perm.append_left ds ?_;exact(KJ fs _ hk).symm
  ·rw[Yk,List.length_singleton,dl]
 ·rintro σ H2 ⟨c,o4,ds,fs,rfl,s2,Ie,uZ,pm,dl⟩;have pl:=pm.length_eq;rw[Yk,eM,dl] at pl;have e:fs=[]:=List.eq_nil_of_length_eq_zero (by omega);rw[e,Y8] at pm;refine⟨_,rfl,l,_,rfl,.inl ⟨aj.of uZ,λt ht=>?_⟩⟩;exact q t ds _ (s2.free ht) (s2.trans (cj ht _)) aS pm
end
theorem Zcb{ds:List Int}{a b c d e:Int}(h:Paired Bd ds [a,b,c,d,e]):∃v w x y z,ds=[v,w,x,y,z]/\Bd v a/\Bd w b/\Bd x c/\Bd y d/\Bd z e:=by
 cases h with|cons h1 h=>cases h with|cons h2 h=>cases h with|cons h3 h=>cases h with|cons h4 h=>cases h with|cons h5 h=>
  cases h
  grind
theorem bb{q:St->Hp->Prop}{i:Nat}{x:V}{σ:St}{H:Hp}(h:q (σ.set i (some x)) H):ou i x σ H q:=h
theorem PJ{K:PySem.W.Frag}{H:Hp}{p:Addr}{xs:List V}{i:Nat}{x:V}{Q:VK}(hp:aj K H p xs\/aA K H p xs)(h:xs[i]?=some x)(q:Q x H):G7 K (.ref p) (.int (0+(i:Int))) H Q:=by
 rcases hp with hp|hp;·exact .inl ⟨p,_,_,_,rfl,rfl,hp,Mq h,q⟩
 ·exact .inr (.inl ⟨p,_,_,_,rfl,rfl,hp,Mq h,q⟩)
theorem za(v:V):decide (v=v)=true:=decide_eq_true rfl
theorem all_true(n:Nat):(List.replicate n true).all id=true:=by
 induction n with
 |zero=>rfl
 |succ n ih=>rw[List.replicate_succ,Je,ih];rfl
inductive MF(m:Nat)(vs:List V)(H:Hp)(Q:VK):Prop
 |mk (x y:V) (d:Dt) (k:Nat) (aC:vs=[x,y]) (aT:m=k+1) (bc:At H k x d) (bK:At H k y d) (cE:∀H',ai H H'->Q (.bl true) H'):MF m vs H Q
def q_(m:Nat):Sp:=λvs H Q _=>MF m vs H Q
section
theorem Xt:aN ["_law_found","_law_due"] ["_law_found","_law_due"] (aH yO):=.aU
theorem ZaS{n:Nat}(F:aJ K "_law_same" "_law_same" yO f fd)(nQ:HasFn P w K mg base n "_law_same" ["_law_found","_law_due"] (q_ n))(bl:Bl mg):aG P w K mg base aM (n+1) f fd ["_law_found","_law_due"] (q_ (n+1)):=by
 refine F.o Xt λaB A outer s H vs Q E hr h=>?_;obtain⟨x,y,d,k,rfl,ek,hx,hy,q⟩:=h;obtain rfl:k=n:=by omega
 have hu:=hr.uu;refine⟨_,(ak (aR (bA FD (pv 1) lC) (au (aF (eC FD (pv 0) lC))) aW) (ak (aR (eN (kR K bl (pv 1) (ku rfl bl.zJ zr))) (au (aF (oh (kR K bl (pv 0) (ku rfl bl.zJ zr)) (lD (eC cq (pv 0) (pv 1)))))) aW) (ak (aR (eN (kR K bl (pv 1) (ku rfl bl.QG Pq))) (au (aF (oh (kR K bl (pv 0) (ku rfl bl.QG Pq)) (oh (ZcR (kR K bl (pv 0) (ku rfl bl.zJ zr))) (lD (eC cq (pv 0) (pv 1))))))) aW) (ak (aR (eN (kR K bl (pv 1) (ku rfl bl.wZ wO))) (au (aF (oh (kR K bl (pv 0) (ku rfl bl.wZ wO)) (lD (eC cq (pv 0) (pv 1)))))) aW) (ak (aR (PW.pt (pw_or (bA lH (kR K bl (pv 1) (ku rfl bl.q0 qR)) (kR K bl (pv 0) (ku rfl bl.q0 qR))) (pw_or1 (bA lH (kR K bl (pv 1) (ku rfl bl.mH mD)) (kR K bl (pv 0) (ku rfl bl.mH mD)))))) (au (aF jh)) aW) (ak (aR (bA lH (cU K bl (pv 0)) (cU K bl (pv 1))) (au (aF jh)) aW) (au (aF (iJ (Rv (K:=K) rfl rfl) rfl bl.QF Pp (aa (iM (x:="_law_k") (fr:=[("_law_found",0),("_law_due",1)]) (cl:=[("_law_found",s.heap.objs.size+1),("_law_due",s.heap.objs.size+1+1)]) rfl (.fW ⟨rfl,⟨rfl,trivial⟩⟩ ⟨⟨rfl,.inl rfl,.inl rfl,rfl⟩,⟨⟨rfl,.inl rfl,.inl rfl,rfl⟩,trivial⟩⟩) (nS rfl bl.jb (aa (cU K bl (pv 1)) ag)) (λ_ _ _ _=>lq) (λ_ _ _ _=>(zW nQ hr (by omega) rfl (aa (a_ (NO (K:=K) rfl) (pv 1) (pv 0)) (aa (a_ (NO (K:=K) rfl) (pv 2) (pv 0)) ag))))) ag)))))))))),?_⟩;have sq:(∃(p r:Addr) (xs ys:List V) (ds:List Dt) (t:Value) (b1 b2:Bool) (m:Nat),x=.ref p/\y=.ref r/\iS K H (.ref p) t/\iS K H (.ref r) t/\kitOne K t (.type "bool")=some false/\kitOne K t (.type "int")=some false/\kitOne K t (.type "str")=some false/\
   kitOne K t (.type "list")=some b1/\kitOne K t (.type "tuple")=some b2/\(aj K H p xs\/aA K H p xs)/\(aj K H r ys\/aA K H r ys)/\ds.length<=1000/\Paired (At H m) xs ds/\Paired (At H m) ys ds/\k=m+1)\/
   (x=.ay/\y=.ay)\/(∃b,x=.bl b/\y=.bl b)\/(∃i,x=.int i/\y=.int i)\/∃z,x=.str z/\y=.str z:=by
  cases d with
  |ay=>unfold At at hx hy;exact .inr (.inl ⟨hx,hy⟩)
  |bl b=>unfold At at hx hy;exact .inr (.inr (.inl ⟨b,hx,hy⟩))
  |int i=>unfold At at hx hy;exact .inr (.inr (.inr (.inl ⟨i,hx,hy⟩)))
  |str z=>unfold At at hx hy;exact .inr (.inr (.inr (.inr ⟨z,hx,hy⟩)))
  |lst ds=>
   cases k with
   |zero=>unfold At at hx;exact hx.elim
   |succ m=>
    unfold At at hx hy;obtain⟨a,xs,e0,e1,lz,p1⟩:=hx;obtain⟨b,ys,Ig,e2,_,p2⟩:=hy;exact .inl ⟨a,b,xs,ys,ds,.type "list",true,false,m,e0,Ig,.lst e1,.lst e2,Zdb,Zdc,Zdd,Zde,Zdf,.inl (aj.of e1),.inl (aj.of e2),lz,p1,p2,rfl⟩
  |tup ds=>
   cases k with
   |zero=>unfold At at hx;exact hx.elim
   |succ m=>
    unfold At at hx hy;obtain⟨a,xs,e0,e1,lz,p1⟩:=hx;obtain⟨b,ys,Ig,e2,_,p2⟩:=hy;exact .inl ⟨a,b,xs,ys,ds,.type "tuple",false,true,m,e0,Ig,.tup e1,.tup e2,Zdg,Zdh,Zdi,Zdj,Zdk,.inr (aA.of e1),.inr (aA.of e2),lz,p1,p2,rfl⟩
 clear hx hy;rcases sq with⟨p,r,xs,ys,ds,t,b1,b2,m,rfl,rfl,T1,T2,kb,ki,ksr,kl,kt,hp,hq,hz,p1,p2,ek⟩|⟨rfl,rfl⟩|⟨b,rfl,rfl⟩|⟨i,rfl,rfl⟩|⟨z,rfl,rfl⟩
 ·have l1:=cI p1;have l2:=cI p2;refine⟨_,rfl,rfl,_,rfl,?_⟩;refine bB (λc=>absurd (of_decide_eq_true c) (λz=>nomatch z)) (λ_=>aV ?_);refine⟨_,rfl,_,_,_,false,rfl,T2,kb,_,rfl,bY (aV ?_)⟩;refine⟨_,rfl,_,_,_,false,rfl,T2,ki,_,rfl,bY (aV ?_)⟩;refine⟨_,rfl,_,_,_,false,rfl,T2,ksr,_,rfl,bY (aV ?_)⟩;refine⟨_,rfl,_,_,_,b1,rfl,T2,kl,_,rfl,_,_,_,b1,rfl,T1,kl,rfl,_,rfl,uz rfl ?_⟩;refine⟨_,rfl,_,_,_,b2,rfl,T2,kt,_,rfl,_,_,_,b2,rfl,T1,kt,rfl,_,rfl,uz rfl (aV ?_)⟩;refine⟨_,rfl,p,_,rfl,hp,_,rfl,r,_,rfl,hq,rfl,_,rfl,uz (by rw[l1,l2]) (aV ?_)⟩;refine⟨_,rfl,r,_,rfl,hq,_,rfl,by omega,by omega,λD hD=>v8 (lo:=0) (n:=((ys.length:Nat):Int).toNat)
   (λi zs H1=>ai H H1/\H1 D=some (.lst zs)/\zs=(List.replicate i true).map V.bl) ⟨cj hD _,aS,rfl⟩ ?_ ?_⟩
  ·rintro i zs H1 hi ⟨g,h1,rfl⟩;rw[Y5] at hi;have sq:∀{a:Addr} {us:List V},(aj K H a us\/aA K H a us)->(aj K H1 a us\/aA K H1 a us):=λ{a us} z=>by
    rcases z with z|z;·exact .inl (g.seq z)
    ·exact .inr (g.i4 z)
   have gx:xs[i]?=some xs[i]:=Yb (by omega);have gy:ys[i]?=some ys[i]:=Yb (by omega);obtain⟨d1,e1,a1⟩:=fO p1 gx;obtain⟨d2,e2,a2⟩:=fO p2 gy;rw[e1] at e2;cases e2;refine kI (cS ?_);refine⟨_,rfl,_,rfl,PJ (sq hp) gx ?_⟩;refine⟨_,rfl,_,rfl,PJ (sq hq) gy ?_⟩;refine⟨_,_,d1,m,rfl,ek,a1.same g,a2.same g,λH2 g2=>?_⟩;refine⟨g2 _ _ h1,by rw[Ya,W4];exact jy (by omega),λb o e=>?_,aS,?_⟩
   ·rw[aQ (bX e hD)];exact g2 b o (g b o e)
   ·rw[List.replicate_succ',Yn];rfl
  ·rintro zs H1 ⟨g,h1,e⟩;refine⟨D,_,rfl,aj.of (by rw[h1,e]),?_⟩;rw[all_true];exact q H1 g
 ·refine⟨_,rfl,rfl,_,rfl,?_⟩;refine bB (λc=>?_) (λc=>absurd (za _) c);exact⟨_,rfl,rfl,q H (ai.refl H)⟩
 ·refine⟨_,rfl,rfl,_,rfl,?_⟩;refine bB (λc=>absurd (of_decide_eq_true c) (λz=>nomatch z)) (λ_=>aV ?_);refine⟨_,rfl,_,_,_,true,rfl,.bl b,Px,_,rfl,cS ?_⟩;refine⟨_,rfl,_,_,_,true,rfl,.bl b,Px,_,rfl,cS ?_⟩;refine⟨_,rfl,_,rfl,rfl,?_⟩;rw[za];exact q H (ai.refl H)
 ·refine⟨_,rfl,rfl,_,rfl,?_⟩;refine bB (λc=>absurd (of_decide_eq_true c) (λz=>nomatch z)) (λ_=>aV ?_);refine⟨_,rfl,_,_,_,false,rfl,.int i,FK,_,rfl,bY (aV ?_)⟩;refine⟨_,rfl,_,_,_,true,rfl,.int i,Pu,_,rfl,cS ?_⟩;refine⟨_,rfl,_,_,_,true,rfl,.int i,Pu,_,rfl,cS ?_⟩;refine⟨_,rfl,_,_,_,false,rfl,.int i,FK,_,rfl,_,rfl,cS ?_⟩;refine⟨_,rfl,_,rfl,rfl,?_⟩;rw[za];exact q H (ai.refl H)
 ·refine⟨_,rfl,rfl,_,rfl,?_⟩;refine bB (λc=>absurd (of_decide_eq_true c) (λz=>nomatch z)) (λ_=>aV ?_);refine⟨_,rfl,_,_,_,false,rfl,.str z,Zc_,_,rfl,bY (aV ?_)⟩;refine⟨_,rfl,_,_,_,false,rfl,.str z,Zda,_,rfl,bY (aV ?_)⟩;refine⟨_,rfl,_,_,_,true,rfl,.str z,Py,_,rfl,cS ?_⟩;refine⟨_,rfl,_,_,_,true,rfl,.str z,Py,_,rfl,cS ?_⟩;refine⟨_,rfl,_,rfl,rfl,?_⟩;rw[za];exact q H (ai.refl H)
theorem same_none:aG P w K mg base aM 0 f fd ["_law_found","_law_due"] (q_ 0):=by
 have no:∀vs H Q E,¬q_ 0 vs H Q E:=λvs H Q E h=>by
  obtain⟨_,_,_,_,_,z,_⟩:=h;omega
 exact⟨λvs H Q E h=>absurd h (no vs H Q E),λA outer s H args us vs Q E _ _ _ _ h=>absurd h (no vs H Q E)⟩
theorem N3(F:aJ K "_law_same" "_law_same" yO f fd)(bS:Binds K fd ["_law_found","_law_due"] [])(kS:keepIn K (.ref f)=true)(m:mg "_law_same"=some (.ref f))(bl:Bl mg):
  ∀n:Nat,aG P w K mg base aM n f fd ["_law_found","_law_due"] (q_ n)
 |0=>same_none
 |n+1=>ZaS F ⟨f,fd,N3 F bS kS m bl n,bS,kS,m⟩ bl
end
inductive PK(K:PySem.W.Frag)(vs:List V)(H:Hp)(Q:VK):Prop
 |mk (p:Addr) (ns:List Int) (aC:vs=[.ref p]) (aT:Row K H p ns) (bc:ns.length<64) (bK:∀H',ai H H'->Q (.bl (full ns)) H'):PK K vs H Q
def GK(K:PySem.W.Frag):Sp:=λvs H Q _=>PK K vs H Q
def bF(ys xs:List Int):List Int:=xs.map λx=>ys.getD x.toNat 0
theorem pO{ys:List Int}(h:full ys=true){x:Int}(hx:x∈ys):0<=x/\x<ys.length:=by
 have hm:=(pG h).subset hx;unfold bh at hm;obtain⟨i,hi,rfl⟩:=Ye.mp hm;have:=Y7.mp hi;omega
section
variable {c:Addr}
theorem YI:aN ["row"] ["row"] (aH Ej):=.aU
theorem YJ(F:aJ K "is_turn" "is_turn" Ej f fd)(bl:Bl mg):aG P w K mg base aM 1 f fd ["row"] (GK K):=by
 refine F.o YI λaB A outer s H vs Q E hr h=>?_;obtain⟨p,ns,rfl,hR,iZ,q⟩:=h;have hu:=hr.uu;refine⟨_,(ak (aR (eN (iJ (Zff (K:=K) rfl rfl) rfl bl.Zeo Zc7 (aa (iM (x:="number") (fr:=[]) (cl:=[]) rfl (.fW trivial trivial) (Zc5 (pv 0)) (λ_ _ _ _=>lq) (λ_ _ _ _=>(kR K bl (pv 0) (ku rfl bl.zJ zr)))) ag))) (au (aF jh)) aW) (au (aF (eC (Pn hu) (iJ (sortedK (K:=K) rfl) rfl bl.EJ Eg (aa (pv 0) ag)) (d_ (Cy rfl) rfl bl.q0 qR (aa (d_ yJ rfl bl.jb uf (aa (cU K bl (pv 0)) ag)) ag)))))),?_⟩;have hl:(ns.map V.int).length=ns.length:=Ya _;have rest:∀(D:Addr) (H1:Hp),ai H H1->H1 D=some (.lst ((List.replicate ns.length false).map V.bl))->
   ∃(SS:Addr) (bs:List Bool),[V.ref D]=[V.ref SS]/\aj K H1 SS (bs.map V.bl)/\tB (tC (V.bl (bs.any id))) [] H1 (λc H2=>if c=true then Q (.bl false) H2 else
    (QH K false (gq 0)) [some (.ref p)] H2 Q):=λD H1 g1 h1=>by
  refine⟨D,_,rfl,aj.of h1,_,rfl,?_⟩;rw[any_false];refine bY ?_;exact Zat rfl (Row.same g1 hR) iZ λH' g=>q H' (g1.trans g)
 have turn:∀(D:Addr),H D=none->∀(i:Nat) (v:V) (ys:List V) (H1:Hp),(ns.map V.int)[i]?=some v->(ai H H1/\H1 D=some (.lst ys)/\ys=(List.replicate i false).map V.bl)->
   m7 (Ad K) (gf (gq 0) (gf (tC (V.ty "bool")) iU)) [some v] H1 λy H3=>H3 D=some (.lst ys)/\ys.length<sizeLine/\
    (ai H (upd H3 D (.lst (ys++[y])))/\upd H3 D (.lst (ys++[y])) D=some (.lst (ys++[y]))/\ys++[y]=(List.replicate (i+1) false).map V.bl):=λD hD i v ys H1 hi ⟨g,h1,e⟩=>by
  obtain⟨z,rfl,hz⟩:=mG hi;have dF:i<ns.length:=(Yh.mp hz).1;refine⟨_,rfl,_,_,_,false,rfl,.int z,FK,h1,?_,λb o q=>?_,aS,?_⟩
  ·rw[e,Ya,W4];exact jy (by omega)
  ·rw[aQ (bX q hD)];exact g b o q
  ·rw[e,List.replicate_succ',Yn];rfl
 refine⟨_,rfl,p,rfl,?_⟩;rcases hR with xR|xR
 ·refine .inl ⟨⟨_,xR⟩,λD hD=>Ef (xs:=ns.map V.int) (λi ys H1=>ai H H1/\H1 D=some (.lst ys)/\ys=(List.replicate i false).map V.bl) ⟨cj hD _,aS,rfl⟩ (λi ys H1 _ ⟨g,_,_⟩=>g.seq xR) (λi v ys H1 hi h=>kI (cS (turn D hD i v ys H1 hi h))) ?_⟩;rintro ys H1 ⟨g,h1,e⟩;exact rest D H1 g (by rw[h1,e,hl])
 ·refine .inr ⟨⟨_,xR⟩,λD hD=>y_ (xs:=ns.map V.int) (λi ys H1=>ai H H1/\H1 D=some (.lst ys)/\ys=(List.replicate i false).map V.bl) ⟨cj hD _,aS,rfl⟩ (λi ys H1 _ ⟨g,_,_⟩=>g.i4 xR) (λi v ys H1 hi h=>kI (cS (turn D hD i v ys H1 hi h))) ?_⟩;rintro ys H1 ⟨g,h1,e⟩;exact rest D H1 g (by rw[h1,e,hl])
end
inductive N4(K:PySem.W.Frag)(vs:List V)(H:Hp)(Q:VK):Prop
 |mk (a b:Addr) (xs ys:List Int) (aC:vs=[.ref a,.ref b]) (aT:aA K H a (xs.map V.int)) (bc:aA K H b (ys.map V.int)) (bK:(∀x∈xs,0<=x/\x<ys.length)) (cE:xs.length<64) (dI:∀(t:Addr) (H':Hp),H t=none->ai H H'->H' t=some (.tup ((bF ys xs).map V.int))->Q (.ref t) H'):N4 K vs H Q
def Gf(K:PySem.W.Frag):Sp:=λvs H Q _=>N4 K vs H Q
section
theorem Xu:aN ["first","then"] ["first","then"] (aH DM):=.aU
theorem Xv(F:aJ K "followed" "followed" DM f fd)(bl:Bl mg):aG P w K mg base aM 1 f fd ["first","then"] (Gf K):=by
 refine F.o Xu λaB A outer s H vs Q E hr h=>?_;obtain⟨a,b,xs,ys,rfl,hA,hB,qm,hl,q⟩:=h;have al:(bF ys xs).length=xs.length:=by unfold bF;rw[Ya]
 refine⟨_,(au (aF (d_ (tK) rfl bl.mH mD (aa (iM (x:="section") (fr:=[("then",1)]) (cl:=[("then",s.heap.objs.size+1)]) rfl (.fW ⟨rfl,trivial⟩ ⟨⟨rfl,.inl rfl,.inl rfl,rfl⟩,trivial⟩) (FC (pv 0)) (λ_ _ _ _=>lq) (λ_ _ _ _=>(a_ (iT K) (pv 1) (pv 0)))) ag)))),?_⟩;refine⟨_,rfl,a,rfl,⟨_,hA⟩,λD hD=>y_ (xs:=xs.map V.int) (λi zs H3=>ai H H3/\H3 D=some (.lst zs)/\zs=((bF ys xs).take i).map V.int) ⟨cj hD _,aS,rfl⟩ (λi zs H3 _ ⟨g3,_,_⟩=>g3.i4 hA) ?_ ?_⟩
 ·rintro i v zs H3 hi ⟨g3,h3,e3⟩;obtain⟨z,rfl,hz⟩:=mG hi;have bz:=qm z (Yi hz);refine kI (cS ⟨_,rfl,_,rfl,b,_,_,_,rfl,rfl,g3.i4 hB,mN bz.1 bz.2,h3,?_,λd o qd=>?_,aS,?_⟩)
  ·rw[e3,Ya,Wf,al];exact jy (by omega)
  ·rw[aQ (bX qd hD)];exact g3 d o qd
  ·rw[e3,Y0,Eh];unfold bF;rw[Yg,hz];rfl
 ·rintro zs H3 ⟨g3,h3,e3⟩;refine⟨D,_,rfl,.inl ⟨aj.of h3,λt ht=>q t _ (g3.free ht) (g3.trans (cj ht _)) ?_⟩⟩;show upd H3 t (.tup zs) t=_;rw[aS,e3,Ya,Wp (by rw[al];omega)]
end
def jH(x:Int):List Int->Nat
 |[]=>0
 |y::r=>if y=x then 0 else jH x r+1
theorem zb{x:Int}:∀{l:List Int},x∈l->l[jH x l]?=some x/\∀m,m<jH x l->l[m]?≠some x
 |[],h=>by cases h
 |y::r,h=>by
  unfold jH;by_cases e:y=x;·grind
  ·rw[if_neg e];obtain⟨h1,h2⟩:=zb ((Yp.mp h).resolve_left λz=>e z.symm);refine⟨by rw[List.getElem?_cons_succ];exact h1,λm hm=>?_⟩;cases m with
   |zero=>grind
   |succ m=>grind
theorem yY{l:List Int}(nd:l.Nodup){k:Nat}{x:Int}(h:l[k]?=some x):jH x l=k:=by
 obtain⟨h1,h2⟩:=zb (Yi h);exact(List.getElem?_inj (by rcases Yh.mp h1 with⟨z,_⟩;exact z) nd).mp (h1.trans h.symm)
def inv(xs:List Int):List Int:=(bh xs.length).map λi=>(jH i xs:Int)
theorem fC(xs:List Int):(inv xs).length=xs.length:=by unfold inv;rw[Ya,eM]
theorem zy{xs:List Int}{i:Nat}(h:i<xs.length):(inv xs)[i]?=some (jH (i:Int) xs:Int):=by
 unfold inv;rw[Yg,k_ h];rfl
theorem yP{xs:List Int}(h:full xs=true):xs.Nodup:=(pG h).nodup_iff.mpr (AF.DG _)
theorem MG{xs:List Int}(h:full xs=true){i:Nat}(hi:i<xs.length):(i:Int)∈xs:=(pG h).symm.subset (Yi (k_ hi))
theorem jC{xs:List Int}(h:full xs=true):full (inv xs)=true:=by
 have p:(xs.map λi=>(jH i xs:Int)).Perm (inv xs):=(pG h).map _;have e:xs.map (λi=>(jH i xs:Int))=bh xs.length:=by
  refine Ws λi=>?_;rw[Yg];by_cases hi:i<xs.length
  ·rw[k_ hi,Yb hi];show some (jH xs[i] xs:Int)=some (i:Int);rw[yY (yP h) (Yb hi)]
  ·rw[Y6 (by omega),Y6 (by rw[eM];omega)];rfl
 rw[e] at p;exact qS p.symm
theorem inv_inv{xs:List Int}(h:full xs=true):inv (inv xs)=xs:=by
 refine Ws λi=>?_;by_cases hi:i<xs.length
 ·rw[zy (by rw[fC];exact hi),Yb hi];have b:=pO h (Jf hi);have hk:(xs[i]).toNat<xs.length:=by omega
  have e:((xs[i].toNat:Nat):Int)=xs[i]:=by omega
  have g:(inv xs)[(xs[i]).toNat]?=some (i:Int):=by rw[zy hk,e,yY (yP h) (Yb hi)]
  rw[yY (yP (jC h)) g,e]
 ·rw[Y6 (by rw[fC,fC];omega),Y6 (by omega)]
theorem MH{xs:List Int}{i:Nat}(hi:i<xs.length):(inv xs).take (i+1)=(inv xs).take i++[(jH (i:Int) xs:Int)]:=by
 rw[Y0,zy hi];rfl
inductive PL(vs:List V)(H:Hp)(Q:VK):Prop
 |mk (a:Addr) (xs:List Int) (aC:vs=[.ref a]) (aT:H a=some (.tup (xs.map V.int))) (bc:xs.length<64) (bK:full xs=true) (cE:∀(t:Addr) (H':Hp),H t=none->ai H H'->H' t=some (.tup ((inv xs).map V.int))->Q (.ref t) H'):PL vs H Q
def Ah:Sp:=λvs H Q _=>PL vs H Q
section
theorem Vz:aN ["turn"] ["turn"] (aH CA):=.aU
theorem VA(F:aJ K "turned_back" "turned_back" CA f fd)(bl:Bl mg):aG P w K mg base aM 1 f fd ["turn"] Ah:=by
 refine F.ok Vz (λvs H Q E h=>?_) (λaB A outer s H1 vs Q E hr h=>?_)
 ·obtain⟨a,xs,rfl,_⟩:=h;rfl
 obtain⟨a,xs,rfl,hA,lx,fx,q⟩:=h;refine⟨_,(au (aF (d_ (tK) rfl bl.mH mD (aa (iM (x:="section") (fr:=[("turn",0)]) (cl:=[("turn",s.heap.objs.size+1)]) rfl (.fW ⟨rfl,trivial⟩ ⟨⟨rfl,.inl rfl,.inl rfl,rfl⟩,trivial⟩) (nS rfl bl.jb (aa (cU K bl (pv 0)) ag)) (λ_ _ _ _=>lq) (λ_ _ _ _=>(Kj (pv 1) (aa (pv 0) ag)))) ag)))),?_⟩;have el:(xs.map V.int).length=xs.length:=Ya _;refine⟨_,rfl,a,_,rfl,.inr (aA.of hA),_,rfl,by rw[el];omega,by rw[el];omega,λD hD=>v8 (lo:=0) (n:=(((xs.map V.int).length:Nat):Int).toNat)
   (λi zs H2=>ai H1 H2/\H2 D=some (.lst zs)/\zs=((inv xs).take i).map V.int) ⟨cj hD _,aS,rfl⟩ ?_ ?_⟩
 ·rintro i zs H2 hi ⟨g2,h2,e2⟩;rw[Y5,el] at hi;rw[J3];have hx:=zb (MG fx hi);have xS:=g2 _ _ hA;refine kI (cS ⟨_,rfl,a,xs,rfl,xS,_,rfl,(i:Int),jH (i:Int) xs,rfl,xS,hx.1,hx.2,h2,?_,λd o qd=>?_,aS,?_⟩)
  ·rw[e2,Ya,Wf,fC];exact jy (by omega)
  ·rw[aQ (bX qd hD)];exact g2 d o qd
  ·rw[e2,MH hi,Yn];rfl
 ·rintro zs H2 ⟨g2,h2,e2⟩;refine⟨D,_,rfl,.inl ⟨aj.of h2,λt ht=>q t _ (g2.free ht) (g2.trans (cj ht _)) ?_⟩⟩;rw[aS,e2,Y5,el,Wp (by rw[fC];omega)]
end
inductive LH(vs:List V)(H:Hp)(Q:VK):Prop
 |mk (n:Nat) (aC:vs=[.int (n:Int)]) (aT:n<=1000) (bc:∀(t:Addr) (H':Hp),H t=none->ai H H'->H' t=some (.tup ((bh n).map V.int))->Q (.ref t) H'):LH vs H Q
def Fo:Sp:=λvs H Q _=>LH vs H Q
section
variable {c:Addr}
theorem ZaT:aN ["size"] ["size"] (aH Fn):=.aU
theorem ZaU(F:aJ K "still" "still" Fn f fd)(bl:Bl mg):aG P w K mg base aM 1 f fd ["size"] Fo:=by
 refine F.o ZaT λaB A outer s H vs Q E hr h=>?_;obtain⟨n,rfl,hn,q⟩:=h;refine⟨_,(au (aF (d_ (JX rfl) rfl bl.mH mD (aa (d_ yJ rfl bl.jb uf (aa (pv 0) ag)) ag)))),?_⟩;exact⟨_,rfl,_,rfl,λr u6=>⟨r,n,rfl,aS,hn,λt ht=>q t _ ((cj u6 _).free ht) ((cj u6 _).trans (cj ht _)) aS⟩⟩
end
inductive N5(K:PySem.W.Frag)(vs:List V)(H:Hp)(Q:VK):Prop
 |mk (p:Addr) (ns:List Int) (aC:vs=[.ref p]) (aT:aA K H p (ns.map V.int)) (bc:ns.length<64) (bK:full ns=true) (cE:∀H',ai H H'->Q .ay H'):N5 K vs H Q
def Gg(K:PySem.W.Frag):Sp:=λvs H Q _=>N5 K vs H Q
inductive PM(K:PySem.W.Frag)(vs:List V)(H:Hp)(Q:VK):Prop
 |mk (a b:Addr) (xs ys:List Int) (aC:vs=[.ref a,.ref b]) (aT:aA K H a (xs.map V.int)) (bc:aA K H b (ys.map V.int)) (bK:xs.length<64) (cE:full xs=true) (dI:full ys=true) (gw:xs.length=ys.length) (ik:∀(t:Addr) (H':Hp),H t=none->ai H H'->H' t=some (.tup ((bF ys xs).map V.int))->Q (.ref t) H'):PM K vs H Q
def GL(K:PySem.W.Frag):Sp:=λvs H Q _=>PM K vs H Q
inductive PN(vs:List V)(H:Hp)(Q:VK):Prop
 |mk (a:Addr) (xs:List Int) (aC:vs=[.ref a]) (aT:H a=some (.tup (xs.map V.int))) (bc:xs.length<64) (bK:full xs=true) (cE:∀(t:Addr) (H':Hp),H t=none->ai H H'->H' t=some (.tup ((inv xs).map V.int))->Q (.ref t) H'):PN vs H Q
def RE:Sp:=λvs H Q _=>PN vs H Q
inductive MI(K:PySem.W.Frag)(vs:List V)(H:Hp)(Q:VK):Prop
 |mk (l a0:Addr) (as:List Addr) (n:Nat) (aC:vs=[.ref l]) (aT:aj K H l ((a0::as).map V.ref)) (bc:2<=n) (bK:n<=8) (cE:(∀a∈a0::as,∃xs:List Int,aA K H a (xs.map V.int)/\xs.length=n/\full xs=true)) (dI:∀H',ai H H'->Q .ay H'):MI K vs H Q
def FT(K:PySem.W.Frag):Sp:=λvs H Q _=>MI K vs H Q
inductive Kn(K:PySem.W.Frag)(vs:List V)(H:Hp)(Q:VK):Prop
 |mk (m f w:Addr) (xs ys:List Int) (aC:vs=[.ref m,.ref f,.ref w]) (aT:aA K H m (xs.map V.int)) (bc:aA K H f ((bF xs ys).map V.int)) (bK:aA K H w (ys.map V.int)) (cE:full xs=true) (dI:full ys=true) (gw:xs.length=ys.length) (ik:xs.length<=8) (oR:∀H',ai H H'->Q .ay H'):Kn K vs H Q
def LI(K:PySem.W.Frag):Sp:=λvs H Q _=>Kn K vs H Q
theorem qK(xs ys:List Int):(bF xs ys).length=ys.length:=by unfold bF;rw[Ya]
theorem ET{xs ys:List Int}(fx:full xs=true)(fy:full ys=true)(e:xs.length=ys.length):full (bF xs ys)=true:=by
 have p1:(bF xs ys).Perm ((bh ys.length).map λx=>xs.getD x.toNat 0):=(pG fy).map _;have e2:((bh ys.length).map λx=>xs.getD x.toNat 0)=xs:=by
  refine Ws λi=>?_;rw[Yg];by_cases hi:i<ys.length
  ·rw[k_ hi]
   grind
  ·rw[Y6 (by rw[eM];omega),Y6 (by omega)];rfl
 rw[e2] at p1;exact qS (p1.trans (pG fx))
abbrev ZeF(n:Nat)(m f w d:Addr):List (Str×V):=[("size",.int (n:Int)),("mother",.ref m),("father",.ref f),("wife",.ref w),("steps",.ref d)]
abbrev wU(m f w im jf iw st:Addr):List (Key×V):=[(.inr "c",.ref m),(.inr "k",.ref f),(.inr "w",.ref w),(.inr "m",.ref im),(.inr "f",.ref jf),(.inr "h",.ref iw),(.inr "s",.ref st)]
def bQ(H:Hp)(a:Addr)(ns:List Int):Prop:=H a=some (.tup (ns.map V.int))
inductive MJ(H:Hp)(C L:Addr)(xs ys:List Int):Prop
 |mk (dx d m f w im jf iw st:Addr) (aC:H L=some (.ins C dx (ZeF xs.length m f w d))) (aT:H d=some (.dK (wU m f w im jf iw st))) (bc:bQ H m xs) (bK:bQ H f (bF xs ys)) (cE:bQ H w ys) (dI:bQ H im (inv xs)) (gw:bQ H jf (inv (bF xs ys))) (ik:bQ H iw (inv ys)) (oR:bQ H st (bh xs.length)):MJ H C L xs ys
def hX(H:Hp)(C L:Addr)(xs ys:List Int):Prop:=MJ H C L xs ys
theorem hX.same{H H':Hp}{C L:Addr}{xs ys:List Int}(g:ai H H')(h:hX H C L xs ys):hX H' C L xs ys:=by
 obtain⟨dx,d,m,f,w,im,jf,iw,st,h1,h2,h3,h4,h5,h6,h7,h8,h9⟩:=h;exact⟨dx,d,m,f,w,im,jf,iw,st,g _ _ h1,g _ _ h2,g _ _ h3,g _ _ h4,g _ _ h5,g _ _ h6,g _ _ h7,g _ _ h8,g _ _ h9⟩
inductive MK(C:Addr)(vs:List V)(H:Hp)(Q:VK):Prop
 |mk (x dx m f w:Addr) (xs ys:List Int) (aC:vs=[.ref x,.ref m,.ref f,.ref w]) (aT:H x=some (.ins C dx [])) (bc:bQ H m xs) (bK:bQ H f (bF xs ys)) (cE:bQ H w ys) (dI:full xs=true) (gw:full ys=true) (ik:xs.length=ys.length) (oR:2<=xs.length) (u4:xs.length<=8) (GN:∀H',(∀b o,H b=some o->b≠x->H' b=some o)->hX H' C x xs ys->Q .ay H'):MK C vs H Q
def PQ(C:Addr):Sp:=λvs H Q _=>MK C vs H Q
inductive KZ(C:Addr)(vs:List V)(H:Hp)(Q:VK):Prop
 |mk (m w:Addr) (xs ys:List Int) (aC:vs=[.ref m,.ref w]) (aT:bQ H m xs) (bc:bQ H w ys) (bK:full xs=true) (cE:full ys=true) (dI:xs.length=ys.length) (gw:2<=xs.length) (ik:xs.length<=8) (oR:∀(L:Addr) (H':Hp),ai H H'->hX H' C L xs ys->Q (.ref L) H'):KZ C vs H Q
def ML(C:Addr):Sp:=λvs H Q _=>KZ C vs H Q
structure uC(K:PySem.W.Frag)(C:Addr):Prop where
 cls:ig K C
 ra:dD K C "size"
 ZaV:dD K C "mother"
 ZaW:dD K C "father"
 ZdS:dD K C "wife"
 Fp:dD K C "steps"
section
variable {c:Addr}
theorem VS:aN ["row"] ["row"] (aH CT):=.aU
theorem ZdT(F:aJ K "check_turn" "check_turn" CT f fd)(t_:HasFn P w K mg base 1 "is_turn" ["row"] (GK K)):aG P w K mg base aM 2 f fd ["row"] (Gg K):=by
 refine F.o VS λaB A outer s H vs Q E hr h=>?_;obtain⟨p,ns,rfl,hT,iZ,fl,q⟩:=h;refine⟨_,(au (aR (jg (eN (aP t_ hr (aa (pv 0) ag)))) fD aW)),?_⟩;refine⟨_,rfl,p,ns,rfl,.inr hT,iZ,λH1 g=>⟨_,rfl,?_⟩⟩;rw[fl];exact bY (q H1 g)
theorem ZV:aN ["first","then"] ["first","then"] (aH EN):=.aU
theorem ZeG(F:aJ K "behind" "behind" EN f fd)(qH:HasFn P w K mg base 2 "check_turn" ["row"] (Gg K))(pE:HasFn P w K mg base 1 "followed" ["first","then"] (Gf K))(bl:Bl mg):aG P w K mg base aM 3 f fd ["first","then"] (GL K):=by
 refine F.o ZV λaB A outer s H vs Q E hr h=>?_;obtain⟨a,b,xs,ys,rfl,hA,hB,lx,fx,fy,eq,q⟩:=h;refine⟨_,(ak (cy (aP qH hr (aa (pv 0) ag))) (ak (cy (aP qH hr (aa (pv 1) ag))) (ak (aR (bA lH (cU K bl (pv 0)) (cU K bl (pv 1))) fD aW) (au (aF (aP pE hr (aa (pv 0) (aa (pv 1) ag)))))))),?_⟩;refine⟨_,rfl,a,xs,rfl,hA,lx,fx,λH1 g1=>?_⟩;refine⟨_,rfl,b,ys,rfl,g1.i4 hB,by omega,fy,λH2 g2=>?_⟩;have g:=g1.trans g2;have SU:=g.i4 hA;have SV:=g.i4 hB;have el:∀zs:List Int,(zs.map V.int).length=zs.length:=λzs=>Ya _;refine⟨_,rfl,a,_,rfl,.inr SU,_,rfl,b,_,rfl,.inr SV,rfl,_,rfl,uz (by rw[el,el,eq]) (aV ?_)⟩;exact⟨_,rfl,_,rfl,a,b,xs,ys,rfl,SU,SV,λz hz=>by rw[←eq];exact pO fx hz,lx,λt H3 nt g3 ht=>q t H3 (g.free nt) (g.trans g3) ht⟩
theorem Zcc:aN ["turn"] ["turn"] (aH FR):=.aU
theorem ZeH(F:aJ K "back" "back" FR f fd)(qH:HasFn P w K mg base 2 "check_turn" ["row"] (Gg K))(nO:HasFn P w K mg base 1 "turned_back" ["turn"] Ah)(bl:Bl mg):aG P w K mg base aM 3 f fd ["turn"] RE:=by
 refine F.o Zcc λaB A outer s H vs Q E hr h=>?_;obtain⟨a,xs,rfl,hA,lx,fx,q⟩:=h;refine⟨_,(ak (cy (aP qH hr (aa (pv 0) ag))) (au (aF (aP nO hr (aa (pv 0) ag))))),?_⟩;refine⟨_,rfl,a,xs,rfl,aA.of hA,lx,fx,λH1 g1=>?_⟩;exact⟨_,rfl,a,xs,rfl,g1 _ _ hA,lx,fx,λt H2 nt g2 ht=>q t H2 (g1.free nt) (g1.trans g2) ht⟩
theorem CK:aN ["rows","size","row"] ["rows"] (aH CU):=.aU
theorem Zcd(F:aJ K "check_rows" "check_rows" CU f fd)(t_:HasFn P w K mg base 1 "is_turn" ["row"] (GK K)){t1 t2:Tok}(C2:mg "LEAST_SIZE"=some (.int 2 t1))(Du:mg "MOST_SIZE"=some (.int 8 t2))(bl:Bl mg):aG P w K mg base aM 2 f fd ["rows"] (FT K):=by
 refine F.o CK λaB A outer s H vs Q E hr h=>?_;obtain⟨l,a0,as,n,rfl,hL,n2,n8,rows,q⟩:=h;refine⟨_,(ak (bP 1 CK.nd (cU K bl (a_ (iL K) (pv 0) aL))) (ak (aR (PW.pt (pw_or (bA mQ (pv 1) (dq (v:=.int (2)) rfl C2 ⟨_,rfl⟩)) (pw_or1 (bA wY (pv 1) (dq (v:=.int (8)) rfl Du ⟨_,rfl⟩))))) fD aW) (au (fH PassesOwn.never rfl (eY (K:=K) rfl (pv 0)) (bj 2 CK.nd) (au (aR (PW.pt (pw_or (bA lH (cU K bl (pv 2)) (pv 1)) (pw_or1 (jg (eN (aP t_ hr (aa (pv 2) ag))))))) fD aW)))))),?_⟩;have el:∀zs:List Int,(zs.map V.int).length=zs.length:=λzs=>Ya _;obtain⟨x0,h0,l0,f0⟩:=rows a0 Yf;refine⟨_,rfl,l,_,0,.ref a0,rfl,rfl,hL,fF (j:=0) rfl,a0,_,rfl,.inr h0,?_⟩;rw[el,l0];refine⟨_,rfl,_,_,rfl,rfl,_,rfl,bB (λcc=>absurd (of_decide_eq_true cc) (by omega)) (λ_=>?_)⟩;refine⟨_,rfl,_,_,rfl,rfl,_,rfl,bB (λcc=>absurd (of_decide_eq_true cc) (by omega)) (λ_=>aV ?_)⟩;refine⟨_,rfl,l,rfl,⟨_,hL⟩,jA (xs:=(a0::as).map V.ref) (λi σ H1=>ai H H1/\∃o2:Option V,σ=[some (.ref l),some (.int (n:Int)),o2]) ⟨ai.refl _,none,rfl⟩ (λi σ H1 _ ⟨g,_⟩=>g.seq hL) ?_ ?_⟩
 ·rintro i v σ H1 hi ⟨g,o2,rfl⟩;rw[Yg] at hi;obtain⟨a,ha,rfl⟩:∃a,a∈a0::as/\V.ref a=v:=by
   cases e:(a0::as)[i]? with
   |none=>rw[e] at hi;cases hi
   |some a=>grind
  obtain⟨xs,hx,lx,fx⟩:=rows a ha;refine⟨_,rfl,a,_,rfl,.inr (g.i4 hx),_,rfl,rfl,_,rfl,uz (by rw[el,lx]) ?_⟩;refine⟨_,rfl,a,xs,rfl,.inr (g.i4 hx),by omega,λH2 g2=>⟨_,rfl,?_⟩⟩;rw[fx];exact bY (aV ⟨g.trans g2,_,rfl⟩)
 ·rintro σ H1 ⟨g,o2,rfl⟩;exact q H1 g
theorem BY:aN ["mother","father","wife","by_mothers","section"] ["mother","father","wife"] (aH B3):=.aU
theorem YK(F:aJ K "check_parents" "check_parents" B3 f fd)(uh:HasFn P w K mg base 3 "behind" ["first","then"] (GL K))(bl:Bl mg):aG P w K mg base aM 4 f fd ["mother","father","wife"] (LI K):=by
 refine F.o BY λaB A outer s H vs Q E hr h=>?_;obtain⟨m,fa,wi,xs,ys,rfl,hM,hF,hW,fx,fy,eq,l8,q⟩:=h;refine⟨_,(ak (bP 3 BY.nd (aP uh hr (aa (pv 2) (aa (pv 0) ag)))) (au (fH PassesOwn.never rfl (nS rfl bl.jb (aa (cU K bl (pv 1)) ag)) (bj 4 BY.nd) (au (aR (bA lH (a_ (iT K) (pv 3) (pv 4)) (a_ (iT K) (pv 1) (pv 4))) fD aW))))),?_⟩;have el:∀zs:List Int,(zs.map V.int).length=zs.length:=λzs=>Ya _;refine⟨_,rfl,_,rfl,wi,m,ys,xs,rfl,hW,hM,by omega,fy,fx,eq.symm,λt H1 nt g ht=>?_⟩;have al:=qK xs ys;refine⟨_,rfl,fa,_,rfl,.inr (g.i4 hF),_,rfl,by rw[el];omega,by rw[el];omega,yW (lo:=0) (n:=((((bF xs ys).map V.int).length:Nat):Int).toNat)
  (λi σ H2=>H2=H1/\∃o4:Option V,σ=[some (.ref m),some (.ref fa),some (.ref wi),some (.ref t),o4]) ⟨rfl,none,rfl⟩ ?_ ?_⟩
 ·rintro i σ H2 hi ⟨rfl,o4,rfl⟩;rw[Y5,el] at hi;have at_:dt ((bF xs ys).map V.int) (0+(i:Int))=some (.int ((bF xs ys).getD (0+(i:Int)).toNat 0)):=mN (by omega) (by omega);refine⟨_,rfl,_,rfl,t,_,_,_,rfl,rfl,aA.of ht,at_,_,rfl,_,rfl,fa,_,_,_,rfl,rfl,g.i4 hF,at_,rfl,_,rfl,uz rfl (aV ⟨rfl,_,rfl⟩)⟩
 ·rintro σ H2 ⟨rfl,o4,rfl⟩;exact q _ g
end
theorem u7{f:Str}{y:V}{fs:List (Str×V)}{n:Nat}(h:fs.length<=n):(cN f y fs).length<=n+1:=Y4 (C7 f y fs) (Nat.succ_le_succ h)
theorem fs4(a b c d:V):cN "wife" d (cN "father" c (cN "mother" b (cN "size" a [])))=([("size",a),("mother",b),("father",c),("wife",d)]:List (Str×V)):=rfl
theorem fs5(a b c d e:V):cN "steps" e [("size",a),("mother",b),("father",c),("wife",d)]=([("size",a),("mother",b),("father",c),("wife",d),("steps",e)]:List (Str×V)):=rfl
theorem ds7(a b c d e f g:V):oj [] [(.inr "c",a),(.inr "k",b),(.inr "w",c),(.inr "m",d),(.inr "f",e),(.inr "h",f),(.inr "s",g)]=[(.inr "c",a),(.inr "k",b),(.inr "w",c),(.inr "m",d),(.inr "f",e),(.inr "h",f),(.inr "s",g)]:=rfl
section
variable {c:Addr}
theorem WG:aN ["self","mother","father","wife"] ["self","mother","father","wife"] (aH Dk):=.aU
theorem Zce(F:aJ K "__init__" "Land.__init__" Dk f fd)(lc:uC K C)(tO:HasFn P w K mg base 2 "check_rows" ["rows"] (FT K))(B_:HasFn P w K mg base 4 "check_parents" ["mother","father","wife"] (LI K))
  (wV:HasFn P w K mg base 3 "back" ["turn"] RE)(uk:HasFn P w K mg base 1 "still" ["size"] Fo)(bl:Bl mg):aG P w K mg base aM 5 f fd ["self","mother","father","wife"] (PQ C):=by
 refine F.o WG λaB A outer s H vs Q E hr h=>?_;obtain⟨x,dx,m,fa,wi,xs,ys,rfl,hx,hM,hF,hW,fx,fy,eq,l2,l8,q⟩:=h;refine⟨_,(ak (cy (aP tO hr (aa (wK (aa (pv 1) (aa (pv 2) (aa (pv 3) ag)))) ag))) (ak (cy (aP B_ hr (aa (pv 1) (aa (pv 2) (aa (pv 3) ag))))) (ak (wJ (pv 0) (cU K bl (pv 1)) rfl) (ak (wJ (pv 0) (pv 1) rfl) (ak (wJ (pv 0) (pv 2) rfl) (ak (wJ (pv 0) (pv 3) rfl) (au (wJ (pv 0) (zw (jB bq (pv 1) (jB bq (pv 2) (jB bq (pv 3) (jB bq (aP wV hr (aa (pv 1) ag)) (jB bq (aP wV hr (aa (pv 2) ag)) (jB bq (aP wV hr (aa (pv 3) ag)) (jB bq (aP uk hr (aa (cU K bl (pv 1)) ag)) zu))))))) rfl rfl (λz=>nomatch z) (Jl rfl)) rfl)))))))),?_⟩;have el:∀zs:List Int,(zs.map V.int).length=zs.length:=λzs=>Ya _;have SW:=ET fx fy eq;have al:=qK xs ys;refine⟨_,rfl,_,rfl,_,rfl,by show 3<=sizeLine;decide,λl nl=>?_⟩;have g1:=cj nl (.lst [.ref m,.ref fa,.ref wi]);refine⟨l,m,[fa,wi],xs.length,rfl,aj.of aS,l2,l8,λa ha=>?_,λH2 g2=>?_⟩
 ·rcases Yp.mp ha with rfl|ha;·exact⟨xs,aA.of (g1 _ _ hM),rfl,fx⟩
  ·rcases Yp.mp ha with rfl|ha;·exact⟨bF xs ys,aA.of (g1 _ _ hF),by rw[al,eq],SW⟩
   ·rw[Ym] at ha;subst ha;exact⟨ys,aA.of (g1 _ _ hW),eq.symm,fy⟩
 have AR:=g1.trans g2;refine⟨_,rfl,_,rfl,_,rfl,m,fa,wi,xs,ys,rfl,aA.of (AR _ _ hM),aA.of (AR _ _ hF),aA.of (AR _ _ hW),fx,fy,eq,l8,λH3 g3=>?_⟩;have g:=AR.trans g3;have AS:=g _ _ hx;have AU:=g _ _ hM;have Ih:=g _ _ hF;have Ii:=g _ _ hW;have nm:m≠x:=λe=>by rw[e,AS] at AU;cases AU
 have nf:fa≠x:=λe=>by rw[e,AS] at Ih;cases Ih
 have nw:wi≠x:=λe=>by rw[e,AS] at Ii;cases Ii
 refine⟨_,rfl,m,_,rfl,.inr (aA.of AU),_,rfl,x,C,dx,_,rfl,AS,lc.cls,lc.ra,by decide,?_⟩;refine⟨_,rfl,_,rfl,x,C,dx,_,rfl,aS,lc.cls,lc.ZaV,W9 (u7 (Yd 0)) (by decide),?_⟩;refine⟨_,rfl,_,rfl,x,C,dx,_,rfl,aS,lc.cls,lc.ZaW,W9 (u7 (u7 (Yd 0))) (by decide),?_⟩;refine⟨_,rfl,_,rfl,x,C,dx,_,rfl,aS,lc.cls,lc.ZdS,W9 (u7 (u7 (u7 (Yd 0)))) (by decide),?_⟩;rw[Fb,Fb,Fb,el,fs4];have Ij:upd H3 x (.ins C dx [("size",.int (xs.length:Int)),("mother",.ref m),("father",.ref fa),("wife",.ref wi)]) x=some (.ins C dx [("size",.int (xs.length:Int)),("mother",.ref m),("father",.ref fa),("wife",.ref wi)]):=aS;have o4:∀b o,H3 b=some o->b≠x->upd H3 x (.ins C dx [("size",.int (xs.length:Int)),("mother",.ref m),("father",.ref fa),("wife",.ref wi)]) b=some o:=λb o e n=>by rw[aQ n];exact e
 generalize upd H3 x (.ins C dx [("size",.int (xs.length:Int)),("mother",.ref m),("father",.ref fa),("wife",.ref wi)])=H4 at Ij o4⊢;have Ik:=o4 _ _ AU nm;have SX:=o4 _ _ Ih nf;have SY:=o4 _ _ Ii nw;intro d nd;have g5:=cj nd (.dK []);have Il:upd H4 d (.dK []) d=some (.dK []):=aS;generalize upd H4 d (.dK [])=H5 at g5 Il⊢;refine⟨_,rfl,_,rfl,_,rfl,?_⟩;refine⟨_,rfl,m,xs,rfl,g5 _ _ Ik,by omega,fx,λim H6 nim g6 Im=>?_⟩;refine⟨_,rfl,fa,bF xs ys,rfl,g6 _ _ (g5 _ _ SX),by omega,SW,λjf H7 njf g7 Io=>?_⟩;refine⟨_,rfl,wi,ys,rfl,g7 _ _ (g6 _ _ (g5 _ _ SY)),by omega,fy,λiw H8 niw g8 hiw=>?_⟩;have S0:=(g6.trans g7).trans g8;refine⟨_,rfl,m,_,rfl,.inr (aA.of (S0 _ _ (g5 _ _ Ik))),xs.length,by rw[el];rfl,by omega,λst H9 AV g9 eB=>?_⟩;have sH:=S0.trans g9;refine⟨sH _ _ Il,wU m fa wi im jf iw st,rfl,by show 7<=15;decide,?_⟩;have i6:d≠x:=bX Ij nd |>.symm;have S1:=sH _ _ (g5 _ _ Ij);refine⟨_,rfl,x,C,dx,_,rfl,by rw[aQ i6.symm];exact S1,lc.cls,lc.Fp,by show 4<1000;decide,?_⟩;rw[fs5,ds7];have key:∀{b:Addr} {o:HO},H9 b=some o->b≠d->b≠x->upd (upd H9 d (.dK (wU m fa wi im jf iw st))) x (.ins C dx [("size",.int (xs.length:Int)),("mother",.ref m),("father",.ref fa),("wife",.ref wi),("steps",.ref d)]) b=some o:=λ{b o} e n1 n2=>by
  rw[aQ n2,aQ n1];exact e
 have rQ:∀{b:Addr} {zs:List Int},H9 b=some (.tup (zs.map V.int))->bQ (upd (upd H9 d (.dK (wU m fa wi im jf iw st))) x (.ins C dx [("size",.int (xs.length:Int)),("mother",.ref m),("father",.ref fa),("wife",.ref wi),("steps",.ref d)])) b zs:=λ{b zs} e=>
  key e (λz=>by rw[z,sH _ _ Il] at e;cases e) (λz=>by rw[z,S1] at e;cases e)
 refine q _ (λb o e n=>?_) ⟨dx,d,m,fa,wi,im,jf,iw,st,aS,by rw[aQ i6];exact aS,rQ (sH _ _ (g5 _ _ Ik)),rQ (sH _ _ (g5 _ _ SX)),rQ (sH _ _ (g5 _ _ SY)),rQ (g9 _ _ (g8 _ _ (g7 _ _ Im))),rQ (g9 _ _ (g8 _ _ Io)),rQ (g9 _ _ hiw),rQ eB⟩;have e4:=o4 _ _ (g _ _ e) n;refine key (sH _ _ (g5 _ _ e4)) (bX e4 nd) n
theorem YL:aN ["mother","wife"] ["mother","wife"] (aH Ek):=.aU
theorem YM(F:aJ K "land_of" "land_of" Ek f fd)(tO:HasFn P w K mg base 2 "check_rows" ["rows"] (FT K))(uh:HasFn P w K mg base 3 "behind" ["first","then"] (GL K))
  (FU:uA P w K mg base 5 "Land" C ["self","mother","father","wife"] (PQ C)):aG P w K mg base aM 7 f fd ["mother","wife"] (ML C):=by
 refine F.o YL λaB A outer s H vs Q E hr h=>?_;obtain⟨m,wi,xs,ys,rfl,hM,hW,fx,fy,eq,l2,l8,q⟩:=h;refine⟨_,(ak (cy (aP tO hr (aa (wK (aa (pv 0) (aa (pv 1) ag))) ag))) (au (aF (F9 FU hr (by omega) rfl (aa (pv 0) (aa (aP uh hr (aa (pv 1) (aa (pv 0) ag))) (aa (pv 1) ag))))))),?_⟩;refine⟨_,rfl,_,rfl,by show 2<=sizeLine;decide,λl nl=>?_⟩;have g1:=cj nl (.lst [.ref m,.ref wi]);refine⟨l,m,[wi],xs.length,rfl,aj.of aS,l2,l8,λa ha=>?_,λH2 g2=>?_⟩
 ·rcases Yp.mp ha with rfl|ha;·exact⟨xs,aA.of (g1 _ _ hM),rfl,fx⟩
  ·rw[Ym] at ha;subst ha;exact⟨ys,aA.of (g1 _ _ hW),eq.symm,fy⟩
 have g:=g1.trans g2;refine⟨_,rfl,_,rfl,_,rfl,wi,m,ys,xs,rfl,aA.of (g _ _ hW),aA.of (g _ _ hM),by omega,fy,fx,eq.symm,λfa H3 S2 g3 cP=>?_⟩;have c7:=g.trans g3;refine⟨_,rfl,λx dx nx xT ne=>?_⟩;have xU:upd H3 dx (.own x) x=none:=by rw[aQ (λz=>ne z.symm)];exact nx
 have g4:ai H3 (upd (upd H3 dx (.own x)) x (.ins C dx [])):=(cj xT _).trans (cj xU _);refine⟨x,dx,m,fa,wi,xs,ys,rfl,aS,g4 _ _ (c7 _ _ hM),g4 _ _ cP,g4 _ _ (c7 _ _ hW),fx,fy,eq,l2,l8,λH5 k5 la=>⟨rfl,q x H5 (λb o e=>?_) la⟩⟩;have e3:=c7 _ _ e;exact k5 b o (g4 _ _ e3) (bX e3 nx)
end
abbrev zN(xs ys:List Int):List (Str×List Int):=[("c",xs),("k",bF xs ys),("w",ys),("m",inv xs),("f",inv (bF xs ys)),("h",inv ys),("s",bh xs.length)]
inductive MM(C:Addr)(vs:List V)(H:Hp)(Q:VK):Prop
 |mk (L:Addr) (z:Str) (xs ys ns:List Int) (aC:vs=[.ref L,.str z]) (aT:hX H C L xs ys) (bc:(z,ns)∈zN xs ys) (bK:∀t:Addr,bQ H t ns->Q (.ref t) H):MM C vs H Q
def PR(C:Addr):Sp:=λvs H Q _=>MM C vs H Q
theorem step_at{H:Hp}{xs ys ns:List Int}{z:Str}{m f w im jf iw st:Addr}(h:(z,ns)∈zN xs ys)(h3:bQ H m xs)(h4:bQ H f (bF xs ys))(h5:bQ H w ys)(h6:bQ H im (inv xs))(h7:bQ H jf (inv (bF xs ys)))(h8:bQ H iw (inv ys))(h9:bQ H st (bh xs.length)):
  ∃t,aO (wU m f w im jf iw st) (.inr z)=some (.ref t)/\bQ H t ns:=by
 simp only[Yp,Y3,or_false] at h;rcases h with⟨rfl,rfl⟩|⟨rfl,rfl⟩|⟨rfl,rfl⟩|⟨rfl,rfl⟩|⟨rfl,rfl⟩|⟨rfl,rfl⟩|⟨rfl,rfl⟩;·exact⟨m,rfl,h3⟩
 ·exact⟨f,rfl,h4⟩
 ·exact⟨w,rfl,h5⟩
 ·exact⟨im,rfl,h6⟩
 ·exact⟨jf,rfl,h7⟩
 ·exact⟨iw,rfl,h8⟩
 ·exact⟨st,rfl,h9⟩
section
theorem WH:aN ["self","letter"] ["self","letter"] (aH Dn):=.aU
theorem Zcf(F:aJ K "step" "Land.step" Dn f fd)(lc:uC K C):aG P w K mg base aM 1 f fd ["self","letter"] (PR C):=by
 refine F.o WH λaB A outer s H vs Q E hr h=>?_;obtain⟨L,z,xs,ys,ns,rfl,la,hz,q⟩:=h;refine⟨_,(ak (aR (je (kZ (bu hr) (pv 1) (pF K 0)) (by with_unfolding_all rfl)) fD aW) (au (aF (c_ (bu hr) (pF K 0) (pv 1) (λ_ _=>rfl))))),?_⟩;obtain⟨dx,d,m,fa,wi,im,jf,iw,st,h1,h2,h3,h4,h5,h6,h7,h8,h9⟩:=la;obtain⟨t,hv,ht⟩:=step_at hz h3 h4 h5 h6 h7 h8 h9;have dg:=hv▸dX.k h2;exact⟨_,rfl,_,rfl,L,C,dx,_,.ref d,rfl,h1,lc.cls,lc.Fp,rfl,d,_,rfl,dg,_,rfl,bY (aV ⟨_,rfl,L,C,dx,_,.ref d,rfl,h1,lc.cls,lc.Fp,rfl,_,rfl,d,_,rfl,dg,q t ht⟩)⟩
end
structure JS where
 hd:List Nat
 ld:List (List Int)
 mem:List (Nat×List Nat)
 fr:List (Nat×List Int)
structure JL where
 J:Addr
 ha:Addr
 la:Addr
 md:Addr
 fd:Addr
 eF:List Addr
 fK:List Addr
 bV:List Addr
def JL.fp(l:JL):List Addr:=l.J::l.ha::l.la::l.md::l.fd::l.fK
abbrev JF(n:Nat)(ha la md fd:Addr):List (Str×V):=[("size",.int (n:Int)),("heads",.ref ha),("leads",.ref la),("members",.ref md),("free",.ref fd)]
theorem jf5(a b c d e:V):cN "free" e (cN "members" d (cN "leads" c (cN "heads" b (cN "size" a []))))=([("size",a),("heads",b),("leads",c),("members",d),("free",e)]:List (Str×V)):=rfl
abbrev dG(is:List Nat):List V:=is.map λi:Nat=>V.int (i:Int)
def aX(ks:List Nat)(as:List Addr):List (Key×V):=(ks.zip as).map λp=>(.inl (p.1:Int),.ref p.2)
structure cB(H:Hp)(C:Addr)(n:Nat)(l:JL)(st:JS):Prop where
 obj:∃dx,H l.J=some (.ins C dx (JF n l.ha l.la l.md l.fd))
 heads:H l.ha=some (.lst (dG st.hd))
 h_:H l.la=some (.lst (l.eF.map V.ref))
 lead:Paired (λa xs=>H a=some (.tup (xs.map V.int))) l.eF st.ld
 jk:H l.md=some (.dK (aX (st.mem.map (·.1)) l.fK))
 mem:Paired (λa p=>H a=some (.lst (dG p.2))) l.fK st.mem
 frees:H l.fd=some (.dK (aX (st.fr.map (·.1)) l.bV))
 free:Paired (λa p=>H a=some (.lst (p.2.map V.int))) l.bV st.fr
 nd:l.fp.Nodup
 out:∀a∈l.bV,a∉l.fp
theorem cB.same{H H':Hp}{C:Addr}{n:Nat}{l:JL}{st:JS}(g:ai H H')(a:cB H C n l st):cB H' C n l st:=
 ⟨let⟨dx,h⟩:=a.obj;⟨dx,g _ _ h⟩,g _ _ a.heads,g _ _ a.h_,L2.Paired.bw a.lead λ_ _ h=>g _ _ h,g _ _ a.jk,L2.Paired.bw a.mem λ_ _ h=>g _ _ h,g _ _ a.frees,L2.Paired.bw a.free λ_ _ h=>g _ _ h,a.nd,a.out⟩
theorem v9{α β:Type}{F:α->β->Prop}:∀{xs:List α} {ys:List β} {x:α},Paired F xs ys->x∈xs->∃y,F x y:=by
 intro xs ys x p;induction p with
 |nil=>grind
 |cons f t ih=>grind
theorem cB.ne{H:Hp}{C p:Addr}{n:Nat}{l:JL}{st:JS}(a:cB H C n l st)(h:H p=none):p∉l.fp:=by
 intro z;unfold JL.fp at z;simp only[Yp] at z;rcases z with rfl|rfl|rfl|rfl|rfl|z
 ·obtain⟨dx,e⟩:=a.obj
  grind
 ·rw[a.heads] at h;cases h
 ·rw[a.h_] at h;cases h
 ·rw[a.jk] at h;cases h
 ·rw[a.frees] at h;cases h
 ·obtain⟨y,e⟩:=v9 a.mem z
  grind
theorem k9{α:Type}{H:Hp}{f:α->HO}:∀{as:List Addr} {ps:List (Nat×α)} {k:Nat} {v:α},Paired (λa p=>H a=some (f p.2)) as ps->ps.lookup k=some v->∃a,a∈as/\aO (aX (ps.map (·.1)) as) (.inl (k:Int))=some (.ref a)/\H a=some (f v):=by
 intro as ps k v pr;induction pr with
 |nil=>grind
 |@cons a p as ps e t ih=>
  intro h;have e0:aX ((p::ps).map (·.1)) (a::as)=(Sum.inl (p.1:Int),V.ref a)::aX (ps.map (·.1)) as:=rfl;rw[Wv] at h;by_cases ek:k=p.1
  ·have eb:(k==p.1)=true:=beq_iff_eq.mpr ek;rw[eb] at h;exact⟨a,Yf,fE (p:=((Sum.inl (p.1:Int):Key),V.ref a)) (by rw[ek]),by rw[←(Yq h)];exact e⟩
  ·have eb:(k==p.1)=false:=beq_eq_false_iff_ne.mpr ek;rw[eb] at h;obtain⟨b,hb,q,w⟩:=ih h;refine⟨b,Yu _ hb,?_,w⟩;rw[e0,eX (p:=((Sum.inl (p.1:Int):Key),V.ref a)) (λz=>ek (by have:=J9 z;omega))];exact q
theorem ZaX{q k:Nat}{ks:List Nat}{v:V}(z:((Sum.inl (q:Int):Key),v).1=.inl (k:Int)):k∈q::ks:=by
 grind
theorem yZ:∀{as:List Addr} {ks:List Nat} {k:Nat},k∉ks->aO (aX ks as) (.inl (k:Int))=none
 |[],ks,k,_=>by unfold aX;rw[List.zip_nil_right];rfl
 |a::as,[],k,_=>rfl
 |a::as,q::ks,k,h=>by
  have e0:aX (q::ks) (a::as)=(Sum.inl (q:Int),V.ref a)::aX ks as:=rfl;rw[e0,eX (p:=((Sum.inl (q:Int):Key),V.ref a)) (λz=>h (ZaX z))];exact yZ λz=>h (Yu _ z)
theorem v_:∀{ks:List Nat} {as:List Addr} (k:Nat) (a:Addr),ks.length=as.length->aX ks as++[(.inl (k:Int),.ref a)]=aX (ks++[k]) (as++[a])
 |[],[],_,_,_=>rfl
 |q::ks,b::as,k,a,h=>by
  have e0:aX (q::ks) (b::as)=(Sum.inl (q:Int),V.ref b)::aX ks as:=rfl;rw[e0,SE,(v_ (ks:=ks) (as:=as) k a (by simpa using h))];rfl
 |[],_::_,_,_,h=>by simp at h
 |_::_,[],_,_,h=>by simp at h
structure kj(K:PySem.W.Frag)(C:Addr):Prop where
 cls:ig K C
 ra:dD K C "size"
 jd:dD K C "heads"
 mI:dD K C "leads"
 ua:dD K C "members"
 pS:dD K C "free"
def JS.more(n:Nat)(st:JS):JS:=⟨st.hd++[st.hd.length],st.ld++[bh n],st.mem++[(st.hd.length,[st.hd.length])],st.fr++[(st.hd.length,bh n)]⟩
inductive MN(C:Addr)(vs:List V)(H:Hp)(Q:VK):Prop
 |mk (x dx:Addr) (n:Nat) (aC:vs=[.ref x,.int (n:Int)]) (aT:H x=some (.ins C dx [])) (bc:∀(l:JL) (H':Hp),l.J=x->l.fK=[]->(∀b∈l.fp,b≠x->H b=none)->aw x H H'->cB H' C n l ⟨[],[],[],[]⟩->Q .ay H'):MN C vs H Q
def N6(C:Addr):Sp:=λvs H Q _=>MN C vs H Q
inductive Ko(C:Addr)(vs:List V)(H:Hp)(Q:VK):Prop
 |mk (l:JL) (st:JS) (n i j a b:Nat) (aC:vs=[.ref l.J,.int (i:Int),.int (j:Int)]) (aT:cB H C n l st) (bc:st.hd[i]?=some a) (bK:st.hd[j]?=some b) (cE:Q (.bl (decide (a=b))) H):Ko C vs H Q
def D3(C:Addr):Sp:=λvs H Q _=>Ko C vs H Q
inductive LJ(C:Addr)(vs:List V)(H:Hp)(Q:VK):Prop
 |mk (l:JL) (st:JS) (n i h:Nat) (t secs:List Int) (aC:vs=[.ref l.J,.int (i:Int)]) (aT:cB H C n l st) (bc:st.hd[i]?=some h) (bK:st.ld[i]?=some t) (cE:st.fr.lookup h=some secs) (dI:(∀z∈secs,0<=z/\z<t.length)) (gw:secs.length<64) (ik:∀(p:Addr) (ns:List Int) (H':Hp),H p=none->ai H H'->ns.Perm (secs.map λz=>t.getD z.toNat 0)->ns.Pairwise (·<=·)->H' p=some (.lst (ns.map V.int))->Q (.ref p) H'):LJ C vs H Q
def wo(C:Addr):Sp:=λvs H Q _=>LJ C vs H Q
inductive PU(C:Addr)(vs:List V)(H:Hp)(Q:VK):Prop
 |mk (l:JL) (st:JS) (n:Nat) (aC:vs=[.ref l.J]) (aT:cB H C n l st) (bc:n<=1000) (bK:st.hd.length<1000) (cE:st.mem.length<=st.hd.length) (dI:st.fr.length<=st.hd.length) (gw:st.ld.length=st.hd.length) (ik:st.hd.length∉st.mem.map (·.1)) (oR:st.hd.length∉st.fr.map (·.1)) (u4:∀(l':JL) (H':Hp),l'.J=l.J->Out l.fp H H'->(∀b∈l'.fp,b∈l.fp\/H b=none)->cB H' C n l' (st.more n)->Q (.int (st.hd.length:Int)) H'):PU C vs H Q
def Gh(C:Addr):Sp:=λvs H Q _=>PU C vs H Q
theorem mJ{is:List Nat}{i h:Nat}(e:is[i]?=some h):dt (dG is) (i:Int)=some (.int (h:Int)):=fF (by rw[Yg,e];rfl)
section
theorem VT:aN ["self","size"] ["self","size"] (aH CV):=.aU
theorem ZaY(F:aJ K "__init__" "Joins.__init__" CV f fd)(jc:kj K C)(bl:Bl mg):aG P w K mg base aM 1 f fd ["self","size"] (N6 C):=by
 refine F.o VT λaB A outer s H vs Q E hr h=>?_;obtain⟨x,dx,n,rfl,hx,q⟩:=h;refine⟨_,(ak (fZ (K:=K) rfl (pv 0) (pv 1)) (ak (fZ (K:=K) rfl (pv 0) (c8 ag)) (ak (fZ (K:=K) rfl (pv 0) (c8 ag)) (ak (fZ (K:=K) rfl (pv 0) nT) (au (fZ (K:=K) rfl (pv 0) nT)))))),?_⟩;refine⟨_,rfl,_,rfl,x,C,dx,[],rfl,hx,jc.cls,jc.ra,by show 0<1000;omega,λH1 b1 h1=>?_⟩;refine⟨by show 0<=sizeLine;exact Yw _,λha H2 n2 g2 e2=>⟨_,rfl,x,C,dx,_,rfl,g2 _ _ h1,jc.cls,jc.jd,by show 1<1000;omega,λH3 b3 h3=>?_⟩⟩;refine⟨by show 0<=sizeLine;exact Yw _,λla H4 n4 g4 e4=>⟨_,rfl,x,C,dx,_,rfl,g4 _ _ h3,jc.cls,jc.mI,by show 2<1000;omega,λH5 b5 h5=>?_⟩⟩;refine λmd H6 n6 g6 e6=>⟨_,rfl,x,C,dx,_,rfl,g6 _ _ h5,jc.cls,jc.ua,by show 3<1000;omega,λH7 b7 h7=>?_⟩;refine λfe H8 n8 g8 e8=>⟨_,rfl,x,C,dx,_,rfl,g8 _ _ h7,jc.cls,jc.pS,by show 4<1000;omega,λH9 b9 h9=>?_⟩;rw[jf5] at h9;have k8:aw x H8 H9:=b9;have k6:aw x H6 H9:=b7.trans ((aw.of g8).trans k8);have k4:aw x H4 H9:=b5.trans ((aw.of g6).trans k6);have k2:aw x H2 H9:=b3.trans ((aw.of g4).trans k4);have k0:aw x H H9:=b1.trans ((aw.of g2).trans k2);have d2:ha≠x:=λz=>by rw[z,h1] at n2;cases n2
 have d4:la≠x:=λz=>by rw[z,h3] at n4;cases n4
 have d6:md≠x:=λz=>by rw[z,h5] at n6;cases n6
 have d8:fe≠x:=λz=>by rw[z,h7] at n8;cases n8
 have i3:=b3 _ _ e2 d2;have i5:=b5 _ _ (g4 _ _ i3) d2;have i7:=b7 _ _ (g6 _ _ i5) d2;have j5:=b5 _ _ e4 d4;have j7:=b7 _ _ (g6 _ _ j5) d4;have l7:=b7 _ _ e6 d6;have a1:ha≠la:=λz=>by rw[←z,i3] at n4;cases n4
 have a2:ha≠md:=λz=>by rw[←z,i5] at n6;cases n6
 have a3:ha≠fe:=λz=>by rw[←z,i7] at n8;cases n8
 have a4:la≠md:=λz=>by rw[←z,j5] at n6;cases n6
 have a5:la≠fe:=λz=>by rw[←z,j7] at n8;cases n8
 have a6:md≠fe:=λz=>by rw[←z,l7] at n8;cases n8
 have AW:∀{b:Addr} {H':Hp},aw x H H'->b≠x->H' b=none->H b=none:=λ{b H'} k d n=>by
  cases e:H b with
  |none=>rfl
  |some o=>rw[k b o e d] at n;cases n
 have t3:aw x H H3:=b1.trans ((aw.of g2).trans b3);have t5:aw x H H5:=t3.trans ((aw.of g4).trans b5);have t7:aw x H H7:=t5.trans ((aw.of g6).trans b7);refine q ⟨x,ha,la,md,fe,[],[],[]⟩ H9 rfl rfl (λb hb nb=>?_) k0 ⟨⟨dx,h9⟩,k2 _ _ e2 d2,k4 _ _ e4 d4,.nil,k6 _ _ e6 d6,.nil,k8 _ _ e8 d8,.nil,?_,λa qo=>by cases qo⟩
 ·simp only[JL.fp,Yp,Y3,or_false] at hb;rcases hb with rfl|rfl|rfl|rfl|rfl;·exact absurd rfl nb
  ·exact AW b1 d2 n2
  ·exact AW t3 d4 n4
  ·exact AW t5 d6 n6
  ·exact AW t7 d8 n8
 ·simp only[JL.fp,Yz,Yp,Y3,or_false,not_or,not_false_eq_true,W1,and_true];exact⟨⟨λz=>d2 z.symm,λz=>d4 z.symm,λz=>d6 z.symm,λz=>d8 z.symm⟩,⟨a1,a2,a3⟩,⟨a4,a5⟩,a6⟩
theorem UZ:aN ["self","one","other"] ["self","one","other"] (aH BV):=.aU
theorem Xw(F:aJ K "together" "Joins.together" BV f fd)(jc:kj K C)(bl:Bl mg):aG P w K mg base aM 1 f fd ["self","one","other"] (D3 C):=by
 refine F.o UZ λaB A outer s H vs Q E hr h=>?_;obtain⟨l,st,n,i,j,a,b,rfl,ja,hi,hj,q⟩:=h;refine⟨_,(au (aF (eC cq (a_ (iL K) (pF K 0) (pv 1)) (a_ (iL K) (pF K 0) (pv 2))))),?_⟩;obtain⟨dx,ho⟩:=ja.obj;have q':Q (.bl (decide (V.int (a:Int)=V.int (b:Int)))) H:=by
  have e:decide (V.int (a:Int)=V.int (b:Int))=decide (a=b):=by
   rw[Wc,decide_eq_true_iff,decide_eq_true_iff];exact⟨λz=>by have:=V.int.inj z;omega,λz=>by rw[z]⟩
  rw[e];exact q
 exact⟨_,rfl,l.J,C,dx,_,_,rfl,ho,jc.cls,jc.jd,rfl,_,rfl,l.ha,_,_,_,rfl,rfl,aj.of ja.heads,mJ hi,_,rfl,l.J,C,dx,_,_,rfl,ho,jc.cls,jc.jd,rfl,_,rfl,l.ha,_,_,_,rfl,rfl,aj.of ja.heads,mJ hj,rfl,q'⟩
end
theorem di{H:Hp}{a b:Addr}{o o':HO}(h:H a=some o)(h':H b=some o')(ne:o≠o'):a≠b:=λz=>by
 grind
theorem ZaZ(is:List Nat)(k:Nat):dG (is++[k])=dG is++[.int (k:Int)]:=Yn
theorem qI{H:Hp}{a b:Addr}{o:HO}(h:H a=some o)(h':H b=none):b≠a:=λz=>by
 grind
theorem iH{α β:Type}{F:α->β->Prop}{x:α}{y:β}(f:F x y){xs:List α}{ys:List β}(h:Paired F xs ys):Paired F (xs++[x]) (ys++[y]):=by
 induction h with
 |nil=>exact .cons f .nil
 |cons r t ih=>exact .cons r ih
theorem ub{α β:Type}{F:α->β->Prop}:∀{xs:List α} {ys:List β},Paired F xs ys->Paired (λa b=>F a b/\a∈xs) xs ys
 |_,_,.nil=>.nil
 |_,_,.cons g t=>.cons ⟨g,Yf⟩ (L2.Paired.bw (ub t) λ_ _ h=>⟨h.1,Yu _ h.2⟩)
theorem pT{H:Hp}{a:Addr}{kvs:List (Key×V)}{k:Nat}{o:Option V}(h:H a=some (.dK kvs))(e:aO kvs (.inl (k:Int))=o):dX H a (.int (k:Int)) o:=.inl ⟨kvs,.inl (k:Int),.inl h,rfl,e.symm⟩
section
theorem JV:aN ["self","one","lead"] ["self","one"] (aH B5):=.aU
theorem YN(F:aJ K "open_at" "Joins.open_at" B5 f fd)(jc:kj K C)(bl:Bl mg):aG P w K mg base aM 2 f fd ["self","one"] (wo C):=by
 refine F.o JV λaB A outer s H vs Q E hr h=>?_;obtain⟨l,st,n,i,h,t,secs,rfl,ja,hi,ht,hf,qm,iZ,q⟩:=h;refine⟨_,(ak (f_ (i:=2) JV.nd rfl (Or.inr rfl) (a_ (iL K) (pF K 0) (pv 1))) (au (aF (iJ (ZaC (K:=K) rfl) rfl bl.EJ Eg (aa (iM (x:="section") (fr:=[("lead",2)]) (cl:=[("lead",s.heap.objs.size+1)]) rfl (.fW ⟨rfl,trivial⟩ ⟨⟨rfl,.inl rfl,.inl rfl,rfl⟩,trivial⟩) (eY (K:=K) rfl (c_ (bu hr) (pF K 0) (a_ (iL K) (pF K 0) (pv 1)) (λ_ _=>rfl))) (λ_ _ _ _=>lq) (λ_ _ _ _=>(a_ (iT K) (pv 1) (pv 0)))) ag))))),?_⟩;obtain⟨dx,ho⟩:=ja.obj;obtain⟨fa,S3,vf,cP⟩:=k9 (f:=λv:List Int=>HO.lst (v.map V.int)) ja.free hf;obtain⟨ta,eta,Ip⟩:∃ta,l.eF[i]?=some ta/\H ta=some (.tup (t.map V.int)):=by
  have hl:=cI ja.lead;have dF:i<l.eF.length:=by rw[hl];exact(Yh.mp ht).1
  obtain⟨y,ey,hy⟩:=fO ja.lead (Yb dF)
  grind
 have Iq:dt (l.eF.map V.ref) (i:Int)=some (.ref ta):=fF (by rw[Yg,eta];rfl);refine bW ?_;refine⟨_,rfl,l.J,C,dx,_,_,rfl,ho,jc.cls,jc.mI,rfl,_,rfl,l.la,_,_,_,rfl,rfl,aj.of ja.h_,Iq,?_⟩;refine⟨_,rfl,l.J,C,dx,_,_,rfl,ho,jc.cls,jc.pS,rfl,_,rfl,l.J,C,dx,_,_,rfl,ho,jc.cls,jc.jd,rfl,_,rfl,l.ha,_,_,_,rfl,rfl,aj.of ja.heads,mJ hi,l.fd,_,rfl,pT ja.frees vf,fa,rfl,⟨_,aj.of cP⟩,λD hD=>X7 (xs:=secs.map V.int) (aj.of cP) (by rw[Ya];omega) hD (λv=>match v with|.int z=>.int (t.getD z.toNat 0)|_=>.ay) (λj v hj H1 g1 Kt k=>?_) λH1 g1 h1=>?_⟩
 ·obtain⟨z,rfl,hz⟩:=mG hj;have bz:=qm z (Yi hz);exact⟨_,rfl,_,rfl,ta,_,_,_,rfl,rfl,aA.of (g1 _ _ Ip),mN bz.1 bz.2,k H1 (ai.refl _)⟩
 ·have hy:H1 D=some (.lst ((secs.map λz=>t.getD z.toNat 0).map V.int)):=by
   rw[h1,Wa,Wa];rfl
  exact⟨D,_,rfl,.inl (aj.of hy),by rw[Ya];exact iZ,λc9 pm so p H2 np g2 h2=>q p c9 H2 (g1.free np) (g1.trans g2) pm so h2⟩
theorem Kb:aN ["self","number"] ["self"] (aH Dp):=.aU
theorem ZdU(F:aJ K "add" "Joins.add" Dp f fd)(jc:kj K C)(uk:HasFn P w K mg base 1 "still" ["size"] Fo)(bl:Bl mg):aG P w K mg base aM 2 f fd ["self"] (Gh C):=by
 refine F.o Kb λaB A outer s H vs Q E hr h=>?_;obtain⟨l,st,n,rfl,ja,hn,lh,lm,lf,ll,nm,nf,q⟩:=h;refine⟨_,(ak (bP 1 Kb.nd (cU K bl (pF K 0))) (ak (cy (lE (K:=K) rfl (ji plainAttrs_list PySem.F.slot_list_append PySem.F.type_list_append mC (pF K 0) (aa (pv 1) ag)))) (ak (cy (lE (K:=K) rfl (ji plainAttrs_list PySem.F.slot_list_append PySem.F.type_list_append mC (pF K 0) (aa (aP uk hr (aa (pF K 0) ag)) ag)))) (ak (mE (bu hr) (pF K 0) (pv 1) (c8 (aa (pv 1) ag))) (ak (mE (bu hr) (pF K 0) (pv 1) (d_ (Vx rfl) rfl bl.q0 qR (aa (d_ CS rfl bl.jb uf (aa (pF K 0) ag)) ag))) (au (aF (pv 1)))))))),?_⟩;have sz:(10000:Nat)<=sizeLine:=by rw[sizeLine_eq];omega
 obtain⟨dx,ho⟩:=ja.obj;have hl:(dG st.hd).length=st.hd.length:=Ya _;have pl1:=cI ja.lead;have Ir:=cI ja.mem;have AX:=cI ja.free;have nd:=ja.nd;simp only[JL.fp,Yz,Yp,not_or] at nd;obtain⟨⟨x1,x2,x3,x4,x5⟩,⟨y1,y2,y3,y4⟩,⟨z1,z2,z3⟩,⟨w1,w2⟩,v1,v2⟩:=nd;have dl:∀{ks:List Nat} {as:List Addr},(aX ks as).length<=as.length:=λ{ks as}=>by unfold aX;rw[Ya,W5];exact Nat.min_le_right _ _
 refine bW ?_;refine⟨_,rfl,l.J,C,dx,_,_,rfl,ho,jc.cls,jc.jd,rfl,l.ha,_,rfl,.inl (aj.of ja.heads),?_⟩;rw[hl];refine⟨_,rfl,l.J,C,dx,_,_,rfl,ho,jc.cls,jc.jd,rfl,.inl ⟨rfl,_,aj.of ja.heads⟩,_,rfl,l.ha,_,_,rfl,rfl,ja.heads,by rw[hl];omega,λH1 b1 e1=>?_⟩;have o1:=b1 _ _ ho x1;have l1:=b1 _ _ ja.h_ (λz=>y1 z.symm);refine⟨_,rfl,l.J,C,dx,_,_,rfl,o1,jc.cls,jc.mI,rfl,.inl ⟨rfl,_,aj.of l1⟩,_,rfl,l.J,C,dx,_,_,rfl,o1,jc.cls,jc.ra,rfl,n,rfl,hn,λt H2 nt g2 ht=>?_⟩;refine⟨l.la,_,_,rfl,rfl,g2 _ _ l1,by rw[Ya];omega,λH3 b3 e3=>?_⟩;have o3:=b3 _ _ (g2 _ _ o1) x2;have m3:=b3 _ _ (g2 _ _ (b1 _ _ ja.jk (λz=>y2 z.symm))) (λz=>z1 z.symm);refine⟨_,rfl,by show 1<=sizeLine;omega,λm H4 u9 g4 em=>?_⟩;have o4:=g4 _ _ o3;refine⟨_,rfl,l.J,C,dx,_,_,rfl,o4,jc.cls,jc.ua,rfl,_,rfl,l.md,_,.inl (st.hd.length:Int),rfl,g4 _ _ m3,rfl,?_,λH5 b5 e5=>?_⟩
 ·have:=dl (ks:=st.mem.map (·.1)) (as:=l.fK);omega
 have o5:=b5 _ _ o4 x3;refine⟨_,rfl,l.J,C,dx,_,_,rfl,o5,jc.cls,jc.ra,rfl,(n:Int),rfl,λr H6 nr g6 er=>⟨r,n,rfl,er,hn,λfa H7 S2 g7 ef=>?_⟩⟩;have AY:=g6.trans g7;have f5:=b5 _ _ (g4 _ _ (b3 _ _ (g2 _ _ (b1 _ _ ja.frees (λz=>y3 z.symm))) (λz=>z2 z.symm))) (λz=>w1 z.symm);refine⟨_,rfl,l.J,C,dx,_,_,rfl,AY _ _ o5,jc.cls,jc.pS,rfl,_,rfl,l.fd,_,.inl (st.hd.length:Int),rfl,AY _ _ f5,rfl,?_,λH8 b8 e8=>?_⟩
 ·have:=dl (ks:=st.fr.map (·.1)) (as:=l.bV);omega
 have keep:∀b o,H b=some o->b≠l.ha->b≠l.la->b≠l.md->b≠l.fd->H8 b=some o:=λb o e n1 n2 n3 n4=>b8 _ _ (AY _ _ (b5 _ _ (g4 _ _ (b3 _ _ (g2 _ _ (b1 _ _ e n1)) n2)) n3)) n4;rw[ke _ (yZ nm),v_ _ _ (by rw[Ya];omega)] at e5;rw[ke _ (yZ nf),v_ _ _ (by rw[Ya];omega)] at e8;have Iu:H m=none:=by
  cases e:H m with
  |none=>rfl
  |some o=>
   have hm1:m≠l.ha:=λz=>by rw[z,b3 _ _ (g2 _ _ e1) y1] at u9;cases u9
   have hm2:m≠l.la:=λz=>by rw[z,e3] at u9;cases u9
   rw[b3 _ _ (g2 _ _ (b1 _ _ e hm1)) hm2] at u9;cases u9
 have en:=ja.ne Iu;have Iv:fa∉l.fp/\fa≠m:=by
  have e6:H6 fa=none:=S2;have h5:∀b o,H b=some o->b≠l.ha->b≠l.la->b≠l.md->H6 b=some o:=λb o e n1 n2 n3=>g6 _ _ (b5 _ _ (g4 _ _ (b3 _ _ (g2 _ _ (b1 _ _ e n1)) n2)) n3);have f1:H6 l.ha=some _:=g6 _ _ (b5 _ _ (g4 _ _ (b3 _ _ (g2 _ _ e1) y1)) y2);have f2:H6 l.la=some _:=g6 _ _ (b5 _ _ (g4 _ _ e3) z1);have f3:H6 l.md=some _:=g6 _ _ e5;have f4:H6 m=some _:=g6 _ _ (b5 _ _ em (λz=>en (by rw[z];simp[JL.fp])));have f5':H6 l.fd=some _:=g6 _ _ f5;have f6:H6 l.J=some _:=g6 _ _ o5;refine⟨λz=>?_,qI f4 e6⟩;simp only[JL.fp,Yp] at z;rcases z with z|z|z|z|z|z;·exact qI f6 e6 z
  ·exact qI f1 e6 z
  ·exact qI f2 e6 z
  ·exact qI f3 e6 z
  ·exact qI f5' e6 z
  ·obtain⟨y,ey⟩:=v9 ja.mem z;refine qI (h5 _ _ ey ?_ ?_ ?_) e6 rfl;·exact λq=>y4 (by rw[←q];exact z)
   ·exact λq=>z3 (by rw[←q];exact z)
   ·exact λq=>w2 (by rw[←q];exact z)
 have kt:∀a∈l.eF,∀xs:List Int,H a=some (.tup (xs.map V.int))->H8 a=some (.tup (xs.map V.int)):=λa _ xs e=>keep a _ e (di e ja.heads (λz=>by cases z)) (di e ja.h_ (λz=>by cases z)) (di e ja.jk (λz=>by cases z)) (di e ja.frees (λz=>by cases z));have k8:∀b o,H5 b=some o->b≠l.fd->H8 b=some o:=λb o e n=>b8 _ _ (AY _ _ e) n;have nmd:m≠l.md:=λz=>en (by rw[z];simp[JL.fp]);have nmf:m≠l.fd:=λz=>en (by rw[z];simp[JL.fp]);have ntf:t≠l.fd:=λz=>by
  have:=b1 _ _ ja.frees (λz=>y3 z.symm);rw[←z,nt] at this;cases this
 have Iw:t≠l.la:=λz=>by rw[←z,nt] at l1;cases l1
 have S4:t≠l.md:=λz=>by
  have:=b1 _ _ ja.jk (λz=>y2 z.symm);rw[←z,nt] at this;cases this
 refine⟨_,rfl,q ⟨l.J,l.ha,l.la,l.md,l.fd,l.eF++[t],l.fK++[m],l.bV++[fa]⟩ H8 rfl (λb o e nb=>?_) (λb hb=>?_) ⟨⟨dx,k8 _ _ o5 x4⟩,?_,?_,?_,?_,?_,?_,?_,?_,?_⟩⟩
 ·simp only[JL.fp,Yp,not_or] at nb;exact keep b o e nb.2.1 nb.2.2.1 nb.2.2.2.1 nb.2.2.2.2.1
 ·simp only[JL.fp,Yp,Yt,Y3,or_false] at hb⊢;rcases hb with h|h|h|h|h|h|h;·exact .inl (.inl h)
  ·exact .inl (.inr (.inl h))
  ·exact .inl (.inr (.inr (.inl h)))
  ·exact .inl (.inr (.inr (.inr (.inl h))))
  ·exact .inl (.inr (.inr (.inr (.inr (.inl h)))))
  ·exact .inl (.inr (.inr (.inr (.inr (.inr h)))))
  ·rw[h];exact .inr Iu
 ·show H8 l.ha=some (.lst (dG (st.hd++[st.hd.length])));rw[k8 _ _ (b5 _ _ (g4 _ _ (b3 _ _ (g2 _ _ e1) y1)) y2) y3,ZaZ]
 ·show H8 l.la=some (.lst ((l.eF++[t]).map V.ref));rw[k8 _ _ (b5 _ _ (g4 _ _ e3) z1) z2,Yn];rfl
 ·exact iH (F:=λa (xs:List Int)=>H8 a=some (.tup (xs.map V.int))) (k8 _ _ (b5 _ _ (g4 _ _ (b3 _ _ ht Iw)) S4) ntf) (L2.Paired.bw (ub ja.lead) λa xs h=>kt a h.2 xs h.1)
 ·show H8 l.md=some (.dK (aX ((st.mem++[(st.hd.length,[st.hd.length])]).map (·.1)) (l.fK++[m])));rw[k8 _ _ e5 w1,Yn];rfl
 ·refine iH (F:=λa (p:Nat×List Nat)=>H8 a=some (.lst (dG p.2))) (k8 _ _ (b5 _ _ em nmd) nmf) (L2.Paired.bw (ub ja.mem) λa p h=>keep a _ h.1 ?_ ?_ ?_ ?_);·exact λz=>y4 (by rw[←z];exact h.2)
  ·exact λz=>z3 (by rw[←z];exact h.2)
  ·exact λz=>w2 (by rw[←z];exact h.2)
  ·exact λz=>v1 (by rw[←z];exact h.2)
 ·show H8 l.fd=some (.dK (aX ((st.fr++[(st.hd.length,bh n)]).map (·.1)) (l.bV++[fa])));rw[e8,Yn];rfl
 ·have nfd:fa≠l.fd:=λz=>Iv.1 (by rw[z];simp[JL.fp]);refine iH (F:=λa (p:Nat×List Int)=>H8 a=some (.lst (p.2.map V.int))) (b8 _ _ ef nfd) (L2.Paired.bw (ub ja.free) λa p h=>?_);have no:=ja.out a h.2;simp only[JL.fp,Yp,not_or] at no;exact keep a _ h.1 no.2.1 no.2.2.1 no.2.2.2.1 no.2.2.2.2.1
 ·have nd:=ja.nd;have e0:JL.fp ⟨l.J,l.ha,l.la,l.md,l.fd,l.eF++[t],l.fK++[m],l.bV++[fa]⟩=l.fp++[m]:=rfl;rw[e0,Wo];refine⟨nd,by simp,λa ha b hb=>?_⟩;have eb:b=m:=by simpa using hb
  intro z;rw[z,eb] at ha;exact en ha
 ·intro a ha;have e0:JL.fp ⟨l.J,l.ha,l.la,l.md,l.fd,l.eF++[t],l.fK++[m],l.bV++[fa]⟩=l.fp++[m]:=rfl;rw[e0,Yt];have qo:a∈l.bV++[fa]:=ha;rcases Yt.mp qo with h|h
  ·rintro(z|z);·exact ja.out a h z
   ·have e:a=m:=by simpa using z
    obtain⟨y,ey⟩:=v9 ja.free h;rw[e,Iu] at ey;cases ey
  ·have e:a=fa:=by simpa using h
   rw[e];rintro(z|z);·exact Iv.1 z
   ·exact Iv.2 (by simpa using z)
end
theorem YO{K:PySem.W.Frag}{a:Addr}{ns:List Int}{tt:TT}{te:TE}{fv:St}{D:Addr}{H:Hp}{Q:VK}(hs:aj K H a (ns.map V.int))(hn:ns.length<=1000)(hD:H D=none)(p:Int->Bool)(g:Int->V)
  (turn:∀z∈ns,∀H1,ai H H1->∀(Kt:VK) (Kf:Hp->Prop),(p z=true->∀H3,ai H1 H3->Kt (g z) H3)->(p z=false->∀H3,ai H1 H3->Kf H3)->tt (some (.int z)::fv) H1 λc H2=>if c=true then te (some (.int z)::fv) H2 Kt else Kf H2)
  (fin:∀H',ai H H'->H' D=some (.lst ((ns.filter p).map g))->Q (.ref D) H'):iP (jq K a) tt te fv D H Q:=by
 refine Ef (λi ys H1=>i<=ns.length/\ai H H1/\H1 D=some (.lst ys)/\ys=((ns.take i).filter p).map g) ⟨Yw _,cj hD _,aS,rfl⟩ (λi ys H1 _ ⟨_,g1,_,_⟩=>g1.seq hs) ?_ ?_
 ·rintro i v ys H1 hi ⟨_,g1,h1,e⟩;obtain⟨z,rfl,hz⟩:=mG hi;have dF:=(Yh.mp hz).1;have yl:ys.length<sizeLine:=by
   have:=Wh p (ns.take i);rw[Wf] at this;rw[e,Ya,sizeLine_eq];omega
  refine turn z (Yi hz) H1 g1 _ _ (λpz H3 g3=>⟨g3 _ _ h1,yl,dF,λb o q=>?_,aS,?_⟩) (λpz H3 g3=>⟨dF,g1.trans g3,g3 _ _ h1,?_⟩)
  ·rw[aQ (bX q hD)];exact g3 _ _ (g1 _ _ q)
  ·rw[e,Y0,hz,Y9,Yn]
   grind
  ·rw[e,Y0,hz,Y9,Yn]
   grind
 ·grind
theorem wz(x:Int):∀ss:List Int,eZ (.int x) (ss.map V.int)=decide (x∈ss)
 |[]=>rfl
 |s::ss=>by
  have ih:=wz x ss;unfold eZ at ih⊢;rw[Wl,Jn,ih];show((s==x)||decide (x∈ss))=_
  grind
theorem zc(ss:List Int):(ss.map V.int).all iO=true:=by
 rw[Ia,Wr];intro p _;rfl
def iV(ks:List Nat)(as:List Addr)(h:Nat)(a':Addr):List Addr:=(ks.zip as).map λp=>if p.1=h then a' else p.2
theorem LK(h:Nat)(a':Addr):∀{ks:List Nat} {as:List Addr},ks.length=as.length->(aX ks as).map (λkv=>if kv.1=(.inl (h:Int):Key) then(kv.1,V.ref a') else kv)=aX ks (iV ks as h a')
 |[],[],_=>rfl
 |k::ks,a::as,e=>by
  have ih:=LK h a' (by simpa using e);have e0:aX (k::ks) (a::as)=(Sum.inl (k:Int),V.ref a)::aX ks as:=rfl;have e1:iV (k::ks) (a::as) h a'=(if k=h then a' else a)::iV ks as h a':=rfl;have e2:aX (k::ks) ((if k=h then a' else a)::iV ks as h a')=(Sum.inl (k:Int),V.ref (if k=h then a' else a))::aX ks (iV ks as h a'):=rfl
  grind
 |[],_::_,e=>rfl
 |_::_,[],e=>rfl
theorem Za0{ks:List Nat}{as:List Addr}{h:Nat}{a a':Addr}(e:ks.length=as.length)(hv:aO (aX ks as) (.inl (h:Int))=some (.ref a)):putK (aX ks as) (.inl (h:Int)) (.ref a')=aX ks (iV ks as h a'):=by
 unfold putK;rw[if_pos (by rw[ug,hv];rfl)];exact LK h a' e
def cT{α:Type}(h:Nat)(v:α)(ps:List (Nat×α)):List (Nat×α):=ps.map λp=>if p.1=h then(p.1,v) else p
theorem nU{α:Type}(h:Nat)(v:α):∀ps:List (Nat×α),(cT h v ps).map (·.1)=ps.map (·.1)
 |[]=>rfl
 |p::ps=>by
  have ih:=nU h v ps;show(if p.1=h then(p.1,v) else p).1::(cT h v ps).map (·.1)=_
  grind
theorem YQ{α:Type}{F G:Addr->Nat×α->Prop}{h:Nat}{a':Addr}{v:α}(new:∀k,G a' (k,v)):∀{as:List Addr} {ps:List (Nat×α)},Paired F as ps->(∀a p,F a p->a∈as->G a p)->Paired G (iV (ps.map (·.1)) as h a') (cT h v ps):=by
 intro as ps pr;induction pr with
 |nil=>intro _;exact .nil
 |@cons a p as ps f t ih=>
  intro k;have e1:iV ((p::ps).map (·.1)) (a::as) h a'=(if p.1=h then a' else a)::iV (ps.map (·.1)) as h a':=rfl;have e2:cT h v (p::ps)=(if p.1=h then(p.1,v) else p)::cT h v ps:=rfl;refine .cons ?_ (ih λb q fb hb=>k b q fb (Yu _ hb))
  grind
theorem MO{h:Nat}{a' b:Addr}:∀{ks:List Nat} {as:List Addr},b∈iV ks as h a'->b=a'\/b∈as
 |[],_,m=>by unfold iV at m;simp at m
 |_::_,[],m=>by unfold iV at m;simp at m
 |k::ks,a::as,m=>by
  have e1:iV (k::ks) (a::as) h a'=(if k=h then a' else a)::iV ks as h a':=rfl;rcases Yp.mp m with z|z;·grind
  ·rcases MO z with w|w;·exact .inl w
   ·grind
def JS.kB(st:JS)(h:Nat)(v:List Int):JS:={st with fr:=cT h v st.fr}
structure rR(st:JS)(i h:Nat)(t secs:List Int):Prop where
 hd:st.hd[i]?=some h
 ld:st.ld[i]?=some t
 fr:st.fr.lookup h=some secs
 e_:∀z∈secs,0<=z/\z<t.length
 eT:secs.length<64
 dist:(secs.map λz=>t.getD z.toNat 0).Nodup
inductive LL(K:PySem.W.Frag)(C:Addr)(vs:List V)(H:Hp)(Q:VK):Prop
 |mk (l:JL) (st:JS) (n i h:Nat) (t secs ss:List Int) (sl:Addr) (aC:vs=[.ref l.J,.int (i:Int),.ref sl]) (aT:cB H C n l st) (bc:rR st i h t secs) (bK:st.fr.length<1000) (cE:aj K H sl (ss.map V.int)) (dI:∀(l':JL) (H':Hp),l'.J=l.J->l'.fp=l.fp->Out l.fp H H'->cB H' C n l' (st.kB h (secs.filter λz=>decide (t.getD z.toNat 0∈ss)))->Q .ay H'):LL K C vs H Q
def EU(K:PySem.W.Frag)(C:Addr):Sp:=λvs H Q _=>LL K C vs H Q
section
theorem Ca:aN ["self","one","sections","lead","head"] ["self","one","sections"] (aH Cn):=.aU
theorem ZW(F:aJ K "narrow" "Joins.narrow" Cn f fd)(jc:kj K C)(bl:Bl mg):aG P w K mg base aM 2 f fd ["self","one","sections"] (EU K C):=by
 refine F.o Ca λaB A outer s H vs Q E hr h=>?_;obtain⟨l,st,n,i,h,t,secs,ss,sl,rfl,ja,one,lf,hss,q⟩:=h;refine⟨_,(ak (f_ (i:=3) Ca.nd rfl (Or.inr rfl) (a_ (iL K) (pF K 0) (pv 1))) (ak (bP 4 Ca.nd (a_ (iL K) (pF K 0) (pv 1))) (au (mE (bu hr) (pF K 0) (pv 4) (iM (x:="section") (fr:=[("sections",2),("lead",3)]) (cl:=[("sections",s.heap.objs.size+1),("lead",s.heap.objs.size+1+1)]) rfl (.fW ⟨rfl,⟨rfl,trivial⟩⟩ ⟨⟨rfl,.inl rfl,.inl rfl,rfl⟩,⟨⟨rfl,.inl rfl,.inl rfl,rfl⟩,trivial⟩⟩) (eY (K:=K) rfl (c_ (bu hr) (pF K 0) (pv 4) (λ_ _=>rfl))) (λ_ _ _ _=>uj (gT (lW (K:=K) rfl) (a_ (iT K) (pv 2) (pv 0)) (pv 1) (by with_unfolding_all rfl))) (λ_ _ _ _=>(pv 0))))))),?_⟩;have sz:(10000:Nat)<=sizeLine:=by rw[sizeLine_eq];omega
 obtain⟨dx,ho⟩:=ja.obj;obtain⟨fa,S3,vf,cP⟩:=k9 (f:=λv:List Int=>HO.lst (v.map V.int)) ja.free one.fr;obtain⟨ta,eta,Ip⟩:∃ta,l.eF[i]?=some ta/\H ta=some (.tup (t.map V.int)):=by
  have hl:=cI ja.lead;have dF:i<l.eF.length:=by rw[hl];exact(Yh.mp one.ld).1
  obtain⟨y,ey,hy⟩:=fO ja.lead (Yb dF);rw[one.ld] at ey;cases ey;exact⟨_,Yb dF,hy⟩
 have Iq:dt (l.eF.map V.ref) (i:Int)=some (.ref ta):=fF (by rw[Yg,eta];rfl);have AX:=cI ja.free;refine bW ?_;refine⟨_,rfl,l.J,C,dx,_,_,rfl,ho,jc.cls,jc.mI,rfl,_,rfl,l.la,_,_,_,rfl,rfl,aj.of ja.h_,Iq,?_⟩;refine bW ?_;refine⟨_,rfl,l.J,C,dx,_,_,rfl,ho,jc.cls,jc.jd,rfl,_,rfl,l.ha,_,_,_,rfl,rfl,aj.of ja.heads,mJ one.hd,?_⟩;refine⟨_,rfl,l.J,C,dx,_,_,rfl,ho,jc.cls,jc.pS,rfl,_,rfl,l.fd,_,rfl,pT ja.frees vf,fa,rfl,⟨_,aj.of cP⟩,λD hD=>YO (ns:=secs) (aj.of cP) (by have:=one.eT;omega) hD (λz=>decide (t.getD z.toNat 0∈ss)) V.int (λz hz H1 g1 Kt Kf kt kf=>?_) λH1 g1 h1=>?_⟩
 ·have bz:=one.e_ z hz;refine⟨_,rfl,_,rfl,ta,_,_,_,rfl,rfl,aA.of (g1 _ _ Ip),mN bz.1 bz.2,_,rfl,sl,_,rfl,.inl (g1.seq hss),rfl,zc ss,_,rfl,?_⟩;rw[if_neg Yj,wz];refine bB (λc=>?_) (λc=>?_);·exact⟨_,rfl,kt c H1 (ai.refl _)⟩
  ·exact kf (by cases e:decide (t.getD z.toNat 0∈ss) with|true=>exact absurd e c|false=>rfl) H1 (ai.refl _)
 ·refine⟨_,rfl,l.J,C,dx,_,_,rfl,g1 _ _ ho,jc.cls,jc.pS,rfl,_,rfl,l.fd,_,.inl (h:Int),rfl,g1 _ _ ja.frees,rfl,?_,λH2 b2 e2=>?_⟩
  ·unfold aX;rw[Ya,W5,Ya];omega
  rw[Za0 (by rw[Ya];exact AX.symm) vf] at e2;have nd:=ja.nd;have AZ:l.fd∈l.fp:=by simp[JL.fp]
  simp only[JL.fp,Yz,Yp,not_or] at nd;obtain⟨⟨x1,x2,x3,x4,x5⟩,⟨y1,y2,y3,y4⟩,⟨z1,z2,z3⟩,⟨w1,w2⟩,v1,v2⟩:=nd;have keep:∀b o,H b=some o->b≠l.fd->H2 b=some o:=λb o e nb=>b2 _ _ (g1 _ _ e) nb;have nD:D∉l.fp:=ja.ne hD;have nDf:D≠l.fd:=λz=>nD (by rw[z];exact AZ);refine q ⟨l.J,l.ha,l.la,l.md,l.fd,l.eF,l.fK,iV (st.fr.map (·.1)) l.bV h D⟩ H2 rfl rfl ((Out.of g1).trans (Out.bar b2 AZ)) ⟨⟨dx,keep _ _ ho x4⟩,keep _ _ ja.heads y3,keep _ _ ja.h_ z2,L2.Paired.bw ja.lead λa xs e=>keep a _ e (di e ja.frees (λz=>by cases z)),keep _ _ ja.jk w1,L2.Paired.bw (ub ja.mem) λa p e=>keep a _ e.1 (λz=>v1 (by rw[←z];exact e.2)),?_,?_,ja.nd,λa ha=>?_⟩
  ·show H2 l.fd=some (.dK (aX ((cT h _ st.fr).map (·.1)) _));rw[nU];exact e2
  ·exact YQ (λk=>b2 _ _ h1 nDf) ja.free λa p e ma=>keep a _ e (λz=>ja.out a ma (by rw[z];exact AZ))
  ·rcases MO ha with rfl|z;·exact nD
   ·exact ja.out a z
end
inductive PV(C:Addr)(vs:List V)(H:Hp)(Q:VK):Prop
 |mk (l:JL) (st:JS) (n i h:Nat) (t secs:List Int) (a:Int) (aC:vs=[.ref l.J,.int (i:Int),.int a]) (aT:cB H C n l st) (bc:rR st i h t secs) (bK:st.fr.length<1000) (cE:(a∈secs.map (λz=>t.getD z.toNat 0)->∀(l':JL) (H':Hp),l'.J=l.J->l'.fp=l.fp->Out l.fp H H'->cB H' C n l' (st.kB h (secs.filter λz=>decide (t.getD z.toNat 0∈[a])))->Q (.bl true) H')) (dI:(a∉secs.map (λz=>t.getD z.toNat 0)->∀H',ai H H'->Q (.bl false) H')):PV C vs H Q
def QQ(C:Addr):Sp:=λvs H Q _=>PV C vs H Q
section
theorem WI:aN ["self","one","section"] ["self","one","section"] (aH Dr):=.aU
theorem ZdV(F:aJ K "say" "Joins.say" Dr f fd)(jx:bT P w K mg base 2 "open_at" C ["self","one"] (wo C))(tJ:bT P w K mg base 2 "narrow" C ["self","one","sections"] (EU K C))(bl:Bl mg):aG P w K mg base aM 3 f fd ["self","one","section"] (QQ C):=by
 refine F.o WI λaB A outer s H vs Q E hr h=>?_;obtain⟨l,st,n,i,h,t,secs,a,rfl,ja,one,lf,q1,q2⟩:=h;refine⟨_,(ak (aR (gT (zK (K:=K) rfl) (pv 2) (cC jx hr (by omega) (pv 0) (aa (pv 1) ag)) (by with_unfolding_all rfl)) (au (aF jh)) aW) (ak (cy (cC tJ hr (by omega) (pv 0) (aa (pv 1) (aa (c8 (aa (pv 2) ag)) ag)))) (au (aF jh)))),?_⟩;obtain⟨dx,ho⟩:=ja.obj;refine⟨_,rfl,_,rfl,l.J,dx,_,rfl,ho,rfl,_,rfl,l,st,n,i,h,t,secs,rfl,ja,one.hd,one.ld,one.fr,one.e_,one.eT,λp ns H1 np g1 pm so hp=>⟨p,_,rfl,.inl (aj.of hp),rfl,zc ns,_,rfl,?_⟩⟩;rw[if_pos rfl,wz];refine bB (λc=>?_) (λc=>aV ?_)
 ·refine q2 (λz=>?_) H1 g1;rw[decide_eq_true (pm.symm.subset z)] at c;cases c
 ·have qm:a∈ns:=by
   by_cases z:a∈ns;·exact z
   ·rw[decide_eq_false z] at c;exact absurd rfl c
  refine⟨_,rfl,l.J,dx,_,rfl,g1 _ _ ho,rfl,_,rfl,_,rfl,by show 1<=sizeLine;rw[sizeLine_eq];omega,λsl H2 n2 g2 e2=>?_⟩;exact⟨l,st,n,i,h,t,secs,[a],sl,rfl,(ja.same g1).same g2,one,lf,aj.of e2,λl' H3 k1 k2 o3 j3=>q1 (pm.subset qm) l' H3 k1 k2 ((Out.of (g1.trans g2)).trans o3) j3⟩
end
def dH(ks:List Nat)(as:List Addr)(h:Nat):List Addr:=((ks.zip as).filter λp=>decide (p.1≠h)).map (·.2)
def cQ{α:Type}(h:Nat)(ps:List (Nat×α)):List (Nat×α):=ps.filter λp=>decide (p.1≠h)
theorem yQ(h:Nat):∀{ks:List Nat} {as:List Addr},ks.length=as.length->gm (aX ks as) (.inl (h:Int))=aX (ks.filter λk=>decide (k≠h)) (dH ks as h)
 |[],[],_=>rfl
 |k::ks,a::as,e=>by
  have ih:=yQ h (by simpa using e);have e0:aX (k::ks) (a::as)=(Sum.inl (k:Int),V.ref a)::aX ks as:=rfl;unfold gm at ih⊢;rw[e0,Wb,Wb];have e1:dH (k::ks) (a::as) h=(if decide (k≠h)=true then(a::dH ks as h) else dH ks as h):=by
   unfold dH;rw[S5,Wb];split<;>rfl
  rw[e1,ih];by_cases z:k=h;·grind
  ·have z':¬((Sum.inl (k:Int):Key)=.inl (h:Int)):=λw=>z (by have:=J9 w;omega);rw[if_pos (by simp[z']),if_pos (by simp[z]),if_pos (by simp[z])];rfl
 |[],_::_,e=>rfl
 |_::_,[],e=>by simp at e
theorem nY{α:Type}(h:Nat):∀ps:List (Nat×α),(cQ h ps).map (·.1)=(ps.map (·.1)).filter λk=>decide (k≠h)
 |[]=>rfl
 |p::ps=>by
  have ih:=nY h ps;unfold cQ at ih⊢
  grind
theorem D4{α:Type}{F G:Addr->Nat×α->Prop}{h:Nat}:∀{as:List Addr} {ps:List (Nat×α)},Paired F as ps->(∀a p,F a p->a∈as->p.1≠h->G a p)->Paired G (dH (ps.map (·.1)) as h) (cQ h ps):=by
 intro as ps pr;induction pr with
 |nil=>intro _;exact .nil
 |@cons a p as ps f t ih=>
  intro k;have e1:dH ((p::ps).map (·.1)) (a::as) h=(if decide (p.1≠h)=true then(a::dH (ps.map (·.1)) as h) else dH (ps.map (·.1)) as h):=by
   unfold dH;rw[Wl,S5,Wb];split<;>rfl
  have e2:cQ h (p::ps)=(if decide (p.1≠h)=true then(p::cQ h ps) else cQ h ps):=by
   unfold cQ
   grind
  rw[e1,e2];by_cases z:p.1=h;·grind
  ·rw[if_pos (by simp[z]),if_pos (by simp[z])];exact .cons (k a p f Yf z) (ih λb q fb hb nq=>k b q fb (Yu _ hb) nq)
theorem zd{h:Nat}:∀{ks:List Nat} {as:List Addr},(dH ks as h).Sublist as
 |[],as=>by
  unfold dH;simp_all
 |_::_,[]=>by
  unfold dH;simp_all
 |k::ks,a::as=>by
  have ih:=zd (h:=h) (ks:=ks) (as:=as);have e1:dH (k::ks) (a::as) h=(if decide (k≠h)=true then(a::dH ks as h) else dH ks as h):=by
   unfold dH;rw[S5,Wb];split<;>rfl
  grind
theorem tY{α:Type}{h k:Nat}(ne:k≠h):∀{ps:List (Nat×α)},(cQ h ps).lookup k=ps.lookup k
 |[]=>rfl
 |p::ps=>by
  have ih:=tY ne (ps:=ps);have e2:cQ h (p::ps)=(if decide (p.1≠h)=true then(p::cQ h ps) else cQ h ps):=by
   unfold cQ
   grind
  grind
theorem K0{α:Type}{F G:Addr->Nat×α->Prop}{h:Nat}{m:Addr}{v:α}(new:∀k,G m (k,v)):∀{as:List Addr} {ps:List (Nat×α)},Paired F as ps->as.Nodup->(ps.map (·.1)).Nodup->aO (aX (ps.map (·.1)) as) (.inl (h:Int))=some (.ref m)->(∀a p,F a p->a∈as->a≠m->G a p)->Paired G as (cT h v ps):=by
 intro as ps pr;induction pr with
 |nil=>intro _ _ e _;cases e
 |@cons a p as ps f t ih=>
  intro n1 n2 e k;have e0:aX ((p::ps).map (·.1)) (a::as)=(Sum.inl (p.1:Int),V.ref a)::aX (ps.map (·.1)) as:=rfl;have e2:cT h v (p::ps)=(if p.1=h then(p.1,v) else p)::cT h v ps:=rfl;rw[Yz] at n1;rw[Wl,Yz] at n2;rw[e2];by_cases z:p.1=h
  ·rw[e0,fE (p:=((Sum.inl (p.1:Int):Key),V.ref a)) (by rw[z])] at e;have ea:a=m:=V.ref.inj (Yq e);have same:cT h v ps=ps:=by
    unfold cT;refine(Wj λq hq=>?_).trans (List.map_id _);rw[if_neg λw=>n2.1 (by rw[z,←w];exact Ye.mpr ⟨q,hq,rfl⟩)];rfl
   rw[if_pos z,same,ea];refine .cons (new p.1) (L2.Paired.bw (ub t) λb q hb=>k b q hb.1 (Yu _ hb.2) λw=>n1.1 (by rw[ea,←w];exact hb.2))
  ·rw[e0,eX (p:=((Sum.inl (p.1:Int):Key),V.ref a)) (λw=>z (by have:=J9 w;omega))] at e;rw[if_neg z];have am:a≠m:=λw=>by
    have:∀{ks:List Nat} {bs:List Addr},aO (aX ks bs) (.inl (h:Int))=some (.ref m)->m∈bs:=λ{ks}=>by
     induction ks with
     |nil=>intro bs q;unfold aX at q;rw[List.zip_nil_left] at q;cases q
     |cons x xs ih=>
      intro bs q;cases bs with
      |nil=>unfold aX at q;rw[List.zip_nil_right] at q;cases q
      |cons b bs=>
       have e0:aX (x::xs) (b::bs)=(Sum.inl (x:Int),V.ref b)::aX xs bs:=rfl;rw[e0] at q;by_cases y:x=h
       ·rw[fE (p:=((Sum.inl (x:Int):Key),V.ref b)) (by rw[y])] at q;have eb:b=m:=V.ref.inj (Yq q);rw[eb];exact Yf
       ·rw[eX (p:=((Sum.inl (x:Int):Key),V.ref b)) (λw=>y (by have:=J9 w;omega))] at q;exact Yu _ (ih q)
    exact n1.1 (by rw[w];exact this e)
   exact .cons (k a p f Yf am) (ih n1.2 n2.2 e λb q fb hb nb=>k b q fb (Yu _ hb) nb)
def oV(aZ:List Int)(ld:List (List Int))(i:Nat):List (List Int):=ld.set i (bF (ld.getD i []) aZ)
theorem iN(xs ys:List Int):(bF xs ys).length=ys.length:=by unfold bF;rw[Ya]
theorem ZdW{xs ys:List Int}{n:Nat}(hx:∀x∈xs,0<=x/\x<n)(hy:∀y∈ys,0<=y/\y<xs.length):∀z∈bF xs ys,0<=z/\z<n:=λz hz=>by
 obtain⟨y,my,rfl⟩:=Ye.mp hz;obtain⟨y0,y1⟩:=hy y my;have hl:y.toNat<xs.length:=by omega
 have e:xs.getD y.toNat 0=xs[y.toNat]:=by rw[Yl,Yb hl];rfl
 simp_all
def jF(hb:Nat)(mv:List Nat)(hd:List Nat):List Nat:=mv.foldl (λacc i=>acc.set i hb) hd
def gn(aZ:List Int)(mv:List Nat)(ld:List (List Int)):List (List Int):=mv.foldl (oV aZ) ld
def JS.mv(st:JS)(hb hm:Nat)(mb mv:List Nat)(aZ:List Int):JS:=⟨jF hb mv st.hd,gn aZ mv st.ld,cT hb (mb++mv) (cQ hm st.mem),cQ hm st.fr⟩
inductive N7(C:Addr)(vs:List V)(H:Hp)(Q:VK):Prop
 |mk (l:JL) (st:JS) (n a b ha hb:Nat) (ta tb tn fm:List Int) (tu:Addr) (ma mb:List Nat) (aC:vs=[.ref l.J,.int (a:Int),.int (b:Int),.ref tu]) (aT:cB H C n l st) (bc:H tu=some (.tup (tn.map V.int))) (bK:n<=8) (cE:tn.length=n) (dI:full tn=true) (gw:st.hd[a]?=some ha) (ik:st.hd[b]?=some hb) (oR:st.ld[a]?=some ta) (u4:st.ld[b]?=some tb) (GN:(∀t∈st.ld,full t=true/\t.length=n)) (RF:st.ld.length=st.hd.length) (Zhl:st.mem.lookup ha=some ma) (Zhm:st.mem.lookup hb=some mb) (Zhn:st.fr.lookup ha=some fm) (Zho:ha≠hb) (Zhp:(∀i∈ma,i<st.hd.length)) (Zhq:ma.length+mb.length<=1000) (Zhr:(st.mem.map (·.1)).Nodup) (Zhs:∀(l':JL) (H':Hp),l'.J=l.J->(∀c∈l'.fp,c∈l.fp)->Out l.fp H H'->cB H' C n l' (st.mv hb ha mb ma (bF (inv ta) (bF tn tb)))->Q .ay H'):N7 C vs H Q
def PX(C:Addr):Sp:=λvs H Q _=>N7 C vs H Q
theorem vR{α β:Type}{g:List α->β->List α}(hg:∀acc i,(g acc i).length=acc.length):∀(is:List β) (xs:List α),(is.foldl g xs).length=xs.length
 |[],_=>rfl
 |i::is,xs=>by
  rw[List.foldl_cons,vR hg is,hg]
theorem K1{α β:Type}{g:List α->β->List α}{is:List β}{j:Nat}{i:β}(h:is[j]?=some i)(xs:List α):(is.take (j+1)).foldl g xs=g ((is.take j).foldl g xs) i:=by
 rw[Y0,h,List.foldl_append];rfl
theorem Zcg(is:List Nat)(i k:Nat):(dG is).set i (.int (k:Int))=dG (is.set i k):=by
 simp_all
theorem K2{α β:Type}{F:α->β->Prop}{x:α}{y:β}(f:F x y):∀{xs:List α} {ys:List β} (i:Nat),Paired F xs ys->Paired F (xs.set i x) (ys.set i y)
 |_,_,_,.nil=>.nil
 |_,_,0,.cons _ t=>.cons f t
 |_,_,i+1,.cons g t=>.cons g (K2 f i t)
theorem pI{xs ys:List Int}(fx:full xs=true)(fy:full ys=true)(e:xs.length=ys.length):full (bF xs ys)=true:=by
 have p1:(bF xs ys).Perm ((bh ys.length).map λx=>xs.getD x.toNat 0):=(pG fy).map _;have e2:((bh ys.length).map λx=>xs.getD x.toNat 0)=xs:=by
  refine Ws λi=>?_;rw[Yg];by_cases hi:i<ys.length
  ·rw[k_ hi]
   grind
  ·rw[Y6 (by rw[eM];omega),Y6 (by omega)];rfl
 rw[e2] at p1;exact qS (p1.trans (pG fx))
inductive Gi(H5:Hp)(l:JL)(hd:List Nat)(ld:List (List Int))(n:Nat)(sg:Option V->St)(σ:St)(H6:Hp):Prop
 |mk (gW:List Addr) (o9:Option V) (k1:H6 l.ha=some (.lst (dG hd))) (k2:H6 l.la=some (.lst (gW.map V.ref))) (k3:Paired (λa (xs:List Int)=>H6 a=some (.tup (xs.map V.int))) gW ld) (k4:∀t∈ld,full t=true/\t.length=n) (kp:∀c o,H5 c=some o->c≠l.ha->c≠l.la->H6 c=some o) (e:σ=sg o9):Gi H5 l hd ld n sg σ H6
def RG(l:JL)(a b hb ha:Int)(tu tm to mo:Addr)(o9:Option V):St:=[some (.ref l.J),some (.int a),some (.int b),some (.ref tu),some (.int hb),some (.int ha),some (.ref tm),some (.ref to),some (.ref mo),o9]
section
theorem qF:aN ["self","mover","stayer","turn","head","old_head","to_mover","to_old_head","moved","number"] ["self","mover","stayer","turn"] (aH CY):=.aU
theorem Zch(F:aJ K "move" "Joins.move" CY f fd)(jc:kj K C)(pE:HasFn P w K mg base 1 "followed" ["first","then"] (Gf K))(nO:HasFn P w K mg base 1 "turned_back" ["turn"] Ah)(bl:Bl mg):aG P w K mg base aM 2 f fd ["self","mover","stayer","turn"] (PX C):=by
 refine F.o qF λaB A outer s H vs Q E hr h=>?_;obtain⟨l,st,n,a,b,ha,hb,ta,tb,tn,fm,tu,ma,mb,rfl,ja,hu,n8,tl,ft,hA,hB,lA,lB,fl,ll,mA,mB,fA,neq,min,lm,ndk,q⟩:=h;refine⟨_,(ak (bP 4 qF.nd (a_ (iL K) (pF K 0) (pv 2))) (ak (bP 5 qF.nd (a_ (iL K) (pF K 0) (pv 1))) (ak (bP 6 qF.nd (aP pE hr (aa (a_ (iL K) (pF K 0) (pv 2)) (aa (pv 3) ag)))) (ak (bP 7 qF.nd (aP pE hr (aa (pv 6) (aa (aP nO hr (aa (a_ (iL K) (pF K 0) (pv 1)) ag)) ag)))) (ak (bP 8 qF.nd (LB (pF K 0) (pv 5) ⟨rfl,rfl,rfl,rfl⟩)) (ak (cy (LB (pF K 0) (pv 5) ⟨rfl,rfl,rfl,rfl⟩)) (ak (fH PassesOwn.never rfl (eY (K:=K) rfl (pv 8)) (bj 9 qF.nd) (ak (NN (pF K 0) (pv 9) Lx (pv 4)) (au (NN (pF K 0) (pv 9) Lx (aP pE hr (aa (pv 7) (aa (a_ (iL K) (pF K 0) (pv 9)) ag))))))) (au (cy (lE (K:=K) rfl (ji plainAttrs_list PySem.F.slot_list_extend PySem.F.type_list_extend X8 (c_ (bu hr) (pF K 0) (pv 4) (λ_ _=>rfl)) (aa (pv 8) ag)))))))))))),?_⟩;have sz:(10000:Nat)<=sizeLine:=by rw[sizeLine_eq];omega
 obtain⟨dx,ho⟩:=ja.obj;have w_:∀{i:Nat} {t:List Int},st.ld[i]?=some t->∃x,l.eF[i]?=some x/\H x=some (.tup (t.map V.int)):=λ{i t} ht=>by
  have hl:=cI ja.lead;have dF:i<l.eF.length:=by rw[hl];exact(Yh.mp ht).1
  obtain⟨y,ey,hy⟩:=fO ja.lead (Yb dF);rw[ht] at ey;cases ey;exact⟨_,Yb dF,hy⟩
 obtain⟨xa,exa,Iy⟩:=w_ lA;obtain⟨xb,exb,Iz⟩:=w_ lB;have ata:dt (l.eF.map V.ref) (a:Int)=some (.ref xa):=fF (by rw[Yg,exa];rfl);have atb:dt (l.eF.map V.ref) (b:Int)=some (.ref xb):=fF (by rw[Yg,exb];rfl);obtain⟨S6,lta⟩:=fl ta (Yi lA);obtain⟨IA,IB⟩:=fl tb (Yi lB);obtain⟨mo,xV,vmo,S7⟩:=k9 (f:=λv:List Nat=>HO.lst (dG v)) ja.mem mA;obtain⟨ms,mms,vms,hms⟩:=k9 (f:=λv:List Nat=>HO.lst (dG v)) ja.mem mB;obtain⟨fo,mfo,vfo,hfo⟩:=k9 (f:=λv:List Int=>HO.lst (v.map V.int)) ja.free fA;have Ir:=cI ja.mem;have AX:=cI ja.free;have nd:=ja.nd;have AZ:∀{x:Addr},x∈l.fK->x∈l.fp:=λ{x} h=>by simp[JL.fp,h]
 simp only[JL.fp,Yz,Yp,not_or] at nd;obtain⟨⟨x1,x2,x3,x4,x5⟩,⟨y1,y2,y3,y4⟩,⟨z1,z2,z3⟩,⟨w1,w2⟩,v1,v2⟩:=nd;refine bW ?_;refine⟨_,rfl,l.J,C,dx,_,_,rfl,ho,jc.cls,jc.jd,rfl,_,rfl,l.ha,_,_,_,rfl,rfl,aj.of ja.heads,mJ hB,?_⟩;refine bW ?_;refine⟨_,rfl,l.J,C,dx,_,_,rfl,ho,jc.cls,jc.jd,rfl,_,rfl,l.ha,_,_,_,rfl,rfl,aj.of ja.heads,mJ hA,?_⟩;refine bW ?_;refine⟨_,rfl,l.J,C,dx,_,_,rfl,ho,jc.cls,jc.mI,rfl,_,rfl,l.la,_,_,_,rfl,rfl,aj.of ja.h_,atb,_,rfl,xb,tu,tb,tn,rfl,aA.of Iz,aA.of hu,λx hx=>by rw[tl,←IB];exact pO IA hx,by omega,λtm H1 S4 g1 htm=>?_⟩;refine bW ?_;refine⟨_,rfl,_,rfl,l.J,C,dx,_,_,rfl,g1 _ _ ho,jc.cls,jc.mI,rfl,_,rfl,l.la,_,_,_,rfl,rfl,aj.of (g1 _ _ ja.h_),ata,xa,ta,rfl,g1 _ _ Iy,by omega,S6,λti H2 nti g2 A0=>?_⟩;refine⟨tm,ti,bF tn tb,inv ta,rfl,aA.of (g2 _ _ htm),aA.of A0,?_,by rw[iN];omega,λto H3 A1 g3 S8=>?_⟩
 ·rw[fC,lta];exact ZdW (n:=n) (λx hx=>by rw[←tl];exact pO ft hx) (λy hy=>by rw[tl,←IB];exact pO IA hy)
 have js:=(g1.trans g2).trans g3;generalize Zft:bF (inv ta) (bF tn tb)=aZ at S8 q;have uM:full aZ=true/\aZ.length=n:=by
  rw[←Zft];refine⟨pI (jC S6) (pI ft IA (by omega)) (by rw[fC,iN];omega),by rw[iN,iN];exact IB⟩
 refine bW ?_;refine⟨_,rfl,l.J,C,dx,_,_,rfl,js _ _ ho,jc.cls,jc.ua,rfl,l.md,rfl,.inl ⟨_,.inl (js _ _ ja.jk)⟩,_,rfl,_,.inl (ha:Int),.ref mo,js _ _ ja.jk,rfl,vmo,λH4 b4 e4=>?_⟩;rw[yQ ha (by rw[Ya];exact Ir.symm)] at e4;have o4:=b4 _ _ (js _ _ ho) x3;have f4:=b4 _ _ (js _ _ ja.frees) (λz=>w1 z.symm);refine⟨_,rfl,l.J,C,dx,_,_,rfl,o4,jc.cls,jc.pS,rfl,l.fd,rfl,.inl ⟨_,.inl f4⟩,_,rfl,_,.inl (ha:Int),.ref fo,f4,rfl,vfo,λH5 b5 e5=>?_⟩;rw[yQ ha (by rw[Ya];exact AX.symm)] at e5;have lL:∀c o,H c=some o->c≠l.md->c≠l.fd->H5 c=some o:=λc o e n1 n2=>b5 _ _ (b4 _ _ (js _ _ e) n1) n2;have e45:H5 l.md=some _:=b5 _ _ e4 w1;have qa:∀{x:Addr},x∈l.fK->x≠l.ha/\x≠l.la/\x≠l.md/\x≠l.fd:=λ{x} hx=>⟨λz=>y4 (by rw[←z];exact hx),λz=>z3 (by rw[←z];exact hx),λz=>w2 (by rw[←z];exact hx),λz=>v1 (by rw[←z];exact hx)⟩;have S9:=lL _ _ S7 (qa xV).2.2.1 (qa xV).2.2.2;have u_:H5 to=some (.tup (aZ.map V.int)):=by
  have n1:to≠l.md:=λz=>by rw[z,g1.trans g2 _ _ ja.jk] at A1;cases A1
  have n2:to≠l.fd:=λz=>by rw[z,g1.trans g2 _ _ ja.frees] at A1;cases A1
  exact b5 _ _ (b4 _ _ S8 n1) n2
 dsimp only;have IC:(dG ma).length=ma.length:=Ya _;have hlen:∀is:List Nat,(jF hb is st.hd).length=st.hd.length:=λis=>vR (λ_ _=>Jd) is st.hd;have Zfu:∀is:List Nat,(gn aZ is st.ld).length=st.ld.length:=λis=>vR (λ_ _=>by unfold oV;exact Jd) is st.ld;refine fP (Gi H5 l (jF hb ma st.hd) (gn aZ ma st.ld) n (RG l a b hb ha tu tm to mo)) (λl9 eG=>?_) ?_
 ·refine⟨_,rfl,mo,rfl,⟨_,aj.of S9⟩,jA (K:=K) (a:=mo) (xs:=dG ma) (λj=>Gi H5 l (jF hb (ma.take j) st.hd) (gn aZ (ma.take j) st.ld) n (RG l a b hb ha tu tm to mo))
   ⟨l.eF,none,lL _ _ ja.heads y2 y3,lL _ _ ja.h_ z1 z2,L2.Paired.bw ja.lead λc xs e=>lL c _ e (di e ja.jk (λz=>by cases z)) (di e ja.frees (λz=>by cases z)),fl,λc o e _ _=>e,rfl⟩
   (λj σ H6 _ ⟨_,_,_,_,_,_,kp,_⟩=>aj.of (kp _ _ S9 (qa xV).1 (qa xV).2.1)) ?_ ?_⟩
  ·rintro j v σ H6 hj ⟨gW,o9,k1,k2,k3,k4,kp,rfl⟩;rw[Yg] at hj;obtain⟨i,mi,rfl⟩:∃i,ma[j]?=some i/\V.int (i:Int)=v:=by
    cases e:ma[j]? with
    |none=>rw[e] at hj;cases hj
    |some i=>rw[e] at hj;exact⟨i,rfl,Yq hj⟩
   have hi:=min i (Yi mi);have il:i<(gn aZ (ma.take j) st.ld).length:=by rw[Zfu];omega
   have Zhb:=cI k3;obtain⟨t,et,A0⟩:=fO k3 (Yb (show i<gW.length by omega));obtain⟨ftt,S_⟩:=k4 t (Yi et);have oJ:=kp _ _ (lL _ _ ho x3 x4) x1 x2;have ixh:kM (dG (jF hb (ma.take j) st.hd)).length (i:Int)=some i:=by
    rw[FJ (by omega) (by rw[Ya,hlen];omega),Y5]
   have ixl:kM (gW.map V.ref).length (i:Int)=some i:=by
    rw[FJ (by omega) (by rw[Ya];omega),Y5]
   refine bb ?_;refine⟨_,rfl,_,rfl,l.J,C,dx,_,_,rfl,oJ,jc.cls,jc.jd,rfl,_,rfl,l.ha,_,_,i,rfl,rfl,k1,ixh,λH7 b7 e7=>?_⟩;have Ta:=b7 _ _ oJ x1;have xW:=b7 _ _ k2 (λz=>y1 z.symm);have to7:H7 to=some (.tup (aZ.map V.int)):=b7 _ _ (kp _ _ u_ (di u_ (lL _ _ ja.heads y2 y3) (λz=>by cases z)) (di u_ (lL _ _ ja.h_ z1 z2) (λz=>by cases z))) (di (kp _ _ u_ (di u_ (lL _ _ ja.heads y2 y3) (λz=>by cases z)) (di u_ (lL _ _ ja.h_ z1 z2) (λz=>by cases z))) k1 (λz=>by cases z));have x7:H7 gW[i]=some (.tup (t.map V.int)):=b7 _ _ A0 (di A0 k1 (λz=>by cases z));have atx:dt (gW.map V.ref) (i:Int)=some (.ref gW[i]):=fF (by rw[Yg,Yb (show i<gW.length by omega)];rfl);refine⟨_,rfl,_,rfl,l.J,C,dx,_,_,rfl,Ta,jc.cls,jc.mI,rfl,_,rfl,l.la,_,_,_,rfl,rfl,aj.of xW,atx,to,gW[i],aZ,t,rfl,aA.of to7,aA.of x7,λx hx=>by rw[S_,←uM.2];exact pO uM.1 hx,by have:=uM.2;omega,λtt H8 Tb g8 htt=>?_⟩;refine⟨_,rfl,l.J,C,dx,_,_,rfl,g8 _ _ Ta,jc.cls,jc.mI,rfl,_,rfl,l.la,_,_,i,rfl,rfl,g8 _ _ xW,ixl,λH9 b9 e9=>?_⟩;have gt:(gn aZ (ma.take j) st.ld).getD i []=t:=by rw[Yl,et];rfl
   have eh:jF hb (ma.take (j+1)) st.hd=(jF hb (ma.take j) st.hd).set i hb:=K1 mi st.hd;have el:gn aZ (ma.take (j+1)) st.ld=(gn aZ (ma.take j) st.ld).set i (bF t aZ):=by
    have e1:gn aZ (ma.take (j+1)) st.ld=oV aZ (gn aZ (ma.take j) st.ld) i:=K1 mi st.ld;rw[e1,←gt];rfl
   have Iw:tt≠l.la:=λz=>by rw[z,xW] at Tb;cases Tb
   have h9:∀c o,H6 c=some o->c≠l.ha->c≠l.la->H9 c=some o:=λc o e n1 n2=>b9 _ _ (g8 _ _ (b7 _ _ e n1)) n2;refine⟨gW.set i tt,_,?_,?_,?_,?_,λc o e n1 n2=>h9 c o (kp c o e n1 n2) n1 n2,rfl⟩
   ·rw[eh,←Zcg];exact b9 _ _ (g8 _ _ e7) y1
   ·rw[e9,List.map_set]
   ·rw[el];exact K2 (F:=λa (xs:List Int)=>H9 a=some (.tup (xs.map V.int))) (b9 _ _ htt Iw) i (L2.Paired.bw k3 λc xs e=>h9 c _ e (di e k1 (λz=>by cases z)) (di e k2 (λz=>by cases z)))
   ·intro u xX;rw[el] at xX;rcases List.mem_or_eq_of_mem_set xX with z|z;·exact k4 u z
    ·rw[z];exact⟨pI ftt uM.1 (by rw[S_,uM.2]),by rw[iN];exact uM.2⟩
  ·rintro σ H6 ⟨gW,o9,k1,k2,k3,k4,kp,rfl⟩;rw[IC,Wd] at k1 k3 k4;exact eG _ _ ⟨gW,o9,k1,k2,k3,k4,kp,rfl⟩
 rintro σ H6 ⟨gW,o9,k1,k2,k3,k4,kp,rfl⟩;have oJ:=kp _ _ (lL _ _ ho x3 x4) x1 x2;have Tc:=kp _ _ e45 (λz=>y2 z.symm) (λz=>z1 z.symm);have fd6:=kp _ _ e5 (λz=>y3 z.symm) (λz=>z2 z.symm);have A2:=qa mms;have A3:=qa xV;have xc:∀c o,H c=some o->c≠l.ha->c≠l.la->c≠l.md->c≠l.fd->H6 c=some o:=λc o e n1 n2 n3 n4=>kp _ _ (lL _ _ e n3 n4) n1 n2;have ms6:=xc _ _ hms A2.1 A2.2.1 A2.2.2.1 A2.2.2.2;have mo6:=xc _ _ S7 A3.1 A3.2.1 A3.2.2.1 A3.2.2.2;have Td:Paired (λc (p:Nat×List Nat)=>H6 c=some (.lst (dG p.2))/\c∈l.fK) (dH (st.mem.map (·.1)) l.fK ha) (cQ ha st.mem):=D4 ja.mem λc p e mc _=>by
  obtain⟨q1,q2,q3,q4⟩:=qa mc;exact⟨xc _ _ e q1 q2 q3 q4,mc⟩
 have lkB:(cQ ha st.mem).lookup hb=some mb:=by rw[tY (λz=>neq z.symm)];exact mB
 obtain⟨vc,Zfv,GO,GP⟩:=k9 (f:=λv:List Nat=>HO.lst (dG v)) (L2.Paired.bw Td λ_ _ h=>h.1) lkB;rw[nY] at GO;have zZ:vc∈l.fK:=zd.subset Zfv;refine⟨_,rfl,l.J,C,dx,_,_,rfl,oJ,jc.cls,jc.ua,rfl,_,rfl,l.md,.ref vc,rfl,pT Tc GO,.inl ⟨rfl,_,aj.of GP⟩,_,rfl,vc,mo,_,_,rfl,rfl,GP,mo6,by rw[IC,Ya];omega,λH7 b7 e7=>?_⟩;obtain⟨r1,r2,r3,r4⟩:=qa zZ;have sub:=zd (h:=ha) (ks:=st.mem.map (·.1)) (as:=l.fK);have Zfw:=zd (h:=ha) (ks:=st.fr.map (·.1)) (as:=l.bV);have Te:∀c∈JL.fp ⟨l.J,l.ha,l.la,l.md,l.fd,gW,dH (st.mem.map (·.1)) l.fK ha,dH (st.fr.map (·.1)) l.bV ha⟩,c∈l.fp:=λc hc=>by
  simp only[JL.fp,Yp] at hc⊢;rcases hc with h|h|h|h|h|h;·exact .inl h
  ·exact .inr (.inl h)
  ·exact .inr (.inr (.inl h))
  ·exact .inr (.inr (.inr (.inl h)))
  ·exact .inr (.inr (.inr (.inr (.inl h))))
  ·exact .inr (.inr (.inr (.inr (.inr (sub.subset h)))))
 have h7:∀c o,H6 c=some o->c≠vc->H7 c=some o:=λc o e n1=>b7 _ _ e n1;refine q ⟨l.J,l.ha,l.la,l.md,l.fd,gW,dH (st.mem.map (·.1)) l.fK ha,dH (st.fr.map (·.1)) l.bV ha⟩ H7 rfl Te (λc o e nc=>?_) ⟨⟨dx,h7 _ _ oJ (λz=>x5 (by rw[z];exact zZ))⟩,h7 _ _ k1 (λz=>r1 z.symm),h7 _ _ k2 (λz=>r2 z.symm),L2.Paired.bw k3 λc xs e=>h7 c _ e (di e GP (λz=>by cases z)),?_,?_,?_,?_,?_,λc hc z=>?_⟩
 ·simp only[JL.fp,Yp,not_or] at nc;exact h7 _ _ (xc _ _ e nc.2.1 nc.2.2.1 nc.2.2.2.1 nc.2.2.2.2.1) (λz=>nc.2.2.2.2.2 (by rw[z];exact zZ))
 ·show H7 l.md=some (.dK (aX ((cT hb (mb++ma) (cQ ha st.mem)).map (·.1)) _));rw[nU,nY];exact h7 _ _ Tc (λz=>r3 z.symm)
 ·refine K0 (F:=λc (p:Nat×List Nat)=>H6 c=some (.lst (dG p.2))/\c∈l.fK) (m:=vc) (λk=>?_) Td (sub.nodup v2) ?_ (by rw[nY];exact GO) λc p e _ nc=>h7 _ _ e.1 nc
  ·show H7 vc=some (.lst (dG (mb++ma)));rw[e7,dG,dG,dG,Yn]
  ·rw[nY];exact ndk.filter _
 ·show H7 l.fd=some (.dK (aX ((cQ ha st.fr).map (·.1)) _));rw[nY];exact h7 _ _ fd6 (λz=>r4 z.symm)
 ·refine D4 ja.free λc p e mc _=>?_;have no:=ja.out c mc;simp only[JL.fp,Yp,not_or] at no;exact h7 _ _ (xc _ _ e no.2.1 no.2.2.1 no.2.2.2.1 no.2.2.2.2.1) (λz=>no.2.2.2.2.2 (by rw[z];exact zZ))
 ·have e0:(JL.fp ⟨l.J,l.ha,l.la,l.md,l.fd,gW,dH (st.mem.map (·.1)) l.fK ha,dH (st.fr.map (·.1)) l.bV ha⟩).Sublist l.fp:=(((((sub.cons₂ l.fd).cons₂ l.md).cons₂ l.la).cons₂ l.ha).cons₂ l.J);exact e0.nodup ja.nd
 ·exact ja.out c (Zfw.subset hc) (Te c z)
end
structure RH(st:JS)(n a b ha hb:Nat)(ta tb fma xY:List Int)(ma mb:List Nat):Prop where
 hA:st.hd[a]?=some ha
 hB:st.hd[b]?=some hb
 lA:st.ld[a]?=some ta
 lB:st.ld[b]?=some tb
 fl:∀t∈st.ld,full t=true/\t.length=n
 ll:st.ld.length=st.hd.length
 mA:st.mem.lookup ha=some ma
 mB:st.mem.lookup hb=some mb
 fA:st.fr.lookup ha=some fma
 fB:st.fr.lookup hb=some xY
 ne:ha≠hb
 iA:∀i∈ma,i<st.hd.length
 iB:∀i∈mb,i<st.hd.length
 lm:ma.length+mb.length<=1000
 nd:(st.mem.map (·.1)).Nodup
inductive MP(C:Addr)(vs:List V)(H:Hp)(Q:VK):Prop
 |mk (l:JL) (st:JS) (n a b ha hb:Nat) (ta tb tn fma xY:List Int) (tu:Addr) (ma mb:List Nat) (aC:vs=[.ref l.J,.int (a:Int),.int (b:Int),.ref tu]) (aT:cB H C n l st) (bc:H tu=some (.tup (tn.map V.int))) (bK:n<=8) (cE:tn.length=n) (dI:full tn=true) (gw:RH st n a b ha hb ta tb fma xY ma mb) (ik:∀(l':JL) (aI:JS) (H':Hp),l'.J=l.J->(∀c∈l'.fp,c∈l.fp)->Out l.fp H H'->cB H' C n l' aI->(aI=st.mv hb ha mb ma (bF (inv ta) (bF (inv tn) tb))\/aI=st.mv ha hb ma mb (bF (inv tb) (bF tn ta)))->Q .ay H'):MP C vs H Q
def N8(C:Addr):Sp:=λvs H Q _=>MP C vs H Q
section
theorem UL:aN ["self","one","other","turn"] ["self","one","other","turn"] (aH BD):=.aU
theorem Za1(F:aJ K "bring_together" "Joins.bring_together" BD f fd)(jc:kj K C)(nO:HasFn P w K mg base 1 "turned_back" ["turn"] Ah)(yH:bT P w K mg base 2 "move" C ["self","mover","stayer","turn"] (PX C))(bl:Bl mg):aG P w K mg base aM 3 f fd ["self","one","other","turn"] (N8 C):=by
 refine F.o UL λaB A outer s H vs Q E hr h=>?_;obtain⟨l,st,n,a,b,ha,hb,ta,tb,tn,fma,xY,tu,ma,mb,rfl,ja,hu,n8,tl,ft,two,q⟩:=h;refine⟨_,(au (aR (bA mQ (cU K bl (c_ (bu hr) (pF K 0) (a_ (iL K) (pF K 0) (pv 1)) (λ_ _=>rfl))) (cU K bl (c_ (bu hr) (pF K 0) (a_ (iL K) (pF K 0) (pv 2)) (λ_ _=>rfl)))) (au (cy (cC yH hr (by omega) (pv 0) (aa (pv 1) (aa (pv 2) (aa (aP nO hr (aa (pv 3) ag)) ag)))))) (au (cy (cC yH hr (by omega) (pv 0) (aa (pv 2) (aa (pv 1) (aa (pv 3) ag)))))))),?_⟩;obtain⟨dx,ho⟩:=ja.obj;obtain⟨xa,mxa,vxa,Iy⟩:=k9 (f:=λv:List Nat=>HO.lst (dG v)) ja.mem two.mA;obtain⟨xb,mxb,vxb,Iz⟩:=k9 (f:=λv:List Nat=>HO.lst (dG v)) ja.mem two.mB;refine⟨_,rfl,l.J,C,dx,_,_,rfl,ho,jc.cls,jc.ua,rfl,_,rfl,l.J,C,dx,_,_,rfl,ho,jc.cls,jc.jd,rfl,_,rfl,l.ha,_,_,_,rfl,rfl,aj.of ja.heads,mJ two.hA,l.md,.ref xa,rfl,pT ja.jk vxa,xa,_,rfl,.inl (aj.of Iy),?_⟩;refine⟨_,rfl,l.J,C,dx,_,_,rfl,ho,jc.cls,jc.ua,rfl,_,rfl,l.J,C,dx,_,_,rfl,ho,jc.cls,jc.jd,rfl,_,rfl,l.ha,_,_,_,rfl,rfl,aj.of ja.heads,mJ two.hB,l.md,.ref xb,rfl,pT ja.jk vxb,xb,_,rfl,.inl (aj.of Iz),_,_,rfl,rfl,_,rfl,bB (λ_=>?_) (λ_=>?_)⟩
 ·refine⟨_,rfl,l.J,dx,_,rfl,ho,rfl,_,rfl,_,rfl,_,rfl,tu,tn,rfl,hu,by omega,ft,λtv H1 ntv g1 htv=>?_⟩;refine⟨l,st,n,a,b,ha,hb,ta,tb,inv tn,fma,tv,ma,mb,rfl,ja.same g1,htv,n8,by rw[fC];exact tl,jC ft,two.hA,two.hB,two.lA,two.lB,two.fl,two.ll,two.mA,two.mB,two.fA,two.ne,two.iA,two.lm,two.nd,λl' H2 k1 k2 o2 j2=>q l' _ H2 k1 k2 ((Out.of g1).trans o2) j2 (.inl rfl)⟩
 ·refine⟨_,rfl,l.J,dx,_,rfl,ho,rfl,_,rfl,_,rfl,_,rfl,?_⟩;exact⟨l,st,n,b,a,hb,ha,tb,ta,tn,xY,tu,mb,ma,rfl,ja,hu,n8,tl,ft,two.hB,two.hA,two.lB,two.lA,two.fl,two.ll,two.mB,two.mA,two.fB,(λz=>two.ne z.symm),two.iB,by have:=two.lm;omega,two.nd,λl' H2 k1 k2 o2 j2=>q l' _ H2 k1 k2 o2 j2 (.inr rfl)⟩
end
def QR(H:Hp)(as:List Addr)(bN:List (Int×Int)):Prop:=Paired (λa (p:Int×Int)=>H a=some (.tup [.int p.1,.int p.2])) as bN
def iR(hi hj:Nat)(ti tj si sj:List Int):List (Int×Int):=if hi=hj then si.map λz=>(ti.getD z.toNat 0,tj.getD z.toNat 0) else(si.map λz=>ti.getD z.toNat 0).flatMap λx=>sj.map λz=>(x,tj.getD z.toNat 0)
inductive MQ(C:Addr)(vs:List V)(H:Hp)(Q:VK):Prop
 |mk (l:JL) (st:JS) (n i j hi hj:Nat) (ti tj si sj:List Int) (aC:vs=[.ref l.J,.int (i:Int),.int (j:Int)]) (aT:cB H C n l st) (bc:rR st i hi ti si) (bK:rR st j hj tj sj) (cE:∀(p:Addr) (as:List Addr) (bN:List (Int×Int)) (H':Hp),H p=none->ai H H'->H' p=some (.lst (as.map V.ref))->QR H' as bN->bN.Perm (iR hi hj ti tj si sj)->bN.Pairwise iQ->Q (.ref p) H'):MQ C vs H Q
def N9(C:Addr):Sp:=λvs H Q _=>MQ C vs H Q
inductive N_(C:Addr)(vs:List V)(H:Hp)(Q:VK):Prop
 |mk (l:JL) (st:JS) (n i j hi hj:Nat) (ti tj si sj tn:List Int) (tu:Addr) (aC:vs=[.ref l.J,.int (i:Int),.int (j:Int),.ref tu]) (aT:cB H C n l st) (bc:rR st i hi ti si) (bK:rR st j hj tj sj) (cE:H tu=some (.tup (tn.map V.int))) (dI:(∀q∈iR hi hj ti tj si sj,0<=q.1/\q.1<tn.length)) (gw:(iR hi hj ti tj si sj).length<=1000) (ik:∀(p:Addr) (ns:List Int) (H':Hp),H p=none->ai H H'->H' p=some (.lst (ns.map V.int))->ns.Perm (((iR hi hj ti tj si sj).filter λq=>decide (tn.getD q.1.toNat 0=q.2)).map (·.1))->ns.Pairwise (·<·)->Q (.ref p) H'):N_ C vs H Q
def FV(C:Addr):Sp:=λvs H Q _=>N_ C vs H Q
section
theorem VU:aN ["self","one","other","turn"] ["self","one","other","turn"] (aH CW):=.aU
theorem Zci(F:aJ K "left" "Joins.left" CW f fd)(CM:bT P w K mg base 3 "pairs" C ["self","one","other"] (N9 C))(bl:Bl mg):aG P w K mg base aM 4 f fd ["self","one","other","turn"] (FV C):=by
 refine F.o VU λaB A outer s H vs Q E hr h=>?_;obtain⟨l,st,n,i,j,hi,hj,ti,tj,si,sj,tn,tu,rfl,ja,o1,o2,hu,e_,eT,q⟩:=h;refine⟨_,(au (aF (ZaF (xs:=["first","second"]) (fr:=[("turn",3)]) (cl:=[("turn",s.heap.objs.size+1)]) rfl (.fW ⟨rfl,trivial⟩ ⟨⟨rfl,.inl rfl,.inl rfl,rfl⟩,trivial⟩) (λ_ _ _ _=>(hV (K:=K) (n:=2) rfl rfl (bL (pK (i:=0) (show(["first","second","turn"]:List Str).Nodup by decide+kernel) rfl (Or.inl rfl)) (bL (pK (i:=1) (show(["first","second","turn"]:List Str).Nodup by decide+kernel) rfl (Or.inl rfl)) hU)))) (eY (K:=K) rfl (cC CM hr (by omega) (pv 0) (aa (pv 1) (aa (pv 2) ag)))) (λ_ _ _ _=>uj (bA cq (a_ (iT K) (pv 2) (pv 0)) (pv 1))) (λ_ _ _ _=>(pv 0))))),?_⟩;obtain⟨dx,ho⟩:=ja.obj;refine⟨_,rfl,l.J,dx,_,rfl,ho,rfl,_,rfl,_,rfl,l,st,n,i,j,hi,hj,ti,tj,si,sj,rfl,ja,o1,o2,λp as bN H1 np g1 hp pr pm pw=>?_⟩;have pl:=cI pr;have al:(as.map V.ref).length=bN.length:=by rw[Ya];exact pl
 have RI:=pm.length_eq;refine⟨p,rfl,⟨_,aj.of hp⟩,λD hD=>X_ (xs:=as.map V.ref) (λk ys H2=>k<=bN.length/\ai H1 H2/\H2 D=some (.lst ys)/\ys=((bN.take k).filter λq=>decide (tn.getD q.1.toNat 0=q.2)).map λq=>V.int q.1) ⟨Yw _,cj hD _,aS,rfl⟩ (λk ys H2 _ ⟨_,g2,_,_⟩=>aj.of (g2 _ _ hp)) ?_ ?_⟩
 ·rintro k v ys H2 hk ⟨_,g2,h2,ey⟩ os oM;obtain⟨u1,u2,rfl⟩:∃u1 u2,os=[u1,u2]:=by
   match os,oM with
   |[u1,u2],_=>exact⟨u1,u2,rfl⟩
  rw[Yg] at hk;obtain⟨c,ec,rfl⟩:∃c,as[k]?=some c/\V.ref c=v:=by
   cases e:as[k]? with
   |none=>rw[e] at hk;cases hk
   |some c=>rw[e] at hk;exact⟨c,rfl,Yq hk⟩
  obtain⟨⟨x,y⟩,ID,hxy⟩:=fO pr ec;have kl:k<bN.length:=(Yh.mp ID).1;have bx:=e_ (x,y) (pm.subset (Yi ID));have hx2:=g2 _ _ hxy;have yl:ys.length<sizeLine:=by
   have:=Wh (λq:Int×Int=>decide (tn.getD q.1.toNat 0=q.2)) (bN.take k);rw[Wf] at this;rw[ey,Ya,sizeLine_eq];omega
  refine⟨c,_,rfl,aA.of hx2,rfl,_,_,rfl,bb ⟨_,_,rfl,bb ⟨rfl,⟨[some (.int x),some (.int y)],rfl,rfl⟩,?_⟩⟩⟩;refine⟨_,rfl,_,rfl,tu,_,_,_,rfl,rfl,aA.of (g2 _ _ (g1 _ _ hu)),mN bx.1 bx.2,_,rfl,rfl,_,rfl,?_⟩;have ed:decide (V.int (tn.getD x.toNat 0)=V.int y)=decide (tn.getD x.toNat 0=y):=by
   rw[Wc,decide_eq_true_iff,decide_eq_true_iff];exact⟨V.int.inj,λz=>by rw[z]⟩
  rw[ed];have et:∀(b:Bool),decide (tn.getD x.toNat 0=y)=b->((bN.take (k+1)).filter λq=>decide (tn.getD q.1.toNat 0=q.2)).map (λq=>V.int q.1)=ys++(if b=true then[V.int x] else[]):=λb eb=>by
   rw[ey,Y0,ID,Y9,Yn]
   congr 1
   show([((x,y):Int×Int)].filter _).map _=_;rw[Wb,eb];cases b<;>rfl
  refine bB (λcc=>?_) (λcc=>?_)
  ·refine⟨_,rfl,h2,yl,kl,λb o e=>?_,aS,?_⟩
   ·rw[aQ (bX e hD)];exact g2 _ _ e
   ·rw[et true cc];rfl
  ·refine⟨kl,g2,h2,?_⟩;rw[et false (by cases e:decide (tn.getD x.toNat 0=y) with|true=>exact absurd e cc|false=>rfl)];simp
 ·rintro ys H2 ⟨_,g2,h2,ey⟩;rw[al,Wd] at ey;refine q D ((bN.filter λq=>decide (tn.getD q.1.toNat 0=q.2)).map (·.1)) H2 (g1.free hD) (g1.trans g2) (by rw[h2,ey,Wa];rfl) ((pm.filter _).map _) ?_;rw[Wx];refine(J4.mp (pw.filter _)).imp ?_;rintro a b ⟨ma,mb,lt⟩;have e1:tn.getD a.1.toNat 0=a.2:=of_decide_eq_true (Yy.mp ma).2;have e2:tn.getD b.1.toNat 0=b.2:=of_decide_eq_true (Yy.mp mb).2;rcases lt with lt|⟨e,lt⟩;·exact lt
  ·rw[←e1,←e2,e] at lt;exact absurd lt (Int.lt_irrefl _)
end
theorem ZdX{H:Hp}{g:Nat->Int×Int}:∀{ys:List V} {ks:List Nat},Paired (λy k=>∃a,y=V.ref a/\H a=some (.tup [.int (g k).1,.int (g k).2])) ys ks->∃as:List Addr,ys=as.map V.ref/\QR H as (ks.map g):=by
 intro ys ks pr;induction pr with
 |nil=>exact⟨[],rfl,.nil⟩
 |cons z t ih=>
  obtain⟨a,e,h⟩:=z;obtain⟨as,e2,h2⟩:=ih;exact⟨a::as,by rw[e,e2];rfl,.cons h h2⟩
theorem map_range{α:Type}(g:Int->α)(si:List Int):(List.range si.length).map (λk=>g (si.getD k 0))=si.map g:=by
 have e2:(List.range si.length).map (λk=>g (si.getD k 0))=((List.range si.length).map λk=>si.getD k 0).map g:=by rw[Wa];rfl
 rw[e2,(range_getD si 0)]
def RJ(D:Addr)(H:Hp)(as:List Addr)(bN:List (Int×Int)):Prop:=Paired (λa (p:Int×Int)=>a≠D/\H a=some (.tup [.int p.1,.int p.2])) as bN
theorem EV{α β γ:Type}(g:α->β->γ)(ys:List β):∀xs:List α,(xs.flatMap λx=>ys.map (g x)).length=xs.length*ys.length
 |[]=>by simp
 |x::xs=>by rw[List.flatMap_cons,Yk,EV g ys xs,Ya,Wq,Nat.succ_mul];omega
theorem ZX{α β γ:Type}{g:α->List γ}{xs:List α}{i:Nat}{x:α}(h:xs[i]?=some x):(xs.take (i+1)).flatMap g=(xs.take i).flatMap g++g x:=by
 rw[Y0,h,List.flatMap_append];simp
theorem LM{ns:List Int}(so:ns.Pairwise (·<=·))(nd:ns.Nodup):ns.Pairwise (·<·):=by
 refine(List.Pairwise.and so (Ww.mp nd)).imp ?_
 grind
theorem Zcj(x:Int){ns:List Int}(st:ns.Pairwise (·<·)):(ns.map λy=>((x,y):Int×Int)).Pairwise iQ:=by
 rw[Wx];exact st.imp λh=>.inr ⟨rfl,h⟩
theorem Zck{ns:List Int}(st:ns.Pairwise (·<·)){k:Nat}{x y:Int}(hx:ns[k]?=some x)(my:y∈ns.take k):y<x:=by
 obtain⟨i,hi,rfl⟩:=Wu.mp my;obtain⟨hk,rfl⟩:=Yh.mp hx;rw[Wf] at hi;rw[List.getElem_take];exact W3.mp st i k (by omega) hk (by omega)
section
theorem Cq:aN ["self","one","other","here","there"] ["self","one","other"] (aH CD):=.aU
theorem Za2(F:aJ K "pairs" "Joins.pairs" CD f fd)(jc:kj K C)(tH:bT P w K mg base 1 "together" C ["self","one","other"] (D3 C))(jx:bT P w K mg base 2 "open_at" C ["self","one"] (wo C))(bl:Bl mg):aG P w K mg base aM 3 f fd ["self","one","other"] (N9 C):=by
 refine F.o Cq λaB A outer s H vs Q E hr h=>?_;obtain⟨l,st,n,i,j,hi,hj,ti,tj,si,sj,rfl,ja,o1,o2,q⟩:=h;refine⟨_,(ak (aR (jg (eN (cC tH hr (by omega) (pv 0) (aa (pv 1) (aa (pv 2) ag))))) (au (aF (ZaG (xs:=["first","second"]) (fr:=[("self",0),("other",2)]) (cl:=[("self",s.heap.objs.size+1),("other",s.heap.objs.size+1+1)]) rfl (.fW ⟨rfl,⟨rfl,trivial⟩⟩ ⟨⟨rfl,.inl rfl,.inl rfl,rfl⟩,⟨⟨rfl,.inl rfl,.inl rfl,rfl⟩,trivial⟩⟩) (λ_ _ _ _=>(pK (i:=0) (show(["first","second","self","other"]:List Str).Nodup by decide+kernel) rfl (Or.inl rfl))) (eY (K:=K) rfl (cC jx hr (by omega) (pv 0) (aa (pv 1) ag))) (λ_ _ _ _=>(eY (K:=K) rfl (cC jx hr (by omega) (pv 2) (aa (pv 3) ag)))) (λ_ _ _ _=>(pK (i:=1) (show(["first","second","self","other"]:List Str).Nodup by decide+kernel) rfl (Or.inl rfl))) (λ_ _ _ _=>(dz (aa (pv 0) (aa (pv 1) ag))))))) aW) (ak (f_ (i:=3) Cq.nd rfl (Or.inr rfl) (a_ (iL K) (pF K 0) (pv 1))) (ak (f_ (i:=4) Cq.nd rfl (Or.inr rfl) (a_ (iL K) (pF K 0) (pv 2))) (au (aF (iJ (ZaM (K:=K) rfl) rfl bl.EJ Eg (aa (iM (x:="section") (fr:=[("there",4),("here",3)]) (cl:=[("there",s.heap.objs.size+1+1+1+1),("here",s.heap.objs.size+1+1+1)]) rfl (.fW ⟨rfl,⟨rfl,trivial⟩⟩ ⟨⟨rfl,.inl rfl,.inl rfl,rfl⟩,⟨⟨rfl,.inl rfl,.inl rfl,rfl⟩,trivial⟩⟩) (eY (K:=K) rfl (c_ (bu hr) (pF K 0) (a_ (iL K) (pF K 0) (pv 1)) (λ_ _=>rfl))) (λ_ _ _ _=>lq) (λ_ _ _ _=>(dz (aa (a_ (iT K) (pv 2) (pv 0)) (aa (a_ (iT K) (pv 1) (pv 0)) ag))))) ag))))))),?_⟩;obtain⟨dx,ho⟩:=ja.obj;have f1:=o1.eT;have f2:=o2.eT;refine⟨_,rfl,l.J,dx,_,rfl,ho,rfl,_,rfl,_,rfl,l,st,n,i,j,hi,hj,rfl,ja,o1.hd,o2.hd,_,rfl,?_⟩;by_cases eh:hi=hj
 ·rw[decide_eq_true eh];refine bY (aV ?_);have es:si=sj:=by have a:=o1.fr;have b:=o2.fr;rw[eh,b] at a;exact(Yq a).symm
  have w_:∀{k:Nat} {t:List Int},st.ld[k]?=some t->∃x,l.eF[k]?=some x/\H x=some (.tup (t.map V.int)):=λ{k t} ht=>by
   have hl:=cI ja.lead;have dF:k<l.eF.length:=by rw[hl];exact(Yh.mp ht).1
   obtain⟨y,ey,hy⟩:=fO ja.lead (Yb dF);rw[ht] at ey;cases ey;exact⟨_,Yb dF,hy⟩
  obtain⟨xi,exi,hxi⟩:=w_ o1.ld;obtain⟨xj,exj,hxj⟩:=w_ o2.ld;have ati:dt (l.eF.map V.ref) (i:Int)=some (.ref xi):=fF (by rw[Yg,exi];rfl);have xZ:dt (l.eF.map V.ref) (j:Int)=some (.ref xj):=fF (by rw[Yg,exj];rfl);obtain⟨fa,S3,vf,cP⟩:=k9 (f:=λv:List Int=>HO.lst (v.map V.int)) ja.free o1.fr;refine bW ?_;refine⟨_,rfl,l.J,C,dx,_,_,rfl,ho,jc.cls,jc.mI,rfl,_,rfl,l.la,_,_,_,rfl,rfl,aj.of ja.h_,ati,?_⟩;refine bW ?_;refine⟨_,rfl,l.J,C,dx,_,_,rfl,ho,jc.cls,jc.mI,rfl,_,rfl,l.la,_,_,_,rfl,rfl,aj.of ja.h_,xZ,?_⟩;refine⟨_,rfl,l.J,C,dx,_,_,rfl,ho,jc.cls,jc.pS,rfl,_,rfl,l.J,C,dx,_,_,rfl,ho,jc.cls,jc.jd,rfl,_,rfl,l.ha,_,_,_,rfl,rfl,aj.of ja.heads,mJ o1.hd,l.fd,_,rfl,pT ja.frees vf,fa,rfl,⟨_,aj.of cP⟩,λD hD=>DI (xs:=si.map V.int) (aj.of cP) (by rw[Ya];omega) hD (λ_=>true) (λk y H1=>∃a,y=V.ref a/\a≠D/\H1 a=some (.tup [.int (ti.getD (si.getD k 0).toNat 0),.int (tj.getD (si.getD k 0).toNat 0)])) (λk y H1 H2 b ⟨a,e1,e2,e3⟩=>⟨a,e1,e2,b _ _ e3 e2⟩) (λk v hk H1 g1 IE Kt Kf kt kf=>?_) λys H1 g1 h1 pr=>?_⟩
  ·obtain⟨z,rfl,hz⟩:=mG hk;have gz:si.getD k 0=z:=by rw[Yl,hz];rfl
   have b1:=o1.e_ z (Yi hz);have b2:=o2.e_ z (by rw[←es];exact Yi hz);refine kI (cS ?_);refine⟨_,rfl,_,rfl,xi,_,_,_,rfl,rfl,aA.of (g1 _ _ hxi),mN b1.1 b1.2,_,rfl,_,rfl,xj,_,_,_,rfl,rfl,aA.of (g1 _ _ hxj),mN b2.1 b2.2,by show 2<=sizeLine;rw[sizeLine_eq];omega,λa H2 na g2 ha=>?_⟩;obtain⟨ys,IE⟩:=IE;exact kt _ H2 rfl g2 ⟨a,rfl,(λz=>by rw[z,IE] at na;cases na),by rw[gz];exact ha⟩
  ·rw[DH,Ya] at pr;obtain⟨as,eas,dR⟩:=ZdX (g:=λk=>(ti.getD (si.getD k 0).toNat 0,tj.getD (si.getD k 0).toNat 0)) (L2.Paired.bw pr λy k ⟨a,e1,e2,e3⟩=>⟨a,e1,e3⟩);have em:(List.range si.length).map (λk=>((ti.getD (si.getD k 0).toNat 0,tj.getD (si.getD k 0).toNat 0):Int×Int))=si.map λz=>(ti.getD z.toNat 0,tj.getD z.toNat 0):=map_range (λz=>(ti.getD z.toNat 0,tj.getD z.toNat 0)) si;rw[em] at dR;have al:=cI dR;rw[Ya] at al;rw[eas] at h1;have ndp:(si.map λz=>((ti.getD z.toNat 0,tj.getD z.toNat 0):Int×Int)).Nodup:=by
    have d:=o1.dist;rw[Ww,Wx] at d⊢;exact d.imp λh e=>h (congrArg (·.1) e)
   refine⟨D,as,_,rfl,aj.of h1,dR,ndp,.inl (by omega),λiu lS pr2 p2 pw p H2 np g2 hp=>?_⟩;refine q p iu lS H2 (g1.free np) (g1.trans g2) hp (L2.Paired.bw pr2 λ_ _ e=>g2 _ _ e) ?_ pw;unfold iR;rw[if_pos eh];exact p2
 ·rw[decide_eq_false eh];refine cS ?_;refine⟨_,rfl,l.J,dx,_,rfl,ho,rfl,_,rfl,l,st,n,i,hi,ti,si,rfl,ja,o1.hd,o1.ld,o1.fr,o1.e_,o1.eT,λp ns H1 np g1 pm srt hp=>?_⟩;have nl:=pm.length_eq;rw[Ya] at nl;have sns:=LM srt (pm.nodup_iff.mpr o1.dist);refine⟨p,rfl,⟨_,aj.of hp⟩,λD hD=>Zb0 (xs:=ns.map V.int) (λk ys H2=>k<=ns.length/\ai H1 H2/\H2 D=some (.lst ys)/\∃(as:List Addr) (bN:List (Int×Int)),ys=as.map V.ref/\RJ D H2 as bN/\bN.Perm ((ns.take k).flatMap λx=>sj.map λz=>(x,tj.getD z.toNat 0))/\bN.Pairwise iQ/\∀p∈bN,p.1∈ns.take k) ⟨Yw _,cj hD _,aS,[],[],rfl,.nil,.nil,.nil,λ_ h=>(nomatch h)⟩ (λk ys H2 _ ⟨_,g2,_⟩=>aj.of (g2 _ _ hp)) ?_ ?_ ?_ (λv σ H R R' m h=>m _ _ h)⟩
  ·rintro k v ys H2 hk ⟨kl,g2,h2,as,bN,ey,pa,pp,pw,pin⟩ os oM;obtain⟨u1,u2,rfl⟩:∃u1 u2,os=[u1,u2]:=by
    match os,oM with
    |[u1,u2],_=>exact⟨u1,u2,rfl⟩
   obtain⟨x,rfl,hx⟩:=mG hk;have kl':k<ns.length:=(Yh.mp hx).1;refine bb ⟨⟨[some (.int x),u2],rfl,rfl⟩,?_⟩;refine⟨_,rfl,l.J,dx,_,rfl,g2 _ _ (g1 _ _ ho),rfl,_,rfl,l,st,n,j,hj,tj,sj,rfl,ja.same (g1.trans g2),o2.hd,o2.ld,o2.fr,o2.e_,o2.eT,λp2 sI H3 x6 g3 IF Zfx dv=>?_⟩;have IG:=IF.length_eq;rw[Ya] at IG;have Zfy:=LM Zfx (IF.nodup_iff.mpr o2.dist);have pD:p2≠D:=λz=>by rw[z,h2] at x6;cases x6
   have RI:=pp.length_eq;rw[EV (λx z=>((x,tj.getD z.toNat 0):Int×Int)) sj (ns.take k),Wf] at RI;have Zht:=cI pa;have Zhu:min k ns.length*sj.length<=64*64:=Nat.mul_le_mul (by omega) (by omega);refine⟨p2,rfl,⟨_,aj.of dv⟩,p2,sI.map V.int,λk2 fV σ H4=>k2<=sI.length/\ai H1 H4/\H4 D=some (.lst fV)/\H4 p2=some (.lst (sI.map V.int))/\(∃o2,σ=[some (.int x),o2]++_)/\∃(vd:List Addr) (uN:List (Int×Int)),fV=vd.map V.ref/\RJ D H4 vd uN/\uN=bN++(sI.take k2).map λy=>(x,y),rfl,⟨Yw _,g2.trans g3,g3 _ _ h2,dv,⟨u2,rfl⟩,as,bN,ey,L2.Paired.bw pa λ_ _ e=>⟨e.1,g3 _ _ e.2⟩,by simp⟩,λk2 fV σ H4 _ ⟨_,_,_,e,_⟩=>aj.of e,?_,?_⟩
   ·rintro k2 v2 fV σ H4 hk2 ⟨k2l,g4,h4,e4,⟨Tf,rfl⟩,vd,uN,A4,A5,sJ⟩;obtain⟨y,rfl,hy⟩:=mG hk2;have Zfz:k2<sI.length:=(Yh.mp hy).1;have Tg:=cI A5;rw[sJ,Yk,Ya,Wf] at Tg;refine bb ⟨_,rfl,_,rfl,by show 2<=sizeLine;rw[sizeLine_eq];omega,λa H5 na g5 ha=>⟨g5 _ _ h4,by rw[A4,Ya,Tg,sizeLine_eq];have:=o2.eT;omega,Zfz,?_,aS,?_,⟨some (.int y),rfl⟩,vd++[a],uN++[(x,y)],by rw[A4,Yn];rfl,?_,?_⟩⟩
    ·intro b o e;rw[aQ (bX e hD)];exact g5 _ _ (g4 _ _ e)
    ·rw[aQ pD];exact g5 _ _ e4
    ·have aD:a≠D:=λz=>by rw[z,h4] at na;cases na
     exact iH (F:=λa (p:Int×Int)=>a≠D/\upd H5 D _ a=some (.tup [.int p.1,.int p.2])) ⟨aD,by rw[aQ aD];exact ha⟩ (L2.Paired.bw A5 λb p e=>⟨e.1,by rw[aQ e.1];exact g5 _ _ e.2⟩)
    ·rw[sJ,Y0,hy,Yn,Jp];rfl
   ·rintro fV σ H4 ⟨_,g4,h4,e4,⟨Tf,rfl⟩,vd,uN,A4,A5,sJ⟩;rw[Ya,Wd] at sJ;refine⟨⟨[some (.int x),Tf],rfl,rfl⟩,kl',g4,h4,vd,uN,A4,A5,?_,?_,λp mp=>?_⟩
    ·rw[sJ,ZX (β:=Int) hx];refine pp.append ?_;have:=IF.map λy:Int=>((x,y):Int×Int);rw[Wa] at this;exact this
    ·rw[sJ];refine List.pairwise_append.mpr ⟨pw,Zcj x Zfy,λp mp q' mq=>.inl ?_⟩;obtain⟨y,_,rfl⟩:=Ye.mp mq;exact Zck sns hx (pin p mp)
    ·rw[sJ] at mp;rw[Y0,hx];rcases Yt.mp mp with mp|mp;·exact Ys _ (pin p mp)
     ·obtain⟨y,_,rfl⟩:=Ye.mp mp;exact Yr _ Yf
  ·rintro ys H2 ⟨_,g2,h2,as,bN,ey,pa,pp,pw,_⟩;rw[Ya,Wd] at pp;rw[ey] at h2;refine q D as bN H2 (g1.free hD) (g1.trans g2) h2 (L2.Paired.bw pa λ_ _ e=>e.2) (pp.trans ?_) pw;unfold iR;rw[if_neg eh];exact pm.flatMap_right _
  ·rintro σ H R R' m ⟨x1,e1,x2,x3,x4,e2,e3,e4,x5,e5,l,st,n,i,h,t,secs,e6,j1,j2,j3,j4,j5,j6,k⟩;refine⟨x1,e1,x2,x3,x4,e2,e3,e4,x5,e5,l,st,n,i,h,t,secs,e6,j1,j2,j3,j4,j5,j6,λp ns H' a b c d e=>?_⟩;obtain⟨a,e,s,r⟩:=k p ns H' a b c d e;exact⟨a,e,s,m _ _ r⟩
end
def ap(t:List Int)(z:Int):Int:=t.getD z.toNat 0
theorem FW(h0:0<=z)(h:z<t.length):t[z.toNat]?=some (ap t z):=by
 unfold ap
 grind
theorem lM{t:List Int}{n:Nat}(ft:full t=true)(lt:t.length=n){z:Int}(h:0<=z/\z<n):0<=ap t z/\ap t z<n:=by
 have:=pO ft (Yi (FW h.1 (by omega)));omega
theorem uo{t:List Int}{n:Nat}(ft:full t=true)(lt:t.length=n){z:Int}(h:0<=z/\z<n):ap (inv t) (ap t z)=z:=by
 have b:=lM ft lt h;have e2:=zy (xs:=t) (i:=(ap t z).toNat) (by omega);rw[(Ju b.1),yY (yP ft) (FW h.1 (by omega))] at e2;have e3:ap (inv t) (ap t z)=((z.toNat:Nat):Int):=by
  show(inv t).getD (ap t z).toNat 0=_
  grind
 grind
theorem Oa{t:List Int}{n:Nat}(ft:full t=true)(lt:t.length=n){z:Int}(h:0<=z/\z<n):ap t (ap (inv t) z)=z:=by
 have:=uo (jC ft) (by rw[fC];exact lt) h;rw[inv_inv ft] at this;exact this
theorem zO{t:List Int}{n:Nat}(ft:full t=true)(lt:t.length=n){z z':Int}(h:0<=z/\z<n)(h':0<=z'/\z'<n)(e:ap t z=ap t z'):z=z':=by
 have a:=uo ft lt h;rw[e,uo ft lt h'] at a;exact a.symm
theorem zP{xs ys:List Int}{z:Int}(h:0<=z/\z<ys.length):ap (bF xs ys) z=ap xs (ap ys z):=by
 show(bF xs ys).getD z.toNat 0=_;unfold bF;rw[Yl,Yg,(FW h.1 h.2)];rfl
def JS.ae(st:JS)(i:Nat):Nat:=st.hd.getD i 0
def JS.bI(st:JS)(i:Nat):List Int:=st.ld.getD i []
def JS.bR(st:JS)(h:Nat):List Int:=(st.fr.lookup h).getD []
def c5(st:JS)(f:Nat->Int):Prop:=∃s:Nat->Int,∀i,i<st.hd.length->s (st.ae i)∈st.bR (st.ae i)/\f i=ap (st.bI i) (s (st.ae i))
structure WF(n:Nat)(st:JS):Prop where
 ll:st.ld.length=st.hd.length
 fl:∀t∈st.ld,full t=true/\t.length=n
 fr:∀i,i<st.hd.length->∃secs,st.fr.lookup (st.ae i)=some secs/\secs.Nodup/\∀z∈secs,0<=z/\z<(n:Int)
 mem:∀i,i<st.hd.length->∃ms,st.mem.lookup (st.ae i)=some ms/\ms.Nodup/\∀k,k∈ms↔k<st.hd.length/\st.ae k=st.ae i
 nm:(st.mem.map (·.1)).Nodup
 lm:∀k∈st.mem.map (·.1),k<st.hd.length
 nf:(st.fr.map (·.1)).Nodup
 lf:∀k∈st.fr.map (·.1),k<st.hd.length
 hf:∀k∈st.fr.map (·.1),∃i,i<st.hd.length/\st.ae i=k
theorem vS{xs:List Nat}{m:Nat}(nd:xs.Nodup)(h:∀x∈xs,x<m):xs.length<=m:=by
 have l:=nd.length_le_of_subset λx hx=>Y7.mpr (h x hx)
 grind
theorem yI{xs:List Int}{n:Nat}(nd:xs.Nodup)(h:∀x∈xs,0<=x/\x<(n:Int)):xs.length<=n:=by
 have l:=nd.length_le_of_subset (l₂:=bh n) λx hx=>by
  obtain⟨a,b⟩:=h x hx;have:=Yi (k_ (n:=n) (i:=x.toNat) (by omega))
  grind
 rwa [eM] at l
theorem wa{α:Type}:∀{ps:List (Nat×α)} {k:Nat} {v:α},ps.lookup k=some v->k∈ps.map (·.1)
 |[],_,_,h=>by simp at h
 |p::ps,k,v,h=>by
  rw[Wv] at h;by_cases e:k=p.1;·grind
  ·rw[beq_eq_false_iff_ne.mpr e] at h;exact Yu _ (wa h)
theorem yK{α:Type}(h:Nat)(v:α)(k:Nat):∀ps:List (Nat×α),(cT h v ps).lookup k=if k=h then(ps.lookup h).map λ_=>v else ps.lookup k
 |[]=>by show([]:List (Nat×α)).lookup k=_;simp
 |p::ps=>by
  have ih:=yK h v k ps;have e0:cT h v (p::ps)=(if p.1=h then(p.1,v) else p)::cT h v ps:=rfl
  grind
section
variable {n:Nat}{st:JS}
theorem wA{i:Nat}(h:i<st.hd.length):st.hd[i]?=some (st.ae i):=by
 unfold JS.ae;rw[Yl,Yb h];rfl
theorem WF.zQ(wf:WF n st){i:Nat}(h:i<st.hd.length):st.ld[i]?=some (st.bI i):=by
 unfold JS.bI;rw[Yl,Yb (by rw[wf.ll];exact h)];rfl
theorem WF.jR(wf:WF n st){i:Nat}(h:i<st.hd.length):full (st.bI i)=true/\(st.bI i).length=n:=wf.fl _ (Yi (wf.zQ h))
theorem WF.dA(wf:WF n st){i:Nat}(h:i<st.hd.length):st.fr.lookup (st.ae i)=some (st.bR (st.ae i))/\(st.bR (st.ae i)).Nodup/\∀z∈st.bR (st.ae i),0<=z/\z<(n:Int):=by
 obtain⟨secs,e,a,b⟩:=wf.fr i h;have e2:st.bR (st.ae i)=secs:=by unfold JS.bR;rw[e];rfl
 grind
theorem WF.dist(wf:WF n st){i:Nat}(h:i<st.hd.length):((st.bR (st.ae i)).map λz=>(st.bI i).getD z.toNat 0).Nodup:=by
 obtain⟨e,a,b⟩:=wf.dA h;rw[Ww,Wx];refine(J4.mp (Ww.mp a)).imp ?_;rintro u v ⟨mu,mv,ne⟩ z;exact ne (zO (wf.jR h).1 (wf.jR h).2 (b u mu) (b v mv) z)
theorem WF.one(wf:WF n st)(n8:n<=8){i:Nat}(h:i<st.hd.length):rR st i (st.ae i) (st.bI i) (st.bR (st.ae i)):=by
 obtain⟨e,a,b⟩:=wf.dA h;have:=yI a b;refine⟨wA h,wf.zQ h,e,λz hz=>by rw[(wf.jR h).2];exact b z hz,by omega,wf.dist h⟩
theorem WF.two(wf:WF n st){i j:Nat}(hi:i<st.hd.length)(hj:j<st.hd.length)(m4:st.hd.length<=400)(ne:st.ae i≠st.ae j):∃ma mb,RH st n i j (st.ae i) (st.ae j) (st.bI i) (st.bI j) (st.bR (st.ae i)) (st.bR (st.ae j)) ma mb/\(ma.Nodup/\∀k,k∈ma↔k<st.hd.length/\st.ae k=st.ae i)/\(mb.Nodup/\∀k,k∈mb↔k<st.hd.length/\st.ae k=st.ae j):=by
 obtain⟨ma,e1,a1,b1⟩:=wf.mem i hi;obtain⟨mb,e2,a2,b2⟩:=wf.mem j hj;have l1:=vS a1 λk hk=>((b1 k).mp hk).1;have l2:=vS a2 λk hk=>((b2 k).mp hk).1;exact⟨ma,mb,⟨wA hi,wA hj,wf.zQ hi,wf.zQ hj,wf.fl,wf.ll,e1,e2,(wf.dA hi).1,(wf.dA hj).1,ne,λk hk=>((b1 k).mp hk).1,λk hk=>((b2 k).mp hk).1,by omega,wf.nm⟩,⟨a1,b1⟩,a2,b2⟩
theorem WF.z4(wf:WF n st):st.fr.length<=st.hd.length:=by
 have:=vS wf.nf wf.lf
 grind
theorem WF.PY(wf:WF n st):st.mem.length<=st.hd.length:=by
 have:=vS wf.nm wf.lm
 grind
theorem wf0:WF n ⟨[],[],[],[]⟩:=⟨rfl,λ_ h=>(nomatch h),λ_ h=>absurd h (Wm _),λ_ h=>absurd h (Wm _),.nil,λ_ h=>(nomatch h),.nil,λ_ h=>(nomatch h),λ_ h=>(nomatch h)⟩
theorem Ep(st:JS)(h k:Nat)(v:List Int)(hv:st.fr.lookup h≠none):(st.kB h v).bR k=if k=h then v else st.bR k:=by
 show((cT h v st.fr).lookup k).getD []=_;rw[yK];by_cases e:k=h
 ·rw[if_pos e,if_pos e];cases e2:st.fr.lookup h with
  |none=>grind
  |some x=>rfl
 ·rw[if_neg e,if_neg e];rfl
theorem WF.kB(wf:WF n st){i:Nat}(hi:i<st.hd.length){p:Int->Bool}:WF n (st.kB (st.ae i) ((st.bR (st.ae i)).filter p)):=by
 refine⟨wf.ll,wf.fl,λk hk=>?_,wf.mem,wf.nm,wf.lm,?_,?_,?_⟩
 ·obtain⟨e,a,b⟩:=wf.dA hk;show ∃secs,(cT _ _ st.fr).lookup (st.ae k)=some secs/\_;rw[yK]
  grind
 ·show((cT _ _ st.fr).map (·.1)).Nodup;rw[nU];exact wf.nf
 ·show ∀k∈(cT _ _ st.fr).map (·.1),_;rw[nU];exact wf.lf
 ·show ∀k∈(cT _ _ st.fr).map (·.1),_;rw[nU];exact wf.hf
theorem vW(wf:WF n st){i:Nat}(hi:i<st.hd.length)(ss:List Int)(f:Nat->Int):c5 (st.kB (st.ae i) ((st.bR (st.ae i)).filter λz=>decide ((st.bI i).getD z.toNat 0∈ss))) f↔c5 st f/\f i∈ss:=by
 have hv:st.fr.lookup (st.ae i)≠none:=by rw[(wf.dA hi).1];exact λz=>nomatch z
 constructor
 ·rintro⟨s,h⟩;have hk:∀k,k<st.hd.length->s (st.ae k)∈st.bR (st.ae k)/\f k=ap (st.bI k) (s (st.ae k)):=λk hk=>by
   obtain⟨a,b⟩:=h k hk;refine⟨?_,b⟩;have a':s (st.ae k)∈(st.kB (st.ae i) ((st.bR (st.ae i)).filter λz=>decide ((st.bI i).getD z.toNat 0∈ss))).bR (st.ae k):=a;rw[Ep st _ _ _ hv] at a'
   grind
  refine⟨⟨s,hk⟩,?_⟩;obtain⟨a,b⟩:=h i hi;have a':s (st.ae i)∈(st.kB (st.ae i) ((st.bR (st.ae i)).filter λz=>decide ((st.bI i).getD z.toNat 0∈ss))).bR (st.ae i):=a;rw[Ep st _ _ _ hv,if_pos rfl] at a';rw[b];exact of_decide_eq_true (Yy.mp a').2
 ·rintro⟨⟨s,h⟩,m⟩;refine⟨s,λk hk=>?_⟩;obtain⟨a,b⟩:=h k hk;refine⟨?_,b⟩;show s (st.ae k)∈(st.kB (st.ae i) ((st.bR (st.ae i)).filter λz=>decide ((st.bI i).getD z.toNat 0∈ss))).bR (st.ae k);rw[Ep st _ _ _ hv];by_cases z:st.ae k=st.ae i
  ·rw[if_pos z];rw[z] at a⊢;refine Yy.mpr ⟨a,decide_eq_true ?_⟩;rw[((h i hi).2)] at m;exact m
  ·grind
theorem wj(wf:WF n st){f:Nat->Int}(d:c5 st f)(h1 h2:Nat)(z1 z2:Int)(m1:z1∈st.bR h1)(m2:z2∈st.bR h2)(ne:h1=h2->z1=z2):∃f',c5 st f'/\∀k,k<st.hd.length->(st.ae k=h1->f' k=ap (st.bI k) z1)/\(st.ae k=h2->f' k=ap (st.bI k) z2):=by
 obtain⟨s,h⟩:=d;refine⟨λk=>ap (st.bI k) ((λq=>if q=h1 then z1 else if q=h2 then z2 else s q) (st.ae k)),⟨λq=>if q=h1 then z1 else if q=h2 then z2 else s q,λk hk=>⟨?_,rfl⟩⟩,λk hk=>⟨λe=>?_,λe=>?_⟩⟩;·grind
 ·grind
 ·grind
theorem wq(wf:WF n st){i j:Nat}(hi:i<st.hd.length)(hj:j<st.hd.length){f:Nat->Int}(d:c5 st f):(f i,f j)∈iR (st.ae i) (st.ae j) (st.bI i) (st.bI j) (st.bR (st.ae i)) (st.bR (st.ae j)):=by
 obtain⟨s,h⟩:=d;obtain⟨a1,b1⟩:=h i hi;obtain⟨a2,b2⟩:=h j hj;unfold iR;by_cases e:st.ae i=st.ae j
 ·rw[if_pos e];refine Ye.mpr ⟨s (st.ae i),a1,?_⟩;rw[b1,b2,←e];rfl
 ·rw[if_neg e];refine Th.mpr ⟨f i,Ye.mpr ⟨_,a1,b1.symm⟩,Ye.mpr ⟨_,a2,?_⟩⟩;rw[b2];rfl
theorem MR(wf:WF n st){i j:Nat}(hi:i<st.hd.length)(hj:j<st.hd.length)(live:∃f,c5 st f){x y:Int}(m:(x,y)∈iR (st.ae i) (st.ae j) (st.bI i) (st.bI j) (st.bR (st.ae i)) (st.bR (st.ae j))):∃f,c5 st f/\f i=x/\f j=y:=by
 obtain⟨f0,d0⟩:=live;unfold iR at m;by_cases e:st.ae i=st.ae j
 ·rw[if_pos e] at m;obtain⟨z,mz,ez⟩:=Ye.mp m;obtain⟨f,d,q⟩:=wj wf d0 (st.ae i) (st.ae i) z z mz mz (λ_=>rfl);exact⟨f,d,((q i hi).1 rfl).trans (congrArg (·.1) ez),((q j hj).1 e.symm).trans (congrArg (·.2) ez)⟩
 ·rw[if_neg e] at m;obtain⟨x',mx,my⟩:=Th.mp m;obtain⟨z1,IH,II⟩:=Ye.mp mx;obtain⟨z2,IJ,x8⟩:=Ye.mp my;obtain⟨f,d,q⟩:=wj wf d0 (st.ae i) (st.ae j) z1 z2 IH IJ (λz=>absurd z e);exact⟨f,d,(((q i hi).1 rfl).trans II).trans (congrArg (·.1) x8),((q j hj).2 rfl).trans (congrArg (·.2) x8)⟩
end
theorem LN(hb:Nat):∀(mv:List Nat) (hd:List Nat) (i:Nat),i<hd.length->(jF hb mv hd)[i]?=if i∈mv then some hb else hd[i]?
 |[],hd,i,h=>rfl
 |k::mv,hd,i,h=>by
  have ih:=LN hb mv (hd.set k hb) i (by rw[Jd];exact h);have e0:jF hb (k::mv) hd=jF hb mv (hd.set k hb):=rfl
  grind
theorem LO(aZ:List Int):∀(mv:List Nat) (ld:List (List Int)) (i:Nat),mv.Nodup->i<ld.length->(gn aZ mv ld)[i]?=if i∈mv then some (bF (ld.getD i []) aZ) else ld[i]?
 |[],ld,i,_,h=>rfl
 |k::mv,ld,i,nd,h=>by
  obtain⟨n1,n2⟩:=Yz.mp nd;have e0:gn aZ (k::mv) ld=gn aZ mv (oV aZ ld k):=rfl;rw[e0,(LO aZ mv (oV aZ ld k) i n2 (by unfold oV;rw[Jd];exact h))];by_cases m:i∈mv
  ·have ne:k≠i:=λz=>n1 (by rw[z];exact m);unfold oV
   grind
  ·rw[if_neg m];unfold oV
   grind
theorem LP(hb:Nat)(mv hd:List Nat):(jF hb mv hd).length=hd.length:=vR (λ_ _=>Jd) mv hd
theorem LQ(aZ:List Int)(mv:List Nat)(ld:List (List Int)):(gn aZ mv ld).length=ld.length:=vR (λ_ _=>by unfold oV;exact Jd) mv ld
section
variable {n:Nat}{st:JS}{a b:Nat}{ma mb:List Nat}{tn:List Int}
theorem pU(wf:WF n st)(im:∀k,k∈ma↔k<st.hd.length/\st.ae k=st.ae a)(aZ:List Int){i:Nat}(hi:i<st.hd.length):(st.mv (st.ae b) (st.ae a) mb ma aZ).ae i=if st.ae i=st.ae a then st.ae b else st.ae i:=by
 show(jF (st.ae b) ma st.hd).getD i 0=_;rw[Yl,LN _ _ _ _ hi];by_cases e:st.ae i=st.ae a;·grind
 ·rw[if_neg (λz=>e ((im i).mp z).2),if_neg e,←Yl];rfl
theorem FX(wf:WF n st)(nd:ma.Nodup)(im:∀k,k∈ma↔k<st.hd.length/\st.ae k=st.ae a)(aZ:List Int)(hb:Nat){i:Nat}(hi:i<st.hd.length):(st.mv hb (st.ae a) mb ma aZ).bI i=if st.ae i=st.ae a then bF (st.bI i) aZ else st.bI i:=by
 show(gn aZ ma st.ld).getD i []=_;rw[Yl,LO _ _ _ _ nd (by rw[wf.ll];exact hi)];by_cases e:st.ae i=st.ae a;·rw[if_pos ((im i).mpr ⟨hi,e⟩),if_pos e];rfl
 ·rw[if_neg (λz=>e ((im i).mp z).2),if_neg e,←Yl];rfl
theorem PZ(hb ha:Nat)(aZ:List Int){h:Nat}(ne:h≠ha):(st.mv hb ha mb ma aZ).bR h=st.bR h:=by
 show((cQ ha st.fr).lookup h).getD []=_;rw[tY ne];rfl
theorem wW(hb ha:Nat)(aZ:List Int):(st.mv hb ha mb ma aZ).hd.length=st.hd.length:=LP _ _ _
theorem WF.mv(wf:WF n st)(hA:a<st.hd.length)(hB:b<st.hd.length)(ne:st.ae a≠st.ae b)(ni:ma.Nodup)(gY:∀k,k∈ma↔k<st.hd.length/\st.ae k=st.ae a)(ve:mb.Nodup)(sL:∀k,k∈mb↔k<st.hd.length/\st.ae k=st.ae b)(eb:st.mem.lookup (st.ae b)=some mb){aZ:List Int}(ft:full aZ=true)(tl:aZ.length=n):WF n (st.mv (st.ae b) (st.ae a) mb ma aZ):=by
 have len:(st.mv (st.ae b) (st.ae a) mb ma aZ).hd.length=st.hd.length:=wW _ _ _;have Ti:∀k,k<st.hd.length->(if st.ae k=st.ae a then st.ae b else st.ae k)≠st.ae a:=λk hk=>by
  grind
 have ky:(st.mv (st.ae b) (st.ae a) mb ma aZ).mem.map (·.1)=(st.mem.map (·.1)).filter λk=>decide (k≠st.ae a):=by
  show(cT _ _ (cQ _ st.mem)).map (·.1)=_;rw[nU,nY]
 have kf:(st.mv (st.ae b) (st.ae a) mb ma aZ).fr.map (·.1)=(st.fr.map (·.1)).filter λk=>decide (k≠st.ae a):=nY _ _;refine⟨?_,λt ht=>?_,λi hi=>?_,λi hi=>?_,?_,?_,?_,?_,?_⟩
 ·show(gn _ _ _).length=(jF _ _ _).length;rw[LQ,LP];exact wf.ll
 ·obtain⟨i,hi,rfl⟩:=Wu.mp ht;have ir:i<st.hd.length:=by
   have:(gn aZ ma st.ld).length=st.ld.length:=LQ _ _ _;have h2:i<(gn aZ ma st.ld).length:=hi;have:=wf.ll;omega
  have e:=FX (mb:=mb) wf ni gY aZ (st.ae b) ir;have e2:(st.mv (st.ae b) (st.ae a) mb ma aZ).bI i=(st.mv (st.ae b) (st.ae a) mb ma aZ).ld[i]:=by
   unfold JS.bI;rw[Yl,Yb hi];rfl
  rw[←e2,e];obtain⟨f1,f2⟩:=wf.jR ir;by_cases z:st.ae i=st.ae a;·rw[if_pos z];exact⟨pI f1 ft (by omega),by rw[iN];exact tl⟩
  ·rw[if_neg z];exact⟨f1,f2⟩
 ·rw[len] at hi;rw[pU (mb:=mb) wf gY aZ hi];show ∃secs,(cQ (st.ae a) st.fr).lookup _=some secs/\_;rw[tY (Ti i hi)];by_cases e:st.ae i=st.ae a;·rw[if_pos e];exact⟨_,wf.dA hB⟩
  ·rw[if_neg e];exact⟨_,wf.dA hi⟩
 ·rw[len] at hi;rw[pU (mb:=mb) wf gY aZ hi];show ∃ms,(cT (st.ae b) (mb++ma) (cQ (st.ae a) st.mem)).lookup _=some ms/\_;rw[yK,tY (Ti i hi),tY (λz=>ne z.symm),eb];have iff:∀k,k<st.hd.length->((st.mv (st.ae b) (st.ae a) mb ma aZ).ae k=(if st.ae k=st.ae a then st.ae b else st.ae k)):=λk hk=>pU (mb:=mb) wf gY aZ hk;by_cases e:(if st.ae i=st.ae a then st.ae b else st.ae i)=st.ae b
  ·rw[if_pos e];refine⟨_,rfl,?_,λk=>?_⟩;·grind
   ·grind
  ·have e1:¬st.ae i=st.ae a:=λz=>e (if_pos z);rw[if_neg e1] at e⊢;rw[if_neg e];obtain⟨ms,m1,m2,m3⟩:=wf.mem i hi
   grind
 ·rw[ky];exact wf.nm.filter _
 ·rw[ky,len];exact λk hk=>wf.lm k (Yy.mp hk).1
 ·rw[kf];exact wf.nf.filter _
 ·rw[kf,len];exact λk hk=>wf.lf k (Yy.mp hk).1
 ·rw[kf,len];intro k hk;obtain⟨m1,m2⟩:=Yy.mp hk;obtain⟨i,hi,e⟩:=wf.hf k m1;refine⟨i,hi,?_⟩;rw[pU (mb:=mb) wf gY aZ hi,if_neg (λz=>of_decide_eq_true m2 (e.symm.trans z))];exact e
theorem Ob(wf:WF n st)(hA:a<st.hd.length)(hB:b<st.hd.length)(ne:st.ae a≠st.ae b)(ni:ma.Nodup)(gY:∀k,k∈ma↔k<st.hd.length/\st.ae k=st.ae a)(ft:full tn=true)(tl:tn.length=n)(f:Nat->Int):
  c5 (st.mv (st.ae b) (st.ae a) mb ma (bF (inv (st.bI a)) (bF tn (st.bI b)))) f↔∃s:Nat->Int,(∀i,i<st.hd.length->(0<=s (st.ae i)/\s (st.ae i)<(n:Int))/\(st.ae i≠st.ae a->s (st.ae i)∈st.bR (st.ae i))/\f i=ap (st.bI i) (s (st.ae i)))/\f a=ap tn (f b):=by
 obtain⟨fa,la⟩:=wf.jR hA;obtain⟨fb,lb⟩:=wf.jR hB;have fi:=jC fa;have li:(inv (st.bI a)).length=n:=by rw[fC];exact la
 generalize et:bF (inv (st.bI a)) (bF tn (st.bI b))=aZ;have IK:∀z:Int,0<=z/\z<(n:Int)->ap aZ z=ap (inv (st.bI a)) (ap tn (ap (st.bI b) z)):=λz hz=>by
  rw[←et,zP (by rw[iN,lb];exact hz),zP (by rw[lb];exact hz)]
 have ZfA:∀z:Int,0<=z/\z<(n:Int)->0<=ap aZ z/\ap aZ z<(n:Int):=λz hz=>by
  rw[IK z hz];exact lM fi li (lM ft tl (lM fb lb hz))
 have RK:aZ.length=n:=by rw[←et,iN,iN];exact lb
 constructor
 ·rintro⟨s,h⟩;have h':∀i,i<st.hd.length->s (if st.ae i=st.ae a then st.ae b else st.ae i)∈st.bR (if st.ae i=st.ae a then st.ae b else st.ae i)/\f i=ap (if st.ae i=st.ae a then bF (st.bI i) aZ else st.bI i) (s (if st.ae i=st.ae a then st.ae b else st.ae i)):=λi hi=>by
   have x:=h i (by rw[wW];exact hi);rw[pU (mb:=mb) wf gY aZ hi,FX (mb:=mb) wf ni gY aZ _ hi,PZ] at x;·exact x
   ·by_cases e:st.ae i=st.ae a;·rw[if_pos e];exact λz=>ne z.symm
    ·rw[if_neg e];exact e
  have hb:=h' b hB;rw[if_neg (λz=>ne z.symm),if_neg (λz=>ne z.symm)] at hb;have e_:=(wf.dA hB).2.2 _ hb.1;have eq:∀i,i<st.hd.length->f i=ap (st.bI i) (if st.ae i=st.ae a then ap aZ (s (st.ae b)) else s (st.ae i)):=λi hi=>by
   have x:=(h' i hi).2;by_cases e:st.ae i=st.ae a
   ·rw[if_pos e,if_pos e,zP (by rw[RK];exact e_)] at x;rw[if_pos e];exact x
   ·rw[if_neg e,if_neg e] at x;rw[if_neg e];exact x
  refine⟨λq=>if q=st.ae a then ap aZ (s (st.ae b)) else s q,λi hi=>⟨?_,λe=>?_,eq i hi⟩,?_⟩
  ·show 0<=(if st.ae i=st.ae a then _ else _)/\(if st.ae i=st.ae a then _ else _)<_;by_cases e:st.ae i=st.ae a;·rw[if_pos e];exact ZfA _ e_
   ·rw[if_neg e];have x:=(h' i hi).1;rw[if_neg e] at x;exact(wf.dA hi).2.2 _ x
  ·show(if st.ae i=st.ae a then _ else _)∈_;have x:=(h' i hi).1;rw[if_neg e] at x;rw[if_neg e];exact x
  ·rw[eq a hA,if_pos rfl,IK _ e_,Oa fa la (lM ft tl (lM fb lb e_)),hb.2]
 ·rintro⟨s,h,ef⟩;have sb:=(h b hB).1;have sa:=(h a hA).1;have et2:ap aZ (s (st.ae b))=s (st.ae a):=by
   rw[IK _ sb,←(h b hB).2.2,←ef,(h a hA).2.2,uo fa la sa]
  refine⟨s,λi hi=>?_⟩;rw[wW] at hi;rw[pU (mb:=mb) wf gY aZ hi,FX (mb:=mb) wf ni gY aZ _ hi,PZ]
  ·by_cases e:st.ae i=st.ae a
   ·rw[if_pos e,if_pos e];refine⟨(h b hB).2.1 (λz=>ne z.symm),?_⟩;rw[zP (by rw[RK];exact sb),et2,←e];exact(h i hi).2.2
   ·rw[if_neg e,if_neg e];exact⟨(h i hi).2.1 e,(h i hi).2.2⟩
  ·by_cases e:st.ae i=st.ae a;·rw[if_pos e];exact λz=>ne z.symm
   ·rw[if_neg e];exact e
end
section
variable {n:Nat}{st:JS}{i j:Nat}{tn ns:List Int}
theorem MS{P:List (Int×Int)}(pm:ns.Perm ((P.filter λq=>decide (tn.getD q.1.toNat 0=q.2)).map (·.1)))(x:Int):x∈ns↔(x,ap tn x)∈P:=by
 rw[pm.mem_iff,Ye];constructor
 ·rintro⟨⟨u,v⟩,m,rfl⟩;obtain⟨m1,m2⟩:=Yy.mp m;have e:ap tn u=v:=of_decide_eq_true m2;rw[e];exact m1
 ·intro m;exact⟨_,Yy.mpr ⟨m,decide_eq_true rfl⟩,rfl⟩
abbrev JS.bN(st:JS)(i j:Nat):List (Int×Int):=iR (st.ae i) (st.ae j) (st.bI i) (st.bI j) (st.bR (st.ae i)) (st.bR (st.ae j))
theorem Es(ne:st.ae i≠st.ae j){x y:Int}(m:(x,y)∈st.bN i j):(∃z∈st.bR (st.ae i),ap (st.bI i) z=x)/\∃z∈st.bR (st.ae j),ap (st.bI j) z=y:=by
 unfold JS.bN iR at m;rw[if_neg ne] at m;obtain⟨x',mx,my⟩:=Th.mp m;obtain⟨z1,IH,II⟩:=Ye.mp mx;obtain⟨z2,IJ,x8⟩:=Ye.mp my;exact⟨⟨z1,IH,II.trans (congrArg (·.1) x8)⟩,z2,IJ,(congrArg (·.2) x8)⟩
theorem P0(wf:WF n st)(hi:i<st.hd.length){x y:Int}(m:(x,y)∈st.bN i j):0<=x/\x<(n:Int):=by
 obtain⟨f1,l1⟩:=wf.jR hi;by_cases e:st.ae i=st.ae j
 ·unfold JS.bN iR at m;rw[if_pos e] at m;obtain⟨z,mz,ez⟩:=Ye.mp m;have e1:ap (st.bI i) z=x:=congrArg (·.1) ez;rw[←e1];exact lM f1 l1 ((wf.dA hi).2.2 z mz)
 ·obtain⟨⟨z,mz,ez⟩,_⟩:=Es e m;rw[←ez];exact lM f1 l1 ((wf.dA hi).2.2 z mz)
theorem Oc(wf:WF n st)(n8:n<=8)(hi:i<st.hd.length)(hj:j<st.hd.length):(st.bN i j).length<=64:=by
 have a:=yI (wf.dA hi).2.1 (wf.dA hi).2.2;have b:=yI (wf.dA hj).2.1 (wf.dA hj).2.2;unfold JS.bN iR;by_cases e:st.ae i=st.ae j;·grind
 ·rw[if_neg e,EV (λ(x z:Int)=>((x,(st.bI j).getD z.toNat 0):Int×Int)),Ya];exact Y4 (Nat.mul_le_mul (show _<=8 by omega) (show _<=8 by omega)) (by omega)
theorem Za3(wf:WF n st)(hi:i<st.hd.length)(hj:j<st.hd.length)(e:st.ae i=st.ae j)(ms:∀x,x∈ns↔(x,ap tn x)∈st.bN i j)(f:Nat->Int):c5 st f/\f i∈ns↔c5 st f/\f j=ap tn (f i):=by
 refine and_congr_right λd=>?_;constructor
 ·intro m;have m':=(ms _).mp m;obtain⟨s,h⟩:=d;unfold JS.bN iR at m';rw[if_pos e] at m';obtain⟨z,mz,ez⟩:=Ye.mp m';have e2:ap (st.bI j) z=ap tn (f i):=congrArg (·.2) ez;obtain⟨f1,l1⟩:=wf.jR hi;have e_:=(wf.dA hi).2.2;rw[(h j hj).2,←e,←(zO f1 l1 (e_ z mz) (e_ _ (h i hi).1) ((congrArg (·.1) ez).trans (h i hi).2)),e2]
 ·intro m;have:=wq wf hi hj d
  grind
theorem Zcl(wf:WF n st)(hi:i<st.hd.length)(hj:j<st.hd.length)(ne:st.ae i≠st.ae j){ma mb:List Nat}(ni:ma.Nodup)(gY:∀k,k∈ma↔k<st.hd.length/\st.ae k=st.ae i)(ft:full tn=true)(tl:tn.length=n)(ms:∀x,x∈ns↔(x,ap tn x)∈st.bN i j)(f:Nat->Int):
  c5 (st.mv (st.ae j) (st.ae i) mb ma (bF (inv (st.bI i)) (bF (inv tn) (st.bI j)))) f/\f i∈ns↔c5 st f/\f j=ap tn (f i):=by
 rw[Ob wf hi hj ne ni gY (jC ft) (by rw[fC];exact tl)];obtain⟨f1,l1⟩:=wf.jR hi;obtain⟨f2,l2⟩:=wf.jR hj;constructor
 ·rintro⟨⟨s,h,ef⟩,m⟩;obtain⟨⟨z,mz,ez⟩,_⟩:=Es ne ((ms _).mp m);have e1:=zO f1 l1 ((wf.dA hi).2.2 z mz) (h i hi).1 (ez.trans (h i hi).2.2);refine⟨⟨s,λk hk=>⟨?_,(h k hk).2.2⟩⟩,?_⟩;·grind
  ·have rj:0<=f j/\f j<(n:Int):=by rw[(h j hj).2.2];exact lM f2 l2 (h j hj).1
   rw[ef,Oa ft tl rj]
 ·rintro⟨d,e⟩;have m:=wq wf hi hj d;rw[e] at m;obtain⟨s,h⟩:=d;refine⟨⟨s,λk hk=>⟨(wf.dA hk).2.2 _ (h k hk).1,λ_=>(h k hk).1,(h k hk).2⟩,?_⟩,(ms _).mpr m⟩;have ri:0<=f i/\f i<(n:Int):=by rw[(h i hi).2];exact lM f1 l1 ((wf.dA hi).2.2 _ (h i hi).1)
  rw[e,uo ft tl ri]
theorem Zcm(wf:WF n st)(hi:i<st.hd.length)(hj:j<st.hd.length)(ne:st.ae i≠st.ae j){ma mb:List Nat}(ve:mb.Nodup)(sL:∀k,k∈mb↔k<st.hd.length/\st.ae k=st.ae j)(ft:full tn=true)(tl:tn.length=n)(ms:∀x,x∈ns↔(x,ap tn x)∈st.bN i j)(f:Nat->Int):
  c5 (st.mv (st.ae i) (st.ae j) ma mb (bF (inv (st.bI j)) (bF tn (st.bI i)))) f/\f i∈ns↔c5 st f/\f j=ap tn (f i):=by
 rw[Ob wf hj hi (λz=>ne z.symm) ve sL ft tl];obtain⟨f2,l2⟩:=wf.jR hj;constructor
 ·rintro⟨⟨s,h,ef⟩,m⟩;obtain⟨_,z,mz,ez⟩:=Es ne ((ms _).mp m);have e1:=zO f2 l2 ((wf.dA hj).2.2 z mz) (h j hj).1 ((ez.trans ef.symm).trans (h j hj).2.2);refine⟨⟨s,λk hk=>⟨?_,(h k hk).2.2⟩⟩,ef⟩
  grind
 ·rintro⟨d,e⟩;have m:=wq wf hi hj d;rw[e] at m;obtain⟨s,h⟩:=d;exact⟨⟨s,λk hk=>⟨(wf.dA hk).2.2 _ (h k hk).1,λ_=>(h k hk).1,(h k hk).2⟩,e⟩,(ms _).mpr m⟩
end
def rf(st aI:JS)(i j:Nat):Prop:=∀a c,a<st.hd.length->c<st.hd.length->(aI.ae a=aI.ae c↔st.ae a=st.ae c\/(st.ae a=st.ae i/\st.ae c=st.ae j)\/(st.ae a=st.ae j/\st.ae c=st.ae i))
theorem Za4{st:JS}{i j:Nat}(e:st.ae i=st.ae j):rf st st i j:=λa c _ _=>⟨.inl,λh=>h.elim id λh=>h.elim (λh=>h.1.trans (e.trans h.2.symm)) λh=>h.1.trans (e.symm.trans h.2.symm)⟩
theorem P1{n:Nat}{st:JS}(wf:WF n st){a b:Nat}{ma mb:List Nat}(im:∀k,k∈ma↔k<st.hd.length/\st.ae k=st.ae a)(aZ:List Int)(ne:st.ae a≠st.ae b):rf st (st.mv (st.ae b) (st.ae a) mb ma aZ) a b:=λx y hx hy=>by
 rw[pU wf im aZ hx,pU wf im aZ hy]
 grind
theorem rf.symm{st aI:JS}{i j:Nat}(h:rf st aI j i):rf st aI i j:=λa c ha hc=>(h a c ha hc).trans (or_congr Iff.rfl or_comm)
structure P2(n:Nat)(st aI:JS)(b:Bool)(i j:Nat)(tn:List Int):Prop where
 wf:WF n aI
 len:aI.hd.length=st.hd.length
 yes:b=true->(∃f,c5 aI f)/\∀f,c5 aI f↔c5 st f/\f j=ap tn (f i)
 no:b=false->aI=st/\∀f,c5 st f->f j≠ap tn (f i)
 hds:b=true->rf st aI i j
inductive P4(C:Addr)(vs:List V)(H:Hp)(Q:VK):Prop
 |mk (l:JL) (st:JS) (n i j:Nat) (tn:List Int) (tu:Addr) (aC:vs=[.ref l.J,.int (i:Int),.int (j:Int),.ref tu]) (aT:cB H C n l st) (bc:WF n st) (bK:(∃f,c5 st f)) (cE:n<=8) (dI:st.hd.length<=400) (gw:i<st.hd.length) (ik:j<st.hd.length) (oR:H tu=some (.tup (tn.map V.int))) (u4:full tn=true) (GN:tn.length=n) (RF:∀(b:Bool) (l':JL) (aI:JS) (H':Hp),l'.J=l.J->(∀c∈l'.fp,c∈l.fp)->Out l.fp H H'->cB H' C n l' aI->P2 n st aI b i j tn->Q (.bl b) H'):P4 C vs H Q
def QS(C:Addr):Sp:=λvs H Q _=>P4 C vs H Q
section
theorem Kc:aN ["self","one","other","turn","sections"] ["self","one","other","turn"] (aH Dq):=.aU
theorem ZdY(F:aJ K "tie" "Joins.tie" Dq f fd)(jc:kj K C)(tP:bT P w K mg base 4 "left" C ["self","one","other","turn"] (FV C))(tH:bT P w K mg base 1 "together" C ["self","one","other"] (D3 C))(BE:bT P w K mg base 3 "bring_together" C ["self","one","other","turn"] (N8 C))(tJ:bT P w K mg base 2 "narrow" C ["self","one","sections"] (EU K C))(bl:Bl mg):aG P w K mg base aM 5 f fd ["self","one","other","turn"] (QS C):=by
 refine F.o Kc λaB A outer s H vs Q E hr h=>?_;obtain⟨l,st,n,i,j,tn,tu,rfl,ja,wf,live,n8,m4,hi,hj,hu,ft,tl,q⟩:=h;refine⟨_,(ak (bP 4 Kc.nd (cC tP hr (by omega) (pv 0) (aa (pv 1) (aa (pv 2) (aa (pv 3) ag))))) (ak (aR (jg (LF (K:=K) rfl (Mg (pv 4) (λ_=>rfl)))) (au (aF jh)) aW) (ak (aR (jg (eN (cC tH hr (by omega) (pv 0) (aa (pv 1) (aa (pv 2) ag))))) (au (cy (cC BE hr (by omega) (pv 0) (aa (pv 1) (aa (pv 2) (aa (pv 3) ag)))))) aW) (ak (cy (cC tJ hr (by omega) (pv 0) (aa (pv 1) (aa (pv 4) ag)))) (au (aF jh)))))),?_⟩;obtain⟨dx,ho⟩:=ja.obj;have pf:=Oc wf n8 hi hj;refine bW ?_;refine⟨_,rfl,l.J,dx,_,rfl,ho,rfl,_,rfl,_,rfl,_,rfl,l,st,n,i,j,_,_,_,_,_,_,tn,tu,rfl,ja,wf.one n8 hi,wf.one n8 hj,hu,λp hp=>by rw[tl];exact P0 wf hi (x:=p.1) (y:=p.2) hp,Y4 pf (by omega),λp ns H1 np g1 hp pm _=>?_⟩;have ms:=MS pm;refine mM (λσ H2=>σ=[some (.ref l.J),some (.int (i:Int)),some (.int (j:Int)),some (.ref tu),some (.ref p)]/\H2=H1/\ns≠[]) (λnx hn=>?_) ?_
 ·refine⟨_,rfl,_,.inl ⟨_,aj.of hp,rfl⟩,?_⟩;refine bB (λc=>?_) (λc=>aV (hn _ _ ⟨rfl,rfl,λz=>?_⟩))
  ·have e:ns=[]:=by
    cases ns with
    |nil=>rfl
    |cons a r=>cases c
   refine q false l st H1 rfl (λ_ h=>h) (Out.of g1) (ja.same g1) ⟨wf,rfl,(λz=>nomatch z),λ_=>⟨rfl,λf d z=>?_⟩,(λz=>nomatch z)⟩;have m:=wq wf hi hj d;rw[z] at m;have:=(ms _).mpr m;rw[e] at this;cases this
  ·rw[z] at c;exact c rfl
 rintro _ _ ⟨rfl,rfl,nne⟩;refine mM (λσ H2=>σ=[some (.ref l.J),some (.int (i:Int)),some (.int (j:Int)),some (.ref tu),some (.ref p)]/\∃(l1:JL) (nj:JS),l1.J=l.J/\(∀c∈l1.fp,c∈l.fp)/\Out l.fp H H2/\cB H2 C n l1 nj/\H2 p=some (.lst (ns.map V.int))/\WF n nj/\nj.hd.length=st.hd.length/\(∀f,c5 nj f/\f i∈ns↔c5 st f/\f j=ap tn (f i))/\rf st nj i j) (λnx hn=>?_) ?_
 ·refine⟨_,rfl,l.J,dx,_,rfl,g1 _ _ ho,rfl,_,rfl,_,rfl,l,st,n,i,j,_,_,rfl,ja.same g1,wA hi,wA hj,_,rfl,?_⟩;refine bB (λc=>?_) (λc=>aV (hn _ _ ⟨rfl,l,st,rfl,λ_ h=>h,Out.of g1,ja.same g1,hp,wf,rfl,?_,?_⟩))
  ·have ne:st.ae i≠st.ae j:=λz=>by
    rw[decide_eq_true z] at c;cases c
   obtain⟨ma,mb,two,⟨ni,gY⟩,ve,sL⟩:=wf.two hi hj m4 ne;refine⟨_,rfl,l.J,dx,_,rfl,g1 _ _ ho,rfl,_,rfl,_,rfl,_,rfl,l,st,n,i,j,_,_,_,_,tn,_,_,tu,ma,mb,rfl,ja.same g1,g1 _ _ hu,n8,tl,ft,two,λl1 nj H2 k1 k2 o2 j2 es=>hn _ _ ⟨rfl,l1,nj,k1,k2,(Out.of g1).trans o2,j2,o2 _ _ hp (λz=>ja.ne np z),?_⟩⟩;obtain⟨fi,li⟩:=wf.jR hi;obtain⟨fj,lj⟩:=wf.jR hj;rcases es with rfl|rfl;·exact⟨wf.mv hi hj ne ni gY ve sL two.mB (pI (jC fi) (pI (jC ft) fj (by rw[fC];omega)) (by rw[fC,iN];omega)) (by rw[iN,iN];exact lj),wW _ _ _,λf=>Zcl wf hi hj ne ni gY ft tl ms f,P1 wf gY _ ne⟩
   ·exact⟨wf.mv hj hi (λz=>ne z.symm) ve sL ni gY two.mA (pI (jC fj) (pI ft fi (by omega)) (by rw[fC,iN];omega)) (by rw[iN,iN];exact li),wW _ _ _,λf=>Zcm wf hi hj ne ve sL ft tl ms f,(P1 wf sL _ (λz=>ne z.symm)).symm⟩
  ·have e:st.ae i=st.ae j:=by
    by_cases z:st.ae i=st.ae j;·exact z
    ·rw[decide_eq_false z] at c;exact absurd rfl c
   exact λf=>Za3 wf hi hj e ms f
  ·have e:st.ae i=st.ae j:=by
    by_cases z:st.ae i=st.ae j;·exact z
    ·rw[decide_eq_false z] at c;exact absurd rfl c
   exact Za4 e
 rintro _ H2 ⟨rfl,l1,nj,k1,k2,o2,j2,dv,x9,RL,iff,hdj⟩;obtain⟨qp,sC⟩:=j2.obj;have A6:i<nj.hd.length:=by rw[RL];exact hi
 have fl:=x9.z4;refine⟨_,rfl,l1.J,qp,_,by rw[k1],sC,rfl,_,rfl,_,rfl,l1,nj,n,i,_,_,_,ns,p,by rw[k1];rfl,j2,x9.one n8 A6,by omega,aj.of dv,λl2 H3 k3 k4 o3 j3=>?_⟩;refine q true l2 _ H3 (k3.trans k1) (λc hc=>k2 c (by rw[←k4];exact hc)) (λb o e nb=>o3 _ _ (o2 _ _ e nb) λz=>nb (k2 b z)) j3 ⟨x9.kB A6,RL,λ_=>⟨?_,λf=>?_⟩,(λz=>nomatch z),λ_=>hdj⟩
 ·obtain⟨x,mx⟩:∃x,x∈ns:=by
   cases ns with
   |nil=>exact absurd rfl nne
   |cons a r=>exact⟨a,Yf⟩
  obtain⟨f,d,e1,e2⟩:=MR wf hi hj live ((ms x).mp mx);refine⟨f,(vW x9 A6 ns f).mpr ((iff f).mpr ⟨d,?_⟩)⟩;rw[e2,e1]
 ·exact(vW x9 A6 ns f).trans (iff f)
end
def mS(xs ys:List Int):Prop:=full xs=true/\full ys=true/\xs.length=ys.length/\2<=xs.length/\xs.length<=8
theorem YR(g:mS xs ys)(h:(z,ns)∈zN xs ys):full ns=true/\ns.length=xs.length:=by
 obtain⟨fx,fy,e,_,_⟩:=g;have fa:=ET fx fy e;simp only[Yp,Y3,or_false,Prod.mk.injEq] at h;rcases h with⟨rfl,rfl⟩|⟨rfl,rfl⟩|⟨rfl,rfl⟩|⟨rfl,rfl⟩|⟨rfl,rfl⟩|⟨rfl,rfl⟩|⟨rfl,rfl⟩;·exact⟨fx,rfl⟩
 ·exact⟨fa,by rw[qK];exact e.symm⟩
 ·exact⟨fy,e.symm⟩
 ·exact⟨jC fx,fC _⟩
 ·exact⟨jC fa,by rw[fC,qK];exact e.symm⟩
 ·exact⟨jC fy,by rw[fC];exact e.symm⟩
 ·exact⟨qS (List.Perm.refl _),eM _⟩
structure Fc where
 k:Str
 one:Nat
 aK:Int
 tn:List Int
abbrev aY:Str:="said"
def eP(F:List Fc)(x y:Nat)(t:List Int):Prop:=∃c∈F,c.k≠aY/\((c.one=x/\c.aK.toNat=y/\t=c.tn)\/(c.aK.toNat=x/\c.one=y/\t=inv c.tn))
def gc(n:Nat)(F:List Fc)(g:Nat->Option Int):Prop:=(∀x y t u,eP F x y t->g x=some u->g y=some (ap t u))/\(∀c∈F,c.k=aY->∀u,g c.one=some u->u=c.aK)/\∀k v,g k=some v->0<=v/\v<(n:Int)
structure dB(n m:Nat)(c:Fc):Prop where
 one:c.one<m
 gF:c.k≠aY->(0<=c.aK/\c.aK.toNat<m)/\full c.tn=true/\c.tn.length=n
def rS(L:Nat->List (Nat×List Int))(x:Nat)(p:Nat×List Int):Nat->List (Nat×List Int):=λz=>if z=x then L x++[p] else L z
theorem t8{kvs:List (Key×V)}{k k':Key}{v:V}(h:aO kvs k=none):aO (kvs++[(k,v)]) k'=if k'=k then some v else aO kvs k':=by
 rw[←ke v h];exact Ms _ _ _ _
theorem MT:q∈rS L x p z↔q∈L z\/(z=x/\q=p):=by
 unfold rS;by_cases e:z=x
 ·rw[if_pos e,Yt,e];simp
 ·rw[if_neg e];simp[e]
theorem Za5:¬eP [] x y t:=λ⟨_,m,_⟩=>nomatch m
theorem mF:eP (F++[c]) x y t↔eP F x y t\/(c.k≠aY/\((c.one=x/\c.aK.toNat=y/\t=c.tn)\/(c.aK.toNat=x/\c.one=y/\t=inv c.tn))):=by
 constructor
 ·rintro⟨c',m,h1,h2⟩;rcases Yt.mp m with m|m;·exact .inl ⟨c',m,h1,h2⟩
  ·rw[Ym] at m;subst m;exact .inr ⟨h1,h2⟩
 ·rintro(⟨c',m,h⟩|h);·exact⟨c',Ys _ m,h⟩
  ·exact⟨c,Yr _ Yf,h⟩
theorem lookup_mem:∀{ps:List (Nat×α)} {k:Nat} {v:α},ps.lookup k=some v->(k,v)∈ps
 |[],_,_,h=>by simp at h
 |p::ps,k,v,h=>by
  rw[Wv] at h;by_cases e:k=p.1;·grind
  ·rw[beq_eq_false_iff_ne.mpr e] at h;exact Yu _ (lookup_mem h)
theorem mem_lookup:∀{ps:List (Nat×α)} {k:Nat} {v:α},(ps.map (·.1)).Nodup->(k,v)∈ps->ps.lookup k=some v
 |p::ps,k,v,nd,h=>by
  obtain⟨n1,n2⟩:=Yz.mp (show(p.1::ps.map (·.1)).Nodup from nd);rw[Wv];rcases Yp.mp h with h|h;·grind
  ·have e:k≠p.1:=λz=>n1 (by rw[←z];exact Ye.mpr ⟨_,h,rfl⟩);rw[beq_eq_false_iff_ne.mpr e];exact mem_lookup n2 h
theorem Cb:∀{ps:List (Nat×α)} {k:Nat},ps.lookup k=none->k∉ps.map (·.1)
 |p::ps,k,h=>by
  grind
 |[],_,_=>λz=>nomatch z
theorem yR{α:Type}{ps:List (Nat×α)}{q:Nat×α}{k:Nat}{v:α}(h:ps.lookup k=some v):(ps++[q]).lookup k=some v:=by
 grind
theorem K3{α:Type}{ps:List (Nat×α)}{k:Nat}{v:α}(h:ps.lookup k=none):(ps++[(k,v)]).lookup k=some v:=by
 grind
theorem wB(ok:∀c∈F,dB n m c)(e:eP F x y t):x<m/\y<m/\full t=true/\t.length=n:=by
 obtain⟨c,mc,ns,h⟩:=e;obtain⟨⟨o0,om⟩,ft,tl⟩:=(ok c mc).gF ns;have o1:=(ok c mc).one;rcases h with⟨rfl,rfl,rfl⟩|⟨rfl,rfl,rfl⟩;·grind
 ·exact⟨om,o1,jC ft,by rw[fC];exact tl⟩
inductive bJ(F:List Fc)(x:Nat):Nat->Prop
 |refl:bJ F x x
 |step {y z:Nat} {t:List Int}:bJ F x y->eP F y z t->bJ F x z
structure BF(F:List Fc)(n m x:Nat)(a:Int)(g:List (Nat×Int)):Prop where
 nd:(g.map (·.1)).Nodup
 lt:∀p∈g,p.1<m/\0<=p.2/\p.2<(n:Int)
 hd:g.lookup x=some a
 snd:∀g',gc n F g'->g' x=some a->∀p∈g,g' p.1=some p.2
 conn:∀p∈g,bJ F x p.1
section
variable {F:List Fc}{n m x:Nat}{a:Int}{g:List (Nat×Int)}
theorem bf0(hx:x<m)(ha:0<=a/\a<(n:Int)):BF F n m x a [(x,a)]:=by
 refine⟨by simp,λp hp=>?_,by simp,λg' _ h p hp=>?_,λp hp=>?_⟩;·grind
 ·grind
 ·rw[Ym] at hp;rw[hp];exact .refl
theorem BF.len(b:BF F n m x a g):g.length<=m:=by
 have:=vS b.nd λk hk=>by
  obtain⟨p,hp,rfl⟩:=Ye.mp hk;exact(b.lt p hp).1
 grind
theorem BF.add(b:BF F n m x a g)(ok:∀c∈F,dB n m c){k y:Nat}{t:List Int}{v:Int}(e:eP F k y t)(hk:g.lookup k=some v)(hy:g.lookup y=none):BF F n m x a (g++[(y,ap t v)]):=by
 obtain⟨_,ym,ft,tl⟩:=wB ok e;have mk:=lookup_mem hk;refine⟨?_,λp hp=>?_,yR b.hd,λg' c h p hp=>?_,λp hp=>?_⟩
 ·rw[Yn];refine Wo.mpr ⟨b.nd,by simp,λu hu w hw z=>?_⟩
  grind
 ·rcases Yt.mp hp with hp|hp;·exact b.lt p hp
  ·rw[Ym] at hp;rw[hp];exact⟨ym,lM ft tl (b.lt _ mk).2⟩
 ·rcases Yt.mp hp with hp|hp;·exact b.snd g' c h p hp
  ·rw[Ym] at hp;rw[hp];exact c.1 k y t v e (b.snd g' c h _ mk)
 ·rcases Yt.mp hp with hp|hp;·exact b.conn p hp
  ·rw[Ym] at hp;rw[hp];exact .step (b.conn _ mk) e
theorem BF.ZeI(b:BF F n m x a g)(e:eP F k y t)(hk:g.lookup k=some v)(hy:g.lookup y=some v')(ne:v'≠ap t v):¬∃g',gc n F g'/\g' x=some a:=by
 rintro⟨g',c,h⟩;have h2:=b.snd g' c h _ (lookup_mem hy);have h3:=c.1 k y t v e (b.snd g' c h _ (lookup_mem hk))
 grind
theorem BF.ZdZ(b:BF F n m x a g)(mc:c∈F)(sd:c.k=aY)(hk:g.lookup c.one=some v)(ne:v≠c.aK):¬∃g',gc n F g'/\g' x=some a:=by
 rintro⟨g',cl,h⟩;exact ne (cl.2.1 c mc sd v (b.snd g' cl h _ (lookup_mem hk)))
def Cl(L:Nat->List (Nat×List Int))(g:List (Nat×Int))(r:Nat):Prop:=∀p,g[r]?=some p->∀q∈L p.1,g.lookup q.1=some (ap q.2 p.2)
theorem BF.done(b:BF F n m x a g)(ed:∀x y t,(y,t)∈L x↔eP F x y t)(cl:∀r,r<g.length->Cl L g r)(sd:∀c∈F,c.k=aY->∀u,g.lookup c.one=some u->u=c.aK):gc n F (λk=>g.lookup k):=by
 refine⟨λk y t u e hk=>?_,sd,λk v h=>(b.lt _ (lookup_mem h)).2⟩;obtain⟨r,hr,er⟩:=Wu.mp (lookup_mem hk);have:=cl r hr (k,u) (by rw[Yb hr,er]) (y,t) ((ed _ _ _).mpr e);exact this
end
theorem yL{α:Type}{ps qs:List (Nat×α)}{k:Nat}{v:α}(h:ps.lookup k=some v):(ps++qs).lookup k=some v:=by
 grind
theorem Cl.app(hr:r<g.length)(c:Cl L g r):Cl L (g++tl) r:=λp hp q hq=>by
 rw[Wi hr] at hp;exact yL (c p hp q hq)
theorem BF.key(b:BF F n m x a g)(cl:gc n F (λk=>g.lookup k))(k:Nat):(∃v,g.lookup k=some v)↔bJ F x k:=by
 constructor
 ·rintro⟨v,h⟩;exact b.conn _ (lookup_mem h)
 ·intro c;induction c with
  |refl=>exact⟨a,b.hd⟩
  |step _ e ih=>
   obtain⟨v,h⟩:=ih;exact⟨_,cl.1 _ _ _ v e h⟩
open Classical in
noncomputable def cA (F:List Fc) (n x:Nat):List Int:=(bh n).filter λa=>decide (∃g,gc n F g/\g x=some a)
def eQ(f:Nat->Int)(c:Fc):Prop:=(c.k=aY->f c.one=c.aK)/\(c.k≠aY->f c.aK.toNat=ap c.tn (f c.one))
def kT(n m:Nat)(f:Nat->Int):Prop:=∀i,i<m->0<=f i/\f i<(n:Int)
structure dk(n:Nat)(st:JS)(F:List Fc):Prop where
 wf:WF n st
 fL:∀c∈F,dB n st.hd.length c
 iff:∀f,c5 st f↔kT n st.hd.length f/\∀c∈F,eQ f c
 live:∃f,c5 st f
 conn:∀i j,i<st.hd.length->j<st.hd.length->(st.ae i=st.ae j↔bJ F i j)
theorem VW{f:Nat->Int}(ok:∀c∈F,dB n m c)(inr:kT n m f)(sat:∀c∈F,eQ f c):∃g,gc n F g/\∀x,x<m->g x=some (f x):=by
 refine⟨λi=>if i<m then some (f i) else none,⟨λu v t a e hu=>?_,λc mc sd u hu=>?_,λk v hk=>?_⟩,λx hx=>if_pos hx⟩
 ·obtain⟨um,vm,_,_⟩:=wB ok e;obtain⟨c,mc,ns,h⟩:=e;have s:=(sat c mc).2 ns;obtain⟨_,ft,tl⟩:=(ok c mc).gF ns;have e1:f u=a:=by
   grind
  show(if v<m then some (f v) else none)=_;rw[if_pos vm];rcases h with⟨rfl,rfl,rfl⟩|⟨rfl,rfl,rfl⟩;·rw[s,e1]
  ·rw[←e1,s,uo ft tl (inr _ (ok c mc).one)]
 ·have xX:(if c.one<m then some (f c.one) else none)=some u:=hu;rw[if_pos (ok c mc).one] at xX;rw[←Yq xX];exact(sat c mc).1 sd
 ·have A7:(if k<m then some (f k) else none)=some v:=hk;by_cases z:k<m
  ·rw[if_pos z] at A7;rw[←Yq A7];exact inr k z
  ·grind
theorem Kd{f:Nat->Int}(ok:∀c∈F,dB n m c)(hx:x<m)(inr:kT n m f)(sat:∀c∈F,eQ f c):∃g,gc n F g/\g x=some (f x):=by
 obtain⟨g,c,h⟩:=VW ok inr sat
 grind
theorem VX(ok:∀c∈F,dB n m c)(inr:kT n m f0)(sat:∀c∈F,c.one=x\/eQ f0 c)(cl:gc n F g)(hx:g x=some a):∃f,kT n m f/\(∀c∈F,eQ f c)/\f x=a/\∀i,f i=(g i).getD (f0 i):=by
 refine⟨λi=>(g i).getD (f0 i),λi hi=>?_,λc mc=>⟨λsd=>?_,λns=>?_⟩,by show(g x).getD _=a;rw[hx];rfl,λ_=>rfl⟩
 ·show 0<=(g i).getD (f0 i)/\(g i).getD (f0 i)<_;cases e:g i with
  |none=>exact inr i hi
  |some v=>exact cl.2.2 i v e
 ·show(g c.one).getD (f0 c.one)=_;cases e:g c.one with
  |none=>
   rcases sat c mc with h|h;·grind
   ·exact h.1 sd
  |some v=>exact cl.2.1 c mc sd v e
 ·show(g c.aK.toNat).getD (f0 c.aK.toNat)=ap c.tn ((g c.one).getD (f0 c.one));have ed1:eP F c.one c.aK.toNat c.tn:=⟨c,mc,ns,.inl ⟨rfl,rfl,rfl⟩⟩;have ed2:eP F c.aK.toNat c.one (inv c.tn):=⟨c,mc,ns,.inr ⟨rfl,rfl,rfl⟩⟩;cases e:g c.one with
  |some v=>
   rw[cl.1 _ _ _ v ed1 e];rfl
  |none=>
   have e2:g c.aK.toNat=none:=by
    cases z:g c.aK.toNat with
    |none=>rfl
    |some v=>rw[cl.1 _ _ _ v ed2 z] at e;cases e
   rw[e2];rcases sat c mc with h|h;·grind
   ·exact h.2 ns
theorem C3(ok:∀c∈F,dB n m c)(inr:kT n m f0)(sat:∀c∈F,c.one=x\/eQ f0 c)(cl:gc n F g)(hx:g x=some a):∃f,kT n m f/\(∀c∈F,eQ f c)/\f x=a:=by
 obtain⟨f,h1,h2,h3,_⟩:=VX ok inr sat cl hx
 grind
open Classical in
theorem qN:a∈cA F n x↔(0<=a/\a<(n:Int))/\∃g,gc n F g/\g x=some a:=by
 unfold cA;rw[Yy,decide_eq_true_iff];refine and_congr_left λ_=>?_;unfold bh;rw[Ye];constructor
 ·rintro⟨i,hi,rfl⟩;have:=Y7.mp hi;omega
 ·intro h;exact⟨a.toNat,Y7.mpr (by omega),Ju h.1⟩
section
variable {n x:Nat}{st:JS}{F:List Fc}
theorem dk.room(me:dk n st F)(hx:x<st.hd.length)(a:Int):a∈cA F n x↔∃f,c5 st f/\f x=a:=by
 rw[qN];constructor
 ·rintro⟨_,g,cl,h⟩;obtain⟨f0,d0⟩:=me.live;obtain⟨i0,s0⟩:=(me.iff f0).mp d0;obtain⟨f,i1,s1,e⟩:=C3 me.fL i0 (λc mc=>.inr (s0 c mc)) cl h;exact⟨f,(me.iff f).mpr ⟨i1,s1⟩,e⟩
 ·rintro⟨f,d,rfl⟩;obtain⟨i1,s1⟩:=(me.iff f).mp d;exact⟨i1 x hx,Kd me.fL hx i1 s1⟩
theorem dk.put(me:dk n st F)(ok:dB n st.hd.length c)(wf':WF n aI)(len:aI.hd.length=st.hd.length)(live:∃f,c5 aI f)(iff:∀f,c5 aI f↔c5 st f/\eQ f c)(cn:∀i j,i<st.hd.length->j<st.hd.length->(aI.ae i=aI.ae j↔bJ (F++[c]) i j)):dk n aI (F++[c]):=by
 refine⟨wf',λc' m'=>?_,λf=>?_,live,by rw[len];exact cn⟩
 ·rw[len];rcases Yt.mp m' with m'|m';·exact me.fL c' m'
  ·grind
 ·rw[iff,me.iff,len,and_assoc]
  grind
theorem ze(F:List Fc)(n x:Nat):(cA F n x).Pairwise (·<=·)/\(cA F n x).Nodup:=by
 have pw:(bh n).Pairwise (·<=·):=by
  unfold bh;rw[Wx];exact List.pairwise_lt_range.imp λh=>by omega
 exact⟨pw.filter _,(AF.DG n).filter _⟩
theorem dk.opn(me:dk n st F)(hx:x<st.hd.length)(pm:ns.Perm ((st.bR (st.ae x)).map λz=>(st.bI x).getD z.toNat 0))(so:ns.Pairwise (·<=·)):ns=cA F n x:=by
 obtain⟨p1,p2⟩:=ze F n x;refine List.Perm.eq_of_pairwise (le:=(·<=·)) (λa b _ _ h1 h2=>by omega) so p1 (pm.trans ((Js ((me.wf.dist hx)) p2).mpr λa=>?_));rw[me.room hx,Ye];constructor
 ·rintro⟨z,mz,rfl⟩;obtain⟨f0,d0⟩:=me.live;obtain⟨f,d,q⟩:=wj me.wf d0 (st.ae x) (st.ae x) z z mz mz (λ_=>rfl);exact⟨f,d,(q x hx).1 rfl⟩
 ·rintro⟨f,⟨s,h⟩,rfl⟩;exact⟨s (st.ae x),(h x hx).1,(h x hx).2.symm⟩
theorem kg(hi:i<st.hd.length):(st.more n).ae i=st.ae i:=by
 show(st.hd++[_]).getD i 0=st.hd.getD i 0
 grind
theorem nW:(st.more n).ae st.hd.length=st.hd.length:=by
 show(st.hd++[_]).getD _ 0=_;simp
theorem MU(wf:WF n st)(hi:i<st.hd.length):(st.more n).bI i=st.bI i:=by
 show(st.ld++[_]).getD i []=st.ld.getD i [];rw[Yl,Wi (by rw[wf.ll];exact hi),←Yl]
theorem LR(wf:WF n st):(st.more n).bI st.hd.length=bh n:=by
 show(st.ld++[_]).getD _ []=_;rw[←wf.ll];simp
theorem Dv{α:Type}{ps:List (Nat×α)}{k:Nat}{v:α}(h:k∉ps.map (·.1)):(ps++[(k,v)]).lookup k=some v:=by
 refine K3 ?_;cases e:ps.lookup k with
 |none=>rfl
 |some x=>exact absurd (wa e) h
theorem iK:(st.more n).hd.length=st.hd.length+1:=by
 show(st.hd++[_]).length=_;simp
theorem ZY(n:Nat):full (bh n)=true/\(bh n).length=n:=⟨qS (List.Perm.refl (bh n)),eM n⟩
theorem Od(h:0<=z/\z<(n:Int)):ap (bh n) z=z:=by
 show(bh n).getD z.toNat 0=z;rw[Yl,k_ (by omega)]
 grind
theorem EW:z∈bh n↔0<=z/\z<(n:Int):=by
 unfold bh;rw[Ye];constructor;·grind
 ·intro h;exact⟨z.toNat,Y7.mpr (by omega),Ju h.1⟩
theorem WF.xr(wf:WF n st)(hi:i<st.hd.length):st.ae i<st.hd.length:=wf.lf _ (wa (wf.dA hi).1)
theorem WF.more(wf:WF n st):WF n (st.more n):=by
 have nm:st.hd.length∉st.mem.map (·.1):=λz=>Wg _ (wf.lm _ z);have nf:st.hd.length∉st.fr.map (·.1):=λz=>Wg _ (wf.lf _ z);have km:(st.more n).mem.map (·.1)=st.mem.map (·.1)++[st.hd.length]:=by
  show(st.mem++[(st.hd.length,[st.hd.length])]).map (·.1)=_;rw[Yn];rfl
 have kf:(st.more n).fr.map (·.1)=st.fr.map (·.1)++[st.hd.length]:=by
  show(st.fr++[(st.hd.length,bh n)]).map (·.1)=_;rw[Yn];rfl
 have nd:∀{xs:List Nat},xs.Nodup->st.hd.length∉xs->(xs++[st.hd.length]).Nodup:=λ{xs} h h'=>Wo.mpr ⟨h,by simp,λu hu w hw z=>by
  have:w=st.hd.length:=by simpa using hw
  rw[z,this] at hu;exact h' hu⟩
 refine⟨?_,λt ht=>?_,λi hi=>?_,λi hi=>?_,?_,?_,?_,?_,?_⟩
 ·show(st.ld++[_]).length=(st.hd++[_]).length;rw[Yk,Yk,wf.ll];rfl
 ·rcases Yt.mp (show t∈st.ld++[_] from ht) with h|h;·exact wf.fl t h
  ·rw[Ym] at h;rw[h];exact ZY n
 ·rw[iK] at hi;by_cases z:i=st.hd.length
  ·rw[z,nW];exact⟨bh n,Dv nf,AF.DG n,λz hz=>EW.mp hz⟩
  ·rw[kg (by omega)];exact⟨_,yR (wf.dA (i:=i) (by omega)).1,(wf.dA (i:=i) (by omega)).2⟩
 ·rw[iK] at hi;by_cases z:i=st.hd.length
  ·rw[z,nW];refine⟨[st.hd.length],Dv nm,by simp,λk=>?_⟩;rw[Ym,iK];constructor
   ·rintro rfl;exact⟨by omega,nW⟩
   ·rintro⟨h1,h2⟩;by_cases w:k=st.hd.length;·exact w
    ·rw[kg (by omega)] at h2;have:=wf.xr (i:=k) (by omega);omega
  ·obtain⟨ms,e,a,b⟩:=wf.mem i (by omega);rw[kg (by omega)];refine⟨ms,yR e,a,λk=>?_⟩;rw[b,iK];constructor
   ·rintro⟨h1,h2⟩;exact⟨by omega,by rw[kg h1];exact h2⟩
   ·rintro⟨h1,h2⟩;by_cases w:k=st.hd.length
    ·rw[w,nW] at h2;have:=wf.xr (i:=i) (by omega);omega
    ·rw[kg (by omega)] at h2;exact⟨by omega,h2⟩
 ·rw[km];exact nd wf.nm nm
 ·rw[km,iK];intro k hk;rcases Yt.mp hk with h|h;·have:=wf.lm k h;omega
  ·rw[Ym] at h;omega
 ·rw[kf];exact nd wf.nf nf
 ·rw[kf,iK];intro k hk;rcases Yt.mp hk with h|h;·have:=wf.lf k h;omega
  ·rw[Ym] at h;omega
 ·rw[kf,iK];intro k hk;rcases Yt.mp hk with h|h
  ·obtain⟨i,hi,e⟩:=wf.hf k h;exact⟨i,by omega,by rw[kg hi];exact e⟩
  ·rw[Ym] at h;exact⟨st.hd.length,by omega,by rw[nW,h]⟩
theorem LS(wf:WF n st)(f:Nat->Int):c5 (st.more n) f↔c5 st f/\(0<=f st.hd.length/\f st.hd.length<(n:Int)):=by
 have x_:(st.more n).bR st.hd.length=bh n:=by
  show((st.fr++[(st.hd.length,bh n)]).lookup st.hd.length).getD []=_;rw[Dv (λz=>Wg _ (wf.lf _ z))];rfl
 have Tj:∀i,i<st.hd.length->(st.more n).bR (st.ae i)=st.bR (st.ae i):=λi hi=>by
  show((st.fr++[(st.hd.length,bh n)]).lookup _).getD []=_;rw[yR (wf.dA hi).1];rfl
 constructor
 ·rintro⟨s,h⟩;refine⟨⟨s,λi hi=>?_⟩,?_⟩
  ·have x:=h i (by rw[iK];omega);rw[kg hi,MU wf hi,Tj i hi] at x;exact x
  ·have x:=h st.hd.length (by rw[iK];omega);rw[nW,LR wf,x_] at x;have b:=EW.mp x.1;rw[x.2,Od b];exact b
 ·rintro⟨⟨s,h⟩,b⟩;refine⟨λq=>if q=st.hd.length then f st.hd.length else s q,λi hi=>?_⟩;rw[iK] at hi;by_cases z:i=st.hd.length
  ·rw[z,nW,LR wf,x_];show(if st.hd.length=st.hd.length then _ else _)∈_/\f st.hd.length=ap _ (if st.hd.length=st.hd.length then _ else _);rw[if_pos rfl,Od b];exact⟨EW.mpr b,rfl⟩
  ·have ir:i<st.hd.length:=by omega
   have:=wf.xr ir;rw[kg ir,MU wf ir,Tj i ir]
   grind
theorem Zcn(ok:∀c∈F,dB n m c)(h:bJ F x y)(hx:x<m):y<m:=by
 cases h with
 |refl=>exact hx
 |step _ e=>exact(wB ok e).2.1
theorem dk.more(me:dk n st F)(n0:0<n):dk n (st.more n) F:=by
 refine⟨me.wf.more,λc mc=>?_,λf=>?_,?_,λi j hi hj=>?_⟩
 ·have ok:=me.fL c mc;rw[iK];exact⟨W6 ok.one,λns=>⟨⟨(ok.gF ns).1.1,W6 (ok.gF ns).1.2⟩,(ok.gF ns).2⟩⟩
 ·rw[LS me.wf,me.iff,iK];constructor
  ·rintro⟨⟨h1,h2⟩,h3⟩;refine⟨λi hi=>?_,h2⟩;by_cases z:i=st.hd.length;·rw[z];exact h3
   ·exact h1 i (by omega)
  ·rintro⟨h1,h2⟩;exact⟨⟨λi hi=>h1 i (by omega),h2⟩,h1 _ (by omega)⟩
 ·obtain⟨f0,s,h⟩:=me.live;refine⟨λi=>if i=st.hd.length then 0 else f0 i,(LS me.wf _).mpr ⟨⟨s,λi hi=>?_⟩,?_⟩⟩;·grind
  ·grind
 ·rw[iK] at hi hj;by_cases zi:i=st.hd.length
  ·by_cases zj:j=st.hd.length;·rw[zi,zj];exact⟨λ_=>.refl,λ_=>rfl⟩
   ·rw[zi,nW,kg (by omega)];have:=me.wf.xr (i:=j) (by omega);refine⟨λz=>by omega,λz=>?_⟩;have b:∀{k:Nat},bJ F st.hd.length k->k=st.hd.length:=λ{k} h=>by
     induction h with
     |refl=>rfl
     |step _ e ih=>rw[ih] at e;exact absurd (wB me.fL e).1 (Wg _)
    exact absurd (b z) zj
  ·by_cases zj:j=st.hd.length
   ·rw[zj,nW,kg (by omega)];have:=me.wf.xr (i:=i) (by omega);refine⟨λz=>by omega,λz=>?_⟩;have:=Zcn me.fL z (by omega);omega
   ·rw[kg (by omega),kg (by omega)];exact me.conn i j (by omega) (by omega)
theorem ZeJ:dk n ⟨[],[],[],[]⟩ []:=⟨wf0,λ_ h=>(nomatch h),λf=>⟨λ_=>⟨λ_ h=>absurd h (Wm _),λ_ h=>(nomatch h)⟩,λ_=>⟨λ_=>0,λ_ h=>absurd h (Wm _)⟩⟩,⟨λ_=>0,λ_=>0,λ_ h=>absurd h (Wm _)⟩,λ_ _ h=>absurd h (Wm _)⟩
end
theorem bJ.mono(h:∀x y t,eP F x y t->eP G x y t)(c:bJ F x y):bJ G x y:=by
 induction c with
 |refl=>exact .refl
 |step _ e ih=>exact .step ih (h _ _ _ e)
theorem bJ.trans(c:bJ F x y)(d:bJ F y z):bJ F x z:=by
 induction d with
 |refl=>exact c
 |step _ e ih=>exact .step ih e
theorem Et(h:c.k=aY):bJ (F++[c]) x y↔bJ F x y:=
 ⟨bJ.mono λ_ _ _ e=>(mF.mp e).elim id λz=>absurd h z.1,bJ.mono λ_ _ _ e=>mF.mpr (.inl e)⟩
theorem Za6(h:c.k≠aY):bJ (F++[c]) x y↔bJ F x y\/(bJ F x c.one/\bJ F c.aK.toNat y)\/(bJ F x c.aK.toNat/\bJ F c.one y):=by
 have up:∀{x y:Nat},bJ F x y->bJ (F++[c]) x y:=λd=>d.mono λ_ _ _ e=>mF.mpr (.inl e);have e1:eP (F++[c]) c.one c.aK.toNat c.tn:=mF.mpr (.inr ⟨h,.inl ⟨rfl,rfl,rfl⟩⟩);have e2:eP (F++[c]) c.aK.toNat c.one (inv c.tn):=mF.mpr (.inr ⟨h,.inr ⟨rfl,rfl,rfl⟩⟩);constructor
 ·intro d;induction d with
  |refl=>exact .inl .refl
  |step _ e ih=>
   rcases mF.mp e with e|⟨_,⟨rfl,rfl,_⟩|⟨rfl,rfl,_⟩⟩
   ·rcases ih with a|⟨a,b⟩|⟨a,b⟩;·exact .inl (.step a e)
    ·exact .inr (.inl ⟨a,.step b e⟩)
    ·exact .inr (.inr ⟨a,.step b e⟩)
   ·rcases ih with a|⟨a,b⟩|⟨a,b⟩;·exact .inr (.inl ⟨a,.refl⟩)
    ·exact .inr (.inl ⟨a,.refl⟩)
    ·exact .inl a
   ·rcases ih with a|⟨a,b⟩|⟨a,b⟩;·exact .inr (.inr ⟨a,.refl⟩)
    ·exact .inl a
    ·exact .inr (.inr ⟨a,.refl⟩)
 ·rintro(a|⟨a,b⟩|⟨a,b⟩);·exact up a
  ·exact((up a).step e1).trans (up b)
  ·exact((up a).step e2).trans (up b)
section
variable {n i j:Nat}{st dQ:JS}{F:List Fc}{k:Str}{tn:List Int}{b:Bool}
theorem Za7(me:dk n st F)(to:P2 n st dQ b i j tn)(hk:k≠aY)(ok:dB n st.hd.length ⟨k,i,(j:Int),tn⟩):(b=true->dk n dQ (F++[⟨k,i,(j:Int),tn⟩]))/\(b=false->dk n dQ F/\∀f,c5 dQ f->¬eQ f ⟨k,i,(j:Int),tn⟩):=by
 have sat:∀f,eQ f ⟨k,i,(j:Int),tn⟩↔f j=ap tn (f i):=λf=>⟨λh=>by have:=h.2 hk;rwa [show((⟨k,i,(j:Int),tn⟩:Fc).aK.toNat)=j from Y5 j] at this,λh=>⟨λz=>absurd z hk,λ_=>by rw[show((⟨k,i,(j:Int),tn⟩:Fc).aK.toNat)=j from Y5 j];exact h⟩⟩;refine⟨λe=>?_,λe=>?_⟩
 ·obtain⟨lv,iff⟩:=to.yes e;have hi:i<st.hd.length:=ok.one;have hj:j<st.hd.length:=by
   have:=(ok.gF hk).1.2
   rwa [show((⟨k,i,(j:Int),tn⟩:Fc).aK.toNat)=j from Y5 j] at this
  refine me.put ok to.wf to.len lv (λf=>by rw[iff,sat]) λx y hx hy=>?_;rw[to.hds e x y hx hy,Za6 (c:=⟨k,i,(j:Int),tn⟩) hk,show((⟨k,i,(j:Int),tn⟩:Fc).aK.toNat)=j from Y5 j,me.conn x y hx hy,me.conn x i hx hi,me.conn x j hx hj,←me.conn j y hj hy,←me.conn i y hi hy];exact or_congr_right (or_congr (and_congr_right λ_=>eq_comm) (and_congr_right λ_=>eq_comm))
 ·obtain⟨es,no⟩:=to.no e;rw[es];exact⟨me,λf d z=>no f d ((sat f).mp z)⟩
theorem Oe(me:dk n st F)(hi:i<st.hd.length)(m:a∈(st.bR (st.ae i)).map λz=>(st.bI i).getD z.toNat 0):dk n (st.kB (st.ae i) ((st.bR (st.ae i)).filter λz=>decide ((st.bI i).getD z.toNat 0∈[a]))) (F++[⟨aY,i,a,tn⟩]):=by
 refine me.put (c:=⟨aY,i,a,tn⟩) ⟨hi,λz=>absurd rfl z⟩ (me.wf.kB hi) rfl ?_ (λf=>?_) λx y hx hy=>?_
 ·obtain⟨z,mz,rfl⟩:=Ye.mp m;obtain⟨f0,d0⟩:=me.live;obtain⟨f,d,q⟩:=wj me.wf d0 (st.ae i) (st.ae i) z z mz mz (λ_=>rfl);exact⟨f,(vW me.wf hi _ f).mpr ⟨d,by rw[(q i hi).1 rfl];exact Yf⟩⟩
 ·rw[vW me.wf hi,Ym];refine and_congr_right λ_=>?_;exact⟨λh=>⟨λ_=>h,λz=>absurd rfl z⟩,λh=>h.1 rfl⟩
 ·rw[Et rfl];exact me.conn x y hx hy
theorem Zd0(me:dk n st F)(hi:i<st.hd.length)(m:a∉(st.bR (st.ae i)).map λz=>(st.bI i).getD z.toNat 0)(f:Nat->Int)(d:c5 st f):¬eQ f ⟨aY,i,a,tn⟩:=by
 obtain⟨s,h⟩:=d;intro z;have e:f i=a:=z.1 rfl;refine m (Ye.mpr ⟨s (st.ae i),(h i hi).1,?_⟩);rw[←e,(h i hi).2];rfl
end
abbrev bo:=List (Str×Str)
def aq(ps:bo)(i:Nat):Str:=(ps.getD i ("","")).1
def bg(ps:bo)(c:Fc):Key:=if c.k=aY then .inl c.aK else .inr (aq ps c.aK.toNat)
def dJ(ps:bo)(z:Nat)(c:Fc):List Key:=[.inl (z:Int),.inr c.k,.inr (aq ps c.one),bg ps c]
def keyOf(k a:Str):Key->List Key
 |.inl b=>[.inr k,.inr a,.inl b]
 |.inr b=>if k="sibling" then[.inr k,.inr (L2.pZ a b),.inr (L2.p_ a b)] else[.inr k,.inr a,.inr b]
def eU(ps:bo)(c:Fc):List Key:=keyOf c.k (aq ps c.one) (bg ps c)
def cG(k:Str):Bool:=decide (k="mother")||decide (k="father")
def fh(ps:bo)(fs:List (Nat×Fc)):List (List Key×V):=fs.map λp=>(eU ps p.2,.int (p.1:Int))
def cv(ps:bo)(fs:List (Nat×Fc)):List (List Key×V):=(fs.filter λp=>cG p.2.k).map λp=>([.inr p.2.k,.inr (aq ps p.2.one)],kV (bg ps p.2))
def i8(ps:bo):List (Key×V):=ps.zipIdx.map λp=>(.inr p.1.1,.int (p.2:Int))
structure Ai where
 way:Int
 row:List Key
 c0:Nat
 c1:Nat
def mO(H:Hp)(a:Addr)(d:Ai):Prop:=∃r,H a=some (.tup [.int d.way,.ref r,.int (d.c0:Int),.int (d.c1:Int)])/\H r=some (.tup (d.row.map kV))
structure BS where
 ps:bo
 fs:List (Nat×Fc)
 co:Nat
 dn:List Ai
 un:List Ai
def BS.F(b:BS):List Fc:=b.fs.map (·.2)
structure BL where
 h:Addr
 L:Addr
 sd:Addr
 pl:Addr
 fc:Addr
 kn:Addr
 pr:Addr
 dn:Addr
 un:Addr
 rk:V
 bV:List Addr
 gZ:List Addr
 jS:List Addr
 d9:List Addr
def BL.own(l:BL):List Addr:=[l.h,l.sd,l.pl,l.fc,l.kn,l.pr,l.dn,l.un]
def BL.fp(l:BL):List Addr:=l.own++l.d9
structure fG(K:PySem.W.Frag)(C:Addr):Prop where
 cls:ig K C
 ux:dD K C "land"
 qU:dD K C "sides"
 qQ:dD K C "places"
 uq:dD K C "facts"
 zA:dD K C "known"
 uc:dD K C "parents"
 pJ:dD K C "coming"
 P5:dD K C "done"
 MV:dD K C "undone"
 hE:dD K C "reckoned"
abbrev HF(L sd pl fc kn pr:Addr)(co:Int)(dn un:Addr)(rk:V):List (Str×V):=[("land",.ref L),("sides",.ref sd),("places",.ref pl),("facts",.ref fc),("known",.ref kn),("parents",.ref pr),("coming",.int co),("done",.ref dn),("undone",.ref un),("reckoned",rk)]
theorem ZfB(a b c d e f g h i j:V):cN "reckoned" j (cN "undone" i (cN "done" h (cN "coming" g (cN "parents" f (cN "known" e (cN "facts" d (cN "places" c (cN "sides" b (cN "land" a [])))))))))=
  ([("land",a),("sides",b),("places",c),("facts",d),("known",e),("parents",f),("coming",g),("done",h),("undone",i),("reckoned",j)]:List (Str×V)):=rfl
abbrev fX(ps:bo):List (Key×V):=ps.map λp=>(.inr p.1,.str p.2)
inductive rT(H:Hp)(CJ:Addr)(n:Nat)(l:BL)(b:BS):Prop
 |no (e1:l.rk=.ay) (e2:l.d9=[])
 |at_ (jl:JL) (st:JS) (e1:l.rk=.ref jl.J) (e2:l.d9=jl.fp) (ja:cB H CJ n jl st) (me:dk n st b.F) (len:st.hd.length=b.ps.length) (eV:∀a∈l.own,a∉jl.fp)
structure a8(H:Hp)(C CL CJ:Addr)(l:BL)(xs ys:List Int)(b:BS):Prop where
 obj:∃dx,H l.h=some (.ins C dx (HF l.L l.sd l.pl l.fc l.kn l.pr (b.co:Int) l.dn l.un l.rk))
 land:∀H',Out l.fp H H'->hX H' CL l.L xs ys
 cW:H l.sd=some (.dK (fX b.ps))
 places:H l.pl=some (.dK (i8 b.ps))
 facts:H l.fc=some (.dK (aX (b.fs.map (·.1)) l.bV))
 fact:Paired (λa (p:Nat×Fc)=>H a=some (.tup ((dJ b.ps p.1 p.2).map kV))) l.bV b.fs
 known:H l.kn=some (.dT (fh b.ps b.fs))
 parents:H l.pr=some (.dT (cv b.ps b.fs))
 done:H l.dn=some (.lst (l.gZ.map V.ref))
 kJ:Paired (mO H) l.gZ b.dn
 hZ:H l.un=some (.lst (l.jS.map V.ref))
 mP:Paired (mO H) l.jS b.un
 rD:rT H CJ xs.length l b
 nd:l.own.Nodup
theorem mO.out(o:Out fp H H')(t:∀a xs,H a=some (.tup xs)->a∉fp)(h:mO H a d):mO H' a d:=by
 obtain⟨r,h1,h2⟩:=h;exact⟨r,o _ _ h1 (t _ _ h1),o _ _ h2 (t _ _ h2)⟩
theorem cB.off(j:cB H C n l st)(h:H a=some (.tup xs)):a∉l.fp:=by
 intro z;unfold JL.fp at z;simp only[Yp] at z;rcases z with rfl|rfl|rfl|rfl|rfl|z
 ·obtain⟨dx,e⟩:=j.obj
  grind
 ·rw[j.heads] at h;cases h
 ·rw[j.h_] at h;cases h
 ·rw[j.jk] at h;cases h
 ·rw[j.frees] at h;cases h
 ·obtain⟨y,e⟩:=v9 j.mem z
  grind
theorem cB.jG(j:cB H C n l st)(o:Out fp H H')(d1:∀a∈fp,a∉l.fp)(d2:∀a∈fp,a∉l.bV)(t:∀a xs,H a=some (.tup xs)->a∉fp):cB H' C n l st:=by
 have k:∀{a:Addr} {u:HO},H a=some u->a∈l.fp->H' a=some u:=λ{a u} e m=>o _ _ e λz=>d1 _ z m;obtain⟨dx,e⟩:=j.obj;refine⟨⟨dx,k e (by simp[JL.fp])⟩,k j.heads (by simp[JL.fp]),k j.h_ (by simp[JL.fp]),L2.Paired.bw j.lead λa x h=>o _ _ h (t _ _ h),k j.jk (by simp[JL.fp]),?_,k j.frees (by simp[JL.fp]),?_,j.nd,j.out⟩
 ·have aux:∀{as:List Addr} {ps:List (Nat×List Nat)},Paired (λa p=>H a=some (.lst (dG p.2))) as ps->(∀a∈as,a∈l.fp)->Paired (λa p=>H' a=some (.lst (dG p.2))) as ps:=by
   intro as ps p;induction p with
   |nil=>intro _;exact .nil
   |cons f _ ih=>intro m;exact .cons (k f (m _ Yf)) (ih λa ha=>m a (Yu _ ha))
  exact aux j.mem λa ha=>by simp[JL.fp,ha]
 ·have aux:∀{as:List Addr} {ps:List (Nat×List Int)},Paired (λa p=>H a=some (.lst (p.2.map V.int))) as ps->(∀a∈as,a∈l.bV)->Paired (λa p=>H' a=some (.lst (p.2.map V.int))) as ps:=by
   intro as ps p;induction p with
   |nil=>intro _;exact .nil
   |cons f _ ih=>intro m;exact .cons (o _ _ f λz=>d2 _ z (m _ Yf)) (ih λa ha=>m a (Yu _ ha))
  exact aux j.free λa ha=>ha
section
variable {H H':Hp}{l:BL}{xs ys:List Int}{b:BS}
theorem a8.landAt(h:a8 H C CL CJ l xs ys b):hX H CL l.L xs ys:=h.land H (Out.of (ai.refl _))
theorem a8.tup(h:a8 H C CL CJ l xs ys b)(e:H a=some (.tup us)):a∉l.fp:=by
 intro z;unfold BL.fp BL.own at z;rcases Yt.mp z with z|z
 ·simp only[Yp,Y3,or_false] at z;rcases z with rfl|rfl|rfl|rfl|rfl|rfl|rfl|rfl
  ·obtain⟨dx,q⟩:=h.obj
   grind
  ·rw[h.cW] at e;cases e
  ·rw[h.places] at e;cases e
  ·rw[h.facts] at e;cases e
  ·rw[h.known] at e;cases e
  ·rw[h.parents] at e;cases e
  ·rw[h.done] at e;cases e
  ·rw[h.hZ] at e;cases e
 ·cases h.rD with
  |no _ e2=>grind
  |at_ jl st _ e2 ja=>rw[e2] at z;exact ja.off e z
theorem a8.there(h:a8 H C CL CJ l xs ys b)(z:a∈l.fp):H a≠none:=by
 intro e;unfold BL.fp BL.own at z;rcases Yt.mp z with z|z
 ·simp only[Yp,Y3,or_false] at z;rcases z with rfl|rfl|rfl|rfl|rfl|rfl|rfl|rfl
  ·obtain⟨dx,q⟩:=h.obj
   grind
  ·rw[h.cW] at e;cases e
  ·rw[h.places] at e;cases e
  ·rw[h.facts] at e;cases e
  ·rw[h.known] at e;cases e
  ·rw[h.parents] at e;cases e
  ·rw[h.done] at e;cases e
  ·rw[h.hZ] at e;cases e
 ·cases h.rD with
  |no _ e2=>grind
  |at_ jl st _ e2 ja=>rw[e2] at z;exact ja.ne e z
theorem rT.same(g:ai H H')(h:rT H CJ n l b):rT H' CJ n l b:=by
 cases h with
 |no e1 e2=>exact .no e1 e2
 |at_ jl st e1 e2 ja me len eV=>exact .at_ jl st e1 e2 (ja.same g) me len eV
theorem a8.same(g:ai H H')(h:a8 H C CL CJ l xs ys b):a8 H' C CL CJ l xs ys b:=
 ⟨let⟨dx,e⟩:=h.obj;⟨dx,g _ _ e⟩,λH2 o=>h.land H2 ((Out.of g).trans o),g _ _ h.cW,g _ _ h.places,g _ _ h.facts,L2.Paired.bw h.fact λ_ _ e=>g _ _ e,g _ _ h.known,g _ _ h.parents,g _ _ h.done,L2.Paired.bw h.kJ λ_ _ ⟨r,e1,e2⟩=>⟨r,g _ _ e1,g _ _ e2⟩,g _ _ h.hZ,L2.Paired.bw h.mP λ_ _ ⟨r,e1,e2⟩=>⟨r,g _ _ e1,g _ _ e2⟩,h.rD.same g,h.nd⟩
def dZ(fp sN:List Addr)(H:Hp):Prop:=∀a∈sN,a∈fp\/H a=none
theorem dZ.refl(fp:List Addr)(H:Hp):dZ fp fp H:=λ_ h=>.inl h
theorem EX(o:Out fp H H1)(g:dZ fp sN H)(o2:Out sN H1 H2):Out fp H H2:=λa u e n=>o2 _ _ (o _ _ e n) λz=>(g a z).elim n λq=>by rw[e] at q;cases q
theorem dZ.trans(g:dZ fp sN H)(o:Out fp H H1)(g2:dZ sN ZfC H1):dZ fp ZfC H:=λa z=>by
 rcases g2 a z with q|q;·exact g a q
 ·by_cases m:a∈fp;·exact .inl m
  ·right
   cases e:H a with
   |none=>rfl
   |some u=>rw[o _ _ e m] at q;cases q
theorem dZ.same(s:ai H H1)(g2:dZ fp sN H1):dZ fp sN H:=λa z=>(g2 a z).imp id λq=>s.free q
theorem Za8(me:dk n st F)(m:(k,secs)∈st.fr):secs≠[]:=by
 obtain⟨i,hi,e⟩:=me.wf.hf k (Ye.mpr ⟨_,m,rfl⟩);obtain⟨f,s,d⟩:=me.live;have q:=(d i hi).1;unfold JS.bR at q;rw[e,(mem_lookup me.wf.nf m)] at q
 grind
theorem Zco(ja:cB H CJ n jl st)(me:dk n st b.F)(h:∃dx us,H l.h=some (.ins C dx us))(h2:∃k,H l.sd=some (.dK k))(h3:∃k,H l.pl=some (.dK k))(h4:∃k,H l.fc=some (.dK k))(h5:∃k,H l.kn=some (.dT k))(h6:∃k,H l.pr=some (.dT k))(h7:∃as:List Addr,H l.dn=some (.lst (as.map V.ref)))(h8:∃as:List Addr,H l.un=some (.lst (as.map V.ref))):∀a∈l.own,a∉jl.bV:=by
 intro a ha hf;obtain⟨p,hp,e⟩:∃p∈st.fr,H a=some (.lst (p.2.map V.int)):=by
  have aux:∀{as:List Addr} {ps:List (Nat×List Int)},Paired (λa p=>H a=some (.lst (p.2.map V.int))) as ps->a∈as->∃p∈ps,H a=some (.lst (p.2.map V.int)):=by
   intro as ps pr;induction pr with
   |nil=>intro h;cases h
   |cons f _ ih=>
    intro h;rcases Yp.mp h with rfl|h;·exact⟨_,Yf,f⟩
    ·obtain⟨q,m,e⟩:=ih h;exact⟨q,Yu _ m,e⟩
  exact aux ja.free hf
 have ne:=Za8 me (k:=p.1) (secs:=p.2) hp;have lst:∀as:List Addr,H a=some (.lst (as.map V.ref))->False:=λas q=>by
  rw[q] at e;have e':as.map V.ref=p.2.map V.int:=by injection e with e;injection e
  cases dv:p.2 with
  |nil=>exact ne dv
  |cons x r=>
   rw[dv] at e';cases as with
   |nil=>cases e'
   |cons y s=>injection e' with e1 _;cases e1
 unfold BL.own at ha;simp only[Yp,Y3,or_false] at ha;rcases ha with rfl|rfl|rfl|rfl|rfl|rfl|rfl|rfl;·obtain⟨_,_,q⟩:=h;rw[q] at e;cases e
 ·obtain⟨_,q⟩:=h2;rw[q] at e;cases e
 ·obtain⟨_,q⟩:=h3;rw[q] at e;cases e
 ·obtain⟨_,q⟩:=h4;rw[q] at e;cases e
 ·obtain⟨_,q⟩:=h5;rw[q] at e;cases e
 ·obtain⟨_,q⟩:=h6;rw[q] at e;cases e
 ·obtain⟨_,q⟩:=h7;exact lst _ q
 ·obtain⟨_,q⟩:=h8;exact lst _ q
theorem a8.FY(h:a8 H C CL CJ l xs ys b)(ja:cB H CJ xs.length jl st)(me:dk xs.length st b.F):∀a∈l.own,a∉jl.bV:=
 Zco ja me (let⟨dx,e⟩:=h.obj;⟨dx,_,e⟩) ⟨_,h.cW⟩ ⟨_,h.places⟩ ⟨_,h.facts⟩ ⟨_,h.known⟩ ⟨_,h.parents⟩ ⟨_,h.done⟩ ⟨_,h.hZ⟩
theorem a8.build(h:a8 H C CL CJ l xs ys b)(eh:l'.h=l.h)(eL:l'.L=l.L)(es:l'.sd=l.sd)(ep:l'.pl=l.pl)(ef:l'.fc=l.fc)(ek:l'.kn=l.kn)(er:l'.pr=l.pr)(ed:l'.dn=l.dn)(eu:l'.un=l.un)(o:Out l.fp H H')(g:dZ l.fp l'.fp H)
  (obj:∃dx,H' l.h=some (.ins C dx (HF l.L l.sd l.pl l.fc l.kn l.pr (b'.co:Int) l.dn l.un l'.rk)))(cW:H' l.sd=some (.dK (fX b'.ps)))(places:H' l.pl=some (.dK (i8 b'.ps)))(facts:H' l.fc=some (.dK (aX (b'.fs.map (·.1)) l'.bV)))
  (fact:Paired (λa (p:Nat×Fc)=>H' a=some (.tup ((dJ b'.ps p.1 p.2).map kV))) l'.bV b'.fs)(known:H' l.kn=some (.dT (fh b'.ps b'.fs)))(parents:H' l.pr=some (.dT (cv b'.ps b'.fs)))
  (done:H' l.dn=some (.lst (l'.gZ.map V.ref)))(kJ:Paired (mO H') l'.gZ b'.dn)(hZ:H' l.un=some (.lst (l'.jS.map V.ref)))(mP:Paired (mO H') l'.jS b'.un)(rk:rT H' CJ xs.length l' b'):a8 H' C CL CJ l' xs ys b':=by
 have oe:l'.own=l.own:=by unfold BL.own;rw[eh,es,ep,ef,ek,er,ed,eu]
 refine⟨?_,λH2 o2=>?_,by rw[es];exact cW,by rw[ep];exact places,by rw[ef];exact facts,fact,by rw[ek];exact known,by rw[er];exact parents,by rw[ed];exact done,kJ,by rw[eu];exact hZ,mP,rk,by rw[oe];exact h.nd⟩;·rw[eh,eL,es,ep,ef,ek,er,ed,eu];exact obj
 ·rw[eL];exact h.land H2 (EX o g o2)
theorem a8.owned(h:a8 H C CL CJ l xs ys b)(eh:l'.h=l.h)(eL:l'.L=l.L)(es:l'.sd=l.sd)(ep:l'.pl=l.pl)(ef:l'.fc=l.fc)(ek:l'.kn=l.kn)(er:l'.pr=l.pr)(ed:l'.dn=l.dn)(eu:l'.un=l.un)
  (rk:(l'.rk=l.rk/\l'.d9=l.d9/\b'.F=b.F/\b'.ps.length=b.ps.length)\/(l'.rk=.ay/\l'.d9=[]))(o:Out l.own H H')
  (obj:∃dx,H' l.h=some (.ins C dx (HF l.L l.sd l.pl l.fc l.kn l.pr (b'.co:Int) l.dn l.un l'.rk)))(cW:H' l.sd=some (.dK (fX b'.ps)))(places:H' l.pl=some (.dK (i8 b'.ps)))(facts:H' l.fc=some (.dK (aX (b'.fs.map (·.1)) l'.bV)))
  (fact:Paired (λa (p:Nat×Fc)=>H' a=some (.tup ((dJ b'.ps p.1 p.2).map kV))) l'.bV b'.fs)(known:H' l.kn=some (.dT (fh b'.ps b'.fs)))(parents:H' l.pr=some (.dT (cv b'.ps b'.fs)))
  (done:H' l.dn=some (.lst (l'.gZ.map V.ref)))(kJ:Paired (mO H') l'.gZ b'.dn)(hZ:H' l.un=some (.lst (l'.jS.map V.ref)))(mP:Paired (mO H') l'.jS b'.un):a8 H' C CL CJ l' xs ys b'/\dZ l.fp l'.fp H:=by
 have oe:l'.own=l.own:=by unfold BL.own;rw[eh,es,ep,ef,ek,er,ed,eu]
 have sub:∀a∈l'.fp,a∈l.fp:=λa z=>by
  unfold BL.fp at z⊢;rw[oe] at z;rcases rk with⟨_,e,_⟩|⟨_,e⟩;·rw[e] at z;exact z
  ·rw[e,Y8] at z;exact Ys _ z
 have of:Out l.fp H H':=λa u e n=>o _ _ e λz=>n (Ys _ z);refine⟨⟨?_,λH2 o2=>?_,by rw[es];exact cW,by rw[ep];exact places,by rw[ef];exact facts,fact,by rw[ek];exact known,by rw[er];exact parents,by rw[ed];exact done,kJ,by rw[eu];exact hZ,mP,?_,by rw[oe];exact h.nd⟩,λa z=>.inl (sub a z)⟩;·rw[eh,eL,es,ep,ef,ek,er,ed,eu];exact obj
 ·rw[eL];exact h.land H2 (EX of (λa z=>.inl (sub a z)) o2)
 ·rcases rk with⟨r1,r2,r3,r4⟩|⟨r1,r2⟩
  ·cases h.rD with
   |no e1 e2=>exact .no (by rw[r1];exact e1) (by rw[r2];exact e2)
   |at_ jl st e1 e2 ja me len eV=>
    exact .at_ jl st (by rw[r1];exact e1) (by rw[r2];exact e2) (ja.jG o eV (h.FY ja me) λa us e=>λz=>h.tup e (Ys _ z)) (by rw[r3];exact me) (by rw[r4];exact len) (by rw[oe];exact eV)
  ·exact .no r1 r2
end
abbrev qb:List (Str×Str):=[("mother","m"),("father","f"),("wed","w"),("sibling","s")]
abbrev pW(xs ys:List Int):List (Str×List Int):=[("mother",inv xs),("father",inv (bF xs ys)),("wed",ys),("sibling",bh xs.length)]
structure dN(xs ys:List Int)(m:Nat)(c:Fc):Prop where
 ok:dB xs.length m c
 kind:c.k=aY\/(c.k,c.tn)∈pW xs ys
 GQ:c.k=aY->0<=c.aK/\c.aK<(xs.length:Int)
theorem YS:(aY,tn)∉pW xs ys:=by
 intro h;simp only[Yp,Y3,or_false] at h;rcases h with⟨h,_⟩|⟨h,_⟩|⟨h,_⟩|⟨h,_⟩<;>exact absurd h (by decide+kernel)
theorem C4(h:(k,tn)∈pW xs ys):∃r,PyProof.Rows.KTD.datumAt k qb=some r/\(r,tn)∈zN xs ys:=by
 simp only[Yp,Y3,or_false] at h;rcases h with⟨rfl,rfl⟩|⟨rfl,rfl⟩|⟨rfl,rfl⟩|⟨rfl,rfl⟩;·exact⟨"m",by decide+kernel,by simp⟩
 ·exact⟨"f",by decide+kernel,by simp⟩
 ·exact⟨"w",by decide+kernel,by simp⟩
 ·exact⟨"s",by decide+kernel,by simp⟩
theorem dN.uD(g:dN xs ys m c)(h:c.k≠aY):(c.k,c.tn)∈pW xs ys:=g.kind.resolve_left h
theorem Za9(gd:mS xs ys)(h:(k,tn)∈pW xs ys):full tn=true/\tn.length=xs.length:=by
 obtain⟨r,_,h2⟩:=C4 h;exact YR gd h2
theorem qV(nd:(ps.map (·.1)).Nodup)(hi:i<ps.length):aO (i8 ps) (.inr (aq ps i))=some (.int (i:Int)):=by
 have aux:∀(ps:bo) (k i:Nat),(ps.map (·.1)).Nodup->i<ps.length->aO ((ps.zipIdx k).map λp=>((.inr p.1.1:Key),V.int (p.2:Int))) (.inr (aq ps i))=some (.int ((k+i:Nat):Int)):=by
  intro ps;induction ps with
  |nil=>intro k i _ h;cases h
  |cons p ps ih=>
   intro k i nd hi;obtain⟨n1,n2⟩:=Yz.mp (show(p.1::ps.map (·.1)).Nodup from nd);rw[List.zipIdx_cons,Wl];cases i with
   |zero=>exact fE rfl
   |succ i=>
    have ir:i<ps.length:=by simpa using hi
    have e:aq (p::ps) (i+1)=aq ps i:=rfl;have m:aq ps i∈ps.map (·.1):=by
     unfold aq;rw[Yl,Yb ir];exact Ye.mpr ⟨_,Jf ir,rfl⟩
    rw[e,eX (λz=>n1 (by rw[Wk z];exact m)),ih (k+1) i n2 ir]
    congr 2
    omega
 have:=aux ps 0 i nd hi
 rwa [Nat.zero_add] at this
theorem jz(h:c.k=aY):bg ps c=.inl c.aK:=if_pos h
theorem hJ(h:c.k≠aY):bg ps c=.inr (aq ps c.aK.toNat):=if_neg h
inductive MW(vs:List V)(H:Hp)(Q:VK):Prop
 |mk (k:Str) (aC:vs=[.str k]) (aT:Q (.bl (mX qb k)) H):MW vs H Q
def Fq:Sp:=λvs H Q _=>MW vs H Q
inductive K4(CL:Addr)(vs:List V)(H:Hp)(Q:VK):Prop
 |mk (L:Addr) (k:Str) (xs ys tn:List Int) (aC:vs=[.ref L,.str k]) (aT:hX H CL L xs ys) (bc:(k,tn)∈pW xs ys) (bK:∀t:Addr,bQ H t tn->Q (.ref t) H):K4 CL vs H Q
def Eu(CL:Addr):Sp:=λvs H Q _=>K4 CL vs H Q
inductive P6(vs:List V)(H:Hp)(Q:VK):Prop
 |mk (k a:Str) (o:Key) (aC:vs=[.str k,.str a,kV o]) (aT:k="sibling"->∃b,o=.inr b) (bc:Nw H (.tup ((keyOf k a o).map kV)) Q):P6 vs H Q
def z5:Sp:=λvs H Q _=>P6 vs H Q
inductive MX(CL CJ:Addr)(vs:List V)(H:Hp)(Q:VK):Prop
 |mk (jl:JL) (st:JS) (L pl fa:Addr) (xs ys:List Int) (ps:bo) (F:List Fc) (z:Nat) (c:Fc) (aC:vs=[.ref jl.J,.ref L,.ref pl,.ref fa]) (ja:cB H CJ xs.length jl st) (me:dk xs.length st F) (la:hX H CL L xs ys) (gd:mS xs ys) (hp:H pl=some (.dK (i8 ps))) (nd:(ps.map (·.1)).Nodup) (len:st.hd.length=ps.length) (m4:ps.length<=100) (hf:H fa=some (.tup ((dJ ps z c).map kV))) (fg:dN xs ys ps.length c) (lv:∃f,c5 st f/\eQ f c)
   (q:∀(v:V) (gH:JL) (aI:JS) (H':Hp),gH.J=jl.J->(∀a∈gH.fp,a∈jl.fp)->Out jl.fp H H'->cB H' CJ xs.length gH aI->dk xs.length aI (F++[c])->aI.hd.length=st.hd.length->Q v H'):MX CL CJ vs H Q
def Fs(CL CJ:Addr):Sp:=λvs H Q _=>MX CL CJ vs H Q
inductive Of(CL CJ:Addr)(vs:List V)(H:Hp)(Q:VK):Prop
 |mk (jl:JL) (st:JS) (L pl fa:Addr) (xs ys:List Int) (ps:bo) (F:List Fc) (z:Nat) (c:Fc) (aC:vs=[.ref jl.J,.ref L,.ref pl,.ref fa]) (ja:cB H CJ xs.length jl st) (me:dk xs.length st F) (la:hX H CL L xs ys) (gd:mS xs ys) (hp:H pl=some (.dK (i8 ps))) (nd:(ps.map (·.1)).Nodup) (len:st.hd.length=ps.length) (m4:ps.length<=100) (hf:H fa=some (.tup ((dJ ps z c).map kV))) (fg:dN xs ys ps.length c)
   (q1:(∃f,c5 st f/\eQ f c)->∀H',ai H H'->Q (.bl true) H') (q2:(∀f,c5 st f->¬eQ f c)->∀H',ai H H'->Q (.bl false) H'):Of CL CJ vs H Q
def P7(CL CJ:Addr):Sp:=λvs H Q _=>Of CL CJ vs H Q
theorem zB:∀b:Bool,decide (V.str k=V.str aY)=b->(b=true↔k=aY):=λb e=>by
 grind
section
variable {mw:Addr}
theorem ZZ:aN ["kind"] ["kind"] (aH EO):=.aU
theorem Z0(F:aJ K "is_tie" "is_tie" EO f fd)(tL:mg "TIE_LETTERS"=some (.ref mw))(tb:uK K mw qb):aG P w K mg base aM 1 f fd ["kind"] Fq:=by
 refine F.o ZZ λaB A outer s H vs Q E hr h=>?_;obtain⟨k,rfl,q⟩:=h;refine⟨_,(au (aF (zo (ZdA (K:=K) rfl) (pv 0) (dq (v:=.ref mw) rfl tL rfl) (by with_unfolding_all rfl)))),?_⟩;exact⟨_,rfl,k,mw,qb,rfl,rfl,tb,q⟩
theorem Xx:aN ["land","kind"] ["land","kind"] (aH DO):=.aU
theorem Xy(F:aJ K "tie_turn" "tie_turn" DO f fd)(tL:mg "TIE_LETTERS"=some (.ref mw))(tb:uK K mw qb)(lc:uC K CL)(ui:HasFn P w K mg base 1 "is_tie" ["kind"] Fq)(Dw:bT P w K mg base 1 "step" CL ["self","letter"] (PR CL)):aG P w K mg base aM 2 f fd ["land","kind"] (Eu CL):=by
 refine F.o Xx λaB A outer s H vs Q E hr h=>?_;obtain⟨L,k,xs,ys,tn,rfl,la,hk,q⟩:=h;refine⟨_,(ak (aR (jg (eN (aP ui hr (aa (pv 1) ag)))) fD aW) (au (aF (cC Dw hr (by omega) (pv 0) (aa (a_ (ZbZ (K:=K) rfl) (dq (v:=.ref mw) rfl tL rfl) (pv 1)) ag))))),?_⟩;obtain⟨r,dr,hs⟩:=C4 hk;have ht:mX qb k=true:=by unfold mX;rw[dr];rfl
 obtain⟨dx,d,mo,iy,wi,im,jf,iw,st,h1,_⟩:=id la;refine⟨_,rfl,k,rfl,_,rfl,?_⟩;rw[ht];refine bY (aV ?_);exact⟨_,rfl,L,dx,_,rfl,h1,rfl,_,rfl,mw,k,r,qb,rfl,rfl,tb,dr,L,r,xs,ys,tn,rfl,la,hs,q⟩
theorem Xz:aN ["kind","one","other"] ["kind","one","other"] (aH DP):=.aU
theorem XA(F:aJ K "fact_key" "fact_key" DP f fd)(nX:mg "SIBLING"=some (.str "sibling" t1))(bl:Bl mg):aG P w K mg base aM 1 f fd ["kind","one","other"] z5:=by
 refine F.o Xz λaB A outer s H vs Q E hr h=>?_;obtain⟨k,a,o,rfl,hs,q⟩:=h;refine⟨_,(ak (aR (bA cq (pv 0) (dq (v:=.str "sibling") rfl nX ⟨_,rfl⟩)) (au (aF (dz (aa (pv 0) (aa (iJ (YG rfl) rfl bl.Zep Zc8 (aa (pv 1) (aa (pv 2) ag))) (aa (iJ (YH rfl) rfl bl.Zeq ZdN (aa (pv 1) (aa (pv 2) ag))) ag)))))) aW) (au (aF (dz (aa (pv 0) (aa (pv 1) (aa (pv 2) ag))))))),?_⟩;refine⟨_,rfl,rfl,_,rfl,?_⟩;by_cases e:k="sibling"
 ·obtain⟨b,rfl⟩:=hs e;rw[decide_eq_true (by rw[e])];refine⟨_,rfl,_,rfl,_,rfl,_,_,rfl,_,rfl,_,rfl,_,_,rfl,by show 3<=sizeLine;decide,?_⟩;have ek:keyOf k a (.inr b)=[.inr k,.inr (L2.pZ a b),.inr (L2.p_ a b)]:=if_pos e;rw[ek] at q;exact q
 ·rw[decide_eq_false (λz=>e (V.str.inj z))];refine⟨_,rfl,_,rfl,_,rfl,by show 3<=sizeLine;decide,?_⟩;have ek:(keyOf k a o).map kV=[.str k,.str a,kV o]:=by
   cases o with
   |inl i=>rfl
   |inr b=>
    have:keyOf k a (.inr b)=[.inr k,.inr a,.inr b]:=if_neg e;rw[this];rfl
  rw[ek] at q;exact q
theorem vT:aN ["joins","land","places","fact","number","kind","one","other"] ["joins","land","places","fact"] (aH Dc):=.aU
theorem WJ(F:aJ K "keep_fact" "keep_fact" Dc f fd)(ko:mg "SAID"=some (.str "said" t1))(tZ:HasFn P w K mg base 2 "tie_turn" ["land","kind"] (Eu CL))(Dx:bT P w K mg base 3 "say" CJ ["self","one","section"] (QQ CJ))(Dy:bT P w K mg base 5 "tie" CJ ["self","one","other","turn"] (QS CJ)):aG P w K mg base aM 6 f fd ["joins","land","places","fact"] (Fs CL CJ):=by
 refine F.o vT λaB A outer s H vs Q E hr h=>?_;obtain⟨jl,st,L,pl,fa,xs,ys,ps,FF,z,c,rfl,ja,me,la,gd,hp,nd,len,m4,hf,fg,lv,q⟩:=h;refine⟨_,(ak (mK (pv 3) (hV (K:=K) (n:=4) rfl rfl (bL (bj 4 vT.nd) (bL (bj 5 vT.nd) (bL (bj 6 vT.nd) (bL (bj 7 vT.nd) hU)))))) (ak (aR (bA cq (pv 5) (dq (v:=.str "said") rfl ko ⟨_,rfl⟩)) (au (aF (cC Dx hr (by omega) (pv 0) (aa (c_ (bu hr) (pv 2) (pv 6) (λ_ _=>rfl)) (aa (pv 7) ag))))) aW) (au (aF (cC Dy hr (by omega) (pv 0) (aa (c_ (bu hr) (pv 2) (pv 6) (λ_ _=>rfl)) (aa (c_ (bu hr) (pv 2) (pv 7) (λ_ _=>rfl)) (aa (aP tZ hr (aa (pv 1) (aa (pv 5) ag))) ag)))))))),?_⟩;obtain⟨dx,ho⟩:=ja.obj;have p1:=qV nd fg.ok.one;have n8:xs.length<=8:=gd.2.2.2.2;have hi:c.one<st.hd.length:=by rw[len];exact fg.ok.one
 refine⟨_,rfl,fa,_,rfl,aA.of hf,rfl,_,_,rfl,bb ⟨_,_,rfl,bb ⟨_,_,rfl,bb ⟨_,_,rfl,bb ⟨rfl,?_⟩⟩⟩⟩⟩;refine⟨_,rfl,rfl,_,rfl,bB (λcc=>?_) (λcc=>aV ?_)⟩
 ·have e:c.k=aY:=(zB _ rfl).mp cc;have eo:kV (bg ps c)=.int c.aK:=by rw[jz e];rfl
  refine⟨_,rfl,jl.J,dx,_,rfl,ho,rfl,_,rfl,_,rfl,pl,_,rfl,cV hp p1,_,rfl,?_⟩;have one:=me.wf.one n8 hi;have x_:=me.wf.z4;obtain⟨f0,d0,s0⟩:=lv;obtain⟨s0',h0⟩:=id d0;have mm:c.aK∈(st.bR (st.ae c.one)).map (λz=>(st.bI c.one).getD z.toNat 0):=Ye.mpr ⟨s0' (st.ae c.one),(h0 c.one hi).1,by rw[←s0.1 e,(h0 c.one hi).2];rfl⟩;refine⟨jl,st,xs.length,c.one,_,_,_,c.aK,?_,ja,one,by omega,λ_ l' H' k1 k2 o3 j3=>?_,λno=>absurd mm no⟩
  ·show[V.ref jl.J,V.int (c.one:Int),kV (bg ps c)]=_;rw[eo]
  ·have ec:c=⟨aY,c.one,c.aK,c.tn⟩:=by rw[←e]
   refine q _ l' _ H' k1 (λa ha=>by rw[k2] at ha;exact ha) o3 j3 ?_ rfl;rw[ec];exact Oe me hi mm
 ·have e:c.k≠aY:=λz=>cc ((zB _ rfl).mpr z);obtain⟨⟨o0,om⟩,ft,tl⟩:=fg.ok.gF e;have eo:kV (bg ps c)=.str (aq ps c.aK.toNat):=by rw[hJ e];rfl
  have p2:=qV nd om;have hj:c.aK.toNat<st.hd.length:=by rw[len];exact om
  refine⟨_,rfl,jl.J,dx,_,rfl,ho,rfl,_,rfl,_,rfl,pl,_,rfl,cV hp p1,_,rfl,_,rfl,pl,.int (c.aK.toNat:Int),rfl,?_,_,rfl,_,rfl,L,c.k,xs,ys,c.tn,rfl,la,fg.uD e,λt ht=>?_⟩
  ·show dX H pl (kV (bg ps c)) _;rw[eo];exact cV hp p2
  refine⟨jl,st,xs.length,c.one,c.aK.toNat,c.tn,t,rfl,ja,me.wf,me.live,n8,by omega,hi,hj,ht,ft,tl,λb l' aI H' k1 k2 o3 j3 to=>?_⟩;have ec:c=⟨c.k,c.one,(c.aK.toNat:Int),c.tn⟩:=by rw[Ju o0]
  have ZfD:dB xs.length st.hd.length ⟨c.k,c.one,(c.aK.toNat:Int),c.tn⟩:=by rw[←ec,len];exact fg.ok
  obtain⟨tm,tf⟩:=Za7 me to e ZfD;have eb:b=true:=by
   cases eb:b with
   |true=>rfl
   |false=>
    obtain⟨f0,d0,s0⟩:=lv;obtain⟨es,no⟩:=to.no eb;exact absurd (s0.2 e) (no f0 d0)
  refine q _ l' aI H' k1 k2 o3 j3 ?_ to.len;have:=tm eb;rw[←ec] at this;exact this
theorem vU:aN ["joins","land","places","fact","number","kind","one","other"] ["joins","land","places","fact"] (aH Dd):=.aU
theorem WK(F:aJ K "fact_fits" "fact_fits" Dd f fd)(ko:mg "SAID"=some (.str "said" t1))(tZ:HasFn P w K mg base 2 "tie_turn" ["land","kind"] (Eu CL))(jx:bT P w K mg base 2 "open_at" CJ ["self","one"] (wo CJ))(tP:bT P w K mg base 4 "left" CJ ["self","one","other","turn"] (FV CJ)):aG P w K mg base aM 5 f fd ["joins","land","places","fact"] (P7 CL CJ):=by
 refine F.o vU λaB A outer s H vs Q E hr h=>?_;obtain⟨jl,st,L,pl,fa,xs,ys,ps,FF,z,c,rfl,ja,me,la,gd,hp,nd,len,m4,hf,fg,q1,q2⟩:=h;have hu:=hr.uu;refine⟨_,(ak (mK (pv 3) (hV (K:=K) (n:=4) rfl rfl (bL (bj 4 vU.nd) (bL (bj 5 vU.nd) (bL (bj 6 vU.nd) (bL (bj 7 vU.nd) hU)))))) (ak (aR (bA cq (pv 5) (dq (v:=.str "said") rfl ko ⟨_,rfl⟩)) (au (aF (zo (lW (K:=K) rfl) (pv 7) (cC jx hr (by omega) (pv 0) (aa (c_ (bu hr) (pv 2) (pv 6) (λ_ _=>rfl)) ag)) (by with_unfolding_all rfl)))) aW) (au (aF (eC (NV (K:=K) rfl (ZdD hu)) (cC tP hr (by omega) (pv 0) (aa (c_ (bu hr) (pv 2) (pv 6) (λ_ _=>rfl)) (aa (c_ (bu hr) (pv 2) (pv 7) (λ_ _=>rfl)) (aa (aP tZ hr (aa (pv 1) (aa (pv 5) ag))) ag)))) (c8 ag)))))),?_⟩;obtain⟨dx,ho⟩:=ja.obj;have p1:=qV nd fg.ok.one;have n8:xs.length<=8:=gd.2.2.2.2;have hi:c.one<st.hd.length:=by rw[len];exact fg.ok.one
 refine⟨_,rfl,fa,_,rfl,aA.of hf,rfl,_,_,rfl,bb ⟨_,_,rfl,bb ⟨_,_,rfl,bb ⟨_,_,rfl,bb ⟨rfl,?_⟩⟩⟩⟩⟩;refine⟨_,rfl,rfl,_,rfl,bB (λcc=>?_) (λcc=>aV ?_)⟩
 ·have e:c.k=aY:=(zB _ rfl).mp cc;have eo:kV (bg ps c)=.int c.aK:=by rw[jz e];rfl
  have one:=me.wf.one n8 hi;refine⟨_,rfl,_,rfl,jl.J,dx,_,rfl,ho,rfl,_,rfl,_,rfl,pl,_,rfl,cV hp p1,jl,st,xs.length,c.one,_,_,_,rfl,ja,one.hd,one.ld,one.fr,one.e_,one.eT,λp ns H1 np g1 pm so oS=>⟨p,_,rfl,.inl (aj.of oS),?_,zc ns,?_⟩⟩
  ·show iO (kV (bg ps c))=true;rw[eo];rfl
  show Q (.bl (if(false:Bool)=true then !eZ (kV (bg ps c)) (ns.map V.int) else eZ (kV (bg ps c)) (ns.map V.int))) H1;rw[if_neg Yj,eo,wz];have ec:c=⟨aY,c.one,c.aK,c.tn⟩:=by rw[←e]
  by_cases m:c.aK∈ns
  ·rw[decide_eq_true m];refine q1 ?_ H1 g1;have Tn:=Oe (tn:=c.tn) me hi (pm.subset m);obtain⟨f,d⟩:=Tn.live;obtain⟨_,s⟩:=(Tn.iff f).mp d;refine⟨f,((vW me.wf hi _ f).mp d).1,?_⟩;rw[ec];exact s _ (Yr _ Yf)
  ·rw[decide_eq_false m];refine q2 (λf d=>?_) H1 g1;rw[ec];exact Zd0 me hi (λz=>m (pm.symm.subset z)) f d
 ·have e:c.k≠aY:=λz=>cc ((zB _ rfl).mpr z);obtain⟨⟨o0,om⟩,ft,tl⟩:=fg.ok.gF e;have eo:kV (bg ps c)=.str (aq ps c.aK.toNat):=by rw[hJ e];rfl
  have p2:=qV nd om;have hj:c.aK.toNat<st.hd.length:=by rw[len];exact om
  have pf:=Oc me.wf n8 hi hj;refine⟨_,rfl,jl.J,dx,_,rfl,ho,rfl,_,rfl,_,rfl,pl,_,rfl,cV hp p1,_,rfl,_,rfl,pl,.int (c.aK.toNat:Int),rfl,?_,_,rfl,_,rfl,L,c.k,xs,ys,c.tn,rfl,la,fg.uD e,λt ht=>?_⟩
  ·show dX H pl (kV (bg ps c)) _;rw[eo];exact cV hp p2
  refine⟨jl,st,xs.length,c.one,c.aK.toNat,_,_,_,_,_,_,c.tn,t,rfl,ja,me.wf.one n8 hi,me.wf.one n8 hj,ht,λp hp=>by rw[tl];exact P0 me.wf hi (x:=p.1) (y:=p.2) hp,Y4 pf (by omega),λp ns H1 np g1 oS pm _=>?_⟩;have ms:=MS pm;refine⟨by show 0<=sizeLine;exact Yw _,λe0 H2 n2 g2 ya=>?_⟩;refine⟨p,e0,ns.map V.int,rfl,rfl,aj.of (g2 _ _ oS),aj.of ya,?_⟩;rw[if_pos rfl];have sat:∀f,eQ f c↔f c.aK.toNat=ap c.tn (f c.one):=λf=>⟨λh=>h.2 e,λh=>⟨λz=>absurd z e,λ_=>h⟩⟩;cases ns with
  |nil=>
   refine q2 (λf d z=>?_) H2 (g1.trans g2);have m:=wq me.wf hi hj d;rw[(sat f).mp z] at m;exact absurd ((ms _).mpr m) (λz=>nomatch z)
  |cons a r=>
   refine q1 ?_ H2 (g1.trans g2);have m:=(ms a).mp Yf;obtain⟨f,d,e1,e2⟩:=MR me.wf hi hj me.live m;exact⟨f,d,(sat f).mpr (by rw[e1,e2])⟩
end
def BS.keys(b:BS):List (List Key):=b.fs.map λp=>eU b.ps p.2
def BS.told(b:BS)(k:List Key):Bool:=(aO (fh b.ps b.fs) k).isSome
structure cg(xs ys:List Int)(b:BS):Prop where
 gd:mS xs ys
 nm:(b.ps.map (·.1)).Nodup
 m:b.ps.length<=64
 fl:b.fs.length<=63
 fg:∀p∈b.fs,dN xs ys b.ps.length p.2
 zs:(b.fs.map (·.1)).Nodup
 lt:∀p∈b.fs,p.1<b.co
 ky:b.keys.Nodup
 pr:((cv b.ps b.fs).map (·.1)).Nodup
 lv:∃f,kT xs.length b.ps.length f/\∀c∈b.F,eQ f c
 dl:b.dn.length<=200
 ul:b.un.length<=200
structure bM(H H':Hp)(l l':BL):Prop where
 h:l'.h=l.h
 out:Out l.fp H H'
 grow:dZ l.fp l'.fp H
theorem bM.of(g:ai H H'):bM H H' l l:=⟨rfl,Out.of g,dZ.refl _ _⟩
theorem bM.trans(a:bM H H1 l l1)(b:bM H1 H2 l1 l2):bM H H2 l l2:=⟨b.h.trans a.h,EX a.out a.grow b.out,a.grow.trans a.out b.grow⟩
theorem bM.same(a:bM H H1 l l1)(g:ai H1 H2):bM H H2 l l1:=⟨a.h,a.out.trans (Out.of g),a.grow⟩
theorem bM.after(g:ai H H1)(a:bM H1 H2 l l1):bM H H2 l l1:=⟨a.h,(Out.of g).trans a.out,a.grow.same g⟩
theorem zf[DecidableEq κ](kvs:List (κ×V))(k:κ):(aO kvs k).isSome=true↔k∈kvs.map (·.1):=by
 induction kvs with
 |nil=>exact⟨(λz=>nomatch z),(λz=>nomatch z)⟩
 |cons p r ih=>
  by_cases e:p.1=k
  ·rw[fE e]
   grind
  ·rw[eX e,ih]
   grind
theorem pA{κ:Type}[DecidableEq κ]{kvs:List (κ×V)}{k:κ}(h:k∉kvs.map (·.1)):aO kvs k=none:=by
 cases e:aO kvs k with
 |none=>rfl
 |some v=>exact absurd ((zf kvs k).mp (by rw[e];rfl)) h
theorem Og{κ:Type}[DecidableEq κ]{kvs:List (κ×V)}{k:κ}{v:V}(nd:(kvs.map (·.1)).Nodup)(h:(k,v)∈kvs):aO kvs k=some v:=by
 induction kvs with
 |nil=>cases h
 |cons p r ih=>
  obtain⟨n1,n2⟩:=Yz.mp (show(p.1::r.map (·.1)).Nodup from nd);rcases Yp.mp h with h|h;·rw[←h];exact fE rfl
  ·rw[eX (λz=>n1 (by rw[z];exact Ye.mpr ⟨_,h,rfl⟩))];exact ih n2 h
theorem Ft(h:i<ps.length):aq ps i∈ps.map (·.1):=by
 unfold aq
 grind
inductive LU(C CL CJ:Addr)(vs:List V)(H:Hp)(Q:VK):Prop
 |mk (l:BL) (b:BS) (xs ys:List Int) (aC:vs=[.ref l.h]) (aT:a8 H C CL CJ l xs ys b) (bc:Nw H (.lst (b.ps.map λp=>V.str p.1)) Q):LU C CL CJ vs H Q
def EY(C CL CJ:Addr):Sp:=λvs H Q _=>LU C CL CJ vs H Q
inductive LV(C CL CJ:Addr)(vs:List V)(H:Hp)(Q:VK):Prop
 |mk (l:BL) (b:BS) (xs ys:List Int) (z:Str) (v:V) (aC:vs=[.ref l.h,.str z]) (aT:a8 H C CL CJ l xs ys b) (bc:aO (fX b.ps) (.inr z)=some v) (bK:Q v H):LV C CL CJ vs H Q
def EZ(C CL CJ:Addr):Sp:=λvs H Q _=>LV C CL CJ vs H Q
inductive P8(C CL CJ:Addr)(vs:List V)(H:Hp)(Q:VK):Prop
 |mk (l:BL) (b:BS) (xs ys:List Int) (k a:Str) (o:Key) (aC:vs=[.ref l.h,.str k,.str a,kV o]) (aT:a8 H C CL CJ l xs ys b) (bc:k="sibling"->∃b,o=.inr b) (bK:∀H',ai H H'->Q (.bl (b.told (keyOf k a o))) H'):P8 C CL CJ vs H Q
def Gj(C CL CJ:Addr):Sp:=λvs H Q _=>P8 C CL CJ vs H Q
inductive Kp(C CL CJ:Addr)(vs:List V)(H:Hp)(Q:VK):Prop
 |mk (l:BL) (b:BS) (xs ys:List Int) (k a:Str) (aC:vs=[.ref l.h,.str k,.str a]) (aT:a8 H C CL CJ l xs ys b) (bK:∀H',ai H H'->Q ((aO (cv b.ps b.fs) [.inr k,.inr a]).getD .ay) H'):Kp C CL CJ vs H Q
def K5(C CL CJ:Addr):Sp:=λvs H Q _=>Kp C CL CJ vs H Q
abbrev ie:List Str:=["mother","father"]
def oq(b:BS)(a:Str):List V:=ie.filterMap λk=>aO (cv b.ps b.fs) [.inr k,.inr a]
theorem Za_(g:Nat->Option V):((List.range 2).filter λi=>(g i).isSome).map (λi=>(g i).getD .ay)=[g 0,g 1].filterMap id:=by
 show(([0,1]:List Nat).filter _).map _=_
 grind
theorem MY(b:BS)(k:List Key):b.told k=true↔k∈b.keys:=by
 unfold BS.told;rw[zf];unfold fh BS.keys
 grind
inductive Ke(C CL CJ:Addr)(vs:List V)(H:Hp)(Q:VK):Prop
 |mk (l:BL) (b:BS) (xs ys:List Int) (a:Str) (aC:vs=[.ref l.h,.str a]) (aT:a8 H C CL CJ l xs ys b) (bK:∀(p:Addr) (H':Hp),H p=none->ai H H'->H' p=some (.lst (oq b a))->Q (.ref p) H'):Ke C CL CJ vs H Q
def Kq(C CL CJ:Addr):Sp:=λvs H Q _=>Ke C CL CJ vs H Q
def dM(H:Hp)(ps:bo)(a:Addr)(p:Nat×Fc):Prop:=H a=some (.tup ((dJ ps p.1 p.2).map kV))
def D5(K:PySem.W.Frag):Sp:=λvs H Q _=>∃(r:Addr) (xs:List V),vs=[.ref r]/\aA K H r xs/\Q (.bl (decide (xs.length=2))) H
theorem Oh:∀{as:List Addr} {fs:List (Nat×Fc)} {p:Nat×Fc},Paired (dM H ps) as fs->(fs.map (·.1)).Nodup->p∈fs->∃a,aO (aX (fs.map (·.1)) as) (.inl (p.1:Int))=some (.ref a)/\dM H ps a p:=by
 intro as fs p pr;induction pr with
 |nil=>grind
 |@cons a q as fs f t ih=>
  intro nd h;obtain⟨n1,n2⟩:=Yz.mp (show(q.1::fs.map (·.1)).Nodup from nd);have e0:aX ((q::fs).map (·.1)) (a::as)=(Sum.inl (q.1:Int),V.ref a)::aX (fs.map (·.1)) as:=rfl;rw[e0];rcases Yp.mp h with rfl|h;·exact⟨a,fE rfl,f⟩
  ·obtain⟨a',e1,e2⟩:=ih n2 h;refine⟨a',?_,e2⟩;rw[eX (p:=((Sum.inl (q.1:Int):Key),V.ref a)) (λz=>n1 (by
    have e:=J9 z;have e':q.1=p.1:=by omega
    rw[e'];exact Ye.mpr ⟨_,h,rfl⟩))]
   exact e1
theorem K6:∀{ks:List Nat} {as:List Addr},ks.length=as.length->(aX ks as).map (·.1)=(ks.map λk:Nat=>(k:Int)).map Sum.inl
 |[],[],_=>rfl
 |k::ks,a::as,h=>by
  have e0:aX (k::ks) (a::as)=(Sum.inl (k:Int),V.ref a)::aX ks as:=rfl;rw[e0,Wl,K6 (by simpa using h)];rfl
 |[],_::_,h=>rfl
 |_::_,[],h=>by simp at h
section
variable {dC:Addr}
theorem U7:aN ["self"] ["self"] (aH B8):=.aU
theorem Z1(F:aJ K "people" "Hearth.people" B8 f fd)(hc:fG K C)(bl:Bl mg):aG P w K mg base aM 1 f fd ["self"] (EY C CL CJ):=by
 refine F.o U7 λaB A outer s H vs Q E hr h=>?_;obtain⟨l,b,xs,ys,rfl,ba,q⟩:=h;refine⟨_,(au (aF (d_ (Xp rfl) rfl bl.q0 qR (aa (pF K 0) ag)))),?_⟩;obtain⟨dx,h1⟩:=ba.obj;refine⟨_,rfl,l.h,C,dx,_,_,rfl,h1,hc.cls,hc.qU,rfl,l.sd,_,rfl,ba.cW,λp H' np g hp=>q p H' np g ?_⟩;rw[hp,Wa];rfl
theorem U0:aN ["self","name"] ["self","name"] (aH BW):=.aU
theorem YT(F:aJ K "side_of" "Hearth.side_of" BW f fd)(hc:fG K C)(bl:Bl mg):aG P w K mg base aM 1 f fd ["self","name"] (EZ C CL CJ):=by
 refine F.o U0 λaB A outer s H vs Q E hr h=>?_;obtain⟨l,b,xs,ys,z,v,rfl,ba,ev,q⟩:=h;refine⟨_,(ak (aR (je (kZ (bu hr) (pv 1) (pF K 0)) (by with_unfolding_all rfl)) fD aW) (au (aF (c_ (bu hr) (pF K 0) (pv 1) (λ_ _=>rfl))))),?_⟩;obtain⟨dx,h1⟩:=ba.obj;exact⟨_,rfl,_,rfl,l.h,C,dx,_,_,rfl,h1,hc.cls,hc.qU,rfl,l.sd,some v,rfl,cV ba.cW ev,_,rfl,bY (aV ⟨_,rfl,l.h,C,dx,_,_,rfl,h1,hc.cls,hc.qU,rfl,_,rfl,l.sd,v,rfl,cV ba.cW ev,q⟩)⟩
theorem WL:aN ["row"] ["row"] (aH Dg):=.aU
theorem WM(F:aJ K "is_person" "is_person" Dg f fd)(bl:Bl mg):aG P w K mg base aM 1 f fd ["row"] (D5 K):=by
 refine F.o WL λaB A outer s H vs Q E hr h=>?_;obtain⟨r,xs,rfl,u6,q⟩:=h;refine⟨_,(au (aF (eC cq (cU K bl (pv 0)) aL))),?_⟩;refine⟨_,rfl,r,xs,rfl,.inr u6,rfl,?_⟩;have e:decide (V.int (xs.length:Int)=V.int 2)=decide (xs.length=2):=by
  rw[Wc,decide_eq_true_iff,decide_eq_true_iff];exact⟨λz=>by have:=V.int.inj z;omega,λz=>by rw[z];rfl⟩
 rw[←e] at q;exact q
theorem VY:aN ["self","kind","one","other"] ["self","kind","one","other"] (aH C1):=.aU
theorem Zd1(F:aJ K "has" "Hearth.has" C1 f fd)(hc:fG K C)(nR:HasFn P w K mg base 1 "fact_key" ["kind","one","other"] z5):aG P w K mg base aM 2 f fd ["self","kind","one","other"] (Gj C CL CJ):=by
 refine F.o VY λaB A outer s H vs Q E hr h=>?_;obtain⟨l,b,xs,ys,k,a,o,rfl,ba,hs,q⟩:=h;refine⟨_,(au (aF (ZcQ (zL (bu hr) (aP nR hr (aa (pv 1) (aa (pv 2) (aa (pv 3) ag)))) (pF K 0)) (by with_unfolding_all rfl)))),?_⟩;refine⟨_,rfl,_,rfl,_,rfl,k,a,o,rfl,hs,λp H1 np g1 hp=>?_⟩;obtain⟨dx,h1⟩:=ba.obj;refine⟨_,rfl,l.h,C,dx,_,_,rfl,g1 _ _ h1,hc.cls,hc.zA,rfl,l.kn,_,rfl,dX.t (g1 _ _ ba.known) hp,?_⟩;exact q H1 g1
theorem US:aN ["self","kind","name"] ["self","kind","name"] (aH BK):=.aU
theorem WN(F:aJ K "parent_of" "Hearth.parent_of" BK f fd)(hc:fG K C):aG P w K mg base aM 1 f fd ["self","kind","name"] (K5 C CL CJ):=by
 refine F.o US λaB A outer s H vs Q E hr h=>?_;obtain⟨l,b,xs,ys,k,a,rfl,ba,q⟩:=h;refine⟨_,(au (aF (Zax (bu hr) (pF K 0) (dz (aa (pv 1) (aa (pv 2) ag))) ⟨rfl,rfl,rfl,rfl⟩))),?_⟩;obtain⟨dx,h1⟩:=ba.obj;refine⟨_,rfl,l.h,C,dx,_,_,rfl,h1,hc.cls,hc.uc,rfl,l.pr,rfl,.inr ⟨_,.inl ba.parents⟩,_,rfl,_,rfl,by show 2<=sizeLine;decide,λp H1 np g1 hp=>?_⟩;exact⟨_,dX.t (k:=[.inr k,.inr a]) (g1 _ _ ba.parents) hp,q H1 g1⟩
theorem UO:aN ["self","name"] ["self","name"] (aH BI):=.aU
theorem VZ(F:aJ K "parents_of" "Hearth.parents_of" BI f fd)(hc:fG K C)(iI:mg "PARENTS"=some (.ref dC))(qP:∀H,aA K H dC (ie.map V.str)):aG P w K mg base aM 1 f fd ["self","name"] (Kq C CL CJ):=by
 refine F.o UO λaB A outer s H vs Q E hr h=>?_;obtain⟨l,b,xs,ys,a,rfl,ba,q⟩:=h;refine⟨_,(au (aF (iM (x:="kind") (fr:=[("self",0),("name",1)]) (cl:=[("self",s.heap.objs.size+1),("name",s.heap.objs.size+1+1)]) rfl (.fW ⟨rfl,⟨rfl,trivial⟩⟩ ⟨⟨rfl,.inl rfl,.inl rfl,rfl⟩,⟨⟨rfl,.inl rfl,.inl rfl,rfl⟩,trivial⟩⟩) (FC (dq (v:=.ref dC) rfl iI rfl)) (λ_ _ _ _=>uj (je (zL (bu hr) (dz (aa (pv 0) (aa (pv 2) ag))) (wx (K:=K) rfl (pv 1) rfl)) (by with_unfolding_all rfl))) (λ_ _ _ _=>(c_ (bu hr) (wx (K:=K) rfl (pv 1) rfl) (dz (aa (pv 0) (aa (pv 2) ag))) (λ_ _=>rfl)))))),?_⟩;obtain⟨dx,h1⟩:=ba.obj;let val:Nat->Option V:=λi=>aO (cv b.ps b.fs) [.inr (ie.getD i ""),.inr a];refine⟨dC,rfl,⟨_,qP _⟩,λD hD=>ZH (K:=K) (a:=dC) (xs:=ie.map V.str) (qP _) (by show 2<=1000;decide) hD (λi=>(val i).isSome) (λi=>(val i).getD .ay) (λi v hi H1 g1 _ Kt Kf kt kf=>?_) λH1 g1 h2=>q D H1 hD g1 ?_⟩
 ·obtain⟨k,rfl,ek⟩:∃k:Str,v=.str k/\ie.getD i ""=k:=by
   match i,hi with
   |0,hi=>exact⟨"mother",(Yq hi).symm,rfl⟩
   |1,hi=>exact⟨"father",(Yq hi).symm,rfl⟩
   |i+2,hi=>simp at hi
  have ev:val i=aO (cv b.ps b.fs) [.inr k,.inr a]:=by show aO (cv b.ps b.fs) [.inr (ie.getD i ""),.inr a]=_;rw[ek]
  refine⟨_,rfl,_,rfl,by show 2<=sizeLine;decide,λp H2 np g2 hp=>?_⟩;refine⟨_,rfl,l.h,C,dx,_,_,rfl,g2 _ _ (g1 _ _ h1),hc.cls,hc.uc,rfl,l.pr,_,rfl,dX.t (k:=[.inr k,.inr a]) (g2 _ _ (g1 _ _ ba.parents)) hp,_,rfl,?_⟩;rw[ev] at kt kf;cases e:aO (cv b.ps b.fs) [.inr k,.inr a] with
  |none=>
   rw[e] at kf;exact bY (kf H2 rfl g2)
  |some u=>
   rw[e] at kt;refine cS ?_;refine⟨_,rfl,l.h,C,dx,_,_,rfl,g2 _ _ (g1 _ _ h1),hc.cls,hc.uc,rfl,_,rfl,_,rfl,by show 2<=sizeLine;decide,λp3 H3 np3 g3 To=>?_⟩;refine⟨l.pr,u,rfl,?_,kt u H3 rfl (g2.trans g3) rfl⟩;have z:=dX.t (k:=[.inr k,.inr a]) (g3 _ _ (g2 _ _ (g1 _ _ ba.parents))) To;rw[e] at z;exact z
 ·rw[h2];have e:((List.range (ie.map V.str).length).filter λi=>(val i).isSome).map (λi=>(val i).getD .ay)=oq b a:=by
   exact Za_ val
  rw[e]
end
theorem zC(h:i<ps.length):aq (ps++[x]) i=aq ps i:=by
 unfold aq
 grind
theorem E1(ok:dB n ps.length c):bg (ps++[x]) c=bg ps c:=by
 unfold bg;by_cases e:c.k=aY;·grind
 ·rw[if_neg e,if_neg e,zC (ok.gF e).1.2]
theorem Zcp(ok:dB n ps.length c):dJ (ps++[x]) z c=dJ ps z c:=by
 unfold dJ;rw[E1 ok,zC ok.one]
theorem Oi(ok:dB n ps.length c):eU (ps++[x]) c=eU ps c:=by
 unfold eU;rw[E1 ok,zC ok.one]
theorem Zcq(ok:∀p∈fs,dB n ps.length p.2):fh (ps++[x]) fs=fh ps fs:=by
 exact Wj λp hp=>by rw[Oi (ok p hp)]
theorem Oj(ok:∀p∈fs,dB n ps.length p.2):cv (ps++[x]) fs=cv ps fs:=by
 exact Wj λp hp=>by
  have o:=ok p (Yy.mp hp).1;rw[E1 o,zC o.one]
theorem Zcr(ps:bo)(n s:Str):fX (ps++[(n,s)])=fX ps++[(.inr n,.str s)]:=Yn
theorem Zcs(ps:bo)(x:Str×Str):i8 (ps++[x])=i8 ps++[(.inr x.1,.int (ps.length:Int))]:=by
 unfold i8
 grind
theorem Zba(ps:bo)(fs:List (Nat×Fc))(z:Nat)(c:Fc):fh ps (fs++[(z,c)])=fh ps fs++[(eU ps c,.int (z:Int))]:=Yn
theorem MZ(h:cG c.k=true):cv ps (fs++[(z,c)])=cv ps fs++[([.inr c.k,.inr (aq ps c.one)],kV (bg ps c))]:=by
 unfold cv
 grind
theorem M0(h:cG c.k=false):cv ps (fs++[(z,c)])=cv ps fs:=by
 unfold cv
 grind
theorem zD(k:Str):eZ (.str k) (ie.map V.str)=cG k:=by
 show((("mother":Str)==k)||((("father":Str)==k)||false))=(decide (k="mother")||decide (k="father"))
 grind
theorem Kr{α β γ:Type}[DecidableEq β][DecidableEq γ]{f:α->β}{g:α->γ}:∀{xs:List α} {x:α},(xs.map f).Nodup->(xs.map g).Nodup->x∈xs->xs.filter (λy=>decide (f y≠f x))=xs.filter (λy=>decide (g y≠g x)):=by
 intro xs x n1 n2 hx;have inj:∀{δ:Type} {h:α->δ},(xs.map h).Nodup->∀y∈xs,h y=h x->y=x:=by
  induction xs with
  |nil=>cases hx
  |cons a r ih=>grind
 refine Wz λy hy=>?_
 grind
theorem Zbb{ps:bo}{fs:List (Nat×Fc)}{z:Nat}{c:Fc}(zs:(fs.map (·.1)).Nodup)(ky:(fs.map λp=>eU ps p.2).Nodup)(m:(z,c)∈fs):gm (fh ps fs) (eU ps c)=fh ps (cQ z fs):=by
 unfold fh gm cQ;rw[Jm];exact congrArg _ (Kr (x:=(z,c)) ky zs m)
theorem Zbc{ps:bo}{fs:List (Nat×Fc)}{z:Nat}{c:Fc}(zs:(fs.map (·.1)).Nodup)(pr:((cv ps fs).map (·.1)).Nodup)(m:(z,c)∈fs)(h:cG c.k=true):gm (cv ps fs) [.inr c.k,.inr (aq ps c.one)]=cv ps (cQ z fs):=by
 unfold cv at pr⊢;rw[Wa] at pr;unfold gm cQ;rw[Jm,Ja];have e:=Kr (f:=λp:Nat×Fc=>([.inr p.2.k,.inr (aq ps p.2.one)]:List Key)) (x:=(z,c)) pr (zs.sublist (List.filter_sublist.map _)) (Yy.mpr ⟨m,h⟩);rw[Ja,Ja] at e;rw[Ja]
 grind
theorem Z2(zs:(fs.map (·.1)).Nodup)(m:(z,c)∈fs)(h:cG c.k=false):cv ps fs=cv ps (cQ z fs):=by
 unfold cv cQ;rw[Ja];refine congrArg _ (Wz λp hp=>?_);by_cases e:p.1=z
 ·have:p=(z,c):=by
   have aux:∀{fs:List (Nat×Fc)},(fs.map (·.1)).Nodup->p∈fs->(z,c)∈fs->p=(z,c):=by
    induction fs with
    |nil=>grind
    |cons a r ih=>grind
   exact aux zs hp m
  grind
 ·grind
inductive Move(xs ys:List Int)(H:Hp)(r:Addr)(b:BS):Int->BS->Prop
 |pin (n s:Str) (hr:H r=some (.tup [.str n,.str s])) (new:n∉b.ps.map (·.1)) (lim:b.ps.length<64):Move xs ys H r b 1 {b with ps:=b.ps++[(n,s)]}
 |fin (z:Nat) (c:Fc) (hr:dM H b.ps r (z,c)) (fg:dN xs ys b.ps.length c) (nz:z∉b.fs.map (·.1)) (nk:eU b.ps c∉b.keys) (np:cG c.k=true->[.inr c.k,.inr (aq b.ps c.one)]∉(cv b.ps b.fs).map (·.1)) (lv:∃f,kT xs.length b.ps.length f/\∀c'∈b.F++[c],eQ f c') (lim:b.fs.length<63):Move xs ys H r b 1 {b with fs:=b.fs++[(z,c)]}
 |uO (z:Nat) (c:Fc) (hr:dM H b.ps r (z,c)) (m:(z,c)∈b.fs):Move xs ys H r b (-1) {b with fs:=cQ z b.fs}
theorem Move.out{w:Int}(m:Move xs ys H r b w b')(k:∀us,H r=some (.tup us)->H' r=some (.tup us)):Move xs ys H' r b w b':=by
 cases m with
 |pin n s hr new lim=>exact .pin n s (k _ hr) new lim
 |fin z c hr fg nz nk np lv lim=>exact .fin z c (k _ hr) fg nz nk np lv lim
 |uO z c hr m=>exact .uO z c (k _ hr) m
theorem Move.ZeK{w:Int}(m:Move xs ys H r b w b')(dn un:List Ai):Move xs ys H r {b with dn:=dn,un:=un} w {b' with dn:=dn,un:=un}:=by
 cases m with
 |pin n s hr new lim=>exact .pin n s hr new lim
 |fin z c hr fg nz nk np lv lim=>exact .fin z c hr fg nz nk np lv lim
 |uO z c hr m=>exact .uO z c hr m
inductive Ol(C CL CJ:Addr)(vs:List V)(H:Hp)(Q:VK):Prop
 |mk (l:BL) (b:BS) (xs ys:List Int) (fa:Addr) (z:Nat) (c:Fc) (aC:vs=[.ref l.h,.ref fa]) (ba:a8 H C CL CJ l xs ys b) (hf:dM H b.ps fa (z,c)) (nz:z∉b.fs.map (·.1)) (nk:eU b.ps c∉b.keys) (np:cG c.k=true->[.inr c.k,.inr (aq b.ps c.one)]∉(cv b.ps b.fs).map (·.1)) (fl:b.fs.length<=63)
   (q:∀H',Out [l.fc,l.kn,l.pr] H H'->H' l.fc=some (.dK (aX ((b.fs++[(z,c)]).map (·.1)) (l.bV++[fa])))->H' l.kn=some (.dT (fh b.ps (b.fs++[(z,c)])))->H' l.pr=some (.dT (cv b.ps (b.fs++[(z,c)])))->Q .ay H'):Ol C CL CJ vs H Q
def P9(C CL CJ:Addr):Sp:=λvs H Q _=>Ol C CL CJ vs H Q
inductive M3(C CL CJ:Addr)(vs:List V)(H:Hp)(Q:VK):Prop
 |mk (l:BL) (b b':BS) (xs ys:List Int) (r:Addr) (aC:vs=[.ref l.h,.ref r]) (ba:a8 H C CL CJ l xs ys b) (ok:cg xs ys b) (mv:Move xs ys H r b 1 b') (q:∀(l':BL) (H':Hp),bM H H' l l'->a8 H' C CL CJ l' xs ys b'->Q .ay H'):M3 C CL CJ vs H Q
def Om(C CL CJ:Addr):Sp:=λvs H Q _=>M3 C CL CJ vs H Q
inductive K7(C CL CJ:Addr)(vs:List V)(H:Hp)(Q:VK):Prop
 |mk (l:BL) (b b':BS) (xs ys:List Int) (r:Addr) (aC:vs=[.ref l.h,.ref r]) (ba:a8 H C CL CJ l xs ys b) (ok:cg xs ys b) (mv:Move xs ys H r b (-1) b') (q:∀(l':BL) (H':Hp),bM H H' l l'->a8 H' C CL CJ l' xs ys b'->Q .ay H'):K7 C CL CJ vs H Q
def LW(C CL CJ:Addr):Sp:=λvs H Q _=>K7 C CL CJ vs H Q
inductive M4(C CL CJ:Addr)(vs:List V)(H:Hp)(Q:VK):Prop
 |mk (l:BL) (b b':BS) (xs ys:List Int) (r:Addr) (w:Int) (c2:Nat) (aC:vs=[.ref l.h,.int w,.ref r,.int (c2:Int)]) (ba:a8 H C CL CJ l xs ys b) (ok:cg xs ys b) (mv:Move xs ys H r b w b') (q:∀(l':BL) (H':Hp),bM H H' l l'->a8 H' C CL CJ l' xs ys {b' with co:=c2}->Q .ay H'):M4 C CL CJ vs H Q
def Oo(C CL CJ:Addr):Sp:=λvs H Q _=>M4 C CL CJ vs H Q
inductive LX(C CL CJ:Addr)(vs:List V)(H:Hp)(Q:VK):Prop
 |mk (l:BL) (b b':BS) (xs ys:List Int) (r:Addr) (w:Int) (c2:Nat) (row:List Key) (aC:vs=[.ref l.h,.int w,.ref r,.int (c2:Int)]) (ba:a8 H C CL CJ l xs ys b) (ok:cg xs ys b) (dl:b.dn.length<200) (hr:H r=some (.tup (row.map kV))) (mv:Move xs ys H r b w b') (q:∀(l':BL) (H':Hp),bM H H' l l'->a8 H' C CL CJ l' xs ys {b' with co:=c2,dn:=b.dn++[⟨w,row,b.co,c2⟩],un:=[]}->Q .ay H'):LX C CL CJ vs H Q
def zg(C CL CJ:Addr):Sp:=λvs H Q _=>LX C CL CJ vs H Q
section
variable {dC:Addr}
theorem Oq{ps:bo}{c:Fc}(e:c.k="sibling"):∃b,bg ps c=.inr b:=⟨_,hJ (by rw[e];decide+kernel)⟩
theorem vO:aN ["self","fact","number","kind","one","other"] ["self","fact"] (aH BM):=.aU
theorem Zct(F:aJ K "note_fact" "Hearth.note_fact" BM f fd)(hc:fG K C)(iI:mg "PARENTS"=some (.ref dC))(qP:∀H,aA K H dC (ie.map V.str))(nR:HasFn P w K mg base 1 "fact_key" ["kind","one","other"] z5):aG P w K mg base aM 2 f fd ["self","fact"] (P9 C CL CJ):=by
 refine F.o vO λaB A outer s H vs Q E hr h=>?_;obtain⟨l,b,xs,ys,fa,z,c,rfl,ba,hf,nz,nk,np,fl,q⟩:=h;refine⟨_,(ak (mK (pv 1) (hV (K:=K) (n:=4) rfl rfl (bL (bj 2 vO.nd) (bL (bj 3 vO.nd) (bL (bj 4 vO.nd) (bL (bj 5 vO.nd) hU)))))) (ak (mE (bu hr) (pF K 0) (pv 2) (pv 1)) (ak (Lz (bu hr) (pF K 0) (aP nR hr (aa (pv 3) (aa (pv 4) (aa (pv 5) ag)))) (pv 2)) (au (aR (gT (lW (K:=K) rfl) (pv 3) (dq (v:=.ref dC) rfl iI rfl) (by with_unfolding_all rfl)) (au (Lz (bu hr) (pF K 0) (dz (aa (pv 3) (aa (pv 4) ag))) (pv 5))) aW))))),?_⟩;obtain⟨dx,h1⟩:=ba.obj;have sz:(10000:Nat)<=sizeLine:=by rw[sizeLine_eq];omega
 have al:(b.fs.map (·.1)).length=l.bV.length:=by rw[Ya];exact(cI ba.fact).symm
 have A8:l.h≠l.fc:=di h1 ba.facts (λz=>by cases z);have nh2:l.h≠l.kn:=di h1 ba.known (λz=>by cases z);have Tp:l.kn≠l.fc:=di ba.known ba.facts (λz=>by cases z);have jt:l.pr≠l.fc:=di ba.parents ba.facts (λz=>by cases z);have Tq:l.pr≠l.kn:=λe=>by
  have:=ba.nd;unfold BL.own at this;simp[e] at this
 refine⟨_,rfl,fa,_,rfl,aA.of hf,rfl,_,_,rfl,bb ⟨_,_,rfl,bb ⟨_,_,rfl,bb ⟨_,_,rfl,bb ⟨rfl,?_⟩⟩⟩⟩⟩;refine⟨_,rfl,_,rfl,l.h,C,dx,_,_,rfl,h1,hc.cls,hc.uq,rfl,_,rfl,l.fc,_,.inl (z:Int),rfl,ba.facts,rfl,by unfold aX;rw[Ya,W5,Ya];omega,λH1 b1 e1=>?_⟩;have vz:aO (aX (b.fs.map (·.1)) l.bV) (.inl (z:Int))=none:=yZ nz;rw[ke _ vz,v_ z fa al] at e1;refine⟨_,rfl,_,rfl,l.h,C,dx,_,_,rfl,b1 _ _ h1 A8,hc.cls,hc.zA,rfl,_,rfl,_,rfl,_,rfl,c.k,aq b.ps c.one,bg b.ps c,rfl,λe=>Oq e,λp H2 x6 g2 dv=>?_⟩;refine⟨l.kn,p,_,eU b.ps c,rfl,g2 _ _ (b1 _ _ ba.known Tp),rfl,dv,by unfold fh;rw[Ya];omega,λH3 b3 e3=>?_⟩;have vk:aO (fh b.ps b.fs) (eU b.ps c)=none:=pA (by
  have:(fh b.ps b.fs).map (·.1)=b.keys:=by unfold fh BS.keys;rw[Wa];rfl
  rw[this];exact nk)
 rw[ke _ vk] at e3
 replace e3:H3 l.kn=some (.dT (fh b.ps (b.fs++[(z,c)]))):=by rw[Zba];exact e3
 have k3:∀{a:Addr} {o:HO},H a=some o->a≠l.fc->a≠l.kn->H3 a=some o:=λ{a o} e n1 n2=>b3 _ _ (g2 _ _ (b1 _ _ e n1)) n2;have iz:H3 l.fc=some (.dK (aX ((b.fs++[(z,c)]).map (·.1)) (l.bV++[fa]))):=by
  have:=b3 _ _ (g2 _ _ e1) (λz=>Tp z.symm);rw[this,Yn];rfl
 have yb:=k3 ba.parents jt Tq;refine⟨_,rfl,dC,_,rfl,.inr (qP _),rfl,rfl,_,rfl,?_⟩;dsimp only;rw[if_neg Yj,show eZ (kV (Sum.inr c.k)) (ie.map V.str)=cG c.k from zD c.k];refine bB (λcc=>?_) (λcc=>aV ?_)
 ·refine⟨_,rfl,_,rfl,l.h,C,dx,_,_,rfl,k3 h1 A8 nh2,hc.cls,hc.uc,rfl,_,rfl,_,rfl,by show 2<=sizeLine;decide,λp4 H4 yc g4 IL=>?_⟩;refine⟨l.pr,p4,_,[.inr c.k,.inr (aq b.ps c.one)],rfl,g4 _ _ yb,rfl,IL,?_,λH5 b5 e5=>?_⟩
  ·unfold cv;rw[Ya];have:=Wh (λp:Nat×Fc=>cG p.2.k) b.fs;omega
  have vp:aO (cv b.ps b.fs) [.inr c.k,.inr (aq b.ps c.one)]=none:=pA (np cc);rw[ke _ vp] at e5
  replace e5:H5 l.pr=some (.dT (cv b.ps (b.fs++[(z,c)]))):=by rw[MZ cc];exact e5
  refine q H5 (λa o e n=>?_) (b5 _ _ (g4 _ _ iz) (λz=>jt z.symm)) (b5 _ _ (g4 _ _ e3) (λz=>Tq z.symm)) e5;simp only[Yp,Y3,or_false,not_or] at n;exact b5 _ _ (g4 _ _ (k3 e n.1 n.2.1)) n.2.2
 ·have ef:cG c.k=false:=by
   cases e:cG c.k with
   |true=>exact absurd e cc
   |false=>rfl
  refine q H3 (λa o e n=>?_) iz e3 (by rw[M0 ef];exact yb)
  grind
theorem P_{l:BL}{H H1:Hp}{jl gH:JL}(e2:l.d9=jl.fp)(o:Out l.own H H1)(gr:dZ jl.fp gH.fp H1):dZ l.fp ({l with d9:=gH.fp}:BL).fp H:=λa z=>by
 rcases Yt.mp (show a∈l.own++gH.fp from z) with q|q;·exact .inl (Ys _ q)
 ·rcases gr a q with m|m;·exact .inl (Yr _ (by rw[e2];exact m))
  ·by_cases ma:a∈l.own;·exact .inl (Ys _ ma)
   ·right
    cases e:H a with
    |none=>rfl
    |some u=>rw[o _ _ e ma] at m;cases m
theorem QT{l:BL}{H H1 H2:Hp}{jl:JL}(e2:l.d9=jl.fp)(o:Out l.own H H1)(o2:Out jl.fp H1 H2):Out l.fp H H2:=λa u e n=>o2 _ _ (o _ _ e λz=>n (Ys _ z)) λz=>n (Yr _ (by rw[e2];exact z))
theorem qW{l:BL}{H H1:Hp}(o:Out l.own H H1):Out l.fp H H1:=λa u e n=>o _ _ e λz=>n (Ys _ z)
theorem BZ:aN ["self","row","name","side"] ["self","row"] (aH B9):=.aU
theorem Z3(F:aJ K "put_in" "Hearth.put_in" B9 f fd)(hc:fG K C)(tT:HasFn P w K mg base 1 "is_person" ["row"] (D5 K))(tU:bT P w K mg base 2 "add" CJ ["self"] (Gh CJ))(BN:bT P w K mg base 2 "note_fact" C ["self","fact"] (P9 C CL CJ))(tV:HasFn P w K mg base 6 "keep_fact" ["joins","land","places","fact"] (Fs CL CJ))(bl:Bl mg):aG P w K mg base aM 8 f fd ["self","row"] (Om C CL CJ):=by
 refine F.o BZ λaB A outer s H vs Q E hr h=>?_;obtain⟨l,b,b',xs,ys,r,rfl,ba,ok,mv,q⟩:=h;refine⟨_,(au (aR (eN (aP tT hr (aa (pv 1) ag))) (ak (mK (pv 1) (hV (K:=K) (n:=2) rfl rfl (bL (bj 2 BZ.nd) (bL (bj 3 BZ.nd) hU)))) (ak (mE (bu hr) (pF K 0) (pv 2) (iJ (X9) rfl bl.zX zI (aa (pF K 0) ag))) (ak (mE (bu hr) (pF K 0) (pv 2) (pv 3)) (au (aR (bA zm (pF K 0) lC) (au (cy (oo tU hr (by omega) (pF K 0)))) aW))))) (ak (cy (cC BN hr (by omega) (pv 0) (aa (pv 1) ag))) (au (aR (bA zm (pF K 0) lC) (au (cy (aP tV hr (aa (pF K 0) (aa (pF K 0) (aa (pF K 0) (aa (pv 1) ag))))))) aW))))),?_⟩;obtain⟨dx,h1⟩:=ba.obj;have sz:(10000:Nat)<=sizeLine:=by rw[sizeLine_eq];omega
 have nd:=ba.nd;unfold BL.own at nd;have Tr:=nd;simp only[Yz,Yp,Y3,or_false,not_or] at Tr;obtain⟨⟨l_,cL,iC,mf,oW,ny,oX⟩,⟨yd,sO,sP,sQ,vg,vh⟩,⟨qr,sR,sS,vq,vv⟩,_⟩:=Tr;have rU:∀p∈b.fs,dB xs.length b.ps.length p.2:=λp hp=>(ok.fg p hp).ok;cases mv with
 |pin n s hR new lim=>
  refine⟨_,rfl,r,_,rfl,aA.of hR,_,rfl,cS ?_⟩;refine⟨_,rfl,r,_,rfl,aA.of hR,rfl,_,_,rfl,bb ⟨_,_,rfl,bb ⟨rfl,?_⟩⟩⟩;have kl:(fX b.ps).length=b.ps.length:=Ya _;have pl':(i8 b.ps).length=b.ps.length:=by unfold i8;rw[Ya,List.length_zipIdx]
  refine⟨_,rfl,l.h,C,dx,_,_,rfl,h1,hc.cls,hc.qU,rfl,l.sd,_,rfl,ba.cW,_,rfl,l.h,C,dx,_,_,rfl,h1,hc.cls,hc.qQ,rfl,_,rfl,l.pl,_,.inr n,rfl,ba.places,rfl,by omega,λH1 b1 e1=>?_⟩;have ZeL:(i8 b.ps).map (·.1)=b.ps.map λp=>(.inr p.1:Key):=by
   unfold i8;rw[Wa];have:(λp:(Str×Str)×Nat=>((.inr p.1.1:Key),V.int (p.2:Int)).1)=(λp:Str×Str=>(.inr p.1:Key))∘Prod.fst:=rfl;show b.ps.zipIdx.map (λp:(Str×Str)×Nat=>((.inr p.1.1:Key),V.int (p.2:Int)).1)=_;rw[this,←Wa,List.zipIdx_map_fst]
  have RM:∀{ks:List Key},ks=(b.ps.map λp=>(.inr p.1:Key))->(.inr n:Key)∉ks:=λ{ks} e z=>by
   rw[e] at z;obtain⟨p,hp,ep⟩:=Ye.mp z;exact new (Ye.mpr ⟨p,hp,Wk ep⟩)
  have vp:aO (i8 b.ps) (.inr n)=none:=pA (RM ZeL);have vs':aO (fX b.ps) (.inr n)=none:=pA (RM (by show(b.ps.map _).map _=_;rw[Wa];rfl));rw[ke _ vp,kl] at e1;refine⟨_,rfl,_,rfl,l.h,C,dx,_,_,rfl,b1 _ _ h1 cL,hc.cls,hc.qU,rfl,_,rfl,l.sd,_,.inr n,rfl,b1 _ _ ba.cW yd,rfl,by omega,λH2 b2 e2=>?_⟩;rw[ke _ vs'] at e2;have k2:∀{a:Addr} {o:HO},H a=some o->a≠l.pl->a≠l.sd->H2 a=some o:=λ{a o} e n1 n2=>b2 _ _ (b1 _ _ e n1) n2;have o2:Out l.own H H2:=λa u e na=>k2 e (λz=>na (by rw[z];simp[BL.own])) (λz=>na (by rw[z];simp[BL.own]));have s2:H2 l.sd=some (.dK (fX (b.ps++[(n,s)]))):=by rw[Zcr];exact e2
  have p2:H2 l.pl=some (.dK (i8 (b.ps++[(n,s)]))):=by rw[Zcs];exact b2 _ _ e1 (λz=>yd z.symm)
  have h2:=k2 h1 cL l_;have tp:∀{a:Addr} {us:List V} {H3:Hp},Out l.fp H H3->H a=some (.tup us)->H3 a=some (.tup us):=λo e=>o _ _ e (ba.tup e);have mk:∀(l':BL) (H3:Hp),l'={l with d9:=l'.d9}->Out l.fp H H3->dZ l.fp l'.fp H->(∀a u,H2 a=some u->a∈l.own->H3 a=some u)->rT H3 CJ xs.length l' {b with ps:=b.ps++[(n,s)]}->Q .ay H3:=λl' H3 el o g k rk=>by
   refine q l' H3 ⟨by rw[el],o,g⟩ ?_;refine ba.build (l':=l') (b':={b with ps:=b.ps++[(n,s)]}) (by rw[el]) (by rw[el]) (by rw[el]) (by rw[el]) (by rw[el]) (by rw[el]) (by rw[el]) (by rw[el]) (by rw[el]) o g ⟨dx,?_⟩ (k _ _ s2 (by simp[BL.own])) (k _ _ p2 (by simp[BL.own])) ?_ ?_ ?_ ?_ ?_ ?_ ?_ ?_ rk
   ·have:l'.rk=l.rk:=by rw[el]
    rw[this];exact k _ _ h2 (by simp[BL.own])
   ·have:l'.bV=l.bV:=by rw[el]
    rw[this];exact k _ _ (k2 ba.facts (λz=>qr z.symm) (λz=>sO z.symm)) (by simp[BL.own])
   ·have:l'.bV=l.bV:=by rw[el]
    rw[this];have aux:∀{as:List Addr} {fs:List (Nat×Fc)},Paired (λa (p:Nat×Fc)=>H a=some (.tup ((dJ b.ps p.1 p.2).map kV))) as fs->(∀p∈fs,dB xs.length b.ps.length p.2)->Paired (λa (p:Nat×Fc)=>H3 a=some (.tup ((dJ (b.ps++[(n,s)]) p.1 p.2).map kV))) as fs:=by
     intro as fs pr;induction pr with
     |nil=>intro _;exact .nil
     |cons f _ ih=>intro m;exact .cons (by rw[Zcp (m _ Yf)];exact tp o f) (ih λp hp=>m p (Yu _ hp))
    exact aux ba.fact rU
   ·show H3 l.kn=some (.dT (fh (b.ps++[(n,s)]) b.fs));rw[Zcq rU];exact k _ _ (k2 ba.known (λz=>sR z.symm) (λz=>sP z.symm)) (by simp[BL.own])
   ·show H3 l.pr=some (.dT (cv (b.ps++[(n,s)]) b.fs));rw[Oj rU];exact k _ _ (k2 ba.parents (λz=>sS z.symm) (λz=>sQ z.symm)) (by simp[BL.own])
   ·have:l'.gZ=l.gZ:=by rw[el]
    rw[this];exact k _ _ (k2 ba.done (λz=>vq z.symm) (λz=>vg z.symm)) (by simp[BL.own])
   ·have:l'.gZ=l.gZ:=by rw[el]
    rw[this];exact L2.Paired.bw ba.kJ λ_ _ e=>e.out o λa us e=>ba.tup e
   ·have:l'.jS=l.jS:=by rw[el]
    rw[this];exact k _ _ (k2 ba.hZ (λz=>vv z.symm) (λz=>vh z.symm)) (by simp[BL.own])
   ·have:l'.jS=l.jS:=by rw[el]
    rw[this];exact L2.Paired.bw ba.mP λ_ _ e=>e.out o λa us e=>ba.tup e
  cases hj:ba.rD with
  |no j1 j2=>
   rw[j1] at h2;refine⟨_,rfl,l.h,C,dx,_,_,rfl,h2,hc.cls,hc.hE,rfl,rfl,_,rfl,bY (aV ?_)⟩;exact mk l H2 rfl (qW o2) (dZ.refl _ _) (λ_ _ e _=>e) (.no j1 j2)
  |at_ jl st j1 j2 ja me len eV=>
   have kP:=h2;rw[j1] at kP;have A9:=ja.jG o2 eV (ba.FY ja me) λa us e z=>ba.tup e (Ys _ z);obtain⟨dj,ej⟩:=A9.obj;have wf:=me.wf;have ml:=wf.PY;have x_:=wf.z4;have n8:xs.length<=8:=ok.gd.2.2.2.2;refine⟨_,rfl,l.h,C,dx,_,_,rfl,kP,hc.cls,hc.hE,rfl,rfl,_,rfl,cS ?_⟩;refine⟨_,rfl,l.h,C,dx,_,_,rfl,kP,hc.cls,hc.hE,rfl,jl.J,dj,_,rfl,ej,rfl,jl,st,xs.length,rfl,A9,by omega,by omega,by omega,by omega,wf.ll,λz=>Wg _ (wf.lm _ z),λz=>Wg _ (wf.lf _ z),λgH H3 k1 o3 gr IM=>?_⟩;refine mk {l with d9:=gH.fp} H3 rfl (QT j2 o2 o3) (P_ j2 o2 gr) (λa u e m=>o3 _ _ e (eV a m)) ?_;refine .at_ gH _ (by rw[k1];exact j1) rfl IM (me.more (by have:=ok.gd.2.2.2.1;omega)) ?_ λa m z=>?_;·rw[iK,len,Yk];rfl
   ·rcases gr a z with y|y;·exact eV a m y
    ·have:=ba.there (a:=a) (Ys _ m);have:H2 a≠none:=by
      have m':a∈l.own:=m;unfold BL.own at m';simp only[Yp,Y3,or_false] at m';rcases m' with rfl|rfl|rfl|rfl|rfl|rfl|rfl|rfl;·rw[h2];exact λz=>nomatch z
      ·rw[s2];exact λz=>nomatch z
      ·rw[p2];exact λz=>nomatch z
      ·rw[k2 ba.facts (λz=>qr z.symm) (λz=>sO z.symm)];exact λz=>nomatch z
      ·rw[k2 ba.known (λz=>sR z.symm) (λz=>sP z.symm)];exact λz=>nomatch z
      ·rw[k2 ba.parents (λz=>sS z.symm) (λz=>sQ z.symm)];exact λz=>nomatch z
      ·rw[k2 ba.done (λz=>vq z.symm) (λz=>vg z.symm)];exact λz=>nomatch z
      ·rw[k2 ba.hZ (λz=>vv z.symm) (λz=>vh z.symm)];exact λz=>nomatch z
     exact this y
 |fin z c hR fg nz nk np lv lim=>
  refine⟨_,rfl,r,_,rfl,aA.of hR,_,rfl,bY ?_⟩;refine⟨_,rfl,l.h,dx,_,rfl,h1,rfl,_,rfl,l,b,xs,ys,r,z,c,rfl,ba,hR,nz,nk,np,by omega,λH1 o1 f1 k1 p1=>?_⟩;have k2:∀{a:Addr} {o:HO},H a=some o->a≠l.fc->a≠l.kn->a≠l.pr->H1 a=some o:=λ{a o} e n1 n2 n3=>o1 _ _ e (by simp[n1,n2,n3]);have o2:Out l.own H H1:=λa u e na=>k2 e (λz=>na (by rw[z];simp[BL.own])) (λz=>na (by rw[z];simp[BL.own])) (λz=>na (by rw[z];simp[BL.own]));have h2:=k2 h1 iC mf oW;have Ts:=nd;simp only[Yz,Yp,Y3,or_false,not_or] at Ts;obtain⟨_,_,_,⟨ye,yf,vy,uP⟩,⟨A_,yg,yh⟩,⟨yi,yj⟩,_⟩:=Ts;have s2:=k2 ba.cW sO sP sQ;have p2:=k2 ba.places qr sR sS;have d2:=k2 ba.done (λz=>vy z.symm) (λz=>yg z.symm) (λz=>yi z.symm);have u2:=k2 ba.hZ (λz=>uP z.symm) (λz=>yh z.symm) (λz=>yj z.symm);have tp:∀{a:Addr} {us:List V} {H3:Hp},Out l.fp H H3->H a=some (.tup us)->H3 a=some (.tup us):=λo e=>o _ _ e (ba.tup e);have mk:∀(jf:List Addr) (H3:Hp),Out l.fp H H3->dZ l.fp ({l with bV:=l.bV++[r],d9:=jf}:BL).fp H->(∀a u,H1 a=some u->a∈l.own->H3 a=some u)->rT H3 CJ xs.length {l with bV:=l.bV++[r],d9:=jf} {b with fs:=b.fs++[(z,c)]}->Q .ay H3:=λjf H3 o g k rk=>by
   refine q {l with bV:=l.bV++[r],d9:=jf} H3 ⟨rfl,o,g⟩ ?_;refine ba.build (l':={l with bV:=l.bV++[r],d9:=jf}) (b':={b with fs:=b.fs++[(z,c)]}) rfl rfl rfl rfl rfl rfl rfl rfl rfl o g ⟨dx,k _ _ h2 (by simp[BL.own])⟩ (k _ _ s2 (by simp[BL.own])) (k _ _ p2 (by simp[BL.own])) (k _ _ f1 (by simp[BL.own])) ?_ (k _ _ k1 (by simp[BL.own])) (k _ _ p1 (by simp[BL.own])) (k _ _ d2 (by simp[BL.own])) (L2.Paired.bw ba.kJ λ_ _ e=>e.out o λa us e=>ba.tup e) (k _ _ u2 (by simp[BL.own])) (L2.Paired.bw ba.mP λ_ _ e=>e.out o λa us e=>ba.tup e) rk;exact iH (F:=λa (p:Nat×Fc)=>H3 a=some (.tup ((dJ b.ps p.1 p.2).map kV))) (tp o hR) (L2.Paired.bw ba.fact λ_ _ e=>tp o e)
  cases hj:ba.rD with
  |no j1 j2=>
   rw[j1] at h2;refine⟨_,rfl,l.h,C,dx,_,_,rfl,h2,hc.cls,hc.hE,rfl,rfl,_,rfl,bY (aV ?_)⟩;exact mk l.d9 H1 (qW o2) (dZ.refl _ _) (λ_ _ e _=>e) (.no j1 j2)
  |at_ jl st j1 j2 ja me len eV=>
   have kP:=h2;rw[j1] at kP;have A9:=ja.jG o2 eV (ba.FY ja me) λa us e z=>ba.tup e (Ys _ z);have la2:hX H1 CL l.L xs ys:=ba.land H1 (qW o2);refine⟨_,rfl,l.h,C,dx,_,_,rfl,kP,hc.cls,hc.hE,rfl,rfl,_,rfl,cS ?_⟩;refine⟨_,rfl,l.h,C,dx,_,_,rfl,kP,hc.cls,hc.hE,rfl,_,rfl,l.h,C,dx,_,_,rfl,kP,hc.cls,hc.ux,rfl,_,rfl,l.h,C,dx,_,_,rfl,kP,hc.cls,hc.qQ,rfl,_,rfl,jl,st,l.L,l.pl,r,xs,ys,b.ps,b.F,z,c,rfl,A9,me,la2,ok.gd,p2,ok.nm,len,by have:=ok.m;omega,tp (qW o2) hR,fg,?_,λv gH aI H3 e1 sub o3 IM me3 ZfE=>?_⟩
   ·obtain⟨f0,i0,s0⟩:=lv;exact⟨f0,(me.iff f0).mpr ⟨by rw[len];exact i0,λc' m'=>s0 c' (Ys _ m')⟩,s0 c (Yr _ Yf)⟩
   have gr:dZ jl.fp gH.fp H1:=λa z=>.inl (sub a z);refine mk gH.fp H3 (QT j2 o2 o3) (P_ j2 o2 gr) (λa u e m=>o3 _ _ e (eV a m)) ?_;refine .at_ gH aI (by rw[e1];exact j1) rfl IM ?_ (by rw[ZfE];exact len) λa m z=>eV a m (sub a z);show dk xs.length aI ((b.fs++[(z,c)]).map (·.2));rw[Yn];exact me3
end
section
variable {dC:Addr}
theorem M5{l l':BL}{H:Hp}(e1:l'.own=l.own)(e2:l'.d9=[]):dZ l.fp l'.fp H:=λa z=>.inl (by
 unfold BL.fp at z;rw[e1,e2,Y8] at z;exact Ys _ z)
theorem vP:aN ["self","row","number","kind","one","other"] ["self","row"] (aH BQ):=.aU
theorem XB(F:aJ K "take_out" "Hearth.take_out" BQ f fd)(hc:fG K C)(iI:mg "PARENTS"=some (.ref dC))(qP:∀H,aA K H dC (ie.map V.str))(tT:HasFn P w K mg base 1 "is_person" ["row"] (D5 K))(nR:HasFn P w K mg base 1 "fact_key" ["kind","one","other"] z5):aG P w K mg base aM 2 f fd ["self","row"] (LW C CL CJ):=by
 refine F.o vP λaB A outer s H vs Q E hr h=>?_;obtain⟨l,b,b',xs,ys,r,rfl,ba,ok,mv,q⟩:=h;refine⟨_,(ak (aR (eN (aP tT hr (aa (pv 1) ag))) fD (ak (mK (pv 1) (hV (K:=K) (n:=4) rfl rfl (bL (bj 2 vP.nd) (bL (bj 3 vP.nd) (bL (bj 4 vP.nd) (bL (bj 5 vP.nd) hU)))))) (ak (ZaP (pF K 0) (pv 2)) (ak (MC (bu hr) (pF K 0) (aP nR hr (aa (pv 3) (aa (pv 4) (aa (pv 5) ag))))) (au (aR (gT (lW (K:=K) rfl) (pv 3) (dq (v:=.ref dC) rfl iI rfl) (by with_unfolding_all rfl)) (au (MC (bu hr) (pF K 0) (dz (aa (pv 3) (aa (pv 4) ag))))) aW)))))) (au (fZ (K:=K) rfl (pv 0) lC))),?_⟩;obtain⟨dx,h1⟩:=ba.obj;have sz:(10000:Nat)<=sizeLine:=by rw[sizeLine_eq];omega
 have nd:=ba.nd;unfold BL.own at nd;simp only[Yz,Yp,Y3,or_false,not_or] at nd;obtain⟨⟨l_,cL,iC,mf,oW,ny,oX⟩,⟨yd,sO,sP,sQ,vg,vh⟩,⟨qr,sR,sS,vq,vv⟩,⟨ye,yf,vy,uP⟩,⟨A_,yg,yh⟩,⟨yi,yj⟩,_⟩:=nd;cases mv with
 |uO z c hR m=>
  have al:(b.fs.map (·.1)).length=l.bV.length:=by rw[Ya];exact(cI ba.fact).symm
  obtain⟨fa,Ba,_⟩:=Oh (H:=H) (ps:=b.ps) ba.fact ok.zs m;have ZeM:(fh b.ps b.fs).map (·.1)=b.keys:=by unfold fh BS.keys;rw[Wa];rfl
  refine⟨_,rfl,r,_,rfl,aA.of hR,_,rfl,bY ?_⟩;refine⟨_,rfl,r,_,rfl,aA.of hR,rfl,_,_,rfl,bb ⟨_,_,rfl,bb ⟨_,_,rfl,bb ⟨_,_,rfl,bb ⟨rfl,?_⟩⟩⟩⟩⟩;refine⟨_,rfl,l.h,C,dx,_,_,rfl,h1,hc.cls,hc.uq,rfl,_,rfl,l.fc,_,.inl (z:Int),rfl,ba.facts,rfl,by rw[Ba];rfl,λH1 b1 e1=>?_⟩;rw[yQ z al,←nY] at e1;refine⟨_,rfl,l.h,C,dx,_,_,rfl,b1 _ _ h1 iC,hc.cls,hc.zA,rfl,_,rfl,_,rfl,_,rfl,c.k,aq b.ps c.one,bg b.ps c,rfl,λe=>Oq e,λp H2 x6 g2 dv=>?_⟩;refine⟨l.kn,p,_,eU b.ps c,rfl,g2 _ _ (b1 _ _ ba.known (λz=>ye z.symm)),rfl,dv,(zf _ _).mpr (by rw[ZeM];exact Ye.mpr ⟨_,m,rfl⟩),λH3 b3 e3=>?_⟩;rw[Zbb ok.zs ok.ky m] at e3;have k3:∀{a:Addr} {o:HO},H a=some o->a≠l.fc->a≠l.kn->H3 a=some o:=λ{a o} e n1 n2=>b3 _ _ (g2 _ _ (b1 _ _ e n1)) n2;have ef3:=b3 _ _ (g2 _ _ e1) ye;have yb:=k3 ba.parents (λz=>yf z.symm) (λz=>A_ z.symm);have last:∀H5,(∀{a:Addr} {o:HO},H3 a=some o->a≠l.pr->H5 a=some o)->H5 l.pr=some (.dT (cv b.ps (cQ z b.fs)))->∀H6,aw l.h H5 H6->H6 l.h=some (.ins C dx (HF l.L l.sd l.pl l.fc l.kn l.pr (b.co:Int) l.dn l.un .ay))->Q .ay H6:=λH5 k5 e5 H6 b6 e6=>by
   have k6:∀{a:Addr} {o:HO},H a=some o->a≠l.fc->a≠l.kn->a≠l.pr->a≠l.h->H6 a=some o:=λ{a o} e n1 n2 n3 n4=>b6 _ _ (k5 (k3 e n1 n2) n3) n4;have o6:Out l.own H H6:=λa u e na=>k6 e (λz=>na (by rw[z];simp[BL.own])) (λz=>na (by rw[z];simp[BL.own])) (λz=>na (by rw[z];simp[BL.own])) (λz=>na (by rw[z];simp[BL.own]));have of:=qW o6;have tp:∀{a:Addr} {us:List V},H a=some (.tup us)->H6 a=some (.tup us):=λe=>of _ _ e (ba.tup e);refine q {l with rk:=.ay,d9:=[],bV:=dH (b.fs.map (·.1)) l.bV z} H6 ⟨rfl,of,M5 rfl rfl⟩ ?_;exact ba.build (l':={l with rk:=.ay,d9:=[],bV:=dH (b.fs.map (·.1)) l.bV z}) (b':={b with fs:=cQ z b.fs}) rfl rfl rfl rfl rfl rfl rfl rfl rfl of (M5 rfl rfl) ⟨dx,e6⟩ (k6 ba.cW sO sP sQ (λz=>l_ z.symm)) (k6 ba.places qr sR sS (λz=>cL z.symm)) (b6 _ _ (k5 ef3 yf) (λz=>iC z.symm)) (D4 ba.fact λa p e _ _=>tp e) (b6 _ _ (k5 e3 A_) (λz=>mf z.symm)) (b6 _ _ e5 (λz=>oW z.symm)) (k6 ba.done (λz=>vy z.symm) (λz=>yg z.symm) (λz=>yi z.symm) (λz=>ny z.symm)) (L2.Paired.bw ba.kJ λ_ _ e=>e.out of λa us e=>ba.tup e) (k6 ba.hZ (λz=>uP z.symm) (λz=>yh z.symm) (λz=>yj z.symm) (λz=>oX z.symm)) (L2.Paired.bw ba.mP λ_ _ e=>e.out of λa us e=>ba.tup e) (.no rfl rfl)
  refine⟨_,rfl,dC,_,rfl,.inr (qP _),rfl,rfl,_,rfl,?_⟩;dsimp only;rw[if_neg Yj,show eZ (kV (Sum.inr c.k)) (ie.map V.str)=cG c.k from zD c.k];refine bB (λcc=>?_) (λcc=>aV ?_)
  ·refine⟨_,rfl,l.h,C,dx,_,_,rfl,k3 h1 iC mf,hc.cls,hc.uc,rfl,_,rfl,_,rfl,by show 2<=sizeLine;decide,λp4 H4 yc g4 IL=>?_⟩;refine⟨l.pr,p4,_,[.inr c.k,.inr (aq b.ps c.one)],rfl,g4 _ _ yb,rfl,IL,(zf _ _).mpr ?_,λH5 b5 e5=>?_⟩
   ·unfold cv;rw[Wa];exact Ye.mpr ⟨(z,c),Yy.mpr ⟨m,cc⟩,rfl⟩
   rw[Zbc ok.zs ok.pr m cc] at e5;have k5:∀{a:Addr} {o:HO},H3 a=some o->a≠l.pr->H5 a=some o:=λ{a o} e n=>b5 _ _ (g4 _ _ e) n;refine⟨_,rfl,l.h,C,dx,_,rfl,k5 (k3 h1 iC mf) oW,hc.cls,hc.hE,by show 10<1000;decide,λH6 b6 e6=>?_⟩;exact last H5 k5 e5 H6 b6 e6
  ·have ef:cG c.k=false:=by
    cases e:cG c.k with
    |true=>exact absurd e cc
    |false=>rfl
   refine⟨_,rfl,l.h,C,dx,_,rfl,k3 h1 iC mf,hc.cls,hc.hE,by show 10<1000;decide,λH6 b6 e6=>?_⟩;exact last H3 (λe _=>e) (by rw[←Z2 ok.zs m ef];exact yb) H6 b6 e6
theorem Vg:aN ["self","way","row","coming"] ["self","way","row","coming"] (aH Cp):=.aU
theorem Zbd(F:aJ K "shift" "Hearth.shift" Cp f fd)(hc:fG K C)(nZ:mg "PUT_IN"=some (.int 1 t1))(Cc:bT P w K mg base 8 "put_in" C ["self","row"] (Om C CL CJ))(BU:bT P w K mg base 2 "take_out" C ["self","row"] (LW C CL CJ)):aG P w K mg base aM 9 f fd ["self","way","row","coming"] (Oo C CL CJ):=by
 refine F.o Vg λaB A outer s H vs Q E hr h=>?_;obtain⟨l,b,b',xs,ys,r,w',c2,rfl,ba,ok,mv,q⟩:=h;refine⟨_,(ak (aR (bA cq (pv 1) (dq (v:=.int (1)) rfl nZ ⟨_,rfl⟩)) (au (cy (cC Cc hr (by omega) (pv 0) (aa (pv 2) ag)))) (au (cy (cC BU hr (by omega) (pv 0) (aa (pv 2) ag))))) (au (fZ (K:=K) rfl (pv 0) (pv 3)))),?_⟩;obtain⟨dx,h1⟩:=ba.obj;have last:∀(l':BL) (H1:Hp),bM H H1 l l'->a8 H1 C CL CJ l' xs ys b'->∀(i6:Addr) (H2:Hp),H1 l'.h=some (.ins C i6 (HF l'.L l'.sd l'.pl l'.fc l'.kn l'.pr (b'.co:Int) l'.dn l'.un l'.rk))->aw l'.h H1 H2->H2 l'.h=some (.ins C i6 (HF l'.L l'.sd l'.pl l'.fc l'.kn l'.pr (c2:Int) l'.dn l'.un l'.rk))->Q .ay H2:=λl' H1 wt bZ i6 H2 e1 b2 e2=>by
  have nd:=bZ.nd;unfold BL.own at nd;simp only[Yz,Yp,Y3,or_false,not_or] at nd;obtain⟨⟨l_,cL,iC,mf,oW,ny,oX⟩,_⟩:=nd;have o2:Out l'.own H1 H2:=λa u e na=>b2 _ _ e (λz=>na (by rw[z];simp[BL.own]));have of:=qW o2;have mj:=(bZ.owned (l':=l') (b':={b' with co:=c2}) rfl rfl rfl rfl rfl rfl rfl rfl rfl (.inl ⟨rfl,rfl,rfl,rfl⟩) o2 ⟨i6,e2⟩ (b2 _ _ bZ.cW (λz=>l_ z.symm)) (b2 _ _ bZ.places (λz=>cL z.symm)) (b2 _ _ bZ.facts (λz=>iC z.symm)) (L2.Paired.bw bZ.fact λ_ _ e=>(λe=>of _ _ e (bZ.tup e)) e) (b2 _ _ bZ.known (λz=>mf z.symm)) (b2 _ _ bZ.parents (λz=>oW z.symm)) (b2 _ _ bZ.done (λz=>ny z.symm)) (L2.Paired.bw bZ.kJ λ_ _ e=>e.out of λa us e=>bZ.tup e) (b2 _ _ bZ.hZ (λz=>oX z.symm)) (L2.Paired.bw bZ.mP λ_ _ e=>e.out of λa us e=>bZ.tup e)).1;exact q l' H2 (wt.trans ⟨rfl,of,dZ.refl _ _⟩) mj
 have go:∀(l':BL) (H1:Hp),bM H H1 l l'->a8 H1 C CL CJ l' xs ys b'->∃i6,H1 l.h=some (.ins C i6 (HF l'.L l'.sd l'.pl l'.fc l'.kn l'.pr (b'.co:Int) l'.dn l'.un l'.rk))/\∀H2,aw l.h H1 H2->H2 l.h=some (.ins C i6 (HF l'.L l'.sd l'.pl l'.fc l'.kn l'.pr (c2:Int) l'.dn l'.un l'.rk))->Q .ay H2:=λl' H1 wt bZ=>by
  obtain⟨i6,e1⟩:=bZ.obj;have eh:=wt.h
  grind
 have w12:w'=1\/w'=-1:=by cases mv<;>first|exact .inl rfl|exact .inr rfl
 rcases w12 with rfl|rfl
 ·refine⟨_,rfl,rfl,_,rfl,cS ?_⟩;refine⟨_,rfl,l.h,dx,_,rfl,h1,rfl,_,rfl,l,b,b',xs,ys,r,rfl,ba,ok,mv,λl' H1 wt bZ=>?_⟩;obtain⟨i6,e1,k⟩:=go l' H1 wt bZ;exact⟨_,rfl,_,rfl,l.h,C,i6,_,rfl,e1,hc.cls,hc.pJ,by show 10<1000;decide,λH2 b2 e2=>k H2 b2 e2⟩
 ·refine⟨_,rfl,rfl,_,rfl,bY ?_⟩;refine⟨_,rfl,l.h,dx,_,rfl,h1,rfl,_,rfl,l,b,b',xs,ys,r,rfl,ba,ok,mv,λl' H1 wt bZ=>?_⟩;obtain⟨i6,e1,k⟩:=go l' H1 wt bZ;exact⟨_,rfl,_,rfl,l.h,C,i6,_,rfl,e1,hc.cls,hc.pJ,by show 10<1000;decide,λH2 b2 e2=>k H2 b2 e2⟩
theorem U1:aN ["self","way","row","coming"] ["self","way","row","coming"] (aH BX):=.aU
theorem YU(F:aJ K "do_deed" "Hearth.do_deed" BX f fd)(hc:fG K C)(Cr:bT P w K mg base 9 "shift" C ["self","way","row","coming"] (Oo C CL CJ)):aG P w K mg base aM 10 f fd ["self","way","row","coming"] (zg C CL CJ):=by
 refine F.o U1 λaB A outer s H vs Q E hr h=>?_;obtain⟨l,b,b',xs,ys,r,w',c2,row,rfl,ba,ok,dl,hR,mv,q⟩:=h;refine⟨_,(ak (cy (lE (K:=K) rfl (ji plainAttrs_list PySem.F.slot_list_append PySem.F.type_list_append mC (pF K 0) (aa (dz (aa (pv 1) (aa (pv 2) (aa (pF K 0) (aa (pv 3) ag))))) ag)))) (ak (cy (Zb3 (K:=K) rfl (Zc0 plainAttrs_list PySem.F.slot_list_clear PySem.F.type_list_clear ZJ (pF K 0)))) (au (cy (cC Cr hr (by omega) (pv 0) (aa (pv 1) (aa (pv 2) (aa (pv 3) ag)))))))),?_⟩;obtain⟨dx,h1⟩:=ba.obj;have sz:(10000:Nat)<=sizeLine:=by rw[sizeLine_eq];omega
 have nd:=ba.nd;unfold BL.own at nd;simp only[Yz,Yp,Y3,or_false,not_or] at nd;obtain⟨⟨l_,cL,iC,mf,oW,ny,oX⟩,⟨yd,sO,sP,sQ,vg,vh⟩,⟨qr,sR,sS,vq,vv⟩,⟨ye,yf,vy,uP⟩,⟨A_,yg,yh⟩,⟨yi,yj⟩,yk,_⟩:=nd;have dal:=cI ba.kJ;refine⟨_,rfl,l.h,C,dx,_,_,rfl,h1,hc.cls,hc.P5,rfl,.inl ⟨rfl,_,aj.of ba.done⟩,?_⟩;refine⟨_,rfl,_,rfl,_,rfl,l.h,C,dx,_,_,rfl,h1,hc.cls,hc.pJ,rfl,_,rfl,by show 4<=sizeLine;omega,λp H1 np g1 e1=>?_⟩;refine⟨l.dn,_,_,rfl,rfl,g1 _ _ ba.done,by rw[Ya];omega,λH2 b2 e2=>?_⟩;have a1:=b2 _ _ (g1 _ _ h1) ny;have a7:=b2 _ _ (g1 _ _ ba.hZ) (λz=>yk z.symm);refine⟨_,rfl,l.h,C,dx,_,_,rfl,a1,hc.cls,hc.MV,rfl,.inl ⟨rfl,_,aj.of a7⟩,l.un,_,rfl,rfl,a7,λH3 b3 e3=>?_⟩;have k3:∀{a:Addr} {o:HO},H a=some o->a≠l.dn->a≠l.un->H3 a=some o:=λ{a o} e n1 n2=>b3 _ _ (b2 _ _ (g1 _ _ e) n1) n2;have o3:Out l.own H H3:=λa u e na=>k3 e (λz=>na (by rw[z];simp[BL.own])) (λz=>na (by rw[z];simp[BL.own]));have of:=qW o3;have tp:∀{a:Addr} {us:List V},H a=some (.tup us)->H3 a=some (.tup us):=λe=>of _ _ e (ba.tup e);have pu:p≠l.un:=λz=>by rw[z,ba.hZ] at np;cases np
 have ed:H3 l.dn=some (.lst ((l.gZ++[p]).map V.ref)):=by rw[Yn];exact b3 _ _ e2 yk
 have i_:=(ba.owned (l':={l with gZ:=l.gZ++[p],jS:=[]}) (b':={b with dn:=b.dn++[⟨w',row,b.co,c2⟩],un:=[]}) rfl rfl rfl rfl rfl rfl rfl rfl rfl (.inl ⟨rfl,rfl,rfl,rfl⟩) o3 ⟨dx,k3 h1 ny oX⟩ (k3 ba.cW vg vh) (k3 ba.places vq vv) (k3 ba.facts vy uP) (L2.Paired.bw ba.fact λ_ _ e=>tp e) (k3 ba.known yg yh) (k3 ba.parents yi yj) ed (iH (F:=mO H3) ⟨r,b3 _ _ (b2 _ _ e1 (λz=>by rw[z,ba.done] at np;cases np)) pu,tp hR⟩ (L2.Paired.bw ba.kJ λ_ _ e=>e.out of λa us e=>ba.tup e)) e3 .nil);have h3:=k3 h1 ny oX;refine⟨_,rfl,l.h,dx,_,rfl,h3,rfl,_,rfl,_,rfl,_,rfl,{l with gZ:=l.gZ++[p],jS:=[]},_,_,xs,ys,r,w',c2,rfl,i_.1,⟨ok.gd,ok.nm,ok.m,ok.fl,ok.fg,ok.zs,ok.lt,ok.ky,ok.pr,ok.lv,by show(b.dn++[_]).length<=200;rw[Yk];show b.dn.length+1<=200;omega,Yw _⟩,((mv.ZeK _ _).out λus e=>tp e),λl' H4 wt Bb=>?_⟩;exact q l' H4 (bM.trans (l1:={l with gZ:=l.gZ++[p],jS:=[]}) ⟨rfl,of,i_.2⟩ wt) Bb
end
theorem cB.ZfF(j:cB H C n l st)(h:a∈l.bV):∃us,H a=some (.lst us):=by
 obtain⟨p,e⟩:=v9 j.free h
 grind
theorem cB.sT(j:cB H C n l st)(e:H a=some o)(nl:∀us,o≠.lst us)(nt:∀us,o≠.tup us)(na:a∉l.fp)(br:aw a H H'):cB H' C n l st:=by
 refine j.jG (fp:=[a]) (λb u eb nb=>br _ _ eb λz=>nb (by rw[z];exact Yf)) (λb hb=>?_) (λb hb z=>?_) λb us eb z=>?_;·grind
 ·rw[Ym.mp hb] at z;obtain⟨us,q⟩:=j.ZfF z
  grind
 ·grind
inductive oy(H:Hp)(C CJ dx d:Addr)(l:BL)(b:BS)(n:Nat)(J:Addr)(F:List Fc)(m:Nat)(H6:Hp):Prop
 |mk (jl:JL) (st:JS) (eJ:jl.J=J) (keep:∀a u,H a=some u->a≠l.h->a≠d->H6 a=some u) (obj:H6 l.h=some (.ins C dx (HF l.L l.sd l.pl l.fc l.kn l.pr (b.co:Int) l.dn l.un (.ref J)))) (ja:cB H6 CJ n jl st) (me:dk n st F) (len:st.hd.length=m) (new:∀a∈jl.fp,H a=none):oy H C CJ dx d l b n J F m H6
theorem oy.sT(j:oy H C CJ dx d l b n J F m H6)(hd:H d'≠none)(e:H6 d'=some o)(nl:∀us,o≠.lst us)(nt:∀us,o≠.tup us)(nh:d'≠l.h)(br:aw d' H6 H7)(kd:∀u,H d=some u->d≠d'->d≠l.h->H7 d=some u):oy H C CJ dx d' l b n J F m H7:=by
 obtain⟨jl,st,eJ,keep,obj,ja,me,len,new⟩:=j;refine⟨jl,st,eJ,λa u ea n1 n2=>?_,br _ _ obj (λz=>nh z.symm),ja.sT e nl nt (λz=>hd (new _ z)) br,me,len,new⟩;by_cases z:a=d;·grind
 ·exact br _ _ (keep a u ea n1 z) n2
theorem LY:∀{ks:List Nat} {as:List Addr} {i:Nat} {k:Key} {y:V},(aX ks as)[i]?=some (k,y)->∃a,as[i]?=some a/\y=.ref a
 |[],as,i,k,y,h=>by
  unfold aX at h;simp at h
 |_::_,[],i,k,y,h=>by
  unfold aX at h;simp at h
 |q::ks,a::as,0,k,y,h=>by
  injection(Yq h) with _ e2
  grind
 |q::ks,a::as,i+1,k,y,h=>by
  have e0:aX (q::ks) (a::as)=(Sum.inl (q:Int),V.ref a)::aX ks as:=rfl;rw[e0] at h;have h':(aX ks as)[i]?=some (k,y):=by simpa using h
  obtain⟨b,e1,e2⟩:=LY h'
  grind
inductive M6(C CL CJ:Addr)(vs:List V)(H:Hp)(Q:VK):Prop
 |mk (l:BL) (b:BS) (xs ys:List Int) (aC:vs=[.ref l.h]) (ba:a8 H C CL CJ l xs ys b) (ok:cg xs ys b) (q:∀(l':BL) (jl:JL) (st:JS) (H':Hp),bM H H' l l'->a8 H' C CL CJ l' xs ys b->l'.rk=.ref jl.J->l'.d9=jl.fp->cB H' CJ xs.length jl st->dk xs.length st b.F->st.hd.length=b.ps.length->(∀a∈l'.own,a∉jl.fp)->(l.rk≠.ay->H'=H/\l'=l)->Q (.ref jl.J) H'):M6 C CL CJ vs H Q
def wD(C CL CJ:Addr):Sp:=λvs H Q _=>M6 C CL CJ vs H Q
section
theorem Cd:aN ["self","name","fact"] ["self"] (aH Co):=.aU
theorem Zbe(F:aJ K "joins" "Hearth.joins" Co f fd)(hc:fG K C)(lc:uC K CL)(Fu:uA P w K mg base 1 "Joins" CJ ["self","size"] (N6 CJ))(tU:bT P w K mg base 2 "add" CJ ["self"] (Gh CJ))(tV:HasFn P w K mg base 6 "keep_fact" ["joins","land","places","fact"] (Fs CL CJ)):aG P w K mg base aM 8 f fd ["self"] (wD C CL CJ):=by
 refine F.o Cd λaB A outer s H vs Q E hr h=>?_;obtain⟨l,b,xs,ys,rfl,ba,ok,q⟩:=h;refine⟨_,(ak (aR (bA FD (pF K 0) lC) (ak (fZ (K:=K) rfl (pv 0) (F9 Fu hr (by omega) rfl (aa (wx (K:=K) rfl (pF K 0) rfl) ag))) (ak (KU (H0:=H) rfl PassesOwn.never rfl (NW (H0:=H) rfl (pF K 0)) (bj 1 Cd.nd) (au (cy (oo tU hr (by omega) (pF K 0))))) (au (YC (H0:=H) rfl PassesOwn.never rfl (Zb6 (H0:=H) rfl (pF K 0)) (bj 2 Cd.nd) (au (cy (aP tV hr (aa (pF K 0) (aa (pF K 0) (aa (pF K 0) (aa (pv 2) ag))))))))))) aW) (au (aF (pF K 0)))),?_⟩;obtain⟨dx,h1⟩:=ba.obj;have n8:xs.length<=8:=ok.gd.2.2.2.2;have n0:0<xs.length:=by have:=ok.gd.2.2.2.1;omega
 have nd:=ba.nd;unfold BL.own at nd;simp only[Yz,Yp,Y3,or_false,not_or] at nd;obtain⟨⟨l_,cL,iC,mf,oW,ny,oX⟩,⟨yd,sO,sP,sQ,vg,vh⟩,⟨qr,sR,sS,vq,vv⟩,⟨ye,yf,vy,uP⟩,_⟩:=nd;cases hj:ba.rD with
 |at_ jl st j1 j2 ja me len eV=>
  have kO:=h1;rw[j1] at kO;refine⟨_,rfl,l.h,C,dx,_,_,rfl,kO,hc.cls,hc.hE,rfl,rfl,_,rfl,bY (aV ?_)⟩;exact⟨_,rfl,l.h,C,dx,_,_,rfl,kO,hc.cls,hc.hE,rfl,q l jl st H (bM.of (ai.refl _)) ba j1 j2 ja me len eV λ_=>⟨rfl,rfl⟩⟩
 |no j1 j2=>
  have kO:=h1;rw[j1] at kO;refine mM (λσ H6=>∃(J:Addr) (o1 o2:Option V),σ=[some (.ref l.h),o1,o2]/\oy H C CJ dx l.h l b xs.length J b.F b.ps.length H6) (λnx hn=>?_) ?_
  ·refine⟨_,rfl,l.h,C,dx,_,_,rfl,kO,hc.cls,hc.hE,rfl,rfl,_,rfl,cS ?_⟩;obtain⟨dL,dS,mo,iy,wi,im,jf,iw,HU,hL,_⟩:=ba.landAt;refine⟨_,rfl,l.h,C,dx,_,_,rfl,kO,hc.cls,hc.ux,rfl,l.L,CL,dL,_,_,rfl,hL,lc.cls,lc.ra,rfl,λx vA nA xT nd2=>?_⟩;have xU:upd H vA (.own x) x=none:=by rw[aQ (λz=>nd2 z.symm)];exact nA
   have Tt:ai H (upd (upd H vA (.own x)) x (.ins CJ vA [])):=(cj xT _).trans (cj xU _);refine⟨x,vA,xs.length,rfl,aS,λIP H2 eJ1 em1 fr1 b2 ja1=>⟨rfl,?_⟩⟩;have f1:∀a∈IP.fp,H a=none:=λa ha=>by
    by_cases z:a=x;·rw[z];exact nA
    ·exact Tt.free (fr1 a ha z)
   have g2:ai H H2:=λa o e=>b2 _ _ (Tt _ _ e) (bX e nA);refine⟨_,rfl,l.h,C,dx,_,rfl,g2 _ _ kO,hc.cls,hc.hE,by show 10<1000;decide,λH3 b3 e3=>?_⟩;have Tu:H3 l.h=some (.ins C dx (HF l.L l.sd l.pl l.fc l.kn l.pr (b.co:Int) l.dn l.un (.ref x))):=e3;have A8:l.h∉IP.fp:=λz=>by have:=f1 _ z;rw[h1] at this;cases this
   have jm3:oy H C CJ dx l.h l b xs.length x [] 0 H3:=⟨IP,_,eJ1,λa u e n1 _=>b3 _ _ (g2 _ _ e) n1,Tu,ja1.sT (g2 _ _ kO) (λus z=>nomatch z) (λus z=>nomatch z) A8 b3,ZeJ,rfl,f1⟩;have s3:H3 l.sd=some (.dK (fX b.ps)):=b3 _ _ (g2 _ _ ba.cW) (λz=>l_ z.symm);dsimp only;refine fP (λσ H6=>∃o1 o2:Option V,σ=[some (.ref l.h),o1,o2]/\oy H C CJ dx l.h l b xs.length x [] b.ps.length H6) (λBc nB=>?_) ?_
   ·refine Mz (d:=l.sd) (kvs:=fX b.ps) (H1:=H3) (λR r=>⟨_,rfl,l.h,C,dx,_,_,rfl,Tu,hc.cls,hc.qU,rfl,r⟩) s3 (λi σ H6=>∃o1 o2:Option V,σ=[some (.ref l.h),o1,o2]/\oy H C CJ dx l.sd l b xs.length x [] i H6) (λod=>⟨none,none,rfl,jm3.sT (by rw[ba.cW];exact λz=>nomatch z) s3 (λus z=>nomatch z) (λus z=>nomatch z) (λz=>l_ z.symm) (aw.put (aw.of (ai.refl _))) (λu _ _ z=>absurd rfl z)⟩) ?_ ?_
    ·rintro od i k y aE H6 N rt bk hk ⟨o1,o2,rfl,jm⟩ fz hN;obtain⟨jl,st,eJ,keep,obj,ja,me,len,new⟩:=jm;have il:i<b.ps.length:=by
      have:=(Yh.mp hk).1
      rwa [Ya] at this
     have im:=ok.m;obtain⟨dj,ej⟩:=ja.obj;have wf:=me.wf;have ml:=wf.PY;have x_:=wf.z4;refine bb ?_;refine⟨_,rfl,l.h,C,dx,_,_,rfl,obj,hc.cls,hc.hE,rfl,jl.J,dj,_,by rw[eJ],ej,rfl,jl,st,xs.length,by rw[eJ];rfl,ja,by omega,by omega,by omega,by omega,wf.ll,λz=>Wg _ (wf.lm _ z),λz=>Wg _ (wf.lf _ z),λgH H7 k1 o7 gr ja7=>?_⟩;have jt:∀{a:Addr} {u:HO},H a=some u->a∉jl.fp:=λ{a u} e z=>by rw[new _ z] at e;cases e
     refine hN _ _ ⟨_,_,rfl,gH,_,k1.trans eJ,λa u e n1 n2=>o7 _ _ (keep a u e n1 n2) (jt e),o7 _ _ obj (jt h1),ja7,me.more n0,by rw[iK,len],λa z=>?_⟩ (o7 _ _ fz (jt ba.cW));rcases gr a z with y|y;·exact new a y
     ·cases e:H a with
      |none=>rfl
      |some u=>
       by_cases z1:a=l.h;·rw[z1,obj] at y;cases y
       ·by_cases z2:a=l.sd;·rw[z2,fz] at y;cases y
        ·rw[keep a u e z1 z2] at y;cases y
    ·rintro od aE H6 ⟨o1,o2,rfl,jm⟩ fz;rw[Ya] at jm;refine nB _ _ ⟨o1,o2,rfl,?_⟩;obtain⟨jl,st,eJ,keep,obj,ja,me,len,new⟩:=jm;have jt:l.sd∉jl.fp:=λz=>by have:=new _ z;rw[ba.cW] at this;cases this
     refine⟨jl,st,eJ,λa u e n1 _=>?_,by rw[aQ l_];exact obj,ja.sT fz (λus z=>nomatch z) (λus z=>nomatch z) jt (aw.put (aw.of (ai.refl _))),me,len,new⟩;by_cases z:a=l.sd
     ·subst z;rw[aS];rw[ba.cW] at e;exact e
     ·rw[aQ z];exact keep a u e n1 z
   ·rintro σ H6 ⟨o1,o2,rfl,jm⟩;obtain⟨jl0,Zhv,eJ0,ZeN,ZfG,ja0,me0,len0,Zhw⟩:=id jm;have f6:H6 l.fc=some (.dK (aX (b.fs.map (·.1)) l.bV)):=ZeN _ _ ba.facts (λz=>iC z.symm) (λz=>iC z.symm);have al:=cI ba.fact;refine ZaO (d:=l.fc) (kvs:=aX (b.fs.map (·.1)) l.bV) (H1:=H6) (λR r=>⟨_,rfl,l.h,C,dx,_,_,rfl,ZfG,hc.cls,hc.uq,rfl,r⟩) f6 (λi σ H6=>∃o1 o2:Option V,σ=[some (.ref l.h),o1,o2]/\oy H C CJ dx l.fc l b xs.length x (b.F.take i) b.ps.length H6) (λod=>⟨o1,o2,rfl,jm.sT (by rw[ba.facts];exact λz=>nomatch z) f6 (λus z=>nomatch z) (λus z=>nomatch z) (λz=>iC z.symm) (aw.put (aw.of (ai.refl _))) (λu _ _ z=>absurd rfl z)⟩) ?_ ?_
    ·rintro od i k y aE H7 N rt bk hk ⟨o1,o2,rfl,jm⟩ fz hN;obtain⟨fa,efa,rfl⟩:=LY hk;obtain⟨⟨z,c⟩,Tv,cP⟩:=fO ba.fact efa;have mzc:=Yi Tv;obtain⟨jl,st,eJ,keep,obj,ja,me,len,new⟩:=jm;have jt:∀{a:Addr} {u:HO},H a=some u->a∉jl.fp:=λ{a u} e z=>by rw[new _ z] at e;cases e
     have of:Out l.fp H H7:=λa u e n=>keep a u e (λz=>n (by rw[z];simp[BL.fp,BL.own])) (λz=>n (by rw[z];simp[BL.fp,BL.own]));have fg:=ok.fg _ mzc;have im:=ok.m;have ec:b.F[i]?=some c:=by unfold BS.F;rw[Yg,Tv];rfl
     have tk:b.F.take (i+1)=b.F.take i++[c]:=by rw[Y0,ec];rfl
     refine bb ?_;refine⟨_,rfl,l.h,C,dx,_,_,rfl,obj,hc.cls,hc.hE,rfl,_,rfl,l.h,C,dx,_,_,rfl,obj,hc.cls,hc.ux,rfl,_,rfl,l.h,C,dx,_,_,rfl,obj,hc.cls,hc.qQ,rfl,_,rfl,jl,st,l.L,l.pl,fa,xs,ys,b.ps,b.F.take i,z,c,by rw[eJ];rfl,ja,me,ba.land H7 of,ok.gd,keep _ _ ba.places (λz=>cL z.symm) qr,ok.nm,len,by omega,of _ _ cP (ba.tup cP),fg,?_,λv gH aI H8 e1 sub o8 ja8 me8 ZfH=>?_⟩
     ·obtain⟨f0,i0,s0⟩:=ok.lv;exact⟨f0,(me.iff f0).mpr ⟨by rw[len];exact i0,λc' m'=>s0 c' (List.mem_of_mem_take m')⟩,s0 c (Yi ec)⟩
     ·refine hN _ _ ⟨_,_,rfl,gH,aI,e1.trans eJ,λa u e n1 n2=>o8 _ _ (keep a u e n1 n2) (jt e),o8 _ _ obj (jt h1),ja8,by rw[tk];exact me8,ZfH.trans len,λa z=>new a (sub a z)⟩ (o8 _ _ fz (jt ba.facts))
    ·rintro od aE H7 ⟨o1,o2,rfl,jm⟩ fz;have dl:(aX (b.fs.map (·.1)) l.bV).length=b.F.length:=by
      unfold aX BS.F;rw[Ya,W5,Ya,Ya];omega
     rw[dl,Wd] at jm;refine hn _ _ ⟨x,o1,o2,rfl,?_⟩;obtain⟨jl,st,eJ,keep,obj,ja,me,len,new⟩:=jm;have jt:l.fc∉jl.fp:=λz=>by have:=new _ z;rw[ba.facts] at this;cases this
     refine⟨jl,st,eJ,λa u e n1 _=>?_,by rw[aQ iC];exact obj,ja.sT fz (λus z=>nomatch z) (λus z=>nomatch z) jt (aw.put (aw.of (ai.refl _))),me,len,new⟩;by_cases z:a=l.fc
     ·subst z;rw[aS];rw[ba.facts] at e;exact e
     ·rw[aQ z];exact keep a u e n1 z
  ·rintro σ H6 ⟨J,o1,o2,rfl,jm⟩;obtain⟨jl,st,eJ,keep,obj,ja,me,len,new⟩:=jm;refine⟨_,rfl,l.h,C,dx,_,_,rfl,obj,hc.cls,hc.hE,rfl,?_⟩;have k6:∀{a:Addr} {u:HO},H a=some u->a≠l.h->H6 a=some u:=λ{a u} e n=>keep a u e n n;have of:Out l.fp H H6:=λa u e n=>k6 e (λz=>n (by rw[z];simp[BL.fp,BL.own]));have tp:∀{a:Addr} {us:List V},H a=some (.tup us)->H6 a=some (.tup us):=λe=>of _ _ e (ba.tup e);have gr:dZ l.fp ({l with rk:=.ref jl.J,d9:=jl.fp}:BL).fp H:=λa z=>by
    rcases Yt.mp (show a∈l.own++jl.fp from z) with y|y;·exact .inl (Ys _ y)
    ·exact .inr (new a y)
   have eV:∀a∈l.own,a∉jl.fp:=λa m z=>ba.there (Ys _ m) (new a z);subst eJ;refine q {l with rk:=.ref jl.J,d9:=jl.fp} jl st H6 ⟨rfl,of,gr⟩ ?_ rfl rfl ja me len eV λz=>absurd j1 z;exact ba.build (l':={l with rk:=.ref jl.J,d9:=jl.fp}) (b':=b) rfl rfl rfl rfl rfl rfl rfl rfl rfl of gr ⟨dx,obj⟩ (k6 ba.cW (λz=>l_ z.symm)) (k6 ba.places (λz=>cL z.symm)) (k6 ba.facts (λz=>iC z.symm)) (L2.Paired.bw ba.fact λ_ _ e=>tp e) (k6 ba.known (λz=>mf z.symm)) (k6 ba.parents (λz=>oW z.symm)) (k6 ba.done (λz=>ny z.symm)) (L2.Paired.bw ba.kJ λ_ _ e=>e.out of λa us e=>ba.tup e) (k6 ba.hZ (λz=>oX z.symm)) (L2.Paired.bw ba.mP λ_ _ e=>e.out of λa us e=>ba.tup e) (.at_ jl st rfl rfl ja me len eV)
end
def fM(z:Str)(c:Nat):Bool:=!(Builtin.Str.occurrences z ⟨#[c]⟩ 0 z.length 1).isEmpty
abbrev n5:Str:="abcdefghijklmnopqrstuvwxyz"
abbrev lF:Str:="abcdefghijklmnopqrstuvwxyz0123456789"
def rE(z:Str):Bool:=match z.cps.toList with
 |[]=>false
 |c::r=>decide (z.length<=12)&&(fM n5 c&&(c::r).all (fM lF))
theorem ZfI(v:Str):v.cps.toList.length=v.length:=by simp[Str.length]
theorem Zcu{z:Str}(h:z.cps.toList=[]):z="":=by
 cases z with|mk a=>cases a with|mk l=>cases h;rfl
theorem Zbf(h:z.cps.toList=[]):rE z=false:=by unfold rE;rw[h]
theorem LZ(h:z.cps.toList=c::r):rE z=(decide (z.length<=12)&&(fM n5 c&&(c::r).all (fM lF))):=by unfold rE;rw[h]
def M7:Sp:=λvs H Q _=>∃z:Str,vs=[.str z]/\z.length<=1000/\∀H',ai H H'->Q (.bl (rE z)) H'
section
theorem YV:aN ["text"] ["text"] (aH El):=.aU
theorem YW(F:aJ K "is_name" "is_name" El f fd){t1 t2 t3:Tok}(Cs:mg "LONGEST_NAME"=some (.int 12 t1))(BO:mg "LETTERS_OF_NAMES"=some (.str "abcdefghijklmnopqrstuvwxyz" t2))(B0:mg "SIGNS_OF_NAMES"=some (.str "abcdefghijklmnopqrstuvwxyz0123456789" t3))(bl:Bl mg):
  aG P w K mg base aM 1 f fd ["text"] M7:=by
 refine F.o YV λaB A outer s H vs Q E hr h=>?_;obtain⟨z,rfl,lz,q⟩:=h;refine⟨_,(ak (aR (PW.pt (pw_or (bA cq (pv 0) bq) (pw_or (bA wY (iJ (WA) rfl bl.zX zI (aa (pv 0) ag)) (dq (v:=.int (12)) rfl Cs ⟨_,rfl⟩)) (pw_or1 (gT V8 (a_ wL (pv 0) aL) (dq (v:=.str "abcdefghijklmnopqrstuvwxyz") rfl BO ⟨_,rfl⟩) (by with_unfolding_all rfl)))))) (au (aF jh)) aW) (au (aF (iJ (Rv (K:=K) rfl rfl) rfl bl.QF Pp (aa (iM (x:="sign") (fr:=[]) (cl:=[]) rfl (.fW trivial trivial) (Zdx (pv 0)) (λ_ _ _ _=>lq) (λ_ _ _ _=>(zo Zr (pv 0) (dq (v:=.str "abcdefghijklmnopqrstuvwxyz0123456789") rfl B0 ⟨_,rfl⟩) (by with_unfolding_all rfl)))) ag))))),?_⟩;have sz:(10000:Nat)<=sizeLine:=by rw[sizeLine_eq];omega
 cases ez:z.cps.toList with
 |nil=>
  have e:=Zcu ez;rw[Zbf ez] at q;refine⟨_,rfl,rfl,_,rfl,bB (λ_=>?_) (λc=>absurd (decide_eq_true (by rw[e])) c)⟩;exact q H (ai.refl H)
 |cons c r=>
  have zl:=ZfI z;rw[ez,Wq] at zl;rw[LZ ez] at q;refine⟨_,rfl,rfl,_,rfl,bB (λcc=>?_) (λ_=>?_)⟩
  ·have e:z="":=V.str.inj (of_decide_eq_true cc);have e0:(Str.ofString "").cps.toList=[]:=by decide+kernel
   rw[e,e0] at ez;cases ez
  refine⟨_,rfl,z,rfl,by omega,_,_,rfl,rfl,_,rfl,bB (λcc=>?_) (λcc=>?_)⟩
  ·have Tw:(12:Int)<(z.length:Int):=of_decide_eq_true cc;rw[decide_eq_false (by omega:¬z.length<=12)] at q;exact q H (ai.refl H)
  have Be:z.length<=12:=by
   grind
  rw[decide_eq_true Be,Jx] at q;refine⟨_,rfl,_,_,_,rfl,rfl,by omega,fF (j:=0) (by rw[ez];rfl),_,_,rfl,rfl,_,rfl,bB (λcc=>?_) (λcc=>aV ?_)⟩
  ·have Tw:fM n5 c=false:=by
    have z:(!fM n5 c)=true:=cc;cases e:fM n5 c;·rfl
    ·rw[e] at z;cases z
   rw[Tw,Bool.false_and] at q;exact q H (ai.refl H)
  have cl:fM n5 c=true:=by
   cases e:fM n5 c;·exact absurd (show(!fM n5 c)=true by rw[e];rfl) cc
   ·rfl
  rw[cl,Jx,←ez] at q;refine⟨_,rfl,z,rfl,λD hD=>ZK (by omega) hD (λc=>V.bl (fM lF c)) (λi c hi H1 g1 Kt k=>?_) λH1 g1 h1=>?_⟩;·exact⟨_,rfl,_,_,rfl,rfl,k H1 (ai.refl _)⟩
  ·refine⟨D,z.cps.toList.map (fM lF),rfl,aj.of (by rw[h1,Wa];rfl),?_⟩;rw[Ia];exact q H1 g1
end
theorem dB.more(h:dB n m c)(l:m<=m'):dB n m' c:=⟨by have:=h.one;omega,λns=>by obtain⟨⟨a,b⟩,d⟩:=h.gF ns;exact⟨⟨a,by omega⟩,d⟩⟩
theorem dN.more(h:dN xs ys m c)(l:m<=m'):dN xs ys m' c:=⟨h.ok.more l,h.kind,h.GQ⟩
theorem Zd2{f g:Nat->Int}(ok:dB n m c)(e:∀i,i<m->g i=f i)(s:eQ f c):eQ g c:=⟨λh=>by rw[e _ ok.one];exact s.1 h,λh=>by rw[e _ ok.one,e _ (ok.gF h).1.2];exact s.2 h⟩
section
variable {xs ys:List Int}{b:BS}
theorem cg.ZfJ(ok:cg xs ys b)(new:n∉b.ps.map (·.1))(lim:b.ps.length<64)(hc:b.co<=co)(dl:dn.length<=200)(ul:un.length<=200):cg xs ys {b with ps:=b.ps++[(n,s)],co:=co,dn:=dn,un:=un}:=by
 have rU:=λp hp=>(ok.fg p hp).ok;have len:(b.ps++[(n,s)]).length=b.ps.length+1:=by rw[Yk];rfl
 refine⟨ok.gd,?_,by show(b.ps++[(n,s)]).length<=64;omega,ok.fl,λp hp=>?_,ok.zs,λp hp=>Y1 (ok.lt p hp) hc,?_,?_,?_,dl,ul⟩
 ·show((b.ps++[(n,s)]).map (·.1)).Nodup;rw[Yn];refine Wo.mpr ⟨ok.nm,by simp,λu hu v hv z=>?_⟩
  grind
 ·show dN xs ys (b.ps++[(n,s)]).length p.2;rw[len];exact(ok.fg p hp).more (G6 _)
 ·show(b.fs.map λp=>eU (b.ps++[(n,s)]) p.2).Nodup;rw[(Wj λp hp=>by rw[Oi (rU p hp)])];exact ok.ky
 ·show((cv (b.ps++[(n,s)]) b.fs).map (·.1)).Nodup;rw[Oj rU];exact ok.pr
 ·obtain⟨f,i0,s0⟩:=ok.lv;refine⟨λi=>if i<b.ps.length then f i else 0,λi hi=>?_,λc m=>?_⟩
  ·show 0<=(if i<b.ps.length then f i else 0)/\(if i<b.ps.length then f i else 0)<(xs.length:Int);by_cases h:i<b.ps.length;·rw[if_pos h];exact i0 i h
   ·rw[if_neg h];have:=ok.gd.2.2.2.1
    grind
  ·obtain⟨p,hp,rfl⟩:=Ye.mp m;exact Zd2 (rU p hp) (λi hi=>if_pos hi) (s0 _ m)
theorem cg.RN(ok:cg xs ys b)(fg:dN xs ys b.ps.length c)(nz:z∉b.fs.map (·.1))(nk:eU b.ps c∉b.keys)(np:cG c.k=true->[.inr c.k,.inr (aq b.ps c.one)]∉(cv b.ps b.fs).map (·.1))(lv:∃f,kT xs.length b.ps.length f/\∀c'∈b.F++[c],eQ f c')(lim:b.fs.length<63)(hc:b.co<=co)(hz:z<co)(dl:dn.length<=200)(ul:un.length<=200):cg xs ys {b with fs:=b.fs++[(z,c)],co:=co,dn:=dn,un:=un}:=by
 have snoc:∀{α:Type} {l:List α} {x:α},l.Nodup->x∉l->(l++[x]).Nodup:=λ{α l x} h1 h2=>Wo.mpr ⟨h1,by simp,λu hu v hv e=>by
  have:v=x:=by simpa using hv
  exact h2 (by rw[←this,←e];exact hu)⟩
 refine⟨ok.gd,ok.nm,ok.m,by show(b.fs++[(z,c)]).length<=63;rw[Yk];exact lim,λp hp=>?_,?_,λp hp=>?_,?_,?_,?_,dl,ul⟩
 ·rcases Yt.mp hp with hp|hp;·exact ok.fg p hp
  ·rw[Ym.mp hp];exact fg
 ·show((b.fs++[(z,c)]).map (·.1)).Nodup;rw[Yn];exact snoc ok.zs nz
 ·rcases Yt.mp hp with hp|hp;·exact Y1 (ok.lt p hp) hc
  ·rw[Ym.mp hp];exact hz
 ·show((b.fs++[(z,c)]).map λp=>eU b.ps p.2).Nodup;rw[Yn];exact snoc ok.ky nk
 ·show((cv b.ps (b.fs++[(z,c)])).map (·.1)).Nodup;cases e:cG c.k with
  |true=>rw[MZ e,Yn];exact snoc ok.pr (np e)
  |false=>rw[M0 e];exact ok.pr
 ·obtain⟨f,i0,s0⟩:=lv;refine⟨f,i0,λc' m=>s0 c' ?_⟩;have m':c'∈(b.fs++[(z,c)]).map (·.2):=m;rw[Yn] at m';exact m'
theorem cg.drop(ok:cg xs ys b)(z:Nat)(hc:b.co<=co)(dl:dn.length<=200)(ul:un.length<=200):cg xs ys {b with fs:=cQ z b.fs,co:=co,dn:=dn,un:=un}:=by
 have sub:(cQ z b.fs).Sublist b.fs:=List.filter_sublist;refine⟨ok.gd,ok.nm,ok.m,Y4 sub.length_le ok.fl,λp hp=>ok.fg p (sub.subset hp),ok.zs.sublist (sub.map _),λp hp=>Y1 (ok.lt p (sub.subset hp)) hc,ok.ky.sublist (sub.map _),?_,?_,dl,ul⟩
 ·show((cv b.ps (cQ z b.fs)).map (·.1)).Nodup;refine ok.pr.sublist ?_;unfold cv
  grind
 ·obtain⟨f,i0,s0⟩:=ok.lv;exact⟨f,i0,λc m=>s0 c ((sub.map _).subset m)⟩
end
def BS.Gk(b:BS)(n s:Str):BS:={b with ps:=b.ps++[(n,s)],co:=b.co,dn:=b.dn++[⟨1,[.inr n,.inr s],b.co,b.co⟩],un:=[]}
def BS.pX(b:BS)(c:Fc):BS:={b with fs:=b.fs++[(b.co,c)],co:=b.co+1,dn:=b.dn++[⟨1,dJ b.ps b.co c,b.co,b.co+1⟩],un:=[]}
def BS.without(b:BS)(z:Nat)(c:Fc):BS:={b with fs:=cQ z b.fs,co:=b.co,dn:=b.dn++[⟨-1,dJ b.ps z c,b.co,b.co⟩],un:=[]}
def FZ(s:Str):Bool:=eZ (.str s) [.str "man",.str "woman"]
structure GR(b:BS)(n s:Str):Prop where
 ZfK:rE n=true
 side:FZ s=true
 new:n∉b.ps.map (·.1)
 lim:b.ps.length<64
 nl:n.length<=1000
structure Aj(xs ys:List Int)(b:BS)(c:Fc):Prop where
 fg:dN xs ys b.ps.length c
 nk:eU b.ps c∉b.keys
 np:cG c.k=true->[.inr c.k,.inr (aq b.ps c.one)]∉(cv b.ps b.fs).map (·.1)
 lv:∃f,kT xs.length b.ps.length f/\∀c'∈b.F++[c],eQ f c'
 lim:b.fs.length<63
inductive L0(C CL CJ:Addr)(vs:List V)(H:Hp)(Q:VK):Prop
 |mk (l:BL) (b:BS) (xs ys:List Int) (n s:Str) (aC:vs=[.ref l.h,.str n,.str s]) (ba:a8 H C CL CJ l xs ys b) (np:GR b n s) (q:∀H',ai H H'->Q .ay H'):L0 C CL CJ vs H Q
def M8(C CL CJ:Addr):Sp:=λvs H Q _=>L0 C CL CJ vs H Q
inductive L1(C CL CJ:Addr)(vs:List V)(H:Hp)(Q:VK):Prop
 |mk (l:BL) (b:BS) (xs ys:List Int) (n s:Str) (aC:vs=[.ref l.h,.str n,.str s]) (ba:a8 H C CL CJ l xs ys b) (ok:cg xs ys b) (np:GR b n s) (dl:b.dn.length<200) (q:∀(l':BL) (H':Hp),bM H H' l l'->a8 H' C CL CJ l' xs ys (b.Gk n s)->Q .ay H'):L1 C CL CJ vs H Q
def M9(C CL CJ:Addr):Sp:=λvs H Q _=>L1 C CL CJ vs H Q
inductive Ot(C CL CJ:Addr)(vs:List V)(H:Hp)(Q:VK):Prop
 |mk (l:BL) (b:BS) (xs ys:List Int) (fa:Addr) (c:Fc) (aC:vs=[.ref l.h,.ref fa]) (ba:a8 H C CL CJ l xs ys b) (ok:cg xs ys b) (hf:dM H b.ps fa (b.co,c)) (nf:Aj xs ys b c) (dl:b.dn.length<200) (q:∀(l':BL) (H':Hp),bM H H' l l'->a8 H' C CL CJ l' xs ys (b.pX c)->Q (.int (b.co:Int)) H'):Ot C CL CJ vs H Q
def F0(C CL CJ:Addr):Sp:=λvs H Q _=>Ot C CL CJ vs H Q
inductive Ou(C CL CJ:Addr)(vs:List V)(H:Hp)(Q:VK):Prop
 |mk (l:BL) (b:BS) (xs ys:List Int) (z:Nat) (c:Fc) (aC:vs=[.ref l.h,.int (z:Int)]) (ba:a8 H C CL CJ l xs ys b) (ok:cg xs ys b) (m:(z,c)∈b.fs) (dl:b.dn.length<200) (q:∀(l':BL) (H':Hp),bM H H' l l'->a8 H' C CL CJ l' xs ys (b.without z c)->Q .ay H'):Ou C CL CJ vs H Q
def Qa(C CL CJ:Addr):Sp:=λvs H Q _=>Ou C CL CJ vs H Q
inductive M_(C CL CJ:Addr)(vs:List V)(H:Hp)(Q:VK):Prop
 |mk (x dx L:Addr) (xs ys:List Int) (aC:vs=[.ref x,.ref L]) (hx:H x=some (.ins C dx [])) (la:hX H CL L xs ys) (q:∀(l:BL) (H':Hp),l.h=x->(∀a∈l.fp,a≠x->H a=none)->aw x H H'->a8 H' C CL CJ l xs ys ⟨[],[],0,[],[]⟩->Q .ay H'):M_ C CL CJ vs H Q
def Ov(C CL CJ:Addr):Sp:=λvs H Q _=>M_ C CL CJ vs H Q
theorem hX.free(la:hX H CL L xs ys)(hf:∀a∈fp,H a=none\/∃C dx,H a=some (.ins C dx []))(o:Out fp H H'):hX H' CL L xs ys:=by
 obtain⟨dx,d,m,f,w,im,jf,iw,st,h1,h2,h3,h4,h5,h6,h7,h8,h9⟩:=la;have k:∀{a:Addr} {u:HO},H a=some u->(∀C dx,u≠.ins C dx [])->H' a=some u:=λ{a u} e n=>o _ _ e λz=>by
  grind
 exact⟨dx,d,m,f,w,im,jf,iw,st,k h1 (λ_ _ z=>by cases z),k h2 (λ_ _ z=>by cases z),k h3 (λ_ _ z=>by cases z),k h4 (λ_ _ z=>by cases z),k h5 (λ_ _ z=>by cases z),k h6 (λ_ _ z=>by cases z),k h7 (λ_ _ z=>by cases z),k h8 (λ_ _ z=>by cases z),k h9 (λ_ _ z=>by cases z)⟩
section
theorem Vh:aN ["hearth","name","side"] ["hearth","name","side"] (aH Ci):=.aU
theorem Vi(F:aJ K "check_person" "check_person" Ci f fd)(Ew:HasFn P w K mg base 1 "is_name" ["text"] M7)(rF:mg "MAN"=some (.str "man" t1))(qX:mg "WOMAN"=some (.str "woman" t2))(tI:bT P w K mg base 1 "people" C ["self"] (EY C CL CJ)):aG P w K mg base aM 2 f fd ["hearth","name","side"] (M8 C CL CJ):=by
 refine F.o Vh λaB A outer s H vs Q E hr h=>?_;obtain⟨l,b,xs,ys,n,s,rfl,ba,np,q⟩:=h;refine⟨_,(ak (aR (PW.pt (pw_or (jg (eN (aP Ew hr (aa (pv 1) ag)))) (pw_or1 (gT (zK (K:=K) rfl) (pv 2) (dz (aa (dq (v:=.str "man") rfl rF ⟨_,rfl⟩) (aa (dq (v:=.str "woman") rfl qX ⟨_,rfl⟩) ag))) (by with_unfolding_all rfl))))) fD aW) (au (aR (gT (lW (K:=K) rfl) (pv 1) (oo tI hr (by omega) (pv 0)) (by with_unfolding_all rfl)) fD aW))),?_⟩;have sz:(10000:Nat)<=sizeLine:=by rw[sizeLine_eq];omega
 refine⟨_,rfl,n,rfl,np.nl,λH1 g1=>⟨_,rfl,?_⟩⟩;rw[np.ZfK];refine bY ?_;refine⟨_,rfl,by show 2<=sizeLine;omega,λp H2 x6 g2 hp=>⟨p,_,rfl,.inr (aA.of hp),rfl,rfl,_,rfl,?_⟩⟩;have so:eZ (.str s) [.str "man",.str "woman"]=true:=np.side;dsimp only;rw[if_pos rfl,so];refine bY (aV ?_);have g:=g1.trans g2;have mj:=ba.same g;obtain⟨dx,h1⟩:=mj.obj;refine⟨_,rfl,_,rfl,l.h,dx,_,rfl,h1,rfl,l,b,xs,ys,rfl,mj,λp2 H3 np3 g3 dv=>?_⟩;have fl:(b.ps.map λp=>V.str p.1).all iO=true:=by
  rw[Ia,Wr];intro p _;rfl
 refine⟨p2,_,rfl,.inl (aj.of dv),rfl,fl,_,rfl,?_⟩;try dsimp only
 have no:eZ (.str n) (b.ps.map λp=>V.str p.1)=false:=by
  unfold eZ;rw[List.any_map,Sl];intro p hp z;have z':(p.1==n)=true:=z;exact np.new (by rw[←eq_of_beq z'];exact Ye.mpr ⟨p,hp,rfl⟩)
 rw[if_neg Yj,no];exact bY (aV (q H3 (g.trans g3)))
theorem U8:aN ["self","name","side"] ["self","name","side"] (aH B7):=.aU
theorem Z4(F:aJ K "person" "Hearth.person" B7 f fd)(hc:fG K C)(nZ:mg "PUT_IN"=some (.int 1 t1))(Ct:HasFn P w K mg base 2 "check_person" ["hearth","name","side"] (M8 C CL CJ))(nN:bT P w K mg base 10 "do_deed" C ["self","way","row","coming"] (zg C CL CJ)):aG P w K mg base aM 11 f fd ["self","name","side"] (M9 C CL CJ):=by
 refine F.o U8 λaB A outer s H vs Q E hr h=>?_;obtain⟨l,b,xs,ys,n,s,rfl,ba,ok,np,dl,q⟩:=h;refine⟨_,(ak (cy (aP Ct hr (aa (pv 0) (aa (pv 1) (aa (pv 2) ag))))) (au (cy (cC nN hr (by omega) (pv 0) (aa (dq (v:=.int (1)) rfl nZ ⟨_,rfl⟩) (aa (dz (aa (pv 1) (aa (pv 2) ag))) (aa (pF K 0) ag))))))),?_⟩;refine⟨_,rfl,_,rfl,_,rfl,l,b,xs,ys,n,s,rfl,ba,np,λH1 g1=>?_⟩;have bZ:=ba.same g1;obtain⟨dx,h1⟩:=bZ.obj;refine⟨_,rfl,l.h,dx,_,rfl,h1,rfl,_,rfl,_,rfl,by show 2<=sizeLine;decide,λr H2 nr g2 hR=>?_⟩;refine⟨_,rfl,l.h,C,dx,_,_,rfl,g2 _ _ h1,hc.cls,hc.pJ,rfl,l,b,_,xs,ys,r,1,b.co,[.inr n,.inr s],rfl,bZ.same g2,ok,dl,hR,.pin n s hR np.new np.lim,λl' H3 wt i_=>?_⟩;exact q l' H3 (bM.after (g1.trans g2) wt) i_
theorem vQ:aN ["self","fact","number","kind","one","other"] ["self","fact"] (aH CH):=.aU
theorem Zcv(F:aJ K "keep" "Hearth.keep" CH f fd)(hc:fG K C)(nZ:mg "PUT_IN"=some (.int 1 t1))(Dz:HasFn P w K mg base 5 "fact_fits" ["joins","land","places","fact"] (P7 CL CJ))(j_:bT P w K mg base 8 "joins" C ["self"] (wD C CL CJ))(nN:bT P w K mg base 10 "do_deed" C ["self","way","row","coming"] (zg C CL CJ)):aG P w K mg base aM 11 f fd ["self","fact"] (F0 C CL CJ):=by
 refine F.o vQ λaB A outer s H vs Q E hr h=>?_;obtain⟨l,b,xs,ys,fa,c,rfl,ba,ok,hf,nf,dl,q⟩:=h;refine⟨_,(ak (mK (pv 1) (hV (K:=K) (n:=4) rfl rfl (bL (bj 2 vQ.nd) (bL (bj 3 vQ.nd) (bL (bj 4 vQ.nd) (bL (bj 5 vQ.nd) hU)))))) (ak (aR (jg (eN (aP Dz hr (aa (oo j_ hr (by omega) (pv 0)) (aa (pF K 0) (aa (pF K 0) (aa (pv 1) ag))))))) fD aW) (ak (cy (cC nN hr (by omega) (pv 0) (aa (dq (v:=.int (1)) rfl nZ ⟨_,rfl⟩) (aa (pv 1) (aa (a9 gU (pv 2) aL) ag))))) (au (aF (pv 2)))))),?_⟩;obtain⟨dx,h1⟩:=ba.obj;refine⟨_,rfl,fa,_,rfl,aA.of hf,rfl,_,_,rfl,bb ⟨_,_,rfl,bb ⟨_,_,rfl,bb ⟨_,_,rfl,bb ⟨rfl,?_⟩⟩⟩⟩⟩;refine⟨_,rfl,l.h,dx,_,rfl,h1,rfl,l,b,xs,ys,rfl,ba,ok,λl1 jl st H1 wt bZ r1 r2 ja me len eV _=>?_⟩;obtain⟨qp,e1⟩:=bZ.obj;have sy:H1 l.h=some (.ins C qp (HF l1.L l1.sd l1.pl l1.fc l1.kn l1.pr (b.co:Int) l1.dn l1.un l1.rk)):=by rw[←wt.h];exact e1
 have Tx:dM H1 b.ps fa (b.co,c):=wt.out _ _ hf (ba.tup hf);have im:=ok.m;refine⟨_,rfl,l.h,C,qp,_,_,rfl,sy,hc.cls,hc.ux,rfl,_,rfl,l.h,C,qp,_,_,rfl,sy,hc.cls,hc.qQ,rfl,_,rfl,jl,st,l1.L,l1.pl,fa,xs,ys,b.ps,b.F,b.co,c,rfl,ja,me,bZ.landAt,ok.gd,bZ.places,ok.nm,len,by omega,Tx,nf.fg,λ_ H2 g2=>?_,λno=>?_⟩
 ·refine⟨_,rfl,bY (aV ?_)⟩;have mj:=bZ.same g2;have Tz:=g2 _ _ Tx;have nz:b.co∉b.fs.map (·.1):=λz=>by
   obtain⟨p,hp,e⟩:=Ye.mp z;have:=ok.lt p hp;omega
  refine⟨_,rfl,l.h,qp,_,rfl,g2 _ _ sy,rfl,_,rfl,_,rfl,_,_,rfl,rfl,l1,b,_,xs,ys,fa,1,b.co+1,dJ b.ps b.co c,?_,mj,ok,dl,Tz,.fin b.co c Tz nf.fg nz nf.nk nf.np nf.lv nf.lim,λl' H3 wt3 i_=>?_⟩;·rw[wt.h];rfl
  ·exact⟨_,rfl,q l' H3 ((wt.same g2).trans wt3) i_⟩
 ·obtain⟨f0,i0,s0⟩:=nf.lv;exact absurd (s0 c (Yr _ Yf)) (no f0 ((me.iff f0).mpr ⟨by rw[len];exact i0,λc' m'=>s0 c' (Ys _ m')⟩))
theorem VB:aN ["self","number"] ["self","number"] (aH CI):=.aU
theorem Zcw(F:aJ K "take" "Hearth.take" CI f fd)(hc:fG K C)(DA:mg "TAKEN_OUT"=some (.int (-1) t1))(nN:bT P w K mg base 10 "do_deed" C ["self","way","row","coming"] (zg C CL CJ)):aG P w K mg base aM 11 f fd ["self","number"] (Qa C CL CJ):=by
 refine F.o VB λaB A outer s H vs Q E hr h=>?_;obtain⟨l,b,xs,ys,z,c,rfl,ba,ok,m,dl,q⟩:=h;refine⟨_,(ak (aR (je (kZ (bu hr) (pv 1) (pF K 0)) (by with_unfolding_all rfl)) fD aW) (au (cy (cC nN hr (by omega) (pv 0) (aa (dq (v:=.int (-1)) rfl DA ⟨_,rfl⟩) (aa (c_ (bu hr) (pF K 0) (pv 1) (λ_ _=>rfl)) (aa (pF K 0) ag))))))),?_⟩;obtain⟨dx,h1⟩:=ba.obj;obtain⟨fa,Ba,cP⟩:=Oh (H:=H) (ps:=b.ps) ba.fact ok.zs m;refine⟨_,rfl,_,rfl,l.h,C,dx,_,_,rfl,h1,hc.cls,hc.uq,rfl,l.fc,some (.ref fa),rfl,pT ba.facts Ba,_,rfl,bY (aV ?_)⟩;refine⟨_,rfl,l.h,dx,_,rfl,h1,rfl,_,rfl,l.h,C,dx,_,_,rfl,h1,hc.cls,hc.uq,rfl,_,rfl,l.fc,.ref fa,rfl,pT ba.facts Ba,_,rfl,l.h,C,dx,_,_,rfl,h1,hc.cls,hc.pJ,rfl,l,b,_,xs,ys,fa,-1,b.co,dJ b.ps z c,rfl,ba,ok,dl,cP,.uO z c cP m,λl' H3 wt i_=>?_⟩;exact q l' H3 wt i_
theorem VC:aN ["self","land"] ["self","land"] (aH CG):=.aU
theorem Zbg(F:aJ K "__init__" "Hearth.__init__" CG f fd)(hc:fG K C):aG P w K mg base aM 1 f fd ["self","land"] (Ov C CL CJ):=by
 refine F.o VC λaB A outer s H vs Q E hr h=>?_;obtain⟨x,dx,L,xs,ys,rfl,hx,la,q⟩:=h;refine⟨_,(ak (fZ (K:=K) rfl (pv 0) (pv 1)) (ak (fZ (K:=K) rfl (pv 0) nT) (ak (fZ (K:=K) rfl (pv 0) nT) (ak (fZ (K:=K) rfl (pv 0) nT) (ak (fZ (K:=K) rfl (pv 0) Lw) (ak (fZ (K:=K) rfl (pv 0) Lw) (ak (fZ (K:=K) rfl (pv 0) aL) (ak (fZ (K:=K) rfl (pv 0) (c8 ag)) (ak (fZ (K:=K) rfl (pv 0) (c8 ag)) (au (fZ (K:=K) rfl (pv 0) lC))))))))))),?_⟩;refine⟨_,rfl,_,rfl,x,C,dx,[],rfl,hx,hc.cls,hc.ux,by show 0<1000;omega,λH1 b1 h1=>?_⟩;refine λsd H2 n2 g2 e2=>⟨_,rfl,x,C,dx,_,rfl,g2 _ _ h1,hc.cls,hc.qU,by show 1<1000;omega,λH3 b3 h3=>?_⟩;refine λpl H4 n4 g4 e4=>⟨_,rfl,x,C,dx,_,rfl,g4 _ _ h3,hc.cls,hc.qQ,by show 2<1000;omega,λH5 b5 h5=>?_⟩;refine λfc H6 n6 g6 e6=>⟨_,rfl,x,C,dx,_,rfl,g6 _ _ h5,hc.cls,hc.uq,by show 3<1000;omega,λH7 b7 h7=>?_⟩;refine λkn H8 n8 g8 e8=>⟨_,rfl,x,C,dx,_,rfl,g8 _ _ h7,hc.cls,hc.zA,by show 4<1000;omega,λH9 b9 h9=>?_⟩;refine λpr oP oQ sU oU=>⟨_,rfl,x,C,dx,_,rfl,sU _ _ h9,hc.cls,hc.uc,by show 5<1000;omega,λxK sV h11=>?_⟩;refine⟨_,rfl,x,C,dx,_,rfl,h11,hc.cls,hc.pJ,by show 6<1000;omega,λvB sW AI=>?_⟩;refine⟨by show 0<=sizeLine;exact Yw _,λdn AJ qt c7 TB=>⟨_,rfl,x,C,dx,_,rfl,c7 _ _ AI,hc.cls,hc.P5,by show 7<1000;omega,λqk qu TC=>?_⟩⟩;refine⟨by show 0<=sizeLine;exact Yw _,λun Hw lY TH e15=>⟨_,rfl,x,C,dx,_,rfl,TH _ _ TC,hc.cls,hc.MV,by show 8<1000;omega,λSG b16 h16=>?_⟩⟩;refine⟨_,rfl,x,C,dx,_,rfl,h16,hc.cls,hc.hE,by show 9<1000;omega,λoY b17 TK=>?_⟩;rw[ZfB] at TK;have TL:aw x Hw oY:=b16.trans b17;have TM:aw x AJ oY:=qu.trans ((aw.of TH).trans TL);have TN:aw x oP oY:=sV.trans (sW.trans ((aw.of c7).trans TM));have j8:aw x H8 oY:=b9.trans ((aw.of sU).trans TN);have j6:aw x H6 oY:=b7.trans ((aw.of g8).trans j8);have j4:aw x H4 oY:=b5.trans ((aw.of g6).trans j6);have j2:aw x H2 oY:=b3.trans ((aw.of g4).trans j4);have j0:aw x H oY:=b1.trans ((aw.of g2).trans j2);have i3:aw x H H3:=b1.trans ((aw.of g2).trans b3);have i5:aw x H H5:=i3.trans ((aw.of g4).trans b5);have i7:aw x H H7:=i5.trans ((aw.of g6).trans b7);have i9:aw x H H9:=i7.trans ((aw.of g8).trans b9);have i12:aw x H vB:=i9.trans ((aw.of sU).trans (sV.trans sW));have i14:aw x H qk:=i12.trans ((aw.of c7).trans qu);have fr:∀{a:Addr} {H':Hp},aw x H H'->a≠x->H' a=none->H a=none:=λ{a H'} k d n=>by
  cases e:H a with
  |none=>rfl
  |some o=>rw[k a o e d] at n;cases n
 have d2:sd≠x:=λz=>by rw[z,h1] at n2;cases n2
 have d4:pl≠x:=λz=>by rw[z,h3] at n4;cases n4
 have d6:fc≠x:=λz=>by rw[z,h5] at n6;cases n6
 have d8:kn≠x:=λz=>by rw[z,h7] at n8;cases n8
 have Bf:pr≠x:=λz=>by rw[z,h9] at oQ;cases oQ
 have IQ:dn≠x:=λz=>by rw[z,AI] at qt;cases qt
 have TQ:un≠x:=λz=>by rw[z,TC] at lY;cases lY
 have ne:∀{a c:Addr} {Ha Hc:Hp} {o:HO},Ha a=some o->aw x Ha Hc->a≠x->Hc c=none->a≠c:=λ{a c Ha Hc o} e k d n z=>by rw[←z,k a o e d] at n;cases n
 have k24:aw x H2 H3:=b3;have TR:aw x H2 H5:=b3.trans ((aw.of g4).trans b5);have TU:aw x H2 H7:=TR.trans ((aw.of g6).trans b7);have RO:aw x H2 H9:=TU.trans ((aw.of g8).trans b9);have RP:aw x H2 vB:=RO.trans ((aw.of sU).trans (sV.trans sW));have ZfL:aw x H2 qk:=RP.trans ((aw.of c7).trans qu);have TV:aw x H4 H7:=b5.trans ((aw.of g6).trans b7);have RQ:aw x H4 H9:=TV.trans ((aw.of g8).trans b9);have RS:aw x H4 vB:=RQ.trans ((aw.of sU).trans (sV.trans sW));have ZfM:aw x H4 qk:=RS.trans ((aw.of c7).trans qu);have RT:aw x H6 H9:=b7.trans ((aw.of g8).trans b9);have RU:aw x H6 vB:=RT.trans ((aw.of sU).trans (sV.trans sW));have ZfN:aw x H6 qk:=RU.trans ((aw.of c7).trans qu);have RV:aw x H8 vB:=b9.trans ((aw.of sU).trans (sV.trans sW));have ZfO:aw x H8 qk:=RV.trans ((aw.of c7).trans qu);have QU:aw x oP vB:=sV.trans sW;have ZeO:aw x oP qk:=QU.trans ((aw.of c7).trans qu);let l:BL:=⟨x,L,sd,pl,fc,kn,pr,dn,un,.ay,[],[],[],[]⟩;have Bg:∀a∈l.fp,a≠x->H a=none:=λa ha na=>by
  have qo:a∈[x,sd,pl,fc,kn,pr,dn,un]:=by
   have:l.fp=[x,sd,pl,fc,kn,pr,dn,un]:=rfl;rw[this] at ha;exact ha
  simp only[Yp,Y3,or_false] at qo;rcases qo with rfl|rfl|rfl|rfl|rfl|rfl|rfl|rfl;·exact absurd rfl na
  ·exact fr b1 na n2
  ·exact fr i3 na n4
  ·exact fr i5 na n6
  ·exact fr i7 na n8
  ·exact fr i9 na oQ
  ·exact fr i12 na qt
  ·exact fr i14 na lY
 refine q l oY rfl Bg j0 ⟨⟨dx,TK⟩,λH' o=>?_,j2 _ _ e2 d2,j4 _ _ e4 d4,j6 _ _ e6 d6,.nil,j8 _ _ e8 d8,TN _ _ oU Bf,TM _ _ TB IQ,.nil,TL _ _ e15 TQ,.nil,.no rfl rfl,?_⟩
 ·refine la.free (fp:=l.fp) (λa ha=>?_) λa u e na=>o _ _ (j0 _ _ e λz=>na (by rw[z];exact Yf)) na;by_cases z:a=x;·rw[z];exact .inr ⟨C,dx,hx⟩
  ·exact .inl (Bg a ha z)
 ·show[x,sd,pl,fc,kn,pr,dn,un].Nodup;simp only[Yz,Yp,Y3,or_false,not_or,not_false_eq_true,W1,and_true];exact⟨⟨d2.symm,d4.symm,d6.symm,d8.symm,Bf.symm,IQ.symm,TQ.symm⟩,⟨ne e2 k24 d2 n4,ne e2 TR d2 n6,ne e2 TU d2 n8,ne e2 RO d2 oQ,ne e2 RP d2 qt,ne e2 ZfL d2 lY⟩,⟨ne e4 b5 d4 n6,ne e4 TV d4 n8,ne e4 RQ d4 oQ,ne e4 RS d4 qt,ne e4 ZfM d4 lY⟩,⟨ne e6 b7 d6 n8,ne e6 RT d6 oQ,ne e6 RU d6 qt,ne e6 ZfN d6 lY⟩,⟨ne e8 b9 d8 oQ,ne e8 RV d8 qt,ne e8 ZfO d8 lY⟩,⟨ne oU QU Bf qt,ne oU ZeO Bf lY⟩,ne TB qu IQ lY⟩
end
def strOf:V->Str
 |.str s=>s
 |_=>""
def fR(b:BS)(a:Str):List Str:=(oq b a).map strOf
inductive fN(b:BS)(a:Str):Str->Prop
 |refl:fN b a a
 |step {x y:Str}:fN b a x->y∈fR b x->fN b a y
theorem Ow(ok:cg xs ys b)(h:aO (cv b.ps b.fs) [.inr k,.inr a]=some v):∃p∈b.fs,cG p.2.k=true/\p.2.k=k/\aq b.ps p.2.one=a/\v=.str (aq b.ps p.2.aK.toNat)/\p.2.aK.toNat<b.ps.length:=by
 have m:([.inr k,.inr a],v)∈cv b.ps b.fs:=by
  unfold aO at h;cases ef:(cv b.ps b.fs).find? λkv=>decide (kv.1=[.inr k,.inr a]) with
  |none=>grind
  |some q=>grind
 obtain⟨p,hp,e⟩:=Ye.mp m;obtain⟨oS,dv⟩:=Yy.mp hp;injection e with e1 e2;injection e1 with e3 e4;injection e4 with e5 _;have ns:p.2.k≠aY:=λz=>by
  rw[z] at dv;exact absurd dv (by decide+kernel)
 refine⟨p,oS,dv,Wk e3,Wk e5,?_,((ok.fg p oS).ok.gF ns).1.2⟩;rw[←e2,hJ ns];rfl
theorem K8(ok:cg xs ys b)(a:Str):oq b a=(fR b a).map V.str/\(∀s∈fR b a,s∈b.ps.map (·.1))/\(fR b a).length<=2:=by
 have all:∀v∈oq b a,∃s,v=.str s/\s∈b.ps.map (·.1):=λv hv=>by
  obtain⟨k,_,e⟩:=Ji.mp hv;obtain⟨p,_,_,_,_,e2,l⟩:=Ow ok e;exact⟨_,e2,Ft l⟩
 refine⟨?_,λs hs=>?_,?_⟩
 ·unfold fR;rw[Wa];refine(List.map_id _).symm.trans (Wj λv hv=>?_);obtain⟨s,rfl,_⟩:=all v hv;rfl
 ·obtain⟨v,hv,rfl⟩:=Ye.mp hs;obtain⟨s,rfl,m⟩:=all v hv;exact m
 ·unfold fR oq
  grind
def g_(ks:List Str)(as:List Addr):List (Key×V):=(ks.zip as).map λp=>(.inr p.1,.ref p.2)
theorem Na:∀{ks:List Str} {as:List Addr},ks.length=as.length->(g_ ks as).map (·.1)=ks.map Sum.inr
 |[],[],_=>rfl
 |k::ks,a::as,h=>by
  have e0:g_ (k::ks) (a::as)=(Sum.inr k,V.ref a)::g_ ks as:=rfl;rw[e0,Wl,Na (by simpa using h)];rfl
 |[],_::_,h=>rfl
 |_::_,[],h=>by simp at h
theorem Nb:∀{ks:List Str} {as:List Addr} (k:Str) (a:Addr),ks.length=as.length->g_ ks as++[(.inr k,.ref a)]=g_ (ks++[k]) (as++[a])
 |[],[],_,_,_=>rfl
 |q::ks,c::as,k,a,h=>by
  have e0:g_ (q::ks) (c::as)=(Sum.inr q,V.ref c)::g_ ks as:=rfl;rw[e0,SE,Nb k a (by simpa using h)];rfl
 |[],_::_,_,_,h=>by simp at h
 |_::_,[],_,_,h=>by simp at h
theorem Fv:∀{ks:List Str} {as:List Addr} {k:Str},ks.length=as.length->k∈ks->∃a∈as,aO (g_ ks as) (.inr k)=some (.ref a)
 |[],_,_,_,h=>by cases h
 |q::ks,c::as,k,hl,h=>by
  have e0:g_ (q::ks) (c::as)=(Sum.inr q,V.ref c)::g_ ks as:=rfl;rw[e0];by_cases e:q=k;·exact⟨c,Yf,fE (by rw[e])⟩
  ·rcases Yp.mp h with h|h;·grind
   ·obtain⟨a,m,v⟩:=Fv (by simpa using hl) h;exact⟨a,Yu _ m,by rw[eX (λz=>e (Wk z))];exact v⟩
 |_::_,[],_,h,_=>by simp at h
theorem E2(hl:ks.length=as.length)(h:k∉ks):aO (g_ ks as) (.inr k)=none:=pA (by
 rw[Na hl];intro z;obtain⟨q,hq,e⟩:=Ye.mp z;exact h (by rw[←Wk e];exact hq))
structure qc(H H6:Hp)(ln:Addr)(ks:List Str)(as:List Addr):Prop where
 same:ai H H6
 at_:H6 ln=some (.dK (g_ ks as))
 len:ks.length=as.length
 lst:∀a∈as,∃us:List V,H6 a=some (.lst us)/\us.length<=ks.length/\a≠ln
 nd:ks.Nodup
theorem Ex{xs ys:List Int}{b:BS}(ok:cg xs ys b){ks:List Str}(nd:ks.Nodup)(sub:∀k∈ks,k∈b.ps.map (·.1)):ks.length<=b.ps.length:=by
 have:=nd.length_le_of_subset sub
 grind
theorem zh(ok:cg xs ys b)(ma:a∈b.ps.map (·.1))(h:fN b a z):z∈b.ps.map (·.1):=by
 cases h with
 |refl=>exact ma
 |step _ m=>exact(K8 ok _).2.1 _ m
inductive Nc(C CL CJ:Addr)(vs:List V)(H:Hp)(Q:VK):Prop
 |mk (l:BL) (b:BS) (xs ys:List Int) (a:Str) (aC:vs=[.ref l.h,.str a]) (ba:a8 H C CL CJ l xs ys b) (ok:cg xs ys b) (ma:a∈b.ps.map (·.1)) (q:∀(p:Addr) (ks:List Str) (as:List Addr) (H':Hp),qc H H' p ks as->(∀z,z∈ks↔fN b a z)->Q (.ref p) H'):Nc C CL CJ vs H Q
def Ox(C CL CJ:Addr):Sp:=λvs H Q _=>Nc C CL CJ vs H Q
def xt(ln:Addr)(N:Nat):St->Hp->Nat:=λσ H=>(match H ln with|some (.dK kvs)=>2*(N-kvs.length)|_=>0)+(match List.getD (α:=Option V) σ 3 none with|some (V.ref nw)=>(match H nw with|some (.lst (_::_))=>1|_=>0)|_=>0)
inductive TX(H:Hp)(b:BS)(a:Str)(h ln:Addr)(σ:St)(H6:Hp):Prop
 |mk (ks ns:List Str) (as:List Addr) (nw:Addr) (o4 o5 o6:Option V) (la:qc H H6 ln ks as) (hn:H6 nw=some (.lst (ns.map V.str))) (nn:nw≠ln) (sub:∀k∈ns,k∈ks) (cl:∀k∈ks,k∉ns->∀p∈fR b k,p∈ks) (sd:∀k∈ks,fN b a k) (ma:a∈ks) (sI:ns.length<=64) (e:σ=[some (.ref h),some (.str a),some (.ref ln),some (.ref nw),o4,o5,o6]):TX H b a h ln σ H6
inductive IS(H:Hp)(b:BS)(a:Str)(h ln nw fu:Addr)(qv ns:List Str)(j:Nat)(σ:St)(H6:Hp):Prop
 |mk (ks fs:List Str) (as:List Addr) (o5 o6:Option V) (la:qc H H6 ln ks as) (hn:H6 nw=some (.lst (ns.map V.str))) (hf:H6 fu=some (.lst (fs.map V.str))) (nn:nw≠ln/\fu≠ln/\fu≠nw) (af:fu∉as) (ek:ks=qv++fs) (cl:∀k∈ns.take j,∀p∈fR b k,p∈ks) (sd:∀k∈ks,fN b a k) (e:σ=[some (.ref h),some (.str a),some (.ref ln),some (.ref nw),some (.ref fu),o5,o6]):IS H b a h ln nw fu qv ns j σ H6
inductive TY(H:Hp)(b:BS)(a:Str)(h ln nw fu:Addr)(qv ns:List Str)(j:Nat)(one:Str)(pl:Addr)(i:Nat)(σ:St)(H6:Hp):Prop
 |mk (ks fs:List Str) (as:List Addr) (o6:Option V) (la:qc H H6 ln ks as) (hn:H6 nw=some (.lst (ns.map V.str))) (hf:H6 fu=some (.lst (fs.map V.str))) (hp:H6 pl=some (.lst ((fR b one).map V.str))) (nn:nw≠ln/\fu≠ln/\fu≠nw/\pl≠ln/\pl≠fu) (af:fu∉as) (ek:ks=qv++fs) (cl:∀k∈ns.take j,∀p∈fR b k,p∈ks) (cp:∀p∈(fR b one).take i,p∈ks) (sd:∀k∈ks,fN b a k) (e:σ=[some (.ref h),some (.str a),some (.ref ln),some (.ref nw),some (.ref fu),some (.str one),o6]):TY H b a h ln nw fu qv ns j one pl i σ H6
section
theorem qJ:aN ["hearth","name","lines","newest","further","one","parent"] ["hearth","name"] (aH DN):=.aU
theorem XC(F:aJ K "lines_up" "lines_up" DN f fd)(BJ:bT P w K mg base 1 "parents_of" C ["self","name"] (Kq C CL CJ)):aG P w K mg base aM 2 f fd ["hearth","name"] (Ox C CL CJ):=by
 refine F.o qJ λaB A outer s H vs Q E hr h=>?_;obtain⟨l,b,xs,ys,a,rfl,ba,ok,ma,q⟩:=h;refine⟨_,(ak (bP 2 qJ.nd (zw (jB (pv 1) (c8 (aa (pv 1) ag)) zu) rfl rfl (λz=>nomatch z) (Jl rfl))) (ak (bP 3 qJ.nd (c8 (aa (pv 1) ag))) (ak (EG PassesOwn.never (LF (K:=K) rfl (Mg (pv 3) (λ_=>rfl))) (ak (bP 4 qJ.nd (c8 ag)) (ak (fH PassesOwn.never rfl (eY (K:=K) rfl (pv 3)) (bj 5 qJ.nd) (au (fH PassesOwn.never rfl (eY (K:=K) rfl (cC BJ hr (by omega) (pv 0) (aa (pv 5) ag))) (bj 6 qJ.nd) (au (aR (je (kZ (bu hr) (pv 6) (pv 2)) (by with_unfolding_all rfl)) (ak (mE (bu hr) (pv 2) (pv 6) (a9 wy (c_ (bu hr) (pv 2) (pv 5) (λ_ _=>rfl)) (c8 (aa (pv 6) ag)))) (au (cy (lE (K:=K) rfl (ji plainAttrs_list PySem.F.slot_list_append PySem.F.type_list_append mC (pv 4) (aa (pv 6) ag)))))) aW))))) (au (bP 3 qJ.nd (pv 4)))))) (au (aF (pv 2)))))),?_⟩;have sz:(10000:Nat)<=sizeLine:=by rw[sizeLine_eq];omega
 have im:=ok.m;refine bW ?_;refine λln TZ=>⟨_,rfl,_,rfl,by show 1<=sizeLine;omega,λll H0 T3 g0 hll=>?_⟩;refine⟨g0 _ _ aS,[(.inr a,.ref ll)],rfl,(by show 1<=15;omega),?_⟩;obtain⟨H1,qw⟩:∃H1,H1=upd H0 ln (.dK (oj [] [(.inr a,.ref ll)])):=⟨_,rfl⟩;rw[←qw];have T4:ll≠ln:=λz=>by rw[z,aS] at T3;cases T3
 have g1:ai H H1:=λc o e=>by
  have nc:=bX e TZ;rw[qw,aQ nc];exact g0 _ _ (by rw[aQ nc];exact e)
 have T5:qc H H1 ln [a] [ll]:=⟨g1,by rw[qw,aS];rfl,rfl,λc hc=>by
  rw[Ym.mp hc];exact⟨[.str a],by rw[qw,aQ T4];exact hll,Yd _,T4⟩,by simp⟩
 refine bW ?_;refine⟨_,rfl,by show 1<=sizeLine;omega,λnw H2 T6 g2 hnw=>?_⟩;have T7:nw≠ln:=λz=>by rw[z,T5.at_] at T6;cases T6
 have Gm:∀{Ha Hb:Hp} {ks:List Str} {as:List Addr},qc H Ha ln ks as->ai Ha Hb->qc H Hb ln ks as:=λla g=>⟨la.same.trans g,g _ _ la.at_,la.len,λc hc=>by obtain⟨us,e,z,n⟩:=la.lst c hc;exact⟨us,g _ _ e,z,n⟩,la.nd⟩;refine fP (λσ H6=>∃ks as,qc H H6 ln ks as/\(∀z,z∈ks↔fN b a z)/\∃o3 o4 o5 o6:Option V,σ=[some (.ref l.h),some (.str a),some (.ref ln),o3,o4,o5,o6]) (λl9 eG=>?_) ?_
 ·refine EH (TX H b a l.h ln) (xt ln 100) ⟨[a],[a],[ll],nw,none,none,none,Gm T5 g2,hnw,T7,λ_ h=>h,λk hk no=>absurd hk no,λk hk=>by rw[Ym.mp hk];exact .refl,Yf,by show 1<=64;omega,rfl⟩ ?_ ?_
  ·rintro σ H6 ⟨ks,ns,as,nw,o4,o5,o6,la,hn,nn,sub,cl,sd,T8,sI,rfl⟩;have kf:ks.length<=64:=Y4 (Ex ok la.nd λk hk=>zh ok ma (sd k hk)) im;refine⟨_,rfl,_,.inl ⟨_,aj.of hn,rfl⟩,?_⟩;refine bB (λc=>?_) (λc=>?_)
   ·have ZfP:ns≠[]:=λz=>by rw[z] at c;cases c
    have mu0:xt ln 100 [some (.ref l.h),some (.str a),some (.ref ln),some (.ref nw),o4,o5,o6] H6=2*(100-ks.length)+1:=by
     unfold xt;have kl:(g_ ks as).length=ks.length:=by unfold g_;rw[Ya,W5];have:=la.len;omega
     have g3:List.getD (α:=Option V) [some (.ref l.h),some (.str a),some (.ref ln),some (.ref nw),o4,o5,o6] 3 none=some (.ref nw):=rfl;rw[la.at_,g3];dsimp only;rw[hn,kl];cases ns with
     |nil=>exact absurd rfl ZfP
     |cons x r=>rfl
    refine bW ?_;refine⟨by show 0<=sizeLine;exact Yw _,λfu H7 vC g7 hfu=>?_⟩;have xW:=Gm la g7;have fln:fu≠ln:=λz=>by rw[z,la.at_] at vC;cases vC
    have fnw:fu≠nw:=λz=>by rw[z,hn] at vC;cases vC
    refine fP (IS H b a l.h ln nw fu ks ns ns.length) (λBc nB=>?_) ?_
    ·refine⟨_,rfl,nw,rfl,⟨_,aj.of (g7 _ _ hn)⟩,jA (K:=K) (a:=nw) (xs:=ns.map V.str) (IS H b a l.h ln nw fu ks ns) ⟨ks,[],as,o5,o6,xW,g7 _ _ hn,hfu,⟨nn,fln,fnw⟩,(λz=>by obtain⟨us,e,_⟩:=la.lst _ z;rw[vC] at e;cases e),by rw[Y8],λk hk=>(by rw[List.take_zero] at hk;cases hk),sd,rfl⟩ (λj σ H8 _ ⟨_,_,_,_,_,_,h,_,_,_,_,_,_,_⟩=>aj.of h) ?_ ?_⟩
     ·rintro j v σ H8 hj ⟨eI,fs,Bh,p5,p6,qx,T9,ju,yn,T_,ek,iD,Bi,rfl⟩;rw[Yg] at hj;obtain⟨one,e1,rfl⟩:∃one,ns[j]?=some one/\V.str one=v:=by
       cases z:ns[j]? with
       |none=>rw[z] at hj;cases hj
       |some o=>rw[z] at hj;exact⟨o,rfl,Yq hj⟩
      have IT:ns.take (j+1)=ns.take j++[one]:=by rw[Y0,e1];rfl
      have Zg6:one∈eI:=by rw[ek];exact Ys _ (sub _ (Yi e1))
      have Ua:=ba.same qx.same;obtain⟨dx8,h8⟩:=Ua.obj;obtain⟨pe,pin,Ir⟩:=K8 ok one;refine bb ?_;refine⟨_,rfl,l.h,dx8,_,rfl,h8,rfl,_,rfl,l,b,xs,ys,one,rfl,Ua,λpl H9 yo g9 cL=>?_⟩;rw[pe] at cL;have pln:pl≠ln:=λz=>by rw[z,qx.at_] at yo;cases yo
      have plf:pl≠fu:=λz=>by rw[z,ju] at yo;cases yo
      refine⟨pl,rfl,⟨_,aj.of cL⟩,jA (K:=K) (a:=pl) (xs:=(fR b one).map V.str) (TY H b a l.h ln nw fu ks ns j one pl) ⟨eI,fs,Bh,p6,Gm qx g9,g9 _ _ T9,g9 _ _ ju,cL,⟨yn.1,yn.2.1,yn.2.2,pln,plf⟩,T_,ek,iD,λp hp=>(by rw[List.take_zero] at hp;cases hp),Bi,rfl⟩ (λi σ HA _ ⟨_,_,_,_,_,_,_,h,_,_,_,_,_,_,_⟩=>aj.of h) ?_ ?_⟩
      ·rintro i v σ HA hi ⟨jv,yp,Bj,q6,fY,Bk,nC,IU,jT,yq,vD,Bm,yr,vE,rfl⟩;rw[Yg] at hi;obtain⟨par,e2,rfl⟩:∃par,(fR b one)[i]?=some par/\V.str par=v:=by
        cases z:(fR b one)[i]? with
        |none=>rw[z] at hi;cases hi
        |some o=>rw[z] at hi;exact⟨o,rfl,Yq hi⟩
       have mp:=Yi e2;have Ub:(fR b one).take (i+1)=(fR b one).take i++[par]:=by rw[Y0,e2];rfl
       have RW:one∈jv:=by rw[vD];exact Ys _ (sub _ (Yi e1))
       have kf9:jv.length<=64:=Y4 (Ex ok fY.nd λk hk=>zh ok ma (vE k hk)) im;refine bb ?_;by_cases sr:par∈jv
       ·obtain⟨ap,_,vp⟩:=Fv fY.len sr;refine⟨_,rfl,_,rfl,ln,some (.ref ap),rfl,cV fY.at_ vp,_,rfl,bY (aV ?_)⟩;refine⟨jv,yp,Bj,_,fY,Bk,nC,IU,jT,yq,vD,Bm,λp hp=>?_,vE,rfl⟩;rw[Ub] at hp;rcases Yt.mp hp with hp|hp;·exact yr p hp
        ·rw[Ym.mp hp];exact sr
       ·obtain⟨ao,mao,vo⟩:=Fv fY.len RW;obtain⟨us,IV,ul,aon⟩:=fY.lst ao mao;refine⟨_,rfl,_,rfl,ln,none,rfl,cV fY.at_ (E2 fY.len sr),_,rfl,cS ?_⟩;refine⟨_,rfl,_,rfl,ln,.ref ao,rfl,cV fY.at_ vo,_,rfl,by show 1<=sizeLine;omega,λe1l HB neb gB heB=>?_⟩;refine⟨ao,e1l,us,_,rfl,rfl,gB _ _ IV,heB,by show us.length+1<=sizeLine;omega,λnl HC IW gC hnl=>?_⟩;have Uc:=gB.trans gC;refine⟨_,rfl,_,rfl,ln,_,.inr par,rfl,Uc _ _ fY.at_,rfl,?_,λHD bD eD=>?_⟩;·unfold g_;rw[Ya,W5];omega
        rw[ke _ (E2 fY.len sr),Nb par nl fY.len] at eD;have RX:nl≠ln:=λz=>by rw[z,gB _ _ fY.at_] at IW;cases IW
        have kD:∀{c:Addr} {o:HO},HA c=some o->c≠ln->HD c=some o:=λ{c o} e n=>bD _ _ (Uc _ _ e) n;have Ud:HA nl=none:=gB.free IW;refine⟨_,rfl,.inl ⟨rfl,_,aj.of (kD nC jT.2.1)⟩,_,rfl,fu,_,_,rfl,rfl,kD nC jT.2.1,?_,λHE bE eE=>?_⟩
        ·rw[Ya];have:yp.length<=jv.length:=by rw[vD,Yk];omega
         omega
        have kE:∀{c:Addr} {o:HO},HA c=some o->c≠ln->c≠fu->HE c=some o:=λ{c o} e n1 n2=>bE _ _ (kD e n1) n2;have RY:nl≠fu:=λz=>by rw[z,nC] at Ud;cases Ud
        refine⟨jv++[par],yp++[par],Bj++[nl],_,⟨λc o e=>?_,bE _ _ eD (λz=>jT.2.1 z.symm),by rw[Yk,Yk,fY.len];rfl,λc hc=>?_,?_⟩,kE Bk jT.1 (λz=>jT.2.2.1 z.symm),?_,kE IU jT.2.2.2.1 jT.2.2.2.2,jT,(λz=>by rcases Yt.mp z with z|z;exact yq z;exact RY (Ym.mp z).symm),by rw[vD,Jp],λk hk p hp=>Ys _ (Bm k hk p hp),λp hp=>?_,λk hk=>?_,rfl⟩
        ·have nc:=bX e TZ;have ncf:c≠fu:=bX e ((la.same.free vC));exact kE (fY.same _ _ e) nc ncf
        ·rcases Yt.mp hc with hc|hc
         ·obtain⟨us',e',z',n'⟩:=fY.lst c hc;have cf:c≠fu:=λz=>yq (by rw[←z];exact hc);exact⟨us',kE e' n' cf,by rw[Yk];omega,n'⟩
         ·rw[Ym.mp hc];exact⟨us++[.str par],bE _ _ (bD _ _ hnl RX) RY,by rw[Yk,Yk];show us.length+1<=jv.length+1;omega,RX⟩
        ·refine Wo.mpr ⟨fY.nd,by simp,λu hu v hv z=>?_⟩;have:v=par:=by simpa using hv
         exact sr (by rw[←this,←z];exact hu)
        ·rw[eE,Yn];rfl
        ·rw[Ub] at hp;rcases Yt.mp hp with hp|hp;·exact Ys _ (yr p hp)
         ·rw[Ym.mp hp];exact Yr _ Yf
        ·rcases Yt.mp hk with hk|hk;·exact vE k hk
         ·rw[Ym.mp hk];exact .step (vE one RW) mp
      ·rintro σ HA ⟨jv,yp,Bj,q6,fY,Bk,nC,IU,jT,yq,vD,Bm,yr,vE,rfl⟩;rw[Ya,Wd] at yr;refine⟨jv,yp,Bj,_,_,fY,Bk,nC,⟨jT.1,jT.2.1,jT.2.2.1⟩,yq,vD,λk hk=>?_,vE,rfl⟩;rw[IT] at hk;rcases Yt.mp hk with hk|hk;·exact Bm k hk
       ·rw[Ym.mp hk];exact yr
     ·rintro σ H8 h8;rw[Ya] at h8;exact nB _ _ h8
    ·rintro σ H8 ⟨eI,fs,Bh,p5,p6,qx,T9,ju,yn,T_,ek,iD,Bi,rfl⟩;rw[Wd] at iD;refine⟨_,rfl,?_⟩;have kf8:eI.length<=64:=Y4 (Ex ok qx.nd λk hk=>zh ok ma (Bi k hk)) im;have Ue:eI.length=ks.length+fs.length:=by rw[ek,Yk]
     refine⟨⟨eI,fs,Bh,fu,_,_,_,qx,ju,yn.2.1,λk hk=>by rw[ek];exact Yr _ hk,λk hk no p hp=>?_,Bi,by rw[ek];exact Ys _ T8,by omega,rfl⟩,?_⟩
     ·rw[ek] at hk;rcases Yt.mp hk with hk|hk
      ·by_cases z:k∈ns;·exact iD k z p hp
       ·rw[ek];exact Ys _ (cl k hk z p hp)
      ·exact absurd hk no
     ·rw[mu0];show xt ln 100 [some (.ref l.h),some (.str a),some (.ref ln),some (.ref fu),some (.ref fu),p5,p6] H8<_;unfold xt;have kl:(g_ eI Bh).length=eI.length:=by unfold g_;rw[Ya,W5];have:=qx.len;omega
      have g3:List.getD (α:=Option V) [some (.ref l.h),some (.str a),some (.ref ln),some (.ref fu),some (.ref fu),p5,p6] 3 none=some (.ref fu):=rfl;rw[qx.at_,g3];dsimp only;rw[ju,kl];cases fs with
      |nil=>
       show 2*(100-eI.length)+0<_;have:eI.length=ks.length+0:=Ue;omega
      |cons x r=>
       show 2*(100-eI.length)+1<_;have:eI.length=ks.length+(r.length+1):=Ue;omega
   ·have yt:ns=[]:=by
     cases ns with
     |nil=>rfl
     |cons x r=>exact absurd rfl c
    subst yt;refine eG _ _ ⟨ks,as,la,λz=>⟨λh=>sd z h,λh=>?_⟩,_,_,_,_,rfl⟩;induction h with
    |refl=>exact T8
    |step _ m ih=>exact cl _ ih (λz=>nomatch z) _ m
  ·rintro σ H6 Q1 Q2 mo ⟨v1,w1,v2,w2,h⟩;exact⟨v1,w1,v2,w2,mo _ _ h⟩
 ·rintro σ H6 ⟨ks,as,la,iff,o3,o4,o5,o6,rfl⟩;exact⟨_,rfl,q ln ks as H6 la iff⟩
end
def fk(ps:bo)(i:Nat):Str:=(ps.getD i ("","")).2
theorem n_(nd:(ps.map (·.1)).Nodup)(hi:i<ps.length):aO (fX ps) (.inr (aq ps i))=some (.str (fk ps i)):=by
 have kn:((fX ps).map (·.1)).Nodup:=by
  grind
 refine Og kn (Ye.mpr ⟨ps[i],Jf hi,?_⟩);unfold aq fk
 grind
def kq(k h t:Str):Bool:=if k="mother" then decide (t="woman") else if k="father" then decide (t="man") else decide (k="sibling")||(decide (h="man")&&decide (t="woman"))
inductive Nd(vs:List V)(H:Hp)(Q:VK):Prop
 |mk (k h t:Str) (aC:vs=[.str k,.str h,.str t]) (q:Q (.bl (kq k h t)) H):Nd vs H Q
def Oy:Sp:=λvs H Q _=>Nd vs H Q
structure Qb(b:BS)(k a:Str)(o:Str):Prop where
 par:cG k=true->[.inr k,.inr a]∉(cv b.ps b.fs).map (·.1)
 aK:cG k=false->keyOf k a (.inr o)∉b.keys/\¬(k="sibling"/\a=o)
inductive Oz(C CL CJ:Addr)(vs:List V)(H:Hp)(Q:VK):Prop
 |mk (l:BL) (b:BS) (xs ys:List Int) (k a o:Str) (aC:vs=[.ref l.h,.str k,.str a,.str o]) (ba:a8 H C CL CJ l xs ys b) (un:Qb b k a o) (q:∀H',ai H H'->Q (.bl false) H'):Oz C CL CJ vs H Q
def Qc(C CL CJ:Addr):Sp:=λvs H Q _=>Oz C CL CJ vs H Q
inductive L3(C CL CJ:Addr)(vs:List V)(H:Hp)(Q:VK):Prop
 |mk (l:BL) (b:BS) (xs ys:List Int) (ch pa:Str) (aC:vs=[.ref l.h,.str ch,.str pa]) (ba:a8 H C CL CJ l xs ys b) (ok:cg xs ys b) (mp:pa∈b.ps.map (·.1)) (no:¬fN b pa ch) (q:∀H',ai H H'->Q .ay H'):L3 C CL CJ vs H Q
def Nf(C CL CJ:Addr):Sp:=λvs H Q _=>L3 C CL CJ vs H Q
structure Gn(xs ys:List Int)(b:BS)(c:Fc):Prop where
 nf:Aj xs ys b c
 ns:c.k≠aY
 cW:kq c.k (fk b.ps c.one) (fk b.ps c.aK.toNat)=true
 un:Qb b c.k (aq b.ps c.one) (aq b.ps c.aK.toNat)
 el:cG c.k=true->¬fN b (aq b.ps c.aK.toNat) (aq b.ps c.one)
inductive L4(C CL CJ:Addr)(vs:List V)(H:Hp)(Q:VK):Prop
 |mk (l:BL) (b:BS) (xs ys:List Int) (c:Fc) (aC:vs=[.ref l.h,.str c.k,.str (aq b.ps c.one),.str (aq b.ps c.aK.toNat)]) (ba:a8 H C CL CJ l xs ys b) (ok:cg xs ys b) (to:Gn xs ys b c) (q:∀H',ai H H'->Q .ay H'):L4 C CL CJ vs H Q
def Ng(C CL CJ:Addr):Sp:=λvs H Q _=>L4 C CL CJ vs H Q
inductive OA(C CL CJ:Addr)(vs:List V)(H:Hp)(Q:VK):Prop
 |mk (l:BL) (b:BS) (xs ys:List Int) (c:Fc) (aC:vs=[.ref l.h,.str c.k,.str (aq b.ps c.one),.str (aq b.ps c.aK.toNat)]) (ba:a8 H C CL CJ l xs ys b) (ok:cg xs ys b) (to:Gn xs ys b c) (dl:b.dn.length<200) (q:∀(l':BL) (H':Hp),bM H H' l l'->a8 H' C CL CJ l' xs ys (b.pX c)->Q (.int (b.co:Int)) H'):OA C CL CJ vs H Q
def Qd(C CL CJ:Addr):Sp:=λvs H Q _=>OA C CL CJ vs H Q
structure Gp(xs ys:List Int)(b:BS)(c:Fc):Prop where
 nf:Aj xs ys b c
 sk:c.k=aY
inductive L5(C CL CJ:Addr)(vs:List V)(H:Hp)(Q:VK):Prop
 |mk (l:BL) (b:BS) (xs ys:List Int) (c:Fc) (aC:vs=[.ref l.h,.str (aq b.ps c.one),.int c.aK]) (ba:a8 H C CL CJ l xs ys b) (ok:cg xs ys b) (so:Gp xs ys b c) (q:∀H',ai H H'->Q .ay H'):L5 C CL CJ vs H Q
def Nh(C CL CJ:Addr):Sp:=λvs H Q _=>L5 C CL CJ vs H Q
inductive K9(C CL CJ:Addr)(vs:List V)(H:Hp)(Q:VK):Prop
 |mk (l:BL) (b:BS) (xs ys:List Int) (i:Int) (aC:vs=[.ref l.h,.int i]) (ba:a8 H C CL CJ l xs ys b) (hi:0<=i/\i<(xs.length:Int)) (q:∀H',ai H H'->Q .ay H'):K9 C CL CJ vs H Q
def L6(C CL CJ:Addr):Sp:=λvs H Q _=>K9 C CL CJ vs H Q
inductive OB(C CL CJ:Addr)(vs:List V)(H:Hp)(Q:VK):Prop
 |mk (l:BL) (b:BS) (xs ys:List Int) (c:Fc) (aC:vs=[.ref l.h,.str (aq b.ps c.one),.int c.aK]) (ba:a8 H C CL CJ l xs ys b) (ok:cg xs ys b) (so:Gp xs ys b c) (dl:b.dn.length<200) (q:∀(l':BL) (H':Hp),bM H H' l l'->a8 H' C CL CJ l' xs ys (b.pX c)->Q (.int (b.co:Int)) H'):OB C CL CJ vs H Q
def F1(C CL CJ:Addr):Sp:=λvs H Q _=>OB C CL CJ vs H Q
theorem dP(x y:Str):decide (V.str x=V.str y)=decide (x=y):=by
 grind
section
variable {dC:Addr}
theorem WO:aN ["kind","here","there"] ["kind","here","there"] (aH Df):=.aU
theorem WQ(F:aJ K "sides_fit" "sides_fit" Df f fd)(rF:mg "MAN"=some (.str "man" t1))(qX:mg "WOMAN"=some (.str "woman" t2))(nX:mg "SIBLING"=some (.str "sibling" t3)):aG P w K mg base aM 1 f fd ["kind","here","there"] Oy:=by
 refine F.o WO λaB A outer s H vs Q E hr h=>?_;obtain⟨k,h,t,rfl,q⟩:=h;refine⟨_,(ak (aR (bA cq (pv 0) bq) (au (aF (eC cq (pv 2) (dq (v:=.str "woman") rfl qX ⟨_,rfl⟩)))) aW) (ak (aR (bA cq (pv 0) bq) (au (aF (eC cq (pv 2) (dq (v:=.str "man") rfl rF ⟨_,rfl⟩)))) aW) (au (aF (F6 (eC cq (pv 0) (dq (v:=.str "sibling") rfl nX ⟨_,rfl⟩)) (lD (oh (eC cq (pv 1) (dq (v:=.str "man") rfl rF ⟨_,rfl⟩)) (lD (eC cq (pv 2) (dq (v:=.str "woman") rfl qX ⟨_,rfl⟩)))))))))),?_⟩;unfold kq at q;refine⟨_,rfl,rfl,_,rfl,?_⟩;rw[dP];refine bB (λcc=>?_) (λcc=>aV ?_)
 ·rw[if_pos (of_decide_eq_true cc)] at q;refine⟨_,rfl,rfl,?_⟩;rw[dP];exact q
 ·rw[if_neg (λz=>cc (decide_eq_true z))] at q;refine⟨_,rfl,rfl,_,rfl,?_⟩;rw[dP];refine bB (λc2=>?_) (λc2=>aV ?_)
  ·rw[if_pos (of_decide_eq_true c2)] at q;refine⟨_,rfl,rfl,?_⟩;rw[dP];exact q
  ·rw[if_neg (λz=>c2 (decide_eq_true z))] at q;refine⟨_,rfl,rfl,_,rfl,?_⟩;rw[dP];refine bB (λc3=>?_) (λc3=>?_);·grind
   ·have e3:decide (k="sibling")=false:=by
     cases e:decide (k="sibling") with
     |true=>grind
     |false=>rfl
    rw[e3,J6] at q;refine⟨_,rfl,rfl,_,rfl,?_⟩;rw[dP];refine bB (λc4=>?_) (λc4=>?_)
    ·rw[c4,Jx] at q;refine⟨_,rfl,rfl,?_⟩;rw[dP];exact q
    ·grind
theorem Vj:aN ["hearth","kind","one","other"] ["hearth","kind","one","other"] (aH Cj):=.aU
theorem Zcx(F:aJ K "told_already" "told_already" Cj f fd)(nX:mg "SIBLING"=some (.str "sibling" t1))(iI:mg "PARENTS"=some (.ref dC))(qP:∀H,aA K H dC (ie.map V.str))(BP:bT P w K mg base 1 "parent_of" C ["self","kind","name"] (K5 C CL CJ))(tQ:bT P w K mg base 2 "has" C ["self","kind","one","other"] (Gj C CL CJ)):aG P w K mg base aM 3 f fd ["hearth","kind","one","other"] (Qc C CL CJ):=by
 refine F.o Vj λaB A outer s H vs Q E hr h=>?_;obtain⟨l,b,xs,ys,k,a,o,rfl,ba,un,q⟩:=h;refine⟨_,(ak (aR (gT (lW (K:=K) rfl) (pv 1) (dq (v:=.ref dC) rfl iI rfl) (by with_unfolding_all rfl)) (au (aF (eC zm (cC BP hr (by omega) (pv 0) (aa (pv 1) (aa (pv 2) ag))) lC))) aW) (au (aF (F6 (cC tQ hr (by omega) (pv 0) (aa (pv 1) (aa (pv 2) (aa (pv 3) ag)))) (lD (oh (eC cq (pv 1) (dq (v:=.str "sibling") rfl nX ⟨_,rfl⟩)) (lD (eC cq (pv 2) (pv 3))))))))),?_⟩;obtain⟨dx,h1⟩:=ba.obj;refine⟨_,rfl,dC,_,rfl,.inr (qP _),rfl,rfl,_,rfl,?_⟩;try dsimp only
 rw[if_neg Yj,show eZ (.str k) (ie.map V.str)=cG k from zD k];refine bB (λcc=>?_) (λcc=>aV ?_)
 ·refine⟨_,rfl,l.h,dx,_,rfl,h1,rfl,_,rfl,_,rfl,l,b,xs,ys,k,a,rfl,ba,λH1 g1=>?_⟩;rw[pA (un.par cc)];exact⟨rfl,q H1 g1⟩
 ·have np:cG k=false:=by
   cases e:cG k with
   |true=>exact absurd e cc
   |false=>rfl
  obtain⟨u1,u2⟩:=un.aK np;refine⟨_,rfl,l.h,dx,_,rfl,h1,rfl,_,rfl,_,rfl,_,rfl,l,b,xs,ys,k,a,.inr o,rfl,ba,λ_=>⟨o,rfl⟩,λH1 g1=>⟨_,rfl,?_⟩⟩;have e:b.told (keyOf k a (.inr o))=false:=by
   cases e:b.told (keyOf k a (.inr o)) with
   |true=>exact absurd ((MY _ _).mp e) u1
   |false=>rfl
  rw[e];refine bY ?_;refine⟨_,rfl,rfl,_,rfl,?_⟩;rw[dP];refine bB (λc3=>?_) (λc3=>?_)
  ·refine⟨_,rfl,_,rfl,rfl,?_⟩;rw[dP,decide_eq_false (λz=>u2 ⟨of_decide_eq_true c3,z⟩)];exact q H1 g1
  ·exact q H1 g1
theorem JW:aN ["hearth","child","parent","lines"] ["hearth","child","parent"] (aH Ck):=.aU
theorem Vk(F:aJ K "check_elders" "check_elders" Ck f fd)(D6:HasFn P w K mg base 2 "lines_up" ["hearth","name"] (Ox C CL CJ)):aG P w K mg base aM 4 f fd ["hearth","child","parent"] (Nf C CL CJ):=by
 refine F.o JW λaB A outer s H vs Q E hr h=>?_;obtain⟨l,b,xs,ys,ch,pa,rfl,ba,ok,mp,no,q⟩:=h;refine⟨_,(ak (bP 3 JW.nd (aP D6 hr (aa (pv 0) (aa (pv 2) ag)))) (au (aR (je (zL (bu hr) (pv 1) (pv 3)) (by with_unfolding_all rfl)) fD aW))),?_⟩;refine⟨_,rfl,_,rfl,l,b,xs,ys,pa,rfl,ba,ok,mp,λp ks as H1 la iff=>bb ?_⟩;have nk:ch∉ks:=λz=>no ((iff ch).mp z);exact⟨_,rfl,_,rfl,p,none,rfl,cV la.at_ (E2 la.len nk),_,rfl,bY (aV (q H1 la.same))⟩
theorem WR:aN ["hearth","kind","one","other"] ["hearth","kind","one","other"] (aH De):=.aU
theorem WS(F:aJ K "check_tie" "check_tie" De f fd)(iI:mg "PARENTS"=some (.ref dC))(qP:∀H,aA K H dC (ie.map V.str))(ui:HasFn P w K mg base 1 "is_tie" ["kind"] Fq)(DB:HasFn P w K mg base 1 "sides_fit" ["kind","here","there"] Oy)(qE:bT P w K mg base 1 "side_of" C ["self","name"] (EZ C CL CJ))(Cu:HasFn P w K mg base 3 "told_already" ["hearth","kind","one","other"] (Qc C CL CJ))(Cv:HasFn P w K mg base 4 "check_elders" ["hearth","child","parent"] (Nf C CL CJ)):aG P w K mg base aM 6 f fd ["hearth","kind","one","other"] (Ng C CL CJ):=by
 refine F.o WR λaB A outer s H vs Q E hr h=>?_;obtain⟨l,b,xs,ys,c,rfl,ba,ok,to,q⟩:=h;refine⟨_,(ak (aR (jg (eN (aP ui hr (aa (pv 1) ag)))) fD aW) (ak (aR (jg (eN (aP DB hr (aa (pv 1) (aa (cC qE hr (by omega) (pv 0) (aa (pv 2) ag)) (aa (cC qE hr (by omega) (pv 0) (aa (pv 3) ag)) ag)))))) fD aW) (ak (aR (eN (aP Cu hr (aa (pv 0) (aa (pv 1) (aa (pv 2) (aa (pv 3) ag)))))) fD aW) (au (aR (gT (lW (K:=K) rfl) (pv 1) (dq (v:=.ref dC) rfl iI rfl) (by with_unfolding_all rfl)) (au (cy (aP Cv hr (aa (pv 0) (aa (pv 2) (aa (pv 3) ag)))))) aW))))),?_⟩;obtain⟨dx,h1⟩:=ba.obj;obtain⟨r,dr,hs⟩:=C4 (to.nf.fg.uD to.ns);have ht:mX qb c.k=true:=by unfold mX;rw[dr];rfl
 have om:=(to.nf.fg.ok.gF to.ns).1.2;refine⟨_,rfl,c.k,rfl,_,rfl,?_⟩;rw[ht];refine⟨_,rfl,_,rfl,l.h,dx,_,rfl,h1,rfl,_,rfl,l,b,xs,ys,_,_,rfl,ba,n_ ok.nm to.nf.fg.ok.one,⟨_,rfl,l.h,dx,_,rfl,h1,rfl,_,rfl,l,b,xs,ys,_,_,rfl,ba,n_ ok.nm om,⟨c.k,_,_,rfl,_,rfl,?_⟩⟩⟩;rw[to.cW];refine⟨_,rfl,_,rfl,_,rfl,_,rfl,l,b,xs,ys,c.k,_,_,rfl,ba,to.un,λH1 g1=>⟨_,rfl,bY (aV ⟨_,rfl,dC,_,rfl,.inr (qP _),rfl,rfl,_,rfl,?_⟩)⟩⟩;rw[if_neg Yj,show eZ (.str c.k) (ie.map V.str)=cG c.k from zD c.k];refine bB (λcc=>⟨_,rfl,_,rfl,_,rfl,l,b,xs,ys,_,_,rfl,ba.same g1,ok,Ft om,to.el cc,λH2 g2=>q H2 (g1.trans g2)⟩) (λcc=>aV (q H1 g1))
theorem U9:aN ["hearth","section"] ["hearth","section"] (aH B4):=.aU
theorem U_(F:aJ K "check_section" "check_section" B4 f fd)(hc:fG K C)(lc:uC K CL)(bl:Bl mg):aG P w K mg base aM 1 f fd ["hearth","section"] (L6 C CL CJ):=by
 refine F.o U9 λaB A outer s H vs Q E hr h=>?_;obtain⟨l,b,xs,ys,i,rfl,ba,hi,q⟩:=h;refine⟨_,(au (aR (gT WC (pv 1) (d_ CS rfl bl.jb uf (aa (wx (K:=K) rfl (pF K 0) rfl) ag)) (by with_unfolding_all rfl)) fD aW)),?_⟩;obtain⟨dx,h1⟩:=ba.obj;obtain⟨dL,dS,mo,iy,wi,im,jf,iw,HU,hL,_⟩:=ba.landAt;refine⟨_,rfl,_,rfl,l.h,C,dx,_,_,rfl,h1,hc.cls,hc.ux,rfl,l.L,CL,dL,_,_,rfl,hL,lc.cls,lc.ra,rfl,_,rfl,λp H1 np g1 hp=>?_⟩;refine⟨_,_,_,p,rfl,rfl,hp,_,rfl,?_⟩;rw[if_pos rfl,decide_eq_true hi];exact bY (aV (q H1 g1))
theorem Vl:aN ["hearth","name","section"] ["hearth","name","section"] (aH Cm):=.aU
theorem Vm(F:aJ K "check_saying" "check_saying" Cm f fd)(ko:mg "SAID"=some (.str "said" t1))(qE:bT P w K mg base 1 "side_of" C ["self","name"] (EZ C CL CJ))(Ce:HasFn P w K mg base 1 "check_section" ["hearth","section"] (L6 C CL CJ))(tQ:bT P w K mg base 2 "has" C ["self","kind","one","other"] (Gj C CL CJ)):aG P w K mg base aM 3 f fd ["hearth","name","section"] (Nh C CL CJ):=by
 refine F.o Vl λaB A outer s H vs Q E hr h=>?_;obtain⟨l,b,xs,ys,c,rfl,ba,ok,so,q⟩:=h;refine⟨_,(ak (cy (cC qE hr (by omega) (pv 0) (aa (pv 1) ag))) (ak (cy (aP Ce hr (aa (pv 0) (aa (pv 2) ag)))) (au (aR (eN (cC tQ hr (by omega) (pv 0) (aa (dq (v:=.str "said") rfl ko ⟨_,rfl⟩) (aa (pv 1) (aa (pv 2) ag))))) fD aW)))),?_⟩;obtain⟨dx,h1⟩:=ba.obj;refine⟨_,rfl,l.h,dx,_,rfl,h1,rfl,_,rfl,l,b,xs,ys,_,_,rfl,ba,n_ ok.nm so.nf.fg.ok.one,⟨_,rfl,_,rfl,l,b,xs,ys,c.aK,rfl,ba,so.nf.fg.GQ so.sk,λH1 g1=>⟨_,rfl,l.h,dx,_,rfl,g1 _ _ h1,rfl,_,rfl,_,rfl,l,b,xs,ys,"said",aq b.ps c.one,.inl c.aK,rfl,ba.same g1,(λz=>absurd z (by decide+kernel)),λH2 g2=>⟨_,rfl,?_⟩⟩⟩⟩;have ek:keyOf "said" (aq b.ps c.one) (.inl c.aK)=eU b.ps c:=by
  unfold eU;rw[jz so.sk,so.sk]
 have e:b.told (keyOf "said" (aq b.ps c.one) (.inl c.aK))=false:=by
  cases e:b.told (keyOf "said" (aq b.ps c.one) (.inl c.aK)) with
  |true=>exact absurd ((MY _ _).mp e) (by rw[ek];exact so.nf.nk)
  |false=>rfl
 rw[e];exact bY (aV (q H2 (g1.trans g2)))
theorem V0:aN ["self","kind","one","other"] ["self","kind","one","other"] (aH CZ):=.aU
theorem Zcy(F:aJ K "tie" "Hearth.tie" CZ f fd)(hc:fG K C)(DC:HasFn P w K mg base 6 "check_tie" ["hearth","kind","one","other"] (Ng C CL CJ))(tM:bT P w K mg base 11 "keep" C ["self","fact"] (F0 C CL CJ)):aG P w K mg base aM 12 f fd ["self","kind","one","other"] (Qd C CL CJ):=by
 refine F.o V0 λaB A outer s H vs Q E hr h=>?_;obtain⟨l,b,xs,ys,c,rfl,ba,ok,to,dl,q⟩:=h;refine⟨_,(ak (cy (aP DC hr (aa (pv 0) (aa (pv 1) (aa (pv 2) (aa (pv 3) ag)))))) (au (aF (cC tM hr (by omega) (pv 0) (aa (dz (aa (pF K 0) (aa (pv 1) (aa (pv 2) (aa (pv 3) ag))))) ag))))),?_⟩;refine⟨_,rfl,_,rfl,_,rfl,_,rfl,l,b,xs,ys,c,rfl,ba,ok,to,λH1 g1=>?_⟩;have bZ:=ba.same g1;obtain⟨dx,h1⟩:=bZ.obj;refine⟨_,rfl,l.h,dx,_,rfl,h1,rfl,_,rfl,l.h,C,dx,_,_,rfl,h1,hc.cls,hc.pJ,rfl,_,rfl,_,rfl,_,rfl,by show 4<=sizeLine;decide,λr H2 nr g2 hR=>?_⟩;have hf:dM H2 b.ps r (b.co,c):=by
  show H2 r=some (.tup ((dJ b.ps b.co c).map kV));unfold dJ;rw[hJ to.ns];exact hR
 refine⟨l,b,xs,ys,r,c,rfl,bZ.same g2,ok,hf,to.nf,dl,λl' H3 wt i_=>q l' H3 (bM.after (g1.trans g2) wt) i_⟩
theorem V1:aN ["self","name","section"] ["self","name","section"] (aH C0):=.aU
theorem Zcz(F:aJ K "say" "Hearth.say" C0 f fd)(hc:fG K C)(ko:mg "SAID"=some (.str "said" t1))(Cw:HasFn P w K mg base 3 "check_saying" ["hearth","name","section"] (Nh C CL CJ))(tM:bT P w K mg base 11 "keep" C ["self","fact"] (F0 C CL CJ)):aG P w K mg base aM 12 f fd ["self","name","section"] (F1 C CL CJ):=by
 refine F.o V1 λaB A outer s H vs Q E hr h=>?_;obtain⟨l,b,xs,ys,c,rfl,ba,ok,so,dl,q⟩:=h;refine⟨_,(ak (cy (aP Cw hr (aa (pv 0) (aa (pv 1) (aa (pv 2) ag))))) (au (aF (cC tM hr (by omega) (pv 0) (aa (dz (aa (pF K 0) (aa (dq (v:=.str "said") rfl ko ⟨_,rfl⟩) (aa (pv 1) (aa (pv 2) ag))))) ag))))),?_⟩;refine⟨_,rfl,_,rfl,_,rfl,l,b,xs,ys,c,rfl,ba,ok,so,λH1 g1=>?_⟩;have bZ:=ba.same g1;obtain⟨dx,h1⟩:=bZ.obj;refine⟨_,rfl,l.h,dx,_,rfl,h1,rfl,_,rfl,l.h,C,dx,_,_,rfl,h1,hc.cls,hc.pJ,rfl,_,rfl,_,rfl,by show 4<=sizeLine;decide,λr H2 nr g2 hR=>?_⟩;have hf:dM H2 b.ps r (b.co,c):=by
  show H2 r=some (.tup ((dJ b.ps b.co c).map kV));unfold dJ;rw[jz so.sk,so.sk];exact hR
 refine⟨l,b,xs,ys,r,c,rfl,bZ.same g2,ok,hf,so.nf,dl,λl' H3 wt i_=>q l' H3 (bM.after (g1.trans g2) wt) i_⟩
end
def nE(n:Nat)(d:Int):List Int:=(List.range n).map λi:Nat=>((i:Int)+d) % (n:Int)
theorem rot_length(n:Nat)(d:Int):(nE n d).length=n:=by simp[nE]
theorem Zbh(hn:0<n)(d:Int):(nE n d).Perm (bh n):=by
 have uU:(0:Int)<(n:Int):=by omega
 have r0:=W7 d (Hk uU);have r1:=Wt d uU;obtain⟨r,er⟩:∃r:Nat,d % (n:Int)=(r:Int):=⟨(d % (n:Int)).toNat,by omega⟩;have rn:r<n:=by omega
 have e:nE n d=(bh n).drop r++(bh n).take r:=by
  refine Ws λi=>?_;have ul:=eM n;by_cases hi:i<n
  ·have lhs:(nE n d)[i]?=some (((i:Int)+d) % (n:Int)):=by
    unfold nE;rw[Yg,List.getElem?_range hi];rfl
   have em:((i:Int)+d) % (n:Int)=((r:Int)+(i:Int)) % (n:Int):=by
    rw[Int.add_comm,←Int.emod_add_emod,er]
   rw[lhs,em];by_cases h:r+i<n;·rw[Wi (by rw[Jg,ul];omega),List.getElem?_drop,k_ (by omega),Int.emod_eq_of_lt (by omega) (by omega),Int.natCast_add]
   ·rw[Jq (by rw[Jg,ul];omega),Jg,ul,List.getElem?_take_of_lt (by omega),k_ (by omega)];have e3:(r:Int)+(i:Int)=((i-(n-r):Nat):Int)+(n:Int)*1:=by omega
    rw[e3,Int.add_mul_emod_self_left,Int.emod_eq_of_lt (by omega) (by omega)]
  ·rw[Y6 (by rw[rot_length];omega),Y6 (by rw[Yk,Jg,Wf,ul];omega)]
 rw[e];exact List.perm_append_comm.trans (by rw[List.take_append_drop])
inductive OC(vs:List V)(H:Hp)(Q:VK):Prop
 |mk (c:Int) (n:Nat) (aC:vs=[.int c,.int (n:Int)]) (aT:0<n) (bc:n<=60) (bK:∀(t:Addr) (ts:List Int) (H':Hp),H t=none->ai H H'->bQ H' t ts->ts.Perm (bh n)->Q (.ref t) H'):OC vs H Q
def QV:Sp:=λvs H Q _=>OC vs H Q
inductive OD(K:PySem.W.Frag)(vs:List V)(H:Hp)(Q:VK):Prop
 |mk (a b:Addr) (xs ys:List Int) (aC:vs=[.ref a,.ref b]) (aT:aA K H a (xs.map V.int)) (bc:aA K H b (ys.map V.int)) (bK:(∀x∈xs,0<=x/\x<ys.length)) (cE:xs.length<=60) (dI:∀(l:Addr) (H':Hp),H l=none->ai H H'->bQ H' l (bF ys xs)->Q (.ref l) H'):OD K vs H Q
def QW(K:PySem.W.Frag):Sp:=λvs H Q _=>OD K vs H Q
theorem ZcA(h:Paired Bd ds [a,b]):∃v w,ds=[v,w]/\Bd v a/\Bd w b:=by
 cases h with|cons h1 h=>cases h with|cons h2 h=>
  cases h;exact⟨_,_,rfl,h1,h2⟩
section
theorem K_:aN ["_law_cell_here","_law_size","_law_drawn"] ["_law_cell_here","_law_size"] (aH En):=.aU
theorem YX(F:aJ K "_law_row" "_law_row" En f fd)(nP:HasFn P w K mg base 1 "_law_draws" ["_law_cell_here","_law_parts"] (zt K))(D7:HasFn P w K mg base 1 "_law_turn" ["_law_code","_law_size"] Pt)(bl:Bl mg):
  aG P w K mg base aM 2 f fd ["_law_cell_here","_law_size"] QV:=by
 refine F.o K_ λaB A outer s H vs Q E hr h=>?_;obtain⟨c,n,rfl,n0,n60,q⟩:=h;refine⟨_,(ak (f_ (i:=2) K_.nd rfl (Or.inr rfl) (aP nP hr (aa (pv 0) (aa (wK (aa aL (aa aL ag))) ag)))) (ak (aR (bA cq (a_ (iL K) (pv 2) aL) aL) (au (aF (d_ (tK) rfl bl.mH mD (aa (iM (x:="_law_at") (fr:=[("_law_size",1),("_law_drawn",2)]) (cl:=[("_law_size",s.heap.objs.size+1),("_law_drawn",s.heap.objs.size+1+1)]) rfl (.fW ⟨rfl,⟨rfl,trivial⟩⟩ ⟨⟨rfl,.inl rfl,.inl rfl,rfl⟩,⟨⟨rfl,.inl rfl,.inl rfl,rfl⟩,trivial⟩⟩) (nS rfl bl.jb (aa (pv 1) ag)) (λ_ _ _ _=>lq) (λ_ _ _ _=>(a9 dU (a9 gU (pv 0) (a_ (iL K) (pv 2) aL)) (pv 1)))) ag)))) aW) (au (aF (aP D7 hr (aa (a_ (iL K) (pv 2) aL) (aa (pv 1) ag))))))),?_⟩;refine⟨_,rfl,by show 2<=sizeLine;decide,λp np=>?_⟩;refine⟨c,p,[3,40320],rfl,aj.of aS,by decide,by decide,λdl ds H1 nd g1 h1 bd=>?_⟩;obtain⟨d0,d1,rfl,⟨a0,a0'⟩,⟨a1,a1'⟩⟩:=ZcA bd;have g:=(cj np _).trans g1;have pos:(0:Int)<(n:Int):=by omega
 refine⟨_,rfl,dl,_,0,.int d0,rfl,rfl,aj.of h1,rfl,rfl,_,rfl,bB (λ_=>?_) (λ_=>aV ?_)⟩
 ·refine⟨_,rfl,(n:Int),rfl,by omega,by omega,λD hD=>v8 (lo:=0) (n:=(n:Int).toNat) (λi zs H2=>ai H1 H2/\H2 D=some (.lst zs)/\zs=((nE n d1).take i).map V.int) ⟨cj hD _,aS,rfl⟩ ?_ ?_⟩
  ·rintro i zs H2 hi ⟨g2,h2,e2⟩;rw[Y5] at hi;rw[J3];refine kI (cS ⟨_,rfl,_,rfl,dl,_,1,.int d1,rfl,rfl,aj.of (g2 _ _ h1),rfl,_,_,rfl,rfl,_,rfl,_,_,rfl,rfl,pos,h2,?_,λd o qd=>?_,aS,?_⟩)
   ·rw[e2,Ya,Wf,rot_length];exact jy (by omega)
   ·rw[aQ (bX qd hD)];exact g2 d o qd
   ·have ge:(nE n d1)[i]?=some (((i:Int)+d1) % (n:Int)):=by
     unfold nE;rw[Yg,List.getElem?_range hi];rfl
    rw[e2,Y0,Eh,ge];rfl
  ·rintro zs H2 ⟨g2,h2,e2⟩;rw[Y5,Wp (by rw[rot_length];omega)] at e2;refine⟨D,_,rfl,.inl ⟨aj.of h2,λt ht=>q t (nE n d1) _ (g.free (g2.free ht)) ((g.trans g2).trans (cj ht _)) ?_ (Zbh n0 d1)⟩⟩;show upd H2 t (.tup zs) t=_;rw[aS,e2]
 ·exact⟨_,rfl,dl,_,1,.int d1,rfl,rfl,aj.of h1,rfl,_,rfl,d1,n,rfl,n60,λt ts H2 nt g2 ht pm=>q t ts H2 (g.free nt) (g.trans g2) ht pm⟩
theorem WT:aN ["_law_first","_law_then"] ["_law_first","_law_then"] (aH Dh):=.aU
theorem WU(F:aJ K "_law_after" "_law_after" Dh f fd)(bl:Bl mg):aG P w K mg base aM 1 f fd ["_law_first","_law_then"] (QW K):=by
 refine F.o WT λaB A outer s H vs Q E hr h=>?_;obtain⟨a,b,xs,ys,rfl,hA,hB,qm,hl,q⟩:=h;refine⟨_,(au (aF (d_ (tK) rfl bl.mH mD (aa (iM (x:="_law_one") (fr:=[("_law_then",1)]) (cl:=[("_law_then",s.heap.objs.size+1)]) rfl (.fW ⟨rfl,trivial⟩ ⟨⟨rfl,.inl rfl,.inl rfl,rfl⟩,trivial⟩) (FC (pv 0)) (λ_ _ _ _=>lq) (λ_ _ _ _=>(a_ (iT K) (pv 1) (pv 0)))) ag)))),?_⟩;refine⟨_,rfl,a,rfl,⟨_,hA⟩,λD hD=>y_ (xs:=xs.map V.int) (λi zs H3=>ai H H3/\H3 D=some (.lst zs)/\zs=((bF ys xs).take i).map V.int) ⟨cj hD _,aS,rfl⟩ (λi zs H3 _ ⟨g3,_,_⟩=>g3.i4 hA) ?_ ?_⟩
 ·rintro i v zs H3 hi ⟨g3,h3,e3⟩;obtain⟨z,rfl,hz⟩:=mG hi;have dF:i<xs.length:=(Yh.mp hz).1;have bz:=qm z (Yi hz);refine kI (cS ⟨_,rfl,_,rfl,b,_,_,_,rfl,rfl,g3.i4 hB,mN bz.1 bz.2,h3,?_,λd o qd=>?_,aS,?_⟩)
  ·rw[e3,Ya,Wf,qK];exact jy (by omega)
  ·rw[aQ (bX qd hD)];exact g3 d o qd
  ·rw[e3,Y0,Eh];unfold bF;rw[Yg,hz];rfl
 ·rintro zs H3 ⟨g3,h3,e3⟩;refine⟨D,_,rfl,.inl ⟨aj.of h3,λt ht=>q t _ (g3.free ht) (g3.trans (cj ht _)) ?_⟩⟩;show upd H3 t (.tup zs) t=_;rw[aS,e3,Ya,Wp (by rw[qK];omega)]
end
inductive OE(vs:List V)(H:Hp)(Q:VK):Prop
 |mk (a:Addr) (xs:List Int) (aC:vs=[.ref a]) (aT:bQ H a xs) (bc:xs.length<64) (bK:full xs=true) (cE:∀(t:Addr) (H':Hp),H t=none->ai H H'->bQ H' t (inv xs)->Q (.ref t) H'):OE vs H Q
def Gq:Sp:=λvs H Q _=>OE vs H Q
section
theorem VD:aN ["_law_turn_here"] ["_law_turn_here"] (aH CB):=.aU
theorem YY(F:aJ K "_law_inverse" "_law_inverse" CB f fd)(bl:Bl mg):aG P w K mg base aM 1 f fd ["_law_turn_here"] Gq:=by
 refine F.o VD λaB A outer s H vs Q E hr h=>?_;obtain⟨a,xs,rfl,hA,lx,fx,q⟩:=h;refine⟨_,(au (aF (d_ (tK) rfl bl.mH mD (aa (iM (x:="_law_at") (fr:=[("_law_turn_here",0)]) (cl:=[("_law_turn_here",s.heap.objs.size+1)]) rfl (.fW ⟨rfl,trivial⟩ ⟨⟨rfl,.inl rfl,.inl rfl,rfl⟩,trivial⟩) (nS rfl bl.jb (aa (cU K bl (pv 0)) ag)) (λ_ _ _ _=>lq) (λ_ _ _ _=>(Kj (pv 1) (aa (pv 0) ag)))) ag)))),?_⟩;have el:(xs.map V.int).length=xs.length:=Ya _;refine⟨_,rfl,a,_,rfl,.inr (aA.of hA),_,rfl,by rw[el];omega,by rw[el];omega,λD hD=>v8 (lo:=0) (n:=(((xs.map V.int).length:Nat):Int).toNat)
   (λi zs H2=>ai H H2/\H2 D=some (.lst zs)/\zs=((inv xs).take i).map V.int) ⟨cj hD _,aS,rfl⟩ ?_ ?_⟩
 ·rintro i zs H2 hi ⟨g2,h2,e2⟩;rw[Y5,el] at hi;rw[J3];have hx:=zb (MG fx hi);have xS:=g2 _ _ hA;refine kI (cS ⟨_,rfl,a,xs,rfl,xS,_,rfl,(i:Int),jH (i:Int) xs,rfl,xS,hx.1,hx.2,h2,?_,λd o qd=>?_,aS,?_⟩)
  ·rw[e2,Ya,Wf,fC];exact jy (by omega)
  ·rw[aQ (bX qd hD)];exact g2 d o qd
  ·rw[e2,MH hi,Yn];rfl
 ·rintro zs H2 ⟨g2,h2,e2⟩;refine⟨D,_,rfl,.inl ⟨aj.of h2,λt ht=>q t _ (g2.free ht) (g2.trans (cj ht _)) ?_⟩⟩;show upd H2 t (.tup zs) t=_;rw[aS,e2,Y5,el,Wp (by rw[fC];omega)]
end
structure iW(H0 H:Hp)(ps:bo)(d:Addr)(b:Nat)(kvs:List (Key×V))(L:Nat->List (Nat×List Int)):Prop where
 dict:H d=some (.dK kvs)
 len:kvs.length<=b
 new:H0 d=none
 at_:∀x:Nat,x<ps.length->(aO kvs (.inr (aq ps x))=none/\L x=[])\/∃(a:Addr) (es:List Addr),aO kvs (.inr (aq ps x))=some (.ref a)/\H0 a=none/\H a=some (.lst (es.map V.ref))/\(L x).length<=b/\Paired (λe (p:Nat×List Int)=>∃u,H e=some (.tup [.str (aq ps p.1),.ref u])/\bQ H u p.2) es (L x)
 inj:∀(x y:Nat) (a:Addr),x<ps.length->y<ps.length->aO kvs (.inr (aq ps x))=some (.ref a)->aO kvs (.inr (aq ps y))=some (.ref a)->x=y
theorem qY(nd:(ps.map (·.1)).Nodup)(hi:i<ps.length)(hj:j<ps.length)(e:aq ps i=aq ps j):i=j:=by
 have h1:=qV nd hi;rw[e,qV nd hj] at h1
 grind
theorem iW.same(g:ai H H')(h:iW H0 H ps d b kvs L):iW H0 H' ps d b kvs L:=by
 refine⟨g _ _ h.dict,h.len,h.new,λx hx=>?_,h.inj⟩;rcases h.at_ x hx with z|⟨a,es,h1,h2,h3,h4,h5⟩;·exact .inl z
 ·exact .inr ⟨a,es,h1,h2,g _ _ h3,h4,L2.Paired.bw h5 λ_ _ ⟨u,e1,e2⟩=>⟨u,g _ _ e1,g _ _ e2⟩⟩
theorem iW.app(h:iW H0 H ps d b kvs L)(hx:x<ps.length)(hv:aO kvs (.inr (aq ps x))=some (.ref a))(ha:H a=some (.lst ys))(he:H e=some (.tup [.str (aq ps y),.ref u]))(hu:bQ H u t)(br:aw a H H')(qo:H' a=some (.lst (ys++[.ref e]))):iW H0 H' ps d (b+1) kvs (rS L x (y,t)):=by
 have nt:∀{c:Addr} {xs:List V},H c=some (.tup xs)->c≠a:=λ{c xs} hc=>di hc ha (λz=>by cases z);refine⟨br _ _ h.dict (di h.dict ha (λz=>by cases z)),by have:=h.len;omega,h.new,λz hz=>?_,h.inj⟩;have en:∀{es:List Addr} {qs:List (Nat×List Int)},Paired (λe (p:Nat×List Int)=>∃u,H e=some (.tup [.str (aq ps p.1),.ref u])/\bQ H u p.2) es qs->Paired (λe (p:Nat×List Int)=>∃u,H' e=some (.tup [.str (aq ps p.1),.ref u])/\bQ H' u p.2) es qs:=λ{es qs} hp=>L2.Paired.bw hp λ_ _ ⟨u,e1,e2⟩=>⟨u,br _ _ e1 (nt e1),br _ _ e2 (nt e2)⟩;by_cases ez:z=x
 ·subst ez;rcases h.at_ z hz with⟨z1,_⟩|⟨a1,es,h1,h2,h3,h4,h5⟩;·grind
  ·obtain rfl:a1=a:=V.ref.inj (Yq (h1.symm.trans hv));rw[h3] at ha;obtain rfl:es.map V.ref=ys:=by injection ha with ha;injection ha
   refine .inr ⟨a1,es++[e],h1,h2,by rw[qo,Yn];rfl,?_,?_⟩;·unfold rS;rw[if_pos rfl,Yk];show(L z).length+1<=b+1;omega
   ·unfold rS;rw[if_pos rfl];exact iH (F:=λe (p:Nat×List Int)=>∃u,H' e=some (.tup [.str (aq ps p.1),.ref u])/\bQ H' u p.2) ⟨u,br _ _ he (nt he),br _ _ (show H u=some (.tup (t.map V.int)) from hu) (nt (show H u=some (.tup (t.map V.int)) from hu))⟩ (en h5)
 ·unfold rS;rw[if_neg ez];rcases h.at_ z hz with z1|⟨a1,es,h1,h2,h3,h4,h5⟩;·exact .inl z1
  ·refine .inr ⟨a1,es,h1,h2,br _ _ h3 (λq=>ez (h.inj z x a hz hx (by rw[←q];exact h1) hv)),by omega,en h5⟩
theorem iW.IX(hb:iW H0 Hb ps d b kvs L)(nd:(ps.map (·.1)).Nodup)(hx:x<ps.length)(g:ai Hb H)(np:Hb p=none)(sX:H0 p=none)(hv:aO kvs (.inr (aq ps x))=none)(hp:H p=some (.lst []))(br:aw d H H')(As:H' d=some (.dK (kvs++[(.inr (aq ps x),.ref p)]))):iW H0 H' ps d (b+1) (kvs++[(.inr (aq ps x),.ref p)]) L:=by
 have h:=hb.same g;have nt:∀{c:Addr} {xs:List V},H c=some (.tup xs)->c≠d:=λ{c xs} hc=>di hc h.dict (λz=>by cases z);have nl:∀{c:Addr} {xs:List V},H c=some (.lst xs)->c≠d:=λ{c xs} hc=>di hc h.dict (λz=>by cases z);refine⟨As,by rw[Yk];have:=h.len;show kvs.length+1<=b+1;omega,h.new,λz hz=>?_,λz1 z2 a l1 l2 e1 e2=>?_⟩
 ·rw[t8 hv];by_cases ez:z=x
  ·rw[if_pos (by rw[ez])];rcases h.at_ z hz with⟨_,z2⟩|⟨a1,es,h1,_⟩;·exact .inr ⟨p,[],rfl,sX,br _ _ hp (nl hp),by rw[z2];exact Yw _,by rw[z2];exact .nil⟩
   ·rw[ez,hv] at h1;cases h1
  ·rw[if_neg (λq=>ez (qY nd hz hx (Wk q)))];rcases h.at_ z hz with z1|⟨a1,es,h1,h2,h3,h4,h5⟩;·exact .inl z1
   ·exact .inr ⟨a1,es,h1,h2,br _ _ h3 (nl h3),by omega,L2.Paired.bw h5 λ_ _ ⟨u,e1,e2⟩=>⟨u,br _ _ e1 (nt e1),br _ _ e2 (nt e2)⟩⟩
 ·have old:∀{z:Nat},z<ps.length->aO kvs (.inr (aq ps z))=some (.ref p)->False:=λ{z} hz e=>by
   rcases hb.at_ z hz with⟨z1,_⟩|⟨a1,es,h1,h2,h3,_⟩;·rw[z1] at e;cases e
   ·rw[e] at h1;obtain rfl:p=a1:=V.ref.inj (Yq h1);rw[np] at h3;cases h3
  rw[t8 hv] at e1 e2;by_cases q1:z1=x
  ·by_cases q2:z2=x;·rw[q1,q2]
   ·rw[if_pos (by rw[q1])] at e1;rw[if_neg (λq=>q2 (qY nd l2 hx (Wk q))),←e1] at e2;exact absurd e2 (old l2)
  ·rw[if_neg (λq=>q1 (qY nd l1 hx (Wk q)))] at e1;by_cases q2:z2=x
   ·rw[if_pos (by rw[q2])] at e2;rw[←e2] at e1;exact absurd e1 (old l1)
   ·rw[if_neg (λq=>q2 (qY nd l2 hx (Wk q)))] at e2;exact h.inj _ _ a l1 l2 e1 e2
theorem L7(h2:∀H Q,Q (.ref d) H->gq 2 σ H Q)(nd:(ps.map (·.1)).Nodup)(Bn:x<ps.length)(hi:∀H Q,Q (.str (aq ps x)) H->gq i σ H Q)(hk:∀H Q,Q (.str (aq ps y)) H->gq k σ H Q)(h:iW H0 H ps d b kvs L)(g:ai H0 H)(lb:b<1000)
  (hx:∀(H1:Hp) (Q1:VK),ai H0 H1->(∀(u:Addr) (H2:Hp),ai H1 H2->bQ H2 u t->Q1 (.ref u) H2)->tx σ H1 Q1)(q:∀(v:V) (Ak:List (Key×V)) (H':Hp),ai H0 H'->iW H0 H' ps d (b+2) Ak (rS L x (y,t))->Q v H'):xG K "list" Mv (EL (gq 2) (gq i) (QK iU)) (gf (w8 (gf (gq k) (gf tx iU))) iU) σ H Q:=by
 have sz:(10000:Nat)<=sizeLine:=by rw[sizeLine_eq];omega
 have ln:=h.len;unfold xG EL;refine h2 _ _ ⟨d,rfl,.inl ⟨_,.inl h.dict⟩,hi _ _ ⟨by show 0<=sizeLine;exact Yw _,λp H1 np g1 hp=>⟨kvs,.inr (aq ps x),g1 _ _ h.dict,rfl,by omega,λv hv=>?_,λhv H2 b2 e2=>?_⟩⟩⟩
 ·rcases h.at_ x Bn with⟨z1,_⟩|⟨a,es,h3,h4,h5,h6,h7⟩;·grind
  obtain rfl:v=.ref a:=Yq (hv.symm.trans h3);have pl:=cI h7;refine⟨.inl ⟨rfl,_,aj.of (g1 _ _ h5)⟩,?_⟩;unfold gf w8;refine hk _ _ (hx _ _ (g.trans g1) λu H2 g2 hu=>⟨by show 2<=sizeLine;omega,λe H3 ne g3 he=>?_⟩);have c7:=(g1.trans g2).trans g3;refine⟨a,_,_,rfl,rfl,c7 _ _ h5,by rw[Ya];omega,λH4 b4 e4=>?_⟩;have nn:=(h.same c7).app Bn h3 (c7 _ _ h5) he (g3 _ _ hu) b4 e4;exact q _ _ H4 (λc o e=>b4 _ _ (c7 _ _ (g _ _ e)) (bX e h4)) ⟨nn.dict,by have:=nn.len;omega,nn.new,λz hz=>by
   rcases nn.at_ z hz with w|⟨a,es,w1,w2,w3,w4,w5⟩;·exact .inl w
   ·exact .inr ⟨a,es,w1,w2,w3,by omega,w5⟩,nn.inj⟩
 ·have sX:=g.free np;have dv:=b2 _ _ hp (di hp (g1 _ _ h.dict) (λz=>by cases z));have gg:ai H0 H2:=λc o e=>b2 _ _ (g1 _ _ (g _ _ e)) (bX e h.new);refine⟨.inl ⟨rfl,_,aj.of dv⟩,?_⟩;unfold gf w8;refine hk _ _ (hx _ _ gg λu H3 g3 hu=>⟨by show 2<=sizeLine;omega,λe H4 ne g4 he=>?_⟩);have Bo:=g3.trans g4;refine⟨p,_,_,rfl,rfl,Bo _ _ dv,by show 0<sizeLine;omega,λH5 b5 e5=>?_⟩;have vx:aO (kvs++[(Sum.inr (aq ps x),V.ref p)]) (.inr (aq ps x))=some (.ref p):=by rw[t8 hv,if_pos rfl]
  exact q _ _ H5 (λc o e=>b5 _ _ (Bo _ _ (gg _ _ e)) (bX e sX)) (((h.IX nd Bn g1 np sX hv hp b2 e2).same Bo).app Bn vx (Bo _ _ dv) he (g4 _ _ hu) b5 e5)
def IY(H:Hp)(ps:bo)(a:Addr)(c:Fc):Prop:=∃z:Int,H a=some (.tup [.int z,.str c.k,.str (aq ps c.one),kV (bg ps c)])
def FL(H:Hp)(ps:bo)(fa:Addr)(F:List Fc):Prop:=∃as:List Addr,H fa=some (.lst (as.map V.ref))/\Paired (IY H ps) as F
abbrev uy(m f w s:Addr):List (Key×V):=[(.inr "mother",.ref m),(.inr "father",.ref f),(.inr "wed",.ref w),(.inr "sibling",.ref s)]
def eK(H:Hp)(td:Addr)(xs ys:List Int):Prop:=∃m f w s:Addr,H td=some (.dK (uy m f w s))/\bQ H m (inv xs)/\bQ H f (inv (bF xs ys))/\bQ H w ys/\bQ H s (bh xs.length)
theorem FL.same(g:ai H H')(h:FL H ps fa F):FL H' ps fa F:=by
 obtain⟨as,h1,h2⟩:=h;exact⟨as,g _ _ h1,L2.Paired.bw h2 λ_ _ ⟨z,e⟩=>⟨z,g _ _ e⟩⟩
theorem eK.same(g:ai H H')(h:eK H td xs ys):eK H' td xs ys:=by
 obtain⟨m,f,w,s,h1,h2,h3,h4,h5⟩:=h;exact⟨m,f,w,s,g _ _ h1,g _ _ h2,g _ _ h3,g _ _ h4,g _ _ h5⟩
theorem eK.get(h:eK H td xs ys)(m:(k,tn)∈pW xs ys):∃kvs u,H td=some (.dK kvs)/\aO kvs (.inr k)=some (.ref u)/\bQ H u tn:=by
 obtain⟨a,b,c,d,h1,h2,h3,h4,h5⟩:=h;simp only[Yp,Y3,or_false] at m;rcases m with⟨rfl,rfl⟩|⟨rfl,rfl⟩|⟨rfl,rfl⟩|⟨rfl,rfl⟩;·exact⟨_,a,h1,rfl,h2⟩
 ·exact⟨_,b,h1,rfl,h3⟩
 ·exact⟨_,c,h1,rfl,h4⟩
 ·exact⟨_,d,h1,rfl,h5⟩
inductive OF(vs:List V)(H:Hp)(Q:VK):Prop
 |mk (fa td:Addr) (ps:bo) (xs ys:List Int) (F:List Fc) (aC:vs=[.ref fa,.ref td]) (aT:FL H ps fa F) (ht:eK H td xs ys) (nd:(ps.map (·.1)).Nodup) (bc:∀c∈F,dN xs ys ps.length c) (bK:xs.length<=8) (cE:F.length<=64) (dI:∀(d:Addr) (kvs:List (Key×V)) (L:Nat->List (Nat×List Int)) (H':Hp),ai H H'->iW H H' ps d 300 kvs L->(∀x y t,(y,t)∈L x↔eP F x y t)->Q (.ref d) H'):OF vs H Q
def F2:Sp:=λvs H Q _=>OF vs H Q
section
theorem tW:aN ["_law_facts","_law_turns_here","_law_found","_law_number","_law_kind","_law_one","_law_other"] ["_law_facts","_law_turns_here"] (aH DS):=.aU
theorem ZcB(F:aJ K "_law_nets" "_law_nets" DS f fd)(qG:HasFn P w K mg base 1 "_law_inverse" ["_law_turn_here"] Gq)(bl:Bl mg):aG P w K mg base aM 2 f fd ["_law_facts","_law_turns_here"] F2:=by
 refine F.o tW λaB A outer s H vs Q E hr h=>?_;obtain⟨fa,td,ps,xs,ys,F,rfl,iy,ht,iE,fgA,n8,sY,q⟩:=h;refine⟨_,(ak (bP 2 tW.nd nT) (ak (fH PassesOwn.never rfl (eY (K:=K) rfl (pv 0)) (hV (K:=K) (n:=4) rfl rfl (bL (bj 3 tW.nd) (bL (bj 4 tW.nd) (bL (bj 5 tW.nd) (bL (bj 6 tW.nd) hU))))) (au (aR (bA lH (pv 4) bq) (ak (cy (lE (K:=K) rfl (ji plainAttrs_list PySem.F.slot_list_append PySem.F.type_list_append mC (DK (pv 2) (pv 5) (c8 ag) ⟨rfl,rfl,rfl,rfl⟩) (aa (dz (aa (pv 6) (aa (c_ (bu hr) (pv 1) (pv 4) (λ_ _=>rfl)) ag))) ag)))) (au (cy (lE (K:=K) rfl (ji plainAttrs_list PySem.F.slot_list_append PySem.F.type_list_append mC (DK (pv 2) (pv 6) (c8 ag) ⟨rfl,rfl,rfl,rfl⟩) (aa (dz (aa (pv 5) (aa (aP qG hr (aa (c_ (bu hr) (pv 1) (pv 4) (λ_ _=>rfl)) ag)) ag))) ag)))))) aW))) (au (aF (pv 2))))),?_⟩;refine bW ?_;refine λd H1 nd g1 hd=>?_;obtain⟨as,cP,dR⟩:=id iy;have al:=cI dR;have sz:(10000:Nat)<=sizeLine:=by rw[sizeLine_eq];omega
 refine fP (λσ H6=>∃(kvs:List (Key×V)) (L:Nat->List (Nat×List Int)) (o1 o2 o3 o4:Option V),ai H H6/\iW H H6 ps d 300 kvs L/\(∀x y t,(y,t)∈L x↔eP F x y t)/\σ=[some (.ref fa),some (.ref td),some (.ref d),o1,o2,o3,o4]) (λl9 eG=>?_) ?_
 ·refine⟨_,rfl,fa,rfl,⟨_,aj.of (g1 _ _ cP)⟩,jA (K:=K) (a:=fa) (xs:=as.map V.ref) (λj σ H6=>∃(kvs:List (Key×V)) (L:Nat->List (Nat×List Int)) (o1 o2 o3 o4:Option V),ai H H6/\iW H H6 ps d (4*j) kvs L/\(∀x y t,(y,t)∈L x↔eP (F.take j) x y t)/\σ=[some (.ref fa),some (.ref td),some (.ref d),o1,o2,o3,o4])
   ⟨[],λ_=>[],none,none,none,none,g1,⟨hd,Yd _,nd,λx _=>.inl ⟨rfl,rfl⟩,λ_ _ _ _ _ e=>(nomatch e)⟩,λx y t=>⟨λz=>(nomatch z),λz=>absurd z Za5⟩,rfl⟩
   (λj σ H6 _ ⟨_,_,_,_,_,_,g,_⟩=>aj.of (g _ _ cP)) ?_ ?_⟩
  ·rintro j v σ H6 hj ⟨kvs,L,o1,o2,o3,o4,g,ne,ed,rfl⟩;rw[Yg] at hj;obtain⟨c0,ec,rfl⟩:∃c0,as[j]?=some c0/\V.ref c0=v:=by
    cases e:as[j]? with
    |none=>rw[e] at hj;cases hj
    |some c=>rw[e] at hj;exact⟨c,rfl,Yq hj⟩
   obtain⟨c,iz,z,hc⟩:=fO dR ec;have mc:=Yi iz;have fg:=fgA c mc;have ok:=fg.ok;have jl:j<F.length:=(Yh.mp iz).1;have jU:F.take (j+1)=F.take j++[c]:=by rw[Y0,iz];rfl
   refine⟨c0,_,rfl,aA.of (g _ _ hc),rfl,_,_,rfl,bb ⟨_,_,rfl,bb ⟨_,_,rfl,bb ⟨_,_,rfl,bb ⟨rfl,?_⟩⟩⟩⟩⟩;have ev:∀b:Bool,decide (V.str c.k=V.str aY)=b->(b=true↔c.k=aY):=λb e=>by
    rw[←e,decide_eq_true_iff];exact⟨V.str.inj,λz=>by rw[z]⟩
   refine⟨_,rfl,rfl,_,rfl,?_⟩;refine bB (λcc=>?_) (λcc=>aV ?_)
   ·have ns:c.k≠aY:=λz=>by
     rw[(ev _ rfl).mpr z] at cc;cases cc
    obtain⟨tk,u,dw,vu,hu⟩:=ht.get (fg.uD ns);obtain⟨⟨o0,om⟩,ft,tl⟩:=ok.gF ns;have eo:kV (bg ps c)=.str (aq ps c.aK.toNat):=by rw[hJ ns];rfl
    refine L7 (ps:=ps) (x:=c.one) (y:=c.aK.toNat) (t:=c.tn) (λ_ _ h=>⟨_,rfl,h⟩) iE ok.one (λ_ _ h=>⟨_,rfl,h⟩) (λ_ _ h=>⟨_,rfl,by rw[eo];exact h⟩) ne g (by omega) (λH2 Q2 g2 k2=>⟨_,rfl,_,rfl,td,.ref u,rfl,cV (g2 _ _ dw) vu,k2 u H2 (ai.refl _) (g2 _ _ hu)⟩) λv2 Zhx H2 g2 n2=>?_;refine L7 (ps:=ps) (x:=c.aK.toNat) (y:=c.one) (t:=inv c.tn) (λ_ _ h=>⟨_,rfl,h⟩) iE om (λ_ _ h=>⟨_,rfl,by rw[eo];exact h⟩) (λ_ _ h=>⟨_,rfl,h⟩) n2 g2 (by omega) (λH3 Q3 g3 k3=>⟨_,rfl,_,rfl,td,.ref u,rfl,cV (g3 _ _ dw) vu,u,c.tn,rfl,g3 _ _ hu,by omega,ft,λw H4 _ g4 hw=>k3 w H4 g4 hw⟩) λv3 ZfQ H3 g3 n3=>?_;refine⟨ZfQ,_,_,_,_,_,g3,n3,λx y t=>?_,rfl⟩;rw[jU,mF,MT,MT,ed]
    grind
   ·have sd:c.k=aY:=by
     by_cases z:c.k=aY;·exact z
     ·cases e:decide (V.str c.k=V.str aY) with
      |true=>exact absurd ((ev _ e).mp rfl) z
      |false=>rw[e] at cc;exact absurd rfl cc
    refine⟨kvs,L,_,_,_,_,g,⟨ne.dict,by have:=ne.len;omega,ne.new,λz hz=>?_,ne.inj⟩,λx y t=>?_,rfl⟩
    ·rcases ne.at_ z hz with w|⟨a,es,w1,w2,w3,w4,w5⟩;·exact .inl w
     ·exact .inr ⟨a,es,w1,w2,w3,by omega,w5⟩
    ·rw[jU,mF,ed];exact⟨.inl,λh=>h.elim id λz=>absurd sd z.1⟩
  ·rintro σ H6 ⟨kvs,L,o1,o2,o3,o4,g,ne,ed,rfl⟩;rw[Ya,al] at ne;rw[Ya,al,Wd] at ed;refine eG _ _ ⟨kvs,L,o1,o2,o3,o4,g,⟨ne.dict,by have:=ne.len;omega,ne.new,λz hz=>?_,ne.inj⟩,ed,rfl⟩;rcases ne.at_ z hz with w|⟨a,es,w1,w2,w3,w4,w5⟩;·exact .inl w
   ·exact .inr ⟨a,es,w1,w2,w3,by omega,w5⟩
 rintro σ H6 ⟨kvs,L,o1,o2,o3,o4,g,ne,ed,rfl⟩;exact⟨_,rfl,q d kvs L H6 g ne ed⟩
end
theorem Qe{t:List Int}{z:Int}(h0:0<=z)(h:z<t.length):dt (t.map V.int) z=some (.int (ap t z)):=mN h0 h
def gN(ps:bo)(g:List (Nat×Int)):List (Key×V):=g.map λp=>(.inr (aq ps p.1),.int p.2)
def oZ(ps:bo)(g:List (Nat×Int)):List V:=g.map λp=>.str (aq ps p.1)
theorem Qf(ps:bo)(g:List (Nat×Int)):(gN ps g).length=g.length:=Ya _
theorem OG(ps:bo)(g:List (Nat×Int)):(oZ ps g).length=g.length:=Ya _
theorem ot(nd:(ps.map (·.1)).Nodup)(hk:k<ps.length):∀{g:List (Nat×Int)},(∀p∈g,p.1<ps.length)->aO (gN ps g) (.inr (aq ps k))=(g.lookup k).map V.int
 |[],_=>rfl
 |p::g,lt=>by
  have e0:gN ps (p::g)=(Sum.inr (aq ps p.1),V.int p.2)::gN ps g:=rfl;rw[e0,Wv];by_cases e:k=p.1
  ·rw[beq_iff_eq.mpr e,fE (p:=((Sum.inr (aq ps p.1):Key),V.int p.2)) (by rw[e])];rfl
  ·rw[beq_eq_false_iff_ne.mpr e,eX (p:=((Sum.inr (aq ps p.1):Key),V.int p.2)) (λz=>e (qY nd hk (lt p Yf) (Wk (show(Sum.inr (aq ps p.1):Key)=Sum.inr (aq ps k) from z)).symm))];exact ot nd hk λq hq=>lt q (Yu _ hq)
theorem ZcC{ps:bo}{g:List (Nat×Int)}{r k:Nat}{v:Int}(h:g[r]?=some (k,v)):dt (oZ ps g) (r:Int)=some (.str (aq ps k)):=fF (by unfold oZ;rw[Yg,h];rfl)
def vF(ps:bo)(d fa fn bp:Addr)(x:Nat)(a:Int)(r:Nat)(o7 o8 o9 qy nF nG eW:Option V):St:=[some (.ref d),some (.ref fa),some (.str (aq ps x)),some (.int a),some (.ref fn),some (.ref bp),some (.int (r:Int)),o7,o8,o9,qy,nF,nG,eW]
def muC(m:Nat):St->Hp->Nat:=λσ _=>match List.getD (α:=Option V) σ 6 none with|some (V.int z)=>m+1-z.toNat|_=>0
inductive QX(H:Hp)(F:List Fc)(L:Nat->List (Nat×List Int))(n:Nat)(ps:bo)(d fa fn bp:Addr)(x:Nat)(a:Int)(σ:St)(H6:Hp):Prop
 |mk (g:List (Nat×Int)) (r:Nat) (o7 o8 o9:Option V) (aC:ai H H6) (aT:H6 fn=some (.dK (gN ps g))) (bc:H6 bp=some (.lst (oZ ps g))) (bK:BF F n ps.length x a g) (cE:r<=g.length) (dI:(∀r',r'<r->Cl L g r')) (gw:σ=vF ps d fa fn bp x a r o7 o8 o9 none none none none):QX H F L n ps d fa fn bp x a σ H6
def ZfR(H:Hp)(F:List Fc)(L:Nat->List (Nat×List Int))(n:Nat)(ps:bo)(d fa fn bp:Addr)(x:Nat)(a:Int)(σ:St)(H6:Hp):Prop:=QX H F L n ps d fa fn bp x a σ H6
inductive QY(H:Hp)(F:List Fc)(L:Nat->List (Nat×List Int))(n:Nat)(ps:bo)(d fa fn bp:Addr)(x:Nat)(a:Int)(σ:St)(H6:Hp):Prop
 |mk (g:List (Nat×Int)) (r:Nat) (o7 o8 o9:Option V) (aC:ai H H6) (aT:H6 fn=some (.dK (gN ps g))) (bc:BF F n ps.length x a g) (bK:(∀r',r'<g.length->Cl L g r')) (cE:σ=vF ps d fa fn bp x a r o7 o8 o9 none none none none):QY H F L n ps d fa fn bp x a σ H6
def ZfS(H:Hp)(F:List Fc)(L:Nat->List (Nat×List Int))(n:Nat)(ps:bo)(d fa fn bp:Addr)(x:Nat)(a:Int)(σ:St)(H6:Hp):Prop:=QY H F L n ps d fa fn bp x a σ H6
inductive RZ(H:Hp)(F:List Fc)(L:Nat->List (Nat×List Int))(n:Nat)(ps:bo)(d fa fn bp:Addr)(x:Nat)(a:Int)(r k:Nat)(v:Int)(g:List (Nat×Int))(al:Addr)(es:List Addr)(j:Nat)(σ:St)(H8:Hp):Prop
 |mk (g' tl:List (Nat×Int)) (o8 o9:Option V) (aC:ai H H8) (aT:H8 al=some (.lst (es.map V.ref))) (bc:H8 fn=some (.dK (gN ps g'))) (bK:H8 bp=some (.lst (oZ ps g'))) (cE:BF F n ps.length x a g') (dI:g'=g++tl) (gw:(∀q∈(L k).take j,g'.lookup q.1=some (ap q.2 v))) (ik:σ=vF ps d fa fn bp x a r (some (.str (aq ps k))) o8 o9 none none none none):RZ H F L n ps d fa fn bp x a r k v g al es j σ H8
def CIn(H:Hp)(F:List Fc)(L:Nat->List (Nat×List Int))(n:Nat)(ps:bo)(d fa fn bp:Addr)(x:Nat)(a:Int)(r k:Nat)(v:Int)(g:List (Nat×Int))(al:Addr)(es:List Addr)(j:Nat)(σ:St)(H8:Hp):Prop:=RZ H F L n ps d fa fn bp x a r k v g al es j σ H8
inductive QZ(H:Hp)(F:List Fc)(L:Nat->List (Nat×List Int))(n:Nat)(ps:bo)(d fa fn bp:Addr)(x:Nat)(a:Int)(r k:Nat)(v:Int)(g:List (Nat×Int))(σ:St)(H8:Hp):Prop
 |mk (g' tl:List (Nat×Int)) (o8 o9:Option V) (aC:ai H H8) (aT:H8 fn=some (.dK (gN ps g'))) (bc:H8 bp=some (.lst (oZ ps g'))) (bK:BF F n ps.length x a g') (cE:g'=g++tl) (dI:(∀q∈L k,g'.lookup q.1=some (ap q.2 v))) (gw:σ=vF ps d fa fn bp x a r (some (.str (aq ps k))) o8 o9 none none none none):QZ H F L n ps d fa fn bp x a r k v g σ H8
def ZfT(H:Hp)(F:List Fc)(L:Nat->List (Nat×List Int))(n:Nat)(ps:bo)(d fa fn bp:Addr)(x:Nat)(a:Int)(r k:Nat)(v:Int)(g:List (Nat×Int))(σ:St)(H8:Hp):Prop:=QZ H F L n ps d fa fn bp x a r k v g σ H8
inductive Q0(H:Hp)(F:List Fc)(n:Nat)(ps:bo)(d fa fn bp:Addr)(x:Nat)(a:Int)(r k y:Nat)(u:Addr)(g':List (Nat×Int))(al:Addr)(es:List Addr)(σ:St)(H9:Hp):Prop
 |mk (qz IZ:List (Nat×Int)) (v':Int) (aC:ai H H9) (aT:H9 al=some (.lst (es.map V.ref))) (bc:H9 fn=some (.dK (gN ps qz))) (bK:H9 bp=some (.lst (oZ ps qz))) (cE:BF F n ps.length x a qz) (dI:qz=g'++IZ) (gw:qz.lookup y=some v') (ik:σ=vF ps d fa fn bp x a r (some (.str (aq ps k))) (some (.str (aq ps y))) (some (.ref u)) none none none none):Q0 H F n ps d fa fn bp x a r k y u g' al es σ H9
def ZfU(H:Hp)(F:List Fc)(n:Nat)(ps:bo)(d fa fn bp:Addr)(x:Nat)(a:Int)(r k y:Nat)(u:Addr)(g':List (Nat×Int))(al:Addr)(es:List Addr)(σ:St)(H9:Hp):Prop:=Q0 H F n ps d fa fn bp x a r k y u g' al es σ H9
def Q4(ps:bo)(F:List Fc)(H6:Hp)(d fa fn bp:Addr)(x:Nat)(a:Int)(r:Nat)(g:List (Nat×Int))(o7 o8 o9:Option V)(σ:St)(H8:Hp):Prop:=H8=H6/\(∀c∈F,c.k=aY->∀u,g.lookup c.one=some u->u=c.aK)/\∃qy nF nG eW:Option V,σ=vF ps d fa fn bp x a r o7 o8 o9 qy nF nG eW
inductive La(vs:List V)(H:Hp)(Q:VK):Prop
 |mk (H0:Hp) (d fa:Addr) (kvs:List (Key×V)) (L:Nat->List (Nat×List Int)) (n:Nat) (ps:bo) (F:List Fc) (x:Nat) (a:Int) (aC:vs=[.ref d,.ref fa,.str (aq ps x),.int a]) (nd:(ps.map (·.1)).Nodup) (aT:iW H0 H ps d 300 kvs L) (bc:(∀x y t,(y,t)∈L x↔eP F x y t)) (bK:FL H ps fa F) (cE:(∀c∈F,dB n ps.length c)) (dI:n<=8) (gw:ps.length<=100) (ik:F.length<=64) (oR:x<ps.length) (u4:(0<=a/\a<(n:Int))) (GN:((¬∃g,gc n F g/\g x=some a)->∀H',ai H H'->Q .ay H')) (RF:∀(p:Addr) (g:List (Nat×Int)) (H':Hp),ai H H'->H' p=some (.dK (gN ps g))->BF F n ps.length x a g->gc n F (λk=>g.lookup k)->Q (.ref p) H'):La vs H Q
def Ey:Sp:=λvs H Q _=>La vs H Q
section
theorem ka:aN ["_law_nets_here","_law_facts","_law_name_here","_law_section","_law_found","_law_row_here","_law_at","_law_here","_law_that","_law_turn_here","_law_number","_law_kind","_law_one","_law_said"] ["_law_nets_here","_law_facts","_law_name_here","_law_section"] (aH CC):=.aU
theorem YZ(F:aJ K "_law_carried" "_law_carried" CC f fd)(bl:Bl mg):aG P w K mg base aM 1 f fd ["_law_nets_here","_law_facts","_law_name_here","_law_section"] Ey:=by
 refine F.o ka λaB A outer s H vs Q E hr h=>?_;obtain⟨H0,d,fa,kvs,L,n,ps,F,x,a,rfl,iE,uQ,ed,iy,fL,n8,Al,sY,hx,ZfV,q1,q2⟩:=h;refine⟨_,(ak (bP 4 ka.nd (zw (jB (pv 2) (pv 3) zu) rfl rfl (λz=>nomatch z) (Jl rfl))) (ak (bP 5 ka.nd (c8 (aa (pv 2) ag))) (ak (bP 6 ka.nd aL) (ak (EG PassesOwn.never (bA mQ (pv 6) (cU K bl (pv 5))) (ak (bP 7 ka.nd (a_ (iL K) (pv 5) (pv 6))) (ak (fH PassesOwn.never rfl (eY (K:=K) rfl (Zay (bu hr) (pv 0) (pv 7) (c8 ag) ⟨rfl,rfl,rfl,rfl⟩)) (hV (K:=K) (n:=2) rfl rfl (bL (bj 8 ka.nd) (bL (bj 9 ka.nd) hU))) (ak (aR (je (kZ (bu hr) (pv 8) (pv 4)) (by with_unfolding_all rfl)) (ak (mE (bu hr) (pv 4) (pv 8) (a_ (iT K) (pv 9) (c_ (bu hr) (pv 4) (pv 7) (λ_ _=>rfl)))) (au (cy (lE (K:=K) rfl (ji plainAttrs_list PySem.F.slot_list_append PySem.F.type_list_append mC (pv 5) (aa (pv 8) ag)))))) aW) (au (aR (bA lH (c_ (bu hr) (pv 4) (pv 8) (λ_ _=>rfl)) (a_ (iT K) (pv 9) (c_ (bu hr) (pv 4) (pv 7) (λ_ _=>rfl)))) (au (aF lC)) aW)))) (au (zG (i:=6) ka.nd rfl (Or.inl rfl) aL FA))))) (ak (fH PassesOwn.never rfl (eY (K:=K) rfl (pv 1)) (hV (K:=K) (n:=4) rfl rfl (bL (bj 10 ka.nd) (bL (bj 11 ka.nd) (bL (bj 12 ka.nd) (bL (bj 13 ka.nd) hU))))) (au (aR (PW.pt (pw_and (bA cq (pv 11) bq) (pw_and (je (zL (bu hr) (pv 12) (pv 4)) (by with_unfolding_all rfl)) (pw_and1 (bA lH (c_ (bu hr) (pv 4) (pv 12) (λ_ _=>rfl)) (pv 13)))))) (au (aF lC)) aW))) (au (aF (pv 4)))))))),?_⟩;refine bW ?_;refine λfn Bp=>⟨_,rfl,_,rfl,aS,[(.inr (aq ps x),.int a)],rfl,(by show 1<=15;omega),?_⟩;obtain⟨H1,qw⟩:∃H1,H1=upd (upd H fn (.dK [])) fn (.dK (oj [] [(.inr (aq ps x),.int a)])):=⟨_,rfl⟩;have g1:ai H H1:=λb o e=>by rw[qw,aQ (bX e Bp),aQ (bX e Bp)];exact e
 have h1:H1 fn=some (.dK (gN ps [(x,a)])):=by rw[qw,aS];rfl
 rw[←qw];refine bW ?_;refine⟨_,rfl,by show 1<=sizeLine;rw[sizeLine_eq];omega,λbp H2 yu g2 I0=>?_⟩;refine setC ?_;have R0:=g1.free yu;have fr_ne:fn≠bp:=λz=>by rw[←z,h1] at yu;cases yu
 have sz:(10000:Nat)<=sizeLine:=by rw[sizeLine_eq];omega
 have hdH:=uQ.dict;obtain⟨as,cP,dR⟩:=id iy;have al:=cI dR;refine fP (ZfS H F L n ps d fa fn bp x a) (λl9 eG=>?_) ?_
 ·refine EH (ZfR H F L n ps d fa fn bp x a) (muC ps.length)
   ⟨[(x,a)],0,none,none,none,g1.trans g2,g2 _ _ h1,I0,bf0 hx ZfV,Yw _,λ_ z=>absurd z (Wm _),rfl⟩ ?_ ?_
  ·rintro σ H6 ⟨g,r,o7,o8,o9,g6,sZ,nH,bf,rl,cl,rfl⟩;have kl:=OG ps g;have gl:=bf.len;refine⟨_,rfl,_,rfl,bp,_,rfl,.inl (aj.of nH),_,_,rfl,rfl,_,rfl,?_⟩;rw[kl];refine bB (λc=>?_) (λc=>?_)
   ·have vG:r<g.length:=by have:=of_decide_eq_true c;omega
    obtain⟨k,v,I_⟩:∃(k:Nat) (v:Int),g[r]?=some (k,v):=⟨g[r].1,g[r].2,Yb vG⟩;have Ug:(k,v)∈g:=Yi I_;have lkv:g.lookup k=some v:=mem_lookup bf.nd Ug;obtain⟨km,v0,vn⟩:=bf.lt _ Ug;have Uh:=g6 _ _ hdH;refine bW ?_;refine⟨_,rfl,_,rfl,bp,_,_,_,rfl,rfl,aj.of nH,ZcC I_,?_⟩;refine fP (ZfT H F L n ps d fa fn bp x a r k v g) (λBc nB=>?_) ?_
    ·refine⟨_,rfl,d,rfl,.inl ⟨_,.inl Uh⟩,_,rfl,by show 0<=sizeLine;exact Yw _,λe0 H7 yv g7 ya=>?_⟩;have fn7:=g7 _ _ sZ;have rw7:=g7 _ _ nH;have nf0:e0≠fn:=λz=>by rw[z,sZ] at yv;cases yv
     have nr0:e0≠bp:=λz=>by rw[z,nH] at yv;cases yv
     obtain⟨al,es,eal,Ui,ZfW,ZfX,Uj⟩:∃(al:Addr) (es:List Addr),(aO kvs (.inr (aq ps k))).getD (.ref e0)=.ref al/\H7 al=some (.lst (es.map V.ref))/\al≠fn/\al≠bp/\Paired (λe (p:Nat×List Int)=>∃u,H e=some (.tup [.str (aq ps p.1),.ref u])/\bQ H u p.2) es (L k):=by
      rcases uQ.at_ k km with⟨z1,z2⟩|⟨a1,es,w1,w2,w3,w4,w5⟩;·exact⟨e0,[],by rw[z1];rfl,ya,nf0,nr0,by rw[z2];exact .nil⟩
      ·exact⟨a1,es,by rw[w1];rfl,g7 _ _ (g6 _ _ w3),bX w3 Bp,bX w3 R0,w5⟩
     have esl:=cI Uj;refine⟨_,cV (g7 _ _ Uh) rfl,al,eal,⟨_,aj.of Ui⟩,jA (K:=K) (a:=al) (xs:=es.map V.ref) (CIn H F L n ps d fa fn bp x a r k v g al es)
      ⟨g,[],o8,o9,g6.trans g7,Ui,fn7,rw7,bf,by rw[Y8],λq hq=>(nomatch hq),rfl⟩ (λj σ H8 _ ⟨_,_,_,_,_,h,_,_,_,_,_,_⟩=>aj.of h) ?_ ?_⟩
     ·rintro j w σ H8 hj ⟨g',tl,p8,p9,g8,GS,ju,jV,nI,eg,iD,rfl⟩;rw[Yg] at hj;obtain⟨e,ee,rfl⟩:∃e,es[j]?=some e/\V.ref e=w:=by
       cases z:es[j]? with
       |none=>rw[z] at hj;cases hj
       |some c=>rw[z] at hj;exact⟨c,rfl,Yq hj⟩
      obtain⟨⟨y,t⟩,Uk,u,he,hu⟩:=fO Uj ee;have GU:eP F k y t:=(ed _ _ _).mp (Yi Uk);obtain⟨_,ym,ft,tl8⟩:=wB fL GU;have JA:g'.lookup k=some v:=by rw[eg];exact yL lkv
      have vb:v<(t.length:Int):=by rw[tl8];exact vn
      have gl8:=nI.len;have he8:H8 e=some (.tup [.str (aq ps y),.ref u]):=g8 _ _ he;have IT:(L k).take (j+1)=(L k).take j++[(y,t)]:=by rw[Y0,Uk];rfl
      refine⟨e,_,rfl,aA.of he8,rfl,_,_,rfl,bb ⟨_,_,rfl,bb ⟨rfl,?_⟩⟩⟩;refine mM (ZfU H F n ps d fa fn bp x a r k y u g' al es) (λnA eS=>?_) ?_
      ·refine⟨_,rfl,_,rfl,fn,_,rfl,cV ju (ot iE ym λp hp=>(nI.lt p hp).1),_,rfl,?_⟩;cases ly:g'.lookup y with
       |none=>
        refine cS ?_;refine⟨_,rfl,_,rfl,_,rfl,fn,.int v,rfl,cV ju (by rw[ot iE km λp hp=>(nI.lt p hp).1,JA];rfl),u,_,_,_,rfl,rfl,aA.of (g8 _ _ hu),Qe v0 vb,_,rfl,_,rfl,fn,_,.inr (aq ps y),rfl,ju,rfl,by rw[Qf];omega,λH9 b9 e9=>?_⟩;have vn0:aO (gN ps g') (.inr (aq ps y))=none:=by rw[ot iE ym λp hp=>(nI.lt p hp).1,ly];rfl
        rw[ke _ vn0] at e9;have s_:=b9 _ _ jV (λz=>fr_ne z.symm);refine⟨_,rfl,.inl ⟨rfl,_,aj.of s_⟩,_,rfl,bp,_,_,rfl,rfl,s_,by rw[OG];omega,λoP yw oU=>?_⟩;refine eS _ _ ⟨g'++[(y,ap t v)],[(y,ap t v)],ap t v,λc o z=>yw _ _ (b9 _ _ (g8 _ _ z) (bX z Bp)) (bX z R0),yw _ _ (b9 _ _ GS ZfW) ZfX,?_,?_,nI.add fL GU JA ly,rfl,K3 ly,rfl⟩;·rw[yw _ _ e9 fr_ne,gN,gN,Yn];rfl
        ·rw[oU,oZ,oZ,Yn];rfl
       |some v'=>
        refine bY (aV ?_);exact eS _ _ ⟨g',[],v',g8,GS,ju,jV,nI,by rw[Y8],ly,rfl⟩
      ·rintro σ H9 ⟨qz,IZ,v',g9,ZfY,nC,s_,Bq,JB,lv,rfl⟩;have Ul:qz.lookup k=some v:=by rw[JB];exact yL JA
       refine⟨_,rfl,_,rfl,fn,.int v',rfl,cV nC (by rw[ot iE ym λp hp=>(Bq.lt p hp).1,lv];rfl),_,rfl,_,rfl,_,rfl,fn,.int v,rfl,cV nC (by rw[ot iE km λp hp=>(Bq.lt p hp).1,Ul];rfl),u,_,_,_,rfl,rfl,aA.of (g9 _ _ hu),Qe v0 vb,rfl,_,rfl,?_⟩;refine bB (λc=>?_) (λc=>aV ?_)
       ·refine q1 (Bq.ZeI GU Ul lv λz=>?_) H9 g9;rw[z] at c;simp at c
       ·have ev:v'=ap t v:=by
         by_cases z:v'=ap t v;·exact z
         ·exact absurd (by simp[z]) c
        refine⟨qz,tl++IZ,_,_,g9,ZfY,nC,s_,Bq,by rw[JB,eg,Jp],λq hq=>?_,rfl⟩;rw[IT] at hq;rcases Yt.mp hq with hq|hq;·rw[JB];exact yL (iD q hq)
        ·rw[Ym] at hq;rw[hq,lv,ev]
     ·rintro σ H8 ⟨g',tl,p8,p9,g8,GS,ju,jV,nI,eg,iD,rfl⟩;rw[Ya,esl,Wd] at iD;exact nB _ _ ⟨g',tl,p8,p9,g8,ju,jV,nI,eg,iD,rfl⟩
    ·rintro σ H8 ⟨g',tl,p8,p9,g8,ju,jV,nI,eg,iD,rfl⟩;have rr:r<(g++tl).length:=by rw[Yk];omega
     have ge:(g++tl)[r]?=some (k,v):=by rw[Wi vG];exact I_
     have kO:((r:Int)+1)=((r+1:Nat):Int):=by omega
     refine⟨_,rfl,_,_,rfl,rfl,?_⟩;refine⟨⟨g',r+1,some (.str (aq ps k)),p8,p9,g8,ju,jV,nI,by rw[eg];exact rr,λr' h'=>?_,rfl⟩,?_⟩
     ·rw[eg];by_cases z:r'=r
      ·subst z;intro p hp qq hq;rw[ge] at hp;cases hp;rw[←eg];exact iD qq hq
      ·exact(cl r' (by omega)).app (by omega)
     ·show ps.length+1-((r:Int)+1).toNat<ps.length+1-((r:Int)).toNat;omega
   ·have re:¬((r:Int)<(g.length:Int)):=λz=>c (decide_eq_true z);exact eG _ _ ⟨g,r,o7,o8,o9,g6,sZ,bf,λr' h'=>cl r' (by omega),rfl⟩
  ·rintro σ H6 Q1 Q2 mo ⟨v1,w1,v2,w2,v3,v4,w3,w4,v5,v6,w5,w6,v7,w7,h⟩;exact⟨v1,w1,v2,w2,v3,v4,w3,w4,v5,v6,w5,w6,v7,w7,mo _ _ h⟩
 rintro σ H6 ⟨g,r,o7,o8,o9,g6,sZ,bf,cl,rfl⟩;refine fP (Q4 ps F H6 d fa fn bp x a r g o7 o8 o9) (λl9 eG=>?_) ?_
 ·refine⟨_,rfl,fa,rfl,⟨_,aj.of (g6 _ _ cP)⟩,jA (K:=K) (a:=fa) (xs:=as.map V.ref) (λj=>Q4 ps (F.take j) H6 d fa fn bp x a r g o7 o8 o9)
   ⟨rfl,λc hc=>(nomatch hc),none,none,none,none,rfl⟩ (λj σ H8 _ ⟨e,_⟩=>by rw[e];exact aj.of (g6 _ _ cP)) ?_ ?_⟩
  ·rintro j v σ H8 hj ⟨rfl,sd,qy,nF,nG,eW,rfl⟩;rw[Yg] at hj;obtain⟨c0,ec,rfl⟩:∃c0,as[j]?=some c0/\V.ref c0=v:=by
    cases e:as[j]? with
    |none=>rw[e] at hj;cases hj
    |some c=>rw[e] at hj;exact⟨c,rfl,Yq hj⟩
   obtain⟨c,iz,z,hc⟩:=fO dR ec;have mc:=Yi iz;have jU:F.take (j+1)=F.take j++[c]:=by rw[Y0,iz];rfl
   refine⟨c0,_,rfl,aA.of (g6 _ _ hc),rfl,_,_,rfl,bb ⟨_,_,rfl,bb ⟨_,_,rfl,bb ⟨_,_,rfl,bb ⟨rfl,?_⟩⟩⟩⟩⟩;have ev:∀b:Bool,decide (V.str c.k=V.str aY)=b->(b=true↔c.k=aY):=λb e=>by
    rw[←e,decide_eq_true_iff];exact⟨V.str.inj,λz=>by rw[z]⟩
   have vH:(c.k=aY->∀u,g.lookup c.one=some u->u=c.aK)->∃qy nF nG eW:Option V,(H8=H8/\∀c∈F.take (j+1),c.k=aY->∀u,g.lookup c.one=some u->u=c.aK)/\True:=λh=>⟨none,none,none,none,⟨rfl,λc' m'=>by
    rw[jU] at m';rcases Yt.mp m' with m'|m';·exact sd c' m'
    ·rw[Ym] at m';rw[m'];exact h⟩,trivial⟩
   refine⟨_,rfl,rfl,_,rfl,bB (λcc=>?_) (λcc=>?_)⟩
   ·have sk:=(ev _ rfl).mp cc;have eo:kV (bg ps c)=.int c.aK:=by rw[jz sk];rfl
    refine⟨_,rfl,_,rfl,fn,_,rfl,cV sZ (ot iE (fL c mc).one λp hp=>(bf.lt p hp).1),_,rfl,?_⟩;cases lk:g.lookup c.one with
    |none=>
     refine bY (bY (aV ?_));obtain⟨_,_,_,_,⟨_,h⟩,_⟩:=vH λ_ u e=>by rw[lk] at e;cases e
     exact⟨rfl,h,_,_,_,_,rfl⟩
    |some u=>
     refine cS ?_;refine⟨_,rfl,_,rfl,fn,.int u,rfl,cV sZ (by rw[ot iE (fL c mc).one λp hp=>(bf.lt p hp).1,lk];rfl),_,rfl,by rw[eo];rfl,_,rfl,bB (λc2=>?_) (λc2=>aV ?_)⟩
     ·refine q1 (bf.ZdZ mc sk lk λz=>?_) H8 g6;rw[z,eo] at c2;simp at c2
     ·have eu:u=c.aK:=by
       by_cases z:u=c.aK;·exact z
       ·exact absurd (by rw[eo];simp[z]) c2
      obtain⟨_,_,_,_,⟨_,h⟩,_⟩:=vH λ_ u' e=>by rw[lk] at e;rw[←Yq e];exact eu
      exact⟨rfl,h,_,_,_,_,rfl⟩
   ·refine bY (aV ?_);obtain⟨_,_,_,_,⟨_,h⟩,_⟩:=vH λz=>absurd ((ev _ rfl).mpr z) cc;exact⟨rfl,h,_,_,_,_,rfl⟩
  ·rintro σ H8 ⟨rfl,sd,qy,nF,nG,eW,rfl⟩;rw[Ya,al,Wd] at sd;exact eG _ _ ⟨rfl,sd,qy,nF,nG,eW,rfl⟩
 rintro σ H8 ⟨rfl,sd,qy,nF,nG,eW,rfl⟩;exact⟨_,rfl,q2 fn g H8 g6 sZ bf (bf.done ed cl sd)⟩
end
inductive OH(vs:List V)(H:Hp)(Q:VK):Prop
 |mk (fa td:Addr) (ps:bo) (xs ys:List Int) (F:List Fc) (x:Nat) (aC:vs=[.ref fa,.ref td,.str (aq ps x)]) (aT:FL H ps fa F) (ht:eK H td xs ys) (nd:(ps.map (·.1)).Nodup) (bc:∀c∈F,dN xs ys ps.length c) (bK:xs.length<=8) (cE:ps.length<=100) (dI:F.length<=64) (gw:x<ps.length) (ik:∀(p:Addr) (H':Hp),H p=none->ai H H'->H' p=some (.lst ((cA F xs.length x).map V.int))->Q (.ref p) H'):OH vs H Q
def F3:Sp:=λvs H Q _=>OH vs H Q
inductive Ni(vs:List V)(H:Hp)(Q:VK):Prop
 |mk (a b:Addr) (xs ys:List Int) (aC:vs=[.ref a,.ref b]) (aT:bQ H a xs) (bc:bQ H b ys) (bK:mS xs ys) (cE:∀(p:Addr) (H':Hp),H p=none->ai H H'->eK H' p xs ys->Q (.ref p) H'):Ni vs H Q
def OI:Sp:=λvs H Q _=>Ni vs H Q
section
theorem Ks:aN ["_law_facts","_law_turns_here","_law_name_here","_law_nets_here"] ["_law_facts","_law_turns_here","_law_name_here"] (aH DT):=.aU
open Classical in
theorem ZcD(F:aJ K "_law_room" "_law_room" DT f fd)(t4:HasFn P w K mg base 2 "_law_nets" ["_law_facts","_law_turns_here"] F2)(tN:HasFn P w K mg base 1 "_law_carried" ["_law_nets_here","_law_facts","_law_name_here","_law_section"] Ey)(bl:Bl mg):aG P w K mg base aM 3 f fd ["_law_facts","_law_turns_here","_law_name_here"] F3:=by
 refine F.o Ks λaB A outer s H vs Q E hr h=>?_;obtain⟨fa,td,ps,xs,ys,F,x,rfl,iy,ht,iE,fg,n8,Al,sY,hx,q⟩:=h;refine⟨_,(ak (f_ (i:=3) Ks.nd rfl (Or.inr rfl) (aP t4 hr (aa (pv 0) (aa (pv 1) ag)))) (au (aF (iM (x:="_law_at") (fr:=[("_law_nets_here",3),("_law_name_here",2),("_law_facts",0)]) (cl:=[("_law_nets_here",s.heap.objs.size+1+1+1),("_law_name_here",s.heap.objs.size+1+1),("_law_facts",s.heap.objs.size+1)]) rfl (.fW ⟨rfl,⟨rfl,⟨rfl,trivial⟩⟩⟩ ⟨⟨rfl,.inl rfl,.inl rfl,rfl⟩,⟨⟨rfl,.inl rfl,.inl rfl,rfl⟩,⟨⟨rfl,.inl rfl,.inl rfl,rfl⟩,trivial⟩⟩⟩) (nS rfl bl.jb (aa (cU K bl (c_ (bu hr) (pv 1) bq (λ_ _=>rfl))) ag)) (λ_ _ _ _=>uj (bA zm (zW tN hr (by omega) rfl (aa (pv 1) (aa (pv 3) (aa (pv 2) (aa (pv 0) ag))))) lC)) (λ_ _ _ _=>(pv 0)))))),?_⟩;refine bW ?_;refine⟨_,rfl,_,rfl,fa,td,ps,xs,ys,F,rfl,iy,ht,iE,fg,n8,sY,λd kvs L H1 g1 uQ ed=>?_⟩;obtain⟨_,_,_,u0,dw,_,_,_,vI⟩:=id ht;obtain⟨n,en⟩:∃n,n=xs.length:=⟨_,rfl⟩;have fL:∀c∈F,dB n ps.length c:=λc hc=>by rw[en];exact(fg c hc).ok
 rw[←en] at vI n8 q;have ul:((bh n).map V.int).length=n:=by rw[Ya,eM]
 refine⟨_,rfl,td,.ref u0,rfl,cV (g1 _ _ dw) rfl,u0,_,rfl,.inr (aA.of (g1 _ _ vI)),?_⟩;rw[ul];refine⟨(n:Int),rfl,by omega,by omega,λD hD=>?_⟩;refine Xo (lo:=0) (by omega) hD (λi=>decide (∃g,gc n F g/\g x=some (i:Int))) (λi=>V.int (i:Int)) (λi hi H2 g2 _ Kt Kf kt kf=>?_) λH2 g2 h2=>?_
 ·rw[J3];have qm:(i:Nat)<n:=by omega
  refine⟨_,rfl,_,rfl,_,rfl,_,rfl,H,d,fa,kvs,L,n,ps,F,x,(i:Int),rfl,iE,uQ.same g2,ed,(iy.same g1).same g2,fL,n8,Al,sY,hx,⟨by omega,by omega⟩,λno H3 g3=>?_,λp gg H3 g3 To bf cl=>?_⟩
  ·refine⟨rfl,_,rfl,?_⟩;rw[decide_eq_true (show V.ay=V.ay from rfl)];exact bY (kf H3 (decide_eq_false no) g3)
  ·refine⟨rfl,_,rfl,?_⟩;rw[decide_eq_false (show ¬V.ref p=V.ay from λz=>nomatch z)];exact cS ⟨_,rfl,kt _ H3 (decide_eq_true ⟨_,cl,bf.hd⟩) g3 rfl⟩
 ·refine q D H2 (g1.free hD) (g1.trans g2) ?_;rw[h2,Y5];have e:cA F n x=((List.range n).filter λi:Nat=>decide (∃g,gc n F g/\g x=some (i:Int))).map λi:Nat=>(i:Int):=by
   unfold cA bh;rw[Jm];rfl
  rw[e,Wa];rfl
theorem C5:aN ["_law_mother","_law_wife","_law_father","_law_alone"] ["_law_mother","_law_wife"] (aH Di):=.aU
theorem Zbi(F:aJ K "_law_turns" "_law_turns" Di f fd)(qG:HasFn P w K mg base 1 "_law_inverse" ["_law_turn_here"] Gq)(DD:HasFn P w K mg base 1 "_law_after" ["_law_first","_law_then"] (QW K))(bl:Bl mg):aG P w K mg base aM 2 f fd ["_law_mother","_law_wife"] OI:=by
 refine F.o C5 λaB A outer s H vs Q E hr h=>?_;obtain⟨a,b,xs,ys,rfl,ha,hb,gl,q⟩:=h;obtain⟨fx,fy,le,l2,l8⟩:=id gl;refine⟨_,(ak (bP 2 C5.nd (aP DD hr (aa (pv 1) (aa (pv 0) ag)))) (ak (bP 3 C5.nd (d_ (Vf rfl) rfl bl.mH mD (aa (d_ CS rfl bl.jb uf (aa (cU K bl (pv 0)) ag)) ag))) (au (aF (zw (jB bq (aP qG hr (aa (pv 0) ag)) (jB bq (aP qG hr (aa (pv 2) ag)) (jB bq (pv 1) (jB bq (pv 3) zu)))) rfl rfl (λz=>nomatch z) (Jl rfl)))))),?_⟩;refine bW ?_;have lv:∀x∈ys,0<=x/\x<(xs.length:Int):=λx hx=>by rw[le];exact pO fy hx
 refine⟨_,rfl,_,rfl,b,a,ys,xs,rfl,aA.of hb,aA.of ha,lv,by omega,λl H1 nl g1 hl=>?_⟩;refine bW ?_;have el:(xs.map V.int).length=xs.length:=Ya _;refine⟨_,rfl,a,_,rfl,.inr (aA.of (g1 _ _ ha)),_,rfl,λrg H2 nrg g2 hrg=>⟨rg,xs.length,rfl,by rw[hrg,el],by omega,λst H3 AV g3 eB=>?_⟩⟩;have c7:=g2.trans g3;intro d nd;have g4:=cj nd (.dK []);have JC:upd H3 d (.dK []) d=some (.dK []):=aS;generalize upd H3 d (.dK [])=H4 at g4 JC⊢;have Um:=c7.trans g4;have qA:=g1.trans Um;refine⟨_,rfl,a,xs,rfl,qA _ _ ha,by omega,fx,λim H5 nim g5 Im=>?_⟩;refine⟨_,rfl,l,bF xs ys,rfl,g5 _ _ (Um _ _ hl),by rw[qK];omega,ET fx fy (by omega),λjf H6 njf g6 Io=>?_⟩;have yx:=g5.trans g6;refine⟨_,rfl,_,rfl,yx _ _ JC,[(.inr "mother",.ref im),(.inr "father",.ref jf),(.inr "wed",.ref b),(.inr "sibling",.ref st)],rfl,by show 4<=15;decide,?_⟩;have b7:aw d H6 (upd H6 d (.dK (uy im jf b st))):=aw.put (aw.of (ai.refl _));have Uo:upd H6 d (.dK (uy im jf b st)) d=some (.dK (uy im jf b st)):=aS;have em:oj [] [((.inr "mother":Key),V.ref im),(.inr "father",.ref jf),(.inr "wed",.ref b),(.inr "sibling",.ref st)]=uy im jf b st:=rfl;rw[em];generalize upd H6 d (.dK (uy im jf b st))=H7 at b7 Uo⊢;have tne:∀{c:Addr} {zs:List Int},bQ H6 c zs->c≠d:=λh1 z=>by rw[bQ,z,yx _ _ JC] at h1;cases h1
 have k7:∀{c:Addr} {zs:List Int},bQ H6 c zs->bQ H7 c zs:=λh=>b7 _ _ h (tne h);refine q d H7 (g1.free (c7.free nd)) (λc o e=>b7 _ _ (yx _ _ (qA _ _ e)) (bX e (g1.free (c7.free nd)))) ⟨im,jf,b,st,Uo,k7 (g6 _ _ Im),k7 Io,k7 (yx _ _ (qA _ _ hb)),k7 (yx _ _ (g4 _ _ eB))⟩
end
theorem FL.get(h:FL H ps fa F):∃as:List Addr,H fa=some (.lst (as.map V.ref))/\as.length=F.length/\∀(H':Hp) (j:Nat) (v:V),ai H H'->(as.map V.ref)[j]?=some v->∃(c0:Addr) (c:Fc) (z:Int),v=.ref c0/\F[j]?=some c/\F.take (j+1)=F.take j++[c]/\H' c0=some (.tup [.int z,.str c.k,.str (aq ps c.one),kV (bg ps c)]):=by
 obtain⟨as,cP,dR⟩:=h;refine⟨as,cP,cI dR,λH' j v g hj=>?_⟩;rw[Yg] at hj;obtain⟨c0,ec,rfl⟩:∃c0,as[j]?=some c0/\V.ref c0=v:=by
  cases e:as[j]? with
  |none=>grind
  |some c=>grind
 obtain⟨c,iz,z,hc⟩:=fO dR ec;exact⟨c0,c,z,rfl,iz,by rw[Y0,iz];rfl,g _ _ hc⟩
def lT(ps:bo)(k a:Str)(o:V)(c:Fc):Bool:=decide (c.k=k)&&((decide (aq ps c.one=a)&&(decide (kV (bg ps c)=o)||cG k))||(decide (k="sibling")&&(decide (kV (bg ps c)=.str a)&&decide (V.str (aq ps c.one)=o))))
def oz(ps:bo)(F:List Fc)(k a:Str)(o:V):Bool:=F.any (lT ps k a o)||(decide (k="sibling")&&decide (V.str a=o))
def Bt(t:TT)(σ:St)(H:Hp)(b:Bool):Prop:=∀k:Bool->Hp->Prop,(∀H',ai H H'->k b H')->t σ H k
def Vt(t:TE)(σ:St)(H:Hp)(v:V):Prop:=∀k:VK,(∀H',ai H H'->k v H')->t σ H k
section
variable {t u:TT}{e1 e2:TE}{σ:St}{H:Hp}{a b:Bool}{x y:V}
theorem Bt.and(h1:Bt t σ H a)(h2:∀H',a=true->ai H H'->Bt u σ H' b):Bt (Rg t u) σ H (a&&b):=λk hk=>h1 _ λH1 g1=>by
 cases a with
 |true=>exact cS (h2 H1 rfl g1 _ λH2 g2=>hk H2 (g1.trans g2))
 |false=>grind
theorem Bt.or(h1:Bt t σ H a)(h2:∀H',a=false->ai H H'->Bt u σ H' b):Bt (Sg t u) σ H (a||b):=λk hk=>h1 _ λH1 g1=>by
 cases a with
 |true=>grind
 |false=>exact bY (h2 H1 rfl g1 _ λH2 g2=>hk H2 (g1.trans g2))
theorem Vt.var(h:σ[i]?=some (some x)):Vt (gq i) σ H x:=λ_ hk=>⟨x,h,hk H (ai.refl _)⟩
theorem Vt.c:Vt (tC x) σ H x:=λ_ hk=>hk H (ai.refl _)
theorem Vt.test(h:Vt e1 σ H (.bl b)):Bt (F7 e1) σ H b:=λk hk=>h _ λH1 g1=>⟨b,rfl,hk H1 g1⟩
theorem Vt.eq(h1:Vt e1 σ H x)(h2:∀H',ai H H'->Vt e2 σ H' y)(sc:xk x y=true):Vt (iY Sj e1 e2) σ H (.bl (decide (x=y))):=λk hk=>h1 _ λH1 g1=>h2 H1 g1 _ λH2 g2=>⟨sc,hk H2 (g1.trans g2)⟩
theorem Vt.ne(h1:Vt e1 σ H x)(h2:∀H',ai H H'->Vt e2 σ H' y)(sc:xk x y=true):Vt (iY Sk e1 e2) σ H (.bl (!decide (x=y))):=λk hk=>h1 _ λH1 g1=>h2 H1 g1 _ λH2 g2=>⟨sc,hk H2 (g1.trans g2)⟩
theorem Vt.R1(h1:Vt e1 σ H (.bl a))(h2:∀H',a=true->ai H H'->Vt e2 σ H' (.bl b)):Vt (Qv e1 e2) σ H (.bl (a&&b)):=λk hk=>h1 _ λH1 g1=>⟨a,rfl,by
 cases a with
 |true=>exact cS (h2 H1 rfl g1 _ λH2 g2=>hk H2 (g1.trans g2))
 |false=>exact bY (hk H1 g1)⟩
theorem Vt.orV(h1:Vt e1 σ H (.bl a))(h2:∀H',a=false->ai H H'->Vt e2 σ H' (.bl b)):Vt (Rh e1 e2) σ H (.bl (a||b)):=λk hk=>h1 _ λH1 g1=>⟨a,rfl,by
 cases a with
 |true=>grind
 |false=>exact bY (h2 H1 rfl g1 _ λH2 g2=>hk H2 (g1.trans g2))⟩
theorem Vt.Gr(h1:Vt e1 σ H (.str k)):Vt (iY (xF K false) e1 (w8 (gf (tC (V.str "mother")) (gf (tC (V.str "father")) iU)))) σ H (.bl (cG k)):=λq hk=>h1 _ λH1 g1=>by
 refine⟨by show 2<=sizeLine;rw[sizeLine_eq];omega,λp H2 np g2 hp=>⟨p,_,rfl,.inr (aA.of hp),rfl,rfl,?_⟩⟩;have e:eZ (V.str k) [V.str "mother",V.str "father"]=cG k:=by
  rw[Wc];unfold eZ cG;rw[Jn,Jn,List.any_nil,Bool.or_false,JD,JD,decide_eq_true_iff,decide_eq_true_iff];show((("mother":Str)==k)=true\/(("father":Str)==k)=true)↔_
  grind
 rw[e];exact hk H2 (g1.trans g2)
end
def Flat(o:V):Prop:=(∃z,o=.int z)\/∃z,o=.str z
theorem zE(k:Key):Flat (kV k):=by
 cases k with
 |inl z=>exact .inl ⟨z,rfl⟩
 |inr z=>exact .inr ⟨z,rfl⟩
theorem y6(h1:Flat u)(h2:Flat v):xk u v=true:=by
 rcases h1 with⟨_,rfl⟩|⟨_,rfl⟩<;>rcases h2 with⟨_,rfl⟩|⟨_,rfl⟩<;>rfl
inductive Nj(vs:List V)(H:Hp)(Q:VK):Prop
 |mk (fa:Addr) (ps:bo) (F:List Fc) (k a:Str) (o:V) (aC:vs=[.ref fa,.str k,.str a,o]) (aT:FL H ps fa F) (fo:Flat o) (q:∀H',ai H H'->Q (.bl (oz ps F k a o)) H'):Nj vs H Q
def OJ:Sp:=λvs H Q _=>Nj vs H Q
inductive Nk(vs:List V)(H:Hp)(Q:VK):Prop
 |mk (sd:Addr) (ps:bo) (k:Str) (i j:Nat) (aC:vs=[.ref sd,.str k,.str (aq ps i),.str (aq ps j)]) (hs:H sd=some (.dK (fX ps))) (nd:(ps.map (·.1)).Nodup) (hi:i<ps.length) (hj:j<ps.length) (hk:k="mother"\/k="father"\/k="wed"\/k="sibling") (q:∀H',ai H H'->Q (.bl (kq k (fk ps i) (fk ps j))) H'):Nk vs H Q
def OK:Sp:=λvs H Q _=>Nk vs H Q
theorem Nl(ok:cg xs ys b):y∈fR b a↔∃c∈b.F,cG c.k=true/\aq b.ps c.one=a/\kV (bg b.ps c)=.str y:=by
 constructor
 ·intro h;obtain⟨v,hv,rfl⟩:=Ye.mp (show y∈(oq b a).map strOf from h);unfold oq at hv;obtain⟨k,_,e⟩:=Ji.mp hv;obtain⟨p,hp,h1,h2,h3,rfl,h5⟩:=Ow ok e;have ns:p.2.k≠aY:=λz=>by
   rw[z] at h1;exact absurd h1 (by decide+kernel)
  exact⟨p.2,Ye.mpr ⟨p,hp,rfl⟩,h1,h3,by rw[hJ ns];rfl⟩
 ·rintro⟨c,hc,h1,rfl,h3⟩;obtain⟨p,hp,rfl⟩:=Ye.mp (show c∈b.fs.map (·.2) from hc);have mm:(([.inr p.2.k,.inr (aq b.ps p.2.one)]:List Key),kV (bg b.ps p.2))∈cv b.ps b.fs:=Ye.mpr ⟨p,Yy.mpr ⟨hp,h1⟩,rfl⟩;have e:=Og ok.pr mm;refine Ye.mpr ⟨.str y,?_,rfl⟩;unfold oq;refine Ji.mpr ⟨p.2.k,?_,by rw[e,h3]⟩;unfold cG at h1;rw[JD,decide_eq_true_iff,decide_eq_true_iff] at h1;rcases h1 with z|z<;>rw[z];·exact Yf
  ·exact Yu _ Yf
structure vJ(b:BS)(a:Str)(ks:List Str):Prop where
 nd:ks.Nodup
 sd:∀k∈ks,fN b a k
 ma:a∈ks
theorem vJ.len(u:vJ b a ks)(ok:cg xs ys b)(ma:a∈b.ps.map (·.1)):ks.length<=b.ps.length:=by
 have:=u.nd.length_le_of_subset (l₂:=b.ps.map (·.1)) λk hk=>zh ok ma (u.sd k hk)
 grind
theorem vJ.all(u:vJ b a ks)(cl:∀r,r<ks.length->∀k,ks[r]?=some k->∀p∈fR b k,p∈ks)(z:Str):z∈ks↔fN b a z:=by
 refine⟨u.sd z,λh=>?_⟩;induction h with
 |refl=>exact u.ma
 |step _ hy ih=>
  obtain⟨r,hr,er⟩:=Wu.mp ih;exact cl r hr _ (by rw[Yb hr,er]) _ hy
inductive Q5(vs:List V)(H:Hp)(Q:VK):Prop
 |mk (fa:Addr) (xs ys:List Int) (b:BS) (a:Str) (aC:vs=[.ref fa,.str a]) (aT:FL H b.ps fa b.F) (ok:cg xs ys b) (ma:a∈b.ps.map (·.1)) (q:∀(p:Addr) (ks:List Str) (H':Hp),ai H H'->H' p=some (.lst (ks.map V.str))->(∀z,z∈ks↔fN b a z)->Q (.ref p) H'):Q5 vs H Q
def R3:Sp:=λvs H Q _=>Q5 vs H Q
def muU(m:Nat):St->Hp->Nat:=λσ _=>match List.getD (α:=Option V) σ 3 none with|some (V.int z)=>m+1-z.toNat|_=>0
inductive Up(H:Hp)(b:BS)(a:Str)(fa bp:Addr)(σ:St)(H6:Hp):Prop
 |mk (ks:List Str) (r:Nat) (o4 o5 o6 o7:Option V) (g:ai H H6) (hr:H6 bp=some (.lst (ks.map V.str))) (up:vJ b a ks) (rl:r<=ks.length) (cl:∀r',r'<r->∀k,ks[r']?=some k->∀p∈fR b k,p∈ks) (e:σ=[some (.ref fa),some (.str a),some (.ref bp),some (.int (r:Int)),o4,o5,o6,o7]):Up H b a fa bp σ H6
inductive JE(H:Hp)(b:BS)(a:Str)(fa bp:Addr)(r:Nat)(qv:List Str)(k:Str)(j:Nat)(σ:St)(H6:Hp):Prop
 |mk (ks tl:List Str) (o4 o5 o6 o7:Option V) (g:ai H H6) (hr:H6 bp=some (.lst (ks.map V.str))) (up:vJ b a ks) (ek:ks=qv++tl) (cl:∀c∈b.F.take j,cG c.k=true->aq b.ps c.one=k->∀y,kV (bg b.ps c)=.str y->y∈ks) (e:σ=[some (.ref fa),some (.str a),some (.ref bp),some (.int (r:Int)),o4,o5,o6,o7]):JE H b a fa bp r qv k j σ H6
theorem Y_(h:Flat o):iO o=true:=by
 rcases h with⟨_,rfl⟩|⟨_,rfl⟩<;>rfl
theorem L8(ks:List Str):(ks.map V.str).all iO=true:=by
 rw[Wr];intro v hv;obtain⟨k,_,rfl⟩:=Ye.mp hv;rfl
theorem GV(y:Str)(ks:List Str):eZ (.str y) (ks.map V.str)=true↔y∈ks:=by
 unfold eZ;rw[J5];constructor
 ·rintro⟨v,hv,e⟩;obtain⟨k,hk,rfl⟩:=Ye.mp hv;have:(k==y)=true:=e
  grind
 ·intro h;exact⟨.str y,Ye.mpr ⟨y,h,rfl⟩,by show(y==y)=true;rw[beq_iff_eq]⟩
section
theorem vX:aN ["_law_facts","_law_kind","_law_one","_law_other","_law_number","_law_had","_law_here","_law_there"] ["_law_facts","_law_kind","_law_one","_law_other"] (aH DV):=.aU
theorem XD(F:aJ K "_law_told" "_law_told" DV f fd):aG P w K mg base aM 1 f fd ["_law_facts","_law_kind","_law_one","_law_other"] OJ:=by
 refine F.o vX λaB A outer s H vs Q E hr h=>?_;obtain⟨fa,ps,F,k,a,o,rfl,iy,fo,q⟩:=h;refine⟨_,(ak (fH PassesOwn.never rfl (eY (K:=K) rfl (pv 0)) (hV (K:=K) (n:=4) rfl rfl (bL (bj 4 vX.nd) (bL (bj 5 vX.nd) (bL (bj 6 vX.nd) (bL (bj 7 vX.nd) hU))))) (ak (aR (PW.pt (pw_and (bA cq (pv 5) (pv 1)) (pw_and (bA cq (pv 6) (pv 2)) (pw_and1 (PW.pt (pw_or (bA cq (pv 7) (pv 3)) (pw_or1 (gT (lW (K:=K) rfl) (pv 1) (dz (aa bq (aa bq ag))) (by with_unfolding_all rfl))))))))) (au (aF jh)) aW) (au (aR (PW.pt (pw_and (bA cq (pv 5) (pv 1)) (pw_and (bA cq (pv 1) bq) (pw_and (bA cq (pv 7) (pv 2)) (pw_and1 (bA cq (pv 6) (pv 3))))))) (au (aF jh)) aW)))) (au (aF (oh (eC cq (pv 1) bq) (lD (eC cq (pv 2) (pv 3))))))),?_⟩;obtain⟨as,cP,al,gt⟩:=iy.get;refine fP (λσ H6=>ai H H6/\F.any (lT ps k a o)=false/\∃o4 o5 o6 o7:Option V,σ=[some (.ref fa),some (.str k),some (.str a),some o,o4,o5,o6,o7]) (λl9 eG=>?_) ?_
 ·refine⟨_,rfl,fa,rfl,⟨_,aj.of cP⟩,jA (K:=K) (a:=fa) (xs:=as.map V.ref) (λj σ H6=>ai H H6/\(F.take j).any (lT ps k a o)=false/\∃o4 o5 o6 o7:Option V,σ=[some (.ref fa),some (.str k),some (.str a),some o,o4,o5,o6,o7])
   ⟨ai.refl _,rfl,none,none,none,none,rfl⟩ (λj σ H6 _ ⟨g,_⟩=>aj.of (g _ _ cP)) ?_ ?_⟩
  ·rintro j v σ H6 hj ⟨g,no,o4,o5,o6,o7,rfl⟩;obtain⟨c0,c,z,rfl,iz,jU,hc⟩:=gt H6 j v g hj;have hit:lT ps k a o c=true->oz ps F k a o=true:=λh=>by
    unfold oz;rw[J5.mpr ⟨c,Yi iz,h⟩];rfl
   refine⟨c0,_,rfl,aA.of hc,rfl,_,_,rfl,bb ⟨_,_,rfl,bb ⟨_,_,rfl,bb ⟨_,_,rfl,bb ⟨rfl,?_⟩⟩⟩⟩⟩;refine mM (λσ H7=>ai H H7/\(decide (c.k=k)&&(decide (aq ps c.one=a)&&(decide (kV (bg ps c)=o)||cG k)))=false/\σ=[some (.ref fa),some (.str k),some (.str a),some o,some (.int z),some (.str c.k),some (.str (aq ps c.one)),some (kV (bg ps c))]) (λnA eS=>?_) ?_
   ·refine(Bt.and (Vt.test (Vt.eq (x:=.str c.k) (y:=.str k) (Vt.var rfl) (λ_ _=>Vt.var rfl) rfl)) λ_ _ _=>Bt.and (Vt.test (Vt.eq (x:=.str (aq ps c.one)) (y:=.str a) (Vt.var rfl) (λ_ _=>Vt.var rfl) rfl)) λ_ _ _=>Bt.or (Vt.test (Vt.eq (x:=kV (bg ps c)) (y:=o) (Vt.var rfl) (λ_ _=>Vt.var rfl) (y6 (zE _) fo))) λ_ _ _=>Vt.test (Vt.Gr (k:=k) (Vt.var rfl))) _ λH7 g7=>?_;rw[dP,dP];refine bB (λcc=>?_) (λcc=>?_)
    ·have:=hit (by unfold lT;rw[Wn] at cc⊢;exact⟨cc.1,by rw[cc.2];rfl⟩);rw[this] at q;exact q H7 (g.trans g7)
    ·exact aV (eS _ _ ⟨g.trans g7,J0.mpr cc,rfl⟩)
   ·rintro σ H7 ⟨g7,no1,rfl⟩;refine(Bt.and (Vt.test (Vt.eq (x:=.str c.k) (y:=.str k) (Vt.var rfl) (λ_ _=>Vt.var rfl) rfl)) λ_ _ _=>Bt.and (Vt.test (Vt.eq (x:=.str k) (y:=.str "sibling") (Vt.var rfl) (λ_ _=>Vt.c) rfl)) λ_ _ _=>Bt.and (Vt.test (Vt.eq (x:=kV (bg ps c)) (y:=.str a) (Vt.var rfl) (λ_ _=>Vt.var rfl) (y6 (zE _) (.inr ⟨_,rfl⟩)))) λ_ _ _=>Vt.test (Vt.eq (x:=.str (aq ps c.one)) (y:=o) (Vt.var rfl) (λ_ _=>Vt.var rfl) (y6 (.inr ⟨_,rfl⟩) fo))) _ λH8 g8=>?_;rw[dP,dP];refine bB (λcc=>?_) (λcc=>aV ?_)
    ·have:=hit (by unfold lT;rw[Wn] at cc⊢;exact⟨cc.1,by rw[cc.2,Bool.or_true]⟩);rw[this] at q;exact q H8 (g7.trans g8)
    ·refine⟨g7.trans g8,?_,_,_,_,_,rfl⟩;rw[jU,List.any_append,no,J6,Jn,List.any_nil,Bool.or_false];unfold lT;rw[Bool.and_or_distrib_left,no1,J6];exact J0.mpr cc
  ·rintro σ H6 ⟨g,no,o4,o5,o6,o7,rfl⟩;rw[Ya,al,Wd] at no;exact eG _ _ ⟨g,no,o4,o5,o6,o7,rfl⟩
 rintro σ H6 ⟨g,no,o4,o5,o6,o7,rfl⟩;refine(Vt.R1 (Vt.eq (x:=.str k) (y:=.str "sibling") (Vt.var rfl) (λ_ _=>Vt.c) rfl) λ_ _ _=>Vt.eq (x:=.str a) (y:=o) (Vt.var rfl) (λ_ _=>Vt.var rfl) (y6 (.inr ⟨_,rfl⟩) fo)) _ λH7 g7=>?_;have e:=q H7 (g.trans g7);unfold oz at e;rw[no,J6] at e;rw[dP];exact e
theorem WV:aN ["_law_sides","_law_kind","_law_one","_law_other"] ["_law_sides","_law_kind","_law_one","_law_other"] (aH Dj):=.aU
theorem WW(F:aJ K "_law_sided" "_law_sided" Dj f fd):aG P w K mg base aM 1 f fd ["_law_sides","_law_kind","_law_one","_law_other"] OK:=by
 refine F.o WV λaB A outer s H vs Q E hr h=>?_;obtain⟨sd,ps,k,i,j,rfl,hs,nd,hi,hj,hk,q⟩:=h;refine⟨_,(ak (aR (bA cq (pv 1) bq) (au (aF (eC cq (c_ (bu hr) (pv 0) (pv 3) (λ_ _=>rfl)) bq))) aW) (ak (aR (bA cq (pv 1) bq) (au (aF (eC cq (c_ (bu hr) (pv 0) (pv 3) (λ_ _=>rfl)) bq))) aW) (au (aF (F6 (eC lH (pv 1) bq) (lD (oh (eC cq (c_ (bu hr) (pv 0) (pv 2) (λ_ _=>rfl)) bq) (lD (eC cq (c_ (bu hr) (pv 0) (pv 3) (λ_ _=>rfl)) bq))))))))),?_⟩;have gj:=cV hs (n_ nd hj);refine⟨_,rfl,rfl,_,rfl,?_⟩;rw[dP];refine bB (λcc=>?_) (λcc=>aV ?_)
 ·have e:k="mother":=of_decide_eq_true cc;refine⟨_,rfl,_,rfl,sd,_,rfl,gj,rfl,?_⟩;rw[dP];unfold kq at q;rw[if_pos e] at q;exact q H (ai.refl _)
 have n1:k≠"mother":=λz=>cc (decide_eq_true z);refine⟨_,rfl,rfl,_,rfl,?_⟩;rw[dP];refine bB (λcc=>?_) (λcc=>aV ?_)
 ·have e:k="father":=of_decide_eq_true cc;refine⟨_,rfl,_,rfl,sd,_,rfl,gj,rfl,?_⟩;rw[dP];unfold kq at q;rw[if_neg n1,if_pos e] at q;exact q H (ai.refl _)
 have n2:k≠"father":=λz=>cc (decide_eq_true z);have e3:(!decide (k="wed"))=decide (k="sibling"):=by
  rcases hk with z|z|z|z;·exact absurd z n1
  ·exact absurd z n2
  ·rw[z];decide+kernel
  ·rw[z];decide+kernel
 refine(Vt.orV (a:=decide (k="sibling")) (b:=decide (fk ps i="man")&&decide (fk ps j="woman")) ?_ λH1 _ g1=>Vt.R1 (a:=decide (fk ps i="man")) ?_ λH2 _ g2=>?_) _ λH' g'=>?_
 ·rw[←e3,←dP];exact Vt.ne (Vt.var rfl) (λ_ _=>Vt.c) rfl
 ·rw[←dP];exact Vt.eq (λk hk=>⟨_,rfl,_,rfl,sd,_,rfl,cV (g1 _ _ hs) (n_ nd hi),hk _ (ai.refl _)⟩) (λ_ _=>Vt.c) rfl
 ·rw[←dP];exact Vt.eq (λk hk=>⟨_,rfl,_,rfl,sd,_,rfl,cV (g2 _ _ (g1 _ _ hs)) (n_ nd hj),hk _ (ai.refl _)⟩) (λ_ _=>Vt.c) rfl
 ·unfold kq at q;rw[if_neg n1,if_neg n2] at q;exact q H' g'
theorem pH:aN ["_law_facts","_law_name_here","_law_row_here","_law_at","_law_number","_law_kind","_law_one","_law_other"] ["_law_facts","_law_name_here"] (aH ES):=.aU
theorem Z5(F:aJ K "_law_up" "_law_up" ES f fd)(bl:Bl mg):aG P w K mg base aM 1 f fd ["_law_facts","_law_name_here"] R3:=by
 refine F.o pH λaB A outer s H vs Q E hr h=>?_;obtain⟨fa,xs,ys,b,a,rfl,iy,ok,ma,q⟩:=h;refine⟨_,(ak (bP 2 pH.nd (c8 (aa (pv 1) ag))) (ak (bP 3 pH.nd aL) (ak (EG PassesOwn.never (bA mQ (pv 3) (cU K bl (pv 2))) (ak (fH PassesOwn.never rfl (eY (K:=K) rfl (pv 0)) (hV (K:=K) (n:=4) rfl rfl (bL (bj 4 pH.nd) (bL (bj 5 pH.nd) (bL (bj 6 pH.nd) (bL (bj 7 pH.nd) hU))))) (au (aR (PW.pt (pw_and (gT (lW (K:=K) rfl) (pv 5) (dz (aa bq (aa bq ag))) (by with_unfolding_all rfl)) (pw_and (bA cq (pv 6) (a_ (iL K) (pv 2) (pv 3))) (pw_and1 (gT (zK (K:=K) rfl) (pv 7) (pv 2) (by with_unfolding_all rfl)))))) (au (cy (lE (K:=K) rfl (ji plainAttrs_list PySem.F.slot_list_append PySem.F.type_list_append mC (pv 2) (aa (pv 7) ag))))) aW))) (au (zG (i:=3) pH.nd rfl (Or.inl rfl) aL FA)))) (au (aF (pv 2)))))),?_⟩;have sz:(10000:Nat)<=sizeLine:=by rw[sizeLine_eq];omega
 obtain⟨as,cP,al,gt⟩:=iy.get;have Br:=ok.m;refine bW ?_;refine⟨_,rfl,by show 1<=sizeLine;omega,λbp H1 yu g1 I0=>?_⟩;refine setC ?_;refine fP (λσ H6=>∃ks:List Str,ai H H6/\H6 bp=some (.lst (ks.map V.str))/\(∀z,z∈ks↔fN b a z)/\∃o3 o4 o5 o6 o7:Option V,σ=[some (.ref fa),some (.str a),some (.ref bp),o3,o4,o5,o6,o7]) (λl9 eG=>?_) ?_
 ·refine EH (Up H b a fa bp) (muU b.ps.length) ⟨[a],0,none,none,none,none,g1,I0,⟨Yz.mpr ⟨(λz=>nomatch z),W1⟩,λk hk=>by rw[Ym.mp hk];exact .refl,Yf⟩,Yw _,λr hr=>absurd hr (Wm _),rfl⟩ ?_ ?_
  ·rintro σ H6 ⟨ks,r,o4,o5,o6,o7,g6,nH,up,rl,cl,rfl⟩;have kl:(ks.map V.str).length=ks.length:=Ya _;have gl:=up.len ok ma;refine⟨_,rfl,_,rfl,bp,_,rfl,.inl (aj.of nH),_,_,rfl,rfl,_,rfl,?_⟩;rw[kl];refine bB (λc=>?_) (λc=>?_)
   ·have vG:r<ks.length:=by have:=of_decide_eq_true c;omega
    obtain⟨k,ek⟩:∃k,ks[r]?=some k:=⟨_,Yb vG⟩;have mk:k∈ks:=Yi ek;refine fP (JE H b a fa bp r ks k b.F.length) (λBc nB=>?_) ?_
    ·refine⟨_,rfl,fa,rfl,⟨_,aj.of (g6 _ _ cP)⟩,jA (K:=K) (a:=fa) (xs:=as.map V.ref) (JE H b a fa bp r ks k) ⟨ks,[],o4,o5,o6,o7,g6,nH,up,by rw[Y8],λc hc=>(nomatch hc),rfl⟩ (λj σ H8 _ ⟨_,_,_,_,_,_,g,_,_,_,_,_⟩=>aj.of (g _ _ cP)) ?_ ?_⟩
     ·rintro j v σ H8 hj ⟨eI,tl,p4,p5,p6,p7,g8,jV,qB,e8,iD,rfl⟩;obtain⟨c0,c,z,rfl,iz,jU,hc⟩:=gt H8 j v g8 hj;have mc:c∈b.F:=Yi iz;have Bs:eI[r]?=some k:=by rw[e8,Wi vG];exact ek
      have gl8:=qB.len ok ma;refine⟨c0,_,rfl,aA.of hc,rfl,_,_,rfl,bb ⟨_,_,rfl,bb ⟨_,_,rfl,bb ⟨_,_,rfl,bb ⟨rfl,?_⟩⟩⟩⟩⟩;refine(Bt.and (Vt.test (Vt.Gr (k:=c.k) (Vt.var rfl))) λHA _ gA=>Bt.and (Vt.test (Vt.eq (x:=.str (aq b.ps c.one)) (y:=.str k) (Vt.var rfl) (λHB gB kk hk=>⟨_,rfl,_,rfl,bp,_,_,_,rfl,rfl,aj.of (gB _ _ (gA _ _ jV)),fF (by rw[Yg,Bs];rfl),hk _ (ai.refl _)⟩) rfl)) λHB _ gB=>Vt.test (b:=!eZ (kV (bg b.ps c)) (eI.map V.str)) λkk hk=>⟨_,rfl,_,rfl,bp,_,rfl,.inl (aj.of (gB _ _ (gA _ _ jV))),Y_ (zE _),L8 _,hk _ (ai.refl _)⟩) _ λH9 g9=>?_;rw[dP];have vH:∀jv:List Str,(∀x∈eI,x∈jv)->(cG c.k=true->aq b.ps c.one=k->∀y,kV (bg b.ps c)=.str y->y∈jv)->∀c'∈b.F.take (j+1),cG c'.k=true->aq b.ps c'.one=k->∀y,kV (bg b.ps c')=.str y->y∈jv:=λjv sub hh c' m' h1 h2 y h3=>by
       rw[jU] at m';rcases Yt.mp m' with m'|m';·exact sub _ (iD c' m' h1 h2 y h3)
       ·rw[Ym.mp m'] at h1 h2 h3;exact hh h1 h2 y h3
      refine bB (λcc=>?_) (λcc=>aV ?_)
      ·rw[Wn,Wn,decide_eq_true_iff] at cc;obtain⟨c1,c2,c3⟩:=cc;have ns:c.k≠aY:=λz=>by rw[z] at c1;exact absurd c1 (by decide+kernel)
       have eo:kV (bg b.ps c)=.str (aq b.ps c.aK.toNat):=by rw[hJ ns];rfl
       have s_:=g9 _ _ jV;refine⟨_,rfl,.inl ⟨rfl,_,aj.of s_⟩,_,rfl,bp,_,_,rfl,rfl,s_,by rw[Ya];omega,λoP yw oU=>?_⟩;have no:aq b.ps c.aK.toNat∉eI:=λz=>by
        rw[eo,(GV _ _).mpr z] at c3;cases c3
       refine⟨eI++[aq b.ps c.aK.toNat],tl++[aq b.ps c.aK.toNat],_,_,_,_,λd o e=>yw _ _ (g9 _ _ (g8 _ _ e)) (bX e yu),by rw[oU,Yn,eo];rfl,⟨?_,λx hx=>?_,Ys _ qB.ma⟩,by rw[e8,Jp],vH _ (λx hx=>Ys _ hx) λ_ _ y hy=>?_,rfl⟩
       ·refine Wo.mpr ⟨qB.nd,by simp,λu hu w hw z=>?_⟩;rw[Ym] at hw;rw[z,hw] at hu;exact no hu
       ·rcases Yt.mp hx with hx|hx;·exact qB.sd x hx
        ·rw[Ym.mp hx];exact .step (qB.sd k (Yi Bs)) ((Nl ok).mpr ⟨c,mc,c1,c2,eo⟩)
       ·rw[eo] at hy;rw[←V.str.inj hy];exact Yr _ Yf
      ·refine⟨eI,tl,_,_,_,_,g8.trans g9,g9 _ _ jV,qB,e8,vH _ (λ_ h=>h) λh1 h2 y h3=>?_,rfl⟩;rw[h1,Jx,decide_eq_true h2,Jx,h3] at cc;by_cases z:y∈eI;·exact z
       ·exact absurd (by rw[J0.mpr (λw=>z ((GV _ _).mp w))];rfl) cc
     ·grind
    ·rintro σ H8 ⟨eI,tl,p4,p5,p6,p7,g8,jV,qB,e8,iD,rfl⟩;rw[Wd] at iD;have Bs:eI[r]?=some k:=by rw[e8,Wi vG];exact ek
     refine⟨_,rfl,_,_,rfl,rfl,?_⟩;refine⟨⟨eI,r+1,p4,p5,p6,p7,g8,jV,qB,by rw[e8,Yk];omega,λr' h' x hx p hp=>?_,rfl⟩,?_⟩
     ·by_cases z:r'=r
      ·rw[z,Bs] at hx;cases hx;obtain⟨c,mc,h1,h2,h3⟩:=(Nl ok).mp hp;exact iD c mc h1 h2 p h3
      ·rw[e8,Wi (by omega)] at hx;rw[e8];exact Ys _ (cl r' (by omega) x hx p hp)
     ·show b.ps.length+1-((r:Int)+1).toNat<b.ps.length+1-((r:Int)).toNat;omega
   ·have re:¬((r:Int)<(ks.length:Int)):=λz=>c (decide_eq_true z);exact eG _ _ ⟨ks,g6,nH,up.all (λr' h'=>cl r' (by omega)),_,_,_,_,_,rfl⟩
  ·rintro σ H6 Q1 Q2 mo ⟨v1,w1,v2,w2,v3,v4,w3,w4,v5,v6,w5,w6,v7,w7,h⟩;exact⟨v1,w1,v2,w2,v3,v4,w3,w4,v5,v6,w5,w6,v7,w7,mo _ _ h⟩
 rintro σ H6 ⟨ks,g6,nH,al,o3,o4,o5,o6,o7,rfl⟩;exact⟨_,rfl,q bp ks H6 g6 nH al⟩
end
open Classical in
noncomputable def mU (n:Nat) (b:BS) (c:Fc):Str:=if c.k≠aY/\kq c.k (fk b.ps c.one) (fk b.ps c.aK.toNat)=false then"wrong side" else if oz b.ps b.F c.k (aq b.ps c.one) (kV (bg b.ps c))=true then"told twice" else if cG c.k=true/\fN b (aq b.ps c.aK.toNat) (aq b.ps c.one) then"own elder" else if cA (b.F++[c]) n c.one=[] then"barred" else""
inductive OL(vs:List V)(H:Hp)(Q:VK):Prop
 |mk (sd fa td ff:Addr) (xs ys:List Int) (b:BS) (c:Fc) (aC:vs=[.ref sd,.ref fa,.ref td,.ref ff]) (hs:H sd=some (.dK (fX b.ps))) (hf:FL H b.ps fa b.F) (ht:eK H td xs ys) (hc:H ff=some (.tup [.str c.k,.str (aq b.ps c.one),kV (bg b.ps c)])) (ok:cg xs ys b) (fg:dN xs ys b.ps.length c) (q:∀H',ai H H'->Q (.str (mU xs.length b c)) H'):OL vs H Q
def Qg:Sp:=λvs H Q _=>OL vs H Q
theorem Zd3(fg:dN xs ys m c)(ns:c.k≠aY):c.k="mother"\/c.k="father"\/c.k="wed"\/c.k="sibling":=by
 have h:=fg.uD ns
 grind
section
theorem yM:aN ["_law_sides","_law_facts","_law_turns_here","_law_fact_here","_law_kind","_law_one","_law_other"] ["_law_sides","_law_facts","_law_turns_here","_law_fact_here"] (aH DW):=.aU
open Classical in
theorem XE(F:aJ K "_law_word" "_law_word" DW f fd)(DE:HasFn P w K mg base 1 "_law_sided" ["_law_sides","_law_kind","_law_one","_law_other"] OK)(D8:HasFn P w K mg base 1 "_law_told" ["_law_facts","_law_kind","_law_one","_law_other"] OJ)(E3:HasFn P w K mg base 1 "_law_up" ["_law_facts","_law_name_here"] R3)(qL:HasFn P w K mg base 3 "_law_room" ["_law_facts","_law_turns_here","_law_name_here"] F3)(bl:Bl mg):aG P w K mg base aM 4 f fd ["_law_sides","_law_facts","_law_turns_here","_law_fact_here"] Qg:=by
 refine F.o yM λaB A outer s H vs Q E hr h=>?_;obtain⟨sd,fa,td,ff,xs,ys,b,c,rfl,hs,hf,ht,hc,ok,fg,q⟩:=h;have hu:=hr.uu;refine⟨_,(ak (mK (pv 3) (hV (K:=K) (n:=3) rfl rfl (bL (bj 4 yM.nd) (bL (bj 5 yM.nd) (bL (bj 6 yM.nd) hU))))) (ak (aR (bA cq (pv 4) bq) (ak (aR (je (kZ (bu hr) (pv 5) (pv 0)) (by with_unfolding_all rfl)) (au (aF bq)) aW) (au (aR (PW.pt (pw_or (bA mQ (pv 6) aL) (pw_or1 (bA Zef (pv 6) (cU K bl (c_ (bu hr) (pv 2) bq (λ_ _=>rfl))))))) (au (aF bq)) aW))) (ak (aR (je (kZ (bu hr) (pv 4) (pv 2)) (by with_unfolding_all rfl)) (au (aF bq)) aW) (ak (aR (PW.pt (pw_or (je (kZ (bu hr) (pv 5) (pv 0)) (by with_unfolding_all rfl)) (pw_or1 (je (kZ (bu hr) (pv 6) (pv 0)) (by with_unfolding_all rfl))))) (au (aF bq)) aW) (au (aR (jg (eN (aP DE hr (aa (pv 0) (aa (pv 4) (aa (pv 5) (aa (pv 6) ag))))))) (au (aF bq)) aW))))) (ak (aR (eN (aP D8 hr (aa (pv 1) (aa (pv 4) (aa (pv 5) (aa (pv 6) ag)))))) (au (aF bq)) aW) (ak (aR (PW.pt (pw_and (gT (lW (K:=K) rfl) (pv 4) (dz (aa bq (aa bq ag))) (by with_unfolding_all rfl)) (pw_and1 (gT (lW (K:=K) rfl) (pv 5) (aP E3 hr (aa (pv 1) (aa (pv 6) ag))) (by with_unfolding_all rfl))))) (au (aF bq)) aW) (ak (aR (bA (Pn hu) (aP qL hr (aa (a9 wy (pv 1) (c8 (aa (dz (aa (a9 zH aL aL) (aa (pv 4) (aa (pv 5) (aa (pv 6) ag))))) ag))) (aa (pv 2) (aa (pv 5) ag)))) (c8 ag)) (au (aF bq)) aW) (au (aF bq))))))),?_⟩;have sz:(10000:Nat)<=sizeLine:=by rw[sizeLine_eq];omega
 have one:=fg.ok.one;have g1:=n_ ok.nm one;refine⟨_,rfl,ff,_,rfl,aA.of hc,rfl,_,_,rfl,bb ⟨_,_,rfl,bb ⟨_,_,rfl,bb ⟨rfl,?_⟩⟩⟩⟩;dsimp only;refine mM (λσ H7=>ai H H7/\¬(c.k≠aY/\kq c.k (fk b.ps c.one) (fk b.ps c.aK.toNat)=false)/\σ=[some (.ref sd),some (.ref fa),some (.ref td),some (.ref ff),some (.str c.k),some (.str (aq b.ps c.one)),some (kV (bg b.ps c))]) (λnA eS=>?_) ?_
 ·refine⟨_,rfl,rfl,_,rfl,?_⟩;rw[dP];refine bB (λcc=>?_) (λcc=>?_)
  ·have sk:c.k=aY:=of_decide_eq_true cc;have eo:kV (bg b.ps c)=.int c.aK:=by rw[jz sk];rfl
   refine⟨_,rfl,_,rfl,sd,_,rfl,cV hs g1,_,rfl,bY (aV ?_)⟩;obtain⟨s0,s1⟩:=fg.GQ sk;obtain⟨_,_,_,u0,dw,_,_,_,vI⟩:=id ht;refine(Bt.or (a:=decide (c.aK<0)) (b:=decide ((((bh xs.length).map V.int).length:Int)<=c.aK)) (λk hk=>⟨_,rfl,c.aK,0,eo,rfl,_,rfl,hk _ (ai.refl _)⟩) λH1 _ g1 k hk=>⟨_,rfl,_,rfl,td,.ref u0,rfl,cV (g1 _ _ dw) rfl,u0,_,rfl,.inr (aA.of (g1 _ _ vI)),c.aK,_,eo,rfl,_,rfl,hk _ (ai.refl _)⟩) _ λH2 g2=>?_;rw[decide_eq_false (by omega),decide_eq_false (by rw[Ya,eM];omega)];exact bY (aV (eS _ _ ⟨g2,λz=>z.1 sk,rfl⟩))
  ·have ns:c.k≠aY:=λz=>cc (decide_eq_true z);have eo:kV (bg b.ps c)=.str (aq b.ps c.aK.toNat):=by rw[hJ ns];rfl
   obtain⟨tk,u,dw,vu,_⟩:=ht.get (fg.uD ns);have g2:=n_ ok.nm (fg.ok.gF ns).1.2;refine⟨_,rfl,_,rfl,td,_,rfl,cV dw vu,_,rfl,bY (aV ?_)⟩;refine(Bt.or (a:=false) (b:=false) (λk hk=>⟨_,rfl,_,rfl,sd,_,rfl,cV hs g1,_,rfl,hk _ (ai.refl _)⟩) λH1 _ g1 k hk=>⟨_,rfl,_,rfl,sd,some (.str (fk b.ps c.aK.toNat)),rfl,(by rw[eo];exact cV (g1 _ _ hs) g2),_,rfl,hk _ (ai.refl _)⟩) _ λH2 g2=>bY (aV ?_);refine⟨_,rfl,_,rfl,_,rfl,_,rfl,sd,b.ps,c.k,c.one,c.aK.toNat,by rw[eo];rfl,g2 _ _ hs,ok.nm,one,(fg.ok.gF ns).1.2,Zd3 fg ns,λH3 g3=>⟨_,rfl,?_⟩⟩;cases es:kq c.k (fk b.ps c.one) (fk b.ps c.aK.toNat) with
   |true=>exact bY (aV (eS _ _ ⟨g2.trans g3,λz=>by rw[es] at z;exact absurd z.2 (by decide),rfl⟩))
   |false=>
    refine cS ?_;have e:mU xs.length b c="wrong side":=if_pos ⟨ns,es⟩;rw[e] at q;exact q _ (g2.trans g3)
 rintro σ H7 ⟨g7,nw,rfl⟩;refine⟨_,rfl,_,rfl,_,rfl,_,rfl,fa,b.ps,b.F,c.k,aq b.ps c.one,kV (bg b.ps c),rfl,hf.same g7,zE _,λH8 g8=>⟨_,rfl,?_⟩⟩;have JG:=g7.trans g8;unfold mU at q;rw[if_neg nw] at q;refine bB (λct=>?_) (λct=>aV ?_)
 ·rw[if_pos ct] at q;exact q _ JG
 rw[if_neg ct] at q;refine(Bt.and (b:=decide (fN b (aq b.ps c.aK.toNat) (aq b.ps c.one))) (Vt.test (Vt.Gr (k:=c.k) (Vt.var rfl))) λH9 ip g9 k hk=>?_) _ λH9 g9=>?_
 ·have ns:c.k≠aY:=λz=>by rw[z] at ip;exact absurd ip (by decide+kernel)
  have eo:kV (bg b.ps c)=.str (aq b.ps c.aK.toNat):=by rw[hJ ns];rfl
  refine⟨_,rfl,_,rfl,_,rfl,fa,xs,ys,b,aq b.ps c.aK.toNat,by rw[eo];rfl,hf.same (JG.trans g9),ok,Ft (fg.ok.gF ns).1.2,λp ks H' g' hp al=>⟨p,_,rfl,.inl (aj.of hp),rfl,L8 _,_,rfl,?_⟩⟩;have e:eZ (V.str (aq b.ps c.one)) (ks.map V.str)=decide (fN b (aq b.ps c.aK.toNat) (aq b.ps c.one)):=by
   rw[Wc,decide_eq_true_iff,GV,al]
  rw[e];exact hk _ g'
 have Bu:=JG.trans g9;refine bB (λcu=>?_) (λcu=>aV ?_)
 ·rw[Wn,decide_eq_true_iff] at cu;rw[if_pos cu] at q;exact q _ Bu
 rw[Wn,decide_eq_true_iff] at cu;rw[if_neg cu] at q;obtain⟨as,cP,dR⟩:=hf.same Bu;have al:=cI dR;have fl:=ok.fl;have Fl:b.F.length=b.fs.length:=Ya _;refine⟨_,rfl,_,_,rfl,rfl,_,rfl,_,rfl,_,rfl,by show 4<=sizeLine;omega,λt Ht nt gt JH=>⟨by show 1<=sizeLine;omega,λl Hl nl gl hl=>⟨fa,l,_,_,rfl,rfl,gl _ _ (gt _ _ cP),hl,by rw[Ya];show _+1<=_;omega,λp Hp np gp hp=>⟨_,rfl,_,rfl,?_⟩⟩⟩⟩;have JI:=(gt.trans gl).trans gp;refine⟨p,td,b.ps,xs,ys,b.F++[c],c.one,rfl,⟨as++[t],by rw[hp,Yn];rfl,iH (F:=IY Hp b.ps) ⟨-1,gp _ _ (gl _ _ JH)⟩ (L2.Paired.bw dR λ_ _ ⟨z,e⟩=>⟨z,JI _ _ e⟩)⟩,ht.same (Bu.trans JI),ok.nm,λc' mZ=>?_,ok.gd.2.2.2.2,by have:=ok.m;omega,by rw[Yk];show _+1<=64;omega,one,λpr Hr npr gr hr2=>⟨by show 0<=sizeLine;omega,λe He ne ge he=>⟨pr,e,_,[],rfl,rfl,aj.of (ge _ _ hr2),aj.of he,_,rfl,?_⟩⟩⟩
 ·rcases Yt.mp mZ with h|h
  ·obtain⟨pp,yy,rfl⟩:=Ye.mp (show c'∈b.fs.map (·.2) from h);exact ok.fg pp yy
  ·rw[Ym.mp h];exact fg
 have gE:=(Bu.trans JI).trans (gr.trans ge);refine bB (λcr=>?_) (λcr=>aV ?_)
 ·rw[if_pos (of_decide_eq_true cr)] at q;exact q _ gE
 ·rw[if_neg (λz=>cr (decide_eq_true z))] at q;exact q _ gE
end
theorem OM(a b:Str):(L2.pZ a b=a/\L2.p_ a b=b)\/(L2.pZ a b=b/\L2.p_ a b=a):=by
 unfold L2.pZ L2.p_;by_cases h1:b.cps.toList<a.cps.toList;·grind
 ·rw[if_neg h1];by_cases h2:a.cps.toList<b.cps.toList;·grind
  ·rw[if_neg h2];have e2:a=b:=by
    cases a with|mk ca=>cases b with|mk cb=>
     grind
   grind
theorem Nm{b:BS}{c:Fc}(h:oz b.ps b.F c.k (aq b.ps c.one) (kV (bg b.ps c))=false):eU b.ps c∉b.keys/\(cG c.k=true->[.inr c.k,.inr (aq b.ps c.one)]∉(cv b.ps b.fs).map (·.1))/\¬(c.k="sibling"/\V.str (aq b.ps c.one)=kV (bg b.ps c)):=by
 unfold oz at h;rw[Bool.or_eq_false_iff] at h;obtain⟨h1,h2⟩:=h;have no:∀p∈b.fs,lT b.ps c.k (aq b.ps c.one) (kV (bg b.ps c)) p.2=false:=λp hp=>by
  have:=Sl.mp h1 p.2 (Ye.mpr ⟨p,hp,rfl⟩);exact J0.mpr this
 have ZfZ:∀{u v:Key},u=v->kV u=kV v:=λe=>by rw[e]
 refine⟨λhk=>?_,λip hp=>?_,λ⟨e1,e2⟩=>?_⟩
 ·obtain⟨p,hp,e⟩:=Ye.mp hk;have n:=no p hp;have hit:p.2.k=c.k->((aq b.ps p.2.one=aq b.ps c.one/\bg b.ps p.2=bg b.ps c)\/(c.k="sibling"/\bg b.ps p.2=.inr (aq b.ps c.one)/\Sum.inr (aq b.ps p.2.one)=bg b.ps c))->False:=λe1 e2=>by
   have:lT b.ps c.k (aq b.ps c.one) (kV (bg b.ps c)) p.2=true:=by
    unfold lT;rw[decide_eq_true e1,Jx];rcases e2 with⟨e2,e3⟩|⟨e2,e3,e4⟩;·rw[decide_eq_true e2,decide_eq_true (ZfZ e3)];rfl
    ·rw[decide_eq_true e2,decide_eq_true (show kV (bg b.ps p.2)=.str (aq b.ps c.one) by rw[e3];rfl),decide_eq_true (show V.str (aq b.ps p.2.one)=kV (bg b.ps c) by rw[←e4];rfl)];simp
   rw[this] at n;cases n
  unfold eU at e;cases nJ:bg b.ps p.2 with
  |inl z1=>
   cases mn:bg b.ps c with
   |inl z2=>
    rw[nJ,mn] at e;injection e with e1 e;injection e with e2 e;injection e with e3 _;exact hit (Wk e1) (.inl ⟨Wk e2,by rw[nJ,mn,e3]⟩)
   |inr z2=>
    rw[nJ,mn] at e;unfold keyOf at e;dsimp only at e;split at e
    ·injection e with e1 e;injection e with e2 e;injection e with e3 _;cases e3
    ·injection e with e1 e;injection e with e2 e;injection e with e3 _;cases e3
  |inr z1=>
   cases mn:bg b.ps c with
   |inl z2=>
    rw[nJ,mn] at e;unfold keyOf at e;dsimp only at e;split at e
    ·injection e with e1 e;injection e with e2 e;injection e with e3 _;cases e3
    ·injection e with e1 e;injection e with e2 e;injection e with e3 _;cases e3
   |inr z2=>
    rw[nJ,mn] at e;have ek:p.2.k=c.k:=by
     unfold keyOf at e;dsimp only at e;split at e<;>split at e<;>(injection e with e1 _;exact Wk e1)
    unfold keyOf at e;dsimp only at e;rw[ek] at e;by_cases sb:c.k="sibling"
    ·rw[if_pos sb,if_pos sb] at e;injection e with _ e;injection e with e2 e;injection e with e3 _;have e2:=Wk e2;have e3:=Wk e3;refine hit ek ?_;rcases OM (aq b.ps p.2.one) z1 with⟨m1,m2⟩|⟨m1,m2⟩<;>rcases OM (aq b.ps c.one) z2 with⟨m3,m4⟩|⟨m3,m4⟩<;>rw[m1,m3] at e2<;>rw[m2,m4] at e3;·exact .inl ⟨e2,by rw[nJ,mn,e3]⟩
     ·exact .inr ⟨sb,by rw[nJ,e3],by rw[mn,e2]⟩
     ·exact .inr ⟨sb,by rw[nJ,e2],by rw[mn,e3]⟩
     ·exact .inl ⟨e3,by rw[nJ,mn,e2]⟩
    ·rw[if_neg sb,if_neg sb] at e;injection e with _ e;injection e with e2 e;injection e with e3 _;exact hit ek (.inl ⟨Wk e2,by rw[nJ,mn,e3]⟩)
 ·obtain⟨q,hq,e⟩:=Ye.mp hp;unfold cv at hq;obtain⟨p,hp,rfl⟩:=Ye.mp hq;obtain⟨oS,dv⟩:=Yy.mp hp;have n:=no p oS;injection e with e1 e;injection e with e2 _;unfold lT at n;rw[decide_eq_true (Wk e1),decide_eq_true (Wk e2),ip] at n;simp at n
 ·rw[decide_eq_true e1,decide_eq_true e2] at h2;cases h2
theorem Z6(ok:cg xs ys b)(fg:dN xs ys b.ps.length c)(h:cA (b.F++[c]) xs.length c.one≠[]):∃f,kT xs.length b.ps.length f/\∀c'∈b.F++[c],eQ f c':=by
 obtain⟨a,ha⟩:=List.exists_mem_of_ne_nil _ h;obtain⟨_,g,cl,hg⟩:=qN.mp ha;obtain⟨f0,inr,sat⟩:=ok.lv;have fL:∀c'∈b.F++[c],dB xs.length b.ps.length c':=λc' mZ=>by
  rcases Yt.mp mZ with h|h
  ·obtain⟨pp,yy,rfl⟩:=Ye.mp (show c'∈b.fs.map (·.2) from h);exact(ok.fg pp yy).ok
  ·rw[Ym.mp h];exact fg.ok
 obtain⟨f,h1,h2,_⟩:=C3 fL inr (λc' mZ=>by
  rcases Yt.mp mZ with h|h;·grind
  ·rw[Ym.mp h];exact .inl rfl) cl hg
 grind
theorem ON{xs:List Int}{b:BS}{c:Fc}(h:mU xs.length b c=""):¬(c.k≠aY/\kq c.k (fk b.ps c.one) (fk b.ps c.aK.toNat)=false)/\oz b.ps b.F c.k (aq b.ps c.one) (kV (bg b.ps c))=false/\¬(cG c.k=true/\fN b (aq b.ps c.aK.toNat) (aq b.ps c.one))/\cA (b.F++[c]) xs.length c.one≠[]:=by
 unfold mU at h;by_cases h1:c.k≠aY/\kq c.k (fk b.ps c.one) (fk b.ps c.aK.toNat)=false;·rw[if_pos h1] at h;exact absurd h (by decide+kernel)
 rw[if_neg h1] at h;by_cases h2:oz b.ps b.F c.k (aq b.ps c.one) (kV (bg b.ps c))=true;·rw[if_pos h2] at h;exact absurd h (by decide+kernel)
 rw[if_neg h2] at h;by_cases h3:cG c.k=true/\fN b (aq b.ps c.aK.toNat) (aq b.ps c.one);·rw[if_pos h3] at h;exact absurd h (by decide+kernel)
 rw[if_neg h3] at h;by_cases h4:cA (b.F++[c]) xs.length c.one=[];·rw[if_pos h4] at h;exact absurd h (by decide+kernel)
 grind
theorem E4{xs ys:List Int}{b:BS}{c:Fc}(ok:cg xs ys b)(fg:dN xs ys b.ps.length c)(lim:b.fs.length<63)(h:mU xs.length b c=""):Aj xs ys b c:=by
 obtain⟨_,h2,_,h4⟩:=ON h;obtain⟨k1,k2,_⟩:=Nm h2;exact⟨fg,k1,k2,Z6 ok fg h4,lim⟩
theorem Zbj{xs ys:List Int}{b:BS}{c:Fc}(ok:cg xs ys b)(fg:dN xs ys b.ps.length c)(lim:b.fs.length<63)(h:mU xs.length b c="")(ns:c.k≠aY):Gn xs ys b c:=by
 obtain⟨h1,h2,h3,_⟩:=ON h;obtain⟨k1,k2,k3⟩:=Nm h2;have eo:=hJ (ps:=b.ps) ns;refine⟨E4 ok fg lim h,ns,?_,⟨k2,λ_=>⟨?_,λ⟨e1,e2⟩=>k3 ⟨e1,by rw[eo,e2];rfl⟩⟩⟩,λip an=>h3 ⟨ip,an⟩⟩;·grind
 ·rw[←eo];exact k1
def jw(ps:bo):List V:=ps.map λp=>.str p.1
theorem wI(ps:bo):(jw ps).length=ps.length:=Ya _
theorem Zd4{ps:bo}{z:Int}(h0:0<=z)(h:z<(ps.length:Int)):dt (jw ps) z=some (.str (aq ps z.toNat)):=by
 obtain⟨k,rfl⟩:∃k:Nat,z=(k:Int):=⟨z.toNat,by omega⟩;refine fF ?_;unfold jw aq
 grind
theorem wX{z:Int}{n:Nat}(h:0<n):0<=z % (n:Int)/\z % (n:Int)<(n:Int):=⟨W7 _ (by omega),Wt _ (by omega)⟩
theorem Vt.Fw{K:PySem.W.Frag}{e:TE}{σ:St}{H:Hp}{nl:Addr}{ps:bo}{z:Int}{i:Nat}(hi:σ[i]?=some (some (.ref nl)))(hn:H nl=some (.lst (jw ps)))(p0:0<ps.length)(he:Vt e σ H (.int z)):Vt (iY (uH K) (gq i) (iY (rI (λ_ j=>0<j) λi j=>V.int (i % j)) e (m7 (xp K) (gf (gq i) iU)))) σ H (.str (aq ps (z % (ps.length:Int)).toNat)):=λk hk=>⟨_,hi,he _ λH1 g1=>by
 have l:=wI ps;have m:=wX (z:=z) p0;exact⟨_,hi,nl,_,rfl,.inl (aj.of (g1 _ _ hn)),_,_,rfl,rfl,by omega,nl,_,_,_,rfl,rfl,aj.of (g1 _ _ hn),by rw[l];exact Zd4 m.1 m.2,hk H1 g1⟩⟩
inductive OO(vs:List V)(H:Hp)(Q:VK):Prop
 |mk (nl sd:Addr) (ps:bo) (z:Int) (s:Str) (aC:vs=[.ref nl,.ref sd,.int z,.str s]) (hn:H nl=some (.lst (jw ps))) (hs:H sd=some (.dK (fX ps))) (nd:(ps.map (·.1)).Nodup) (p0:0<ps.length) (pm:ps.length<=100) (q:∀i,i<ps.length->∀H',ai H H'->Q (.str (aq ps i)) H'):OO vs H Q
def Qh:Sp:=λvs H Q _=>OO vs H Q
theorem Zbk(xs ys:List Int){d:Int}(h:0<=d/\d<4):∃(k:Str) (tn:List Int) (w:Str),dt [V.str "mother",V.str "father",V.str "wed",V.str "sibling"] d=some (.str k)/\(k,tn)∈pW xs ys/\dt [V.str "woman",V.str "man",V.str "woman",V.str ""] d=some (.str w):=by
 have:d=0\/d=1\/d=2\/d=3:=by omega
 rcases this with rfl|rfl|rfl|rfl;·exact⟨_,inv xs,_,rfl,by simp,rfl⟩
 ·exact⟨_,inv (bF xs ys),_,rfl,by simp,rfl⟩
 ·exact⟨_,ys,_,rfl,by simp,rfl⟩
 ·exact⟨_,bh xs.length,_,rfl,by simp,rfl⟩
inductive OP(vs:List V)(H:Hp)(Q:VK):Prop
 |mk (nl sd dr:Addr) (ps:bo) (xs ys:List Int) (d0 d1 d2 d3 d4:Int) (aC:vs=[.ref nl,.ref sd,.ref dr,.int (xs.length:Int)]) (hn:H nl=some (.lst (jw ps))) (hs:H sd=some (.dK (fX ps))) (nd:(ps.map (·.1)).Nodup) (p0:0<ps.length) (pm:ps.length<=100) (hd:H dr=some (.lst ([d0,d1,d2,d3,d4].map V.int))) (b4:0<=d4/\d4<4) (gd:mS xs ys) (q:∀c,dN xs ys ps.length c->∀(ff:Addr) (H':Hp),H ff=none->ai H H'->H' ff=some (.tup [.str c.k,.str (aq ps c.one),kV (bg ps c)])->Q (.ref ff) H'):OP vs H Q
def Qi:Sp:=λvs H Q _=>OP vs H Q
section
theorem Ku:aN ["_law_names","_law_sides","_law_at","_law_side","_law_k"] ["_law_names","_law_sides","_law_at","_law_side"] (aH DX):=.aU
theorem XF(F:aJ K "_law_pick" "_law_pick" DX f fd)(bl:Bl mg):aG P w K mg base aM 1 f fd ["_law_names","_law_sides","_law_at","_law_side"] Qh:=by
 refine F.o Ku λaB A outer s H vs Q E hr h=>?_;obtain⟨nl,sd,ps,z,sx,rfl,hn,hs,nd,p0,pm,q⟩:=h;refine⟨_,(ak (fH PassesOwn.never rfl (nS rfl bl.jb (aa (cU K bl (pv 0)) ag)) (bj 4 Ku.nd) (au (aR (PW.pt (pw_or (bA cq (pv 3) bq) (pw_or1 (bA cq (c_ (bu hr) (pv 1) (a_ (iL K) (pv 0) (a9 dU (a9 gU (pv 2) (pv 4)) (cU K bl (pv 0)))) (λ_ _=>rfl)) (pv 3))))) (au (aF (a_ (iL K) (pv 0) (a9 dU (a9 gU (pv 2) (pv 4)) (cU K bl (pv 0)))))) aW))) (au (aF (a_ (iL K) (pv 0) (a9 dU (pv 2) (cU K bl (pv 0))))))),?_⟩;have Bv:=wI ps;have at_:∀z:Int,(z % (ps.length:Int)).toNat<ps.length:=λz=>by have:=wX (z:=z) p0;omega
 refine fP (λσ H6=>ai H H6/\∃o4:Option V,σ=[some (.ref nl),some (.ref sd),some (.int z),some (.str sx),o4]) (λl9 eG=>?_) ?_
 ·refine⟨_,rfl,nl,_,rfl,.inl (aj.of hn),_,rfl,by omega,by omega,yW (lo:=0) (n:=(((jw ps).length:Nat):Int).toNat) (λ_ σ H6=>ai H H6/\∃o4:Option V,σ=[some (.ref nl),some (.ref sd),some (.int z),some (.str sx),o4]) ⟨ai.refl _,none,rfl⟩ ?_ (λσ H6 h=>eG _ _ h)⟩;rintro j σ H6 hj ⟨g6,o4,rfl⟩;rw[J3];have vt:∀H7,ai H6 H7->Vt _ _ H7 _:=λH7 g7=>Vt.Fw (K:=K) (i:=0) (σ:=[some (.ref nl),some (.ref sd),some (.int z),some (.str sx),some (.int (j:Int))]) (z:=z+(j:Int)) (e:=iY (qh λi j=>V.int (i+j)) (gq 2) (gq 4)) rfl (g7 _ _ (g6 _ _ hn)) p0 (λk hk=>⟨_,rfl,_,rfl,_,_,rfl,rfl,hk _ (ai.refl _)⟩);refine(Bt.or (Vt.test (Vt.eq (Vt.var rfl) (λ_ _=>Vt.c) rfl)) λH7 _ g7=>Vt.test (Vt.eq (x:=.str (fk ps ((z+(j:Int)) % (ps.length:Int)).toNat)) (y:=.str sx) (λk hk=>⟨_,rfl,vt H7 g7 _ λH8 g8=>⟨sd,_,rfl,cV (g8 _ _ (g7 _ _ (g6 _ _ hs))) (n_ nd (at_ _)),hk H8 g8⟩⟩) (λ_ _=>Vt.var rfl) rfl)) _ λH9 g9=>?_;refine bB (λ_=>?_) (λ_=>aV ⟨g6.trans g9,_,rfl⟩);exact vt H9 g9 _ λHA gA=>q _ (at_ _) HA ((g6.trans g9).trans gA)
 rintro σ H6 ⟨g6,o4,rfl⟩;exact Vt.Fw (K:=K) (i:=0) (z:=z) rfl (g6 _ _ hn) p0 (Vt.var rfl) _ λHA gA=>q _ (at_ _) HA (g6.trans gA)
theorem vY:aN ["_law_names","_law_sides","_law_drawn","_law_size","_law_kind","_law_one","_law_want"] ["_law_names","_law_sides","_law_drawn","_law_size"] (aH DY):=.aU
theorem XG(F:aJ K "_law_fact" "_law_fact" DY f fd)(yS:HasFn P w K mg base 1 "_law_pick" ["_law_names","_law_sides","_law_at","_law_side"] Qh)(bl:Bl mg):aG P w K mg base aM 2 f fd ["_law_names","_law_sides","_law_drawn","_law_size"] Qi:=by
 refine F.o vY λaB A outer s H vs Q E hr h=>?_;obtain⟨nl,sd,dr,ps,xs,ys,d0,d1,d2,d3,d4,rfl,hn,hs,nd,p0,pm,hd,b4,gd,q⟩:=h;refine⟨_,(ak (bP 4 vY.nd (a_ (iL K) (c8 (aa bq (aa bq (aa bq (aa bq ag))))) (a_ (iL K) (pv 2) aL))) (ak (bP 5 vY.nd (a_ (iL K) (pv 0) (a9 dU (a_ (iL K) (pv 2) aL) (cU K bl (pv 0))))) (ak (aR (bA wY (a_ (iL K) (pv 2) aL) aL) (au (aF (dz (aa bq (aa (pv 5) (aa (a9 dU (a_ (iL K) (pv 2) aL) (pv 3)) ag)))))) aW) (ak (aR (bA cq (pv 4) bq) (au (bP 5 vY.nd (aP yS hr (aa (pv 0) (aa (pv 1) (aa (a_ (iL K) (pv 2) aL) (aa bq ag))))))) aW) (ak (bP 6 vY.nd (a_ (iL K) (c8 (aa bq (aa bq (aa bq (aa bq ag))))) (a_ (iL K) (pv 2) aL))) (au (aF (dz (aa (pv 4) (aa (pv 5) (aa (aP yS hr (aa (pv 0) (aa (pv 1) (aa (a_ (iL K) (pv 2) aL) (aa (pv 6) ag))))) ag))))))))))),?_⟩;have sz:(10000:Nat)<=sizeLine:=by rw[sizeLine_eq];omega
 obtain⟨k,tn,wt,ek,hk,ew⟩:=Zbk xs ys b4;have at_:∀z:Int,(z % (ps.length:Int)).toNat<ps.length:=λz=>by have:=wX (z:=z) p0;omega
 obtain⟨_,_,_,l2,l8⟩:=id gd;have Zf0:(0:Int)<(xs.length:Int):=by omega
 refine bW ?_;refine⟨by show 4<=sizeLine;omega,λkl H1 nkl g1 AK=>⟨_,rfl,dr,_,_,_,rfl,rfl,aj.of (g1 _ _ hd),rfl,kl,_,_,_,rfl,rfl,aj.of AK,ek,?_⟩⟩;refine bW ?_;have nB:=g1 _ _ hn;refine Vt.Fw (K:=K) (i:=0) (z:=d1) rfl nB p0 (λkk hk=>⟨_,rfl,dr,_,_,_,rfl,rfl,aj.of (g1 _ _ hd),rfl,hk _ (ai.refl _)⟩) _ λH2 g2=>?_;have kU:=g1.trans g2;refine⟨_,rfl,dr,_,_,_,rfl,rfl,aj.of (kU _ _ hd),rfl,_,_,rfl,rfl,_,rfl,bB (λ_=>?_) (λ_=>aV ?_)⟩
 ·refine⟨_,rfl,_,rfl,dr,_,_,_,rfl,rfl,aj.of (kU _ _ hd),rfl,_,rfl,_,_,rfl,rfl,Zf0,by show 3<=sizeLine;omega,λff H3 Bw g3 tD=>?_⟩;have mm:=wX (z:=d3) (n:=xs.length) (by omega);exact q ⟨aY,(d1 % (ps.length:Int)).toNat,d3 % (xs.length:Int),[]⟩ ⟨⟨at_ _,λz=>absurd rfl z⟩,.inl rfl,λ_=>mm⟩ ff H3 (kU.free Bw) (kU.trans g3) (by rw[tD,jz rfl];rfl)
 have nk:k≠aY:=λz=>YS (z▸hk);refine mM (λσ H6=>ai H H6/\∃i:Nat,i<ps.length/\σ=[some (.ref nl),some (.ref sd),some (.ref dr),some (.int (xs.length:Int)),some (.str k),some (.str (aq ps i)),none]) (λnA eS=>?_) ?_
 ·refine⟨_,rfl,rfl,_,rfl,bB (λ_=>?_) (λ_=>aV (eS _ _ ⟨kU,_,at_ _,rfl⟩))⟩;refine⟨_,rfl,_,rfl,_,rfl,dr,_,_,_,rfl,rfl,aj.of (kU _ _ hd),rfl,nl,sd,ps,d1,"man",rfl,kU _ _ hn,kU _ _ hs,nd,p0,pm,λi hi H3 g3=>bb (eS _ _ ⟨kU.trans g3,i,hi,rfl⟩)⟩
 rintro σ H6 ⟨g6,i,hi,rfl⟩;refine bW ?_;refine⟨by show 4<=sizeLine;omega,λwl H7 T7 g7 xH=>⟨_,rfl,dr,_,_,_,rfl,rfl,aj.of (g7 _ _ (g6 _ _ hd)),rfl,wl,_,_,_,rfl,rfl,aj.of xH,ew,?_⟩⟩;have yz:=g6.trans g7;refine⟨_,rfl,_,rfl,_,rfl,_,rfl,_,rfl,dr,_,_,_,rfl,rfl,aj.of (yz _ _ hd),rfl,_,rfl,nl,sd,ps,d2,wt,rfl,yz _ _ hn,yz _ _ hs,nd,p0,pm,λj hj H8 g8=>⟨by show 3<=sizeLine;omega,λff H9 Bw g9 tD=>?_⟩⟩;obtain⟨ft,tl⟩:=Za9 gd hk;exact q ⟨k,i,(j:Int),tn⟩ ⟨⟨hi,λ_=>⟨⟨by show(0:Int)<=(j:Int);omega,hj⟩,ft,tl⟩⟩,.inr hk,λz=>absurd z nk⟩ ff H9 (yz.free (g8.free Bw)) ((yz.trans g8).trans g9) (by rw[tD,hJ nk];rfl)
end
def jW(n:Nat):List Nat:=if n<10 then[48+n] else[48+n/10,48+n % 10]
def jX(n:Nat):Str:=.ofString (toString (n:Int))
theorem Fx:∀n<61,(jX n).cps.toList=jW n:=by decide+kernel
def fq(k z:Nat):Nat:=if z/3 % 3=1 then 9 else(k*z+z) % 5
def jY(m:Nat):Str:=Txt.mul "q" (m:Int)
theorem ZcE:∀m<10,(jY m).cps.toList=List.replicate m 113:=by decide+kernel
def tE:Str:="abcdefghijklmnopqrstuvwxyz"
theorem F4:∀i<26,dt tE.cps.toList ((i:Nat):Int)=some (97+i):=by decide+kernel
def o_(i:Nat):Str:=⟨#[97+i]⟩
def df(z k:Nat):Str:=if z % 3=0 then(o_ ((k*7+z) % 26)++jX (k/26))++jY (fq k z) else if z % 3=1 then(o_ (z % 26)++jY (fq k z))++jX ((k*17+z) % 61) else(o_ (z % 26)++jX ((k*17+z) % 61))++jY (fq k z)
theorem F5(k z:Nat):fq k z<10:=by
 unfold fq;split<;>omega
theorem ur(a b:Str):(a++b).cps.toList=a.cps.toList++b.cps.toList:=Array.toList_append
theorem Ez(z k:Nat)(hk:k<60):(df z k).cps.toList=if z % 3=0 then[97+(k*7+z) % 26,48+k/26]++List.replicate (fq k z) 113 else if z % 3=1 then(97+z % 26)::(List.replicate (fq k z) 113++jW ((k*17+z) % 61)) else(97+z % 26)::(jW ((k*17+z) % 61)++List.replicate (fq k z) 113):=by
 have f:=ZcE _ (F5 k z);unfold df;split
 ·rw[ur,ur,f,Fx _ (by omega)];unfold jW;rw[if_pos (by omega)];rfl
 split
 ·rw[ur,ur,f,Fx _ (by omega)];rfl
 ·rw[ur,ur,f,Fx _ (by omega)];rfl
def JJ(l:List Nat):Nat:=l.foldl (λa c=>10*a+(c-48)) 0
theorem z6:JJ (jW n)=n:=by
 unfold jW;split
 ·show 10*0+(48+n-48)=n;omega
 ·show 10*(10*0+(48+n/10-48))+(48+n % 10-48)=n;omega
theorem Qj(h:n<61):∀c∈jW n,48<=c/\c<58:=by
 unfold jW
 grind
theorem yT(h:n<61):(jW n).filter (λc=>decide (c<58))=jW n:=Jt.mpr λc hc=>decide_eq_true (Qj h c hc).2
theorem yU(m:Nat):(List.replicate m 113).filter (λc=>decide (c<58))=[]:=by
 grind
theorem Z7(hk:k<60)(A7:k'<60)(e:df z k=df z k'):k=k':=by
 have e:(df z k).cps.toList=(df z k').cps.toList:=by rw[e]
 rw[Ez z k hk,Ez z k' A7] at e;by_cases h0:z % 3=0
 ·rw[if_pos h0,if_pos h0] at e;injection e with e1 e;injection e with e2 _;omega
 rw[if_neg h0,if_neg h0] at e;have key:(k*17+z) % 61=(k'*17+z) % 61->k=k':=λh=>by omega
 by_cases h1:z % 3=1
 ·rw[if_pos h1,if_pos h1] at e;injection e with _ e;have e2:=congrArg (List.filter λc=>decide (c<58)) e;rw[Y9,Y9,yU,yU,yT (by omega),yT (by omega),SR,SR] at e2;have e3:=congrArg JJ e2;rw[z6,z6] at e3;exact key e3
 ·rw[if_neg h1,if_neg h1] at e;injection e with _ e;have e2:=congrArg (List.filter λc=>decide (c<58)) e;rw[Y9,Y9,yU,yU,yT (by omega),yT (by omega),Y8,Y8] at e2;have e3:=congrArg JJ e2;rw[z6,z6] at e3;exact key e3
theorem Qk:∀i<26,fM n5 (97+i)=true/\fM lF (97+i)=true:=by decide+kernel
theorem Ql:∀i<10,fM lF (48+i)=true:=by decide+kernel
theorem Zf1:fM lF 113=true:=by decide+kernel
theorem Za(hk:k<60):rE (df z k)=true/\(df z k).length<=12:=by
 have fl:=F5 k z;have rep:(List.replicate (fq k z) 113).all (fM lF)=true:=Wr.mpr λc hc=>by rw[List.eq_of_mem_replicate hc];exact Zf1
 have dg:∀n,n<61->(jW n).all (fM lF)=true/\(jW n).length<=2:=λn hn=>by
  refine⟨Wr.mpr λc hc=>?_,?_⟩
  ·have:=Qj hn c hc;have e:=Ql (c-48) (by omega)
   grind
  ·unfold jW;split<;>simp
 have len:(df z k).length=(df z k).cps.toList.length:=rfl;have c:=Ez z k hk;have main:∃(i:Nat) (r:List Nat),i<26/\(df z k).cps.toList=(97+i)::r/\r.length<=11/\r.all (fM lF)=true:=by
  by_cases h0:z % 3=0
  ·rw[if_pos h0] at c;refine⟨_,_,by omega,c,?_,?_⟩
   ·show((48+k/26)::List.replicate (fq k z) 113).length<=11
    grind
   ·show((48+k/26)::List.replicate (fq k z) 113).all (fM lF)=true;rw[Je,rep,Ql _ (by omega)];rfl
  grind
 obtain⟨i,r,hi,e,lr,ar⟩:=main;have Be:(df z k).length<=12:=by
  grind
 refine⟨?_,Be⟩;rw[LZ e,decide_eq_true Be,(Qk i hi).1,Je,(Qk i hi).2,ar];rfl
theorem ZcF:∀m<10,(jY m).length<=9:=by decide+kernel
theorem OQ:∀n<61,(jX n).length<=2:=by decide+kernel
theorem Fy(a b:Str):(a++b).length=a.length+b.length:=Array.size_append
inductive OR(vs:List V)(H:Hp)(Q:VK):Prop
 |mk (k z:Nat) (aC:vs=[.int (k:Int),.int (z:Int)]) (hk:k<60) (hz:z<97) (q:Q (.str (df z k)) H):OR vs H Q
def Qm:Sp:=λvs H Q _=>OR vs H Q
section
theorem vZ:aN ["_law_k","_law_salt","_law_letters","_law_fill","_law_number"] ["_law_k","_law_salt"] (aH DU):=.aU
theorem XH(F:aJ K "_law_name" "_law_name" DU f fd)(bl:Bl mg):aG P w K mg base aM 1 f fd ["_law_k","_law_salt"] Qm:=by
 refine F.o vZ λaB A outer s H vs Q E hr h=>?_;obtain⟨k,z,rfl,hk,hz,q⟩:=h;refine⟨_,(ak (bP 2 vZ.nd bq) (ak (bP 3 vZ.nd (a9 NY bq (a9 dU (a9 gU (a9 oi (pv 0) (pv 1)) (pv 1)) aL))) (ak (bP 4 vZ.nd (a9 dU (a9 gU (a9 oi (pv 0) aL) (pv 1)) aL)) (ak (aR (bA cq (a9 dU (a9 zk (pv 1) aL) aL) aL) (au (bP 3 vZ.nd (a9 NY bq aL))) aW) (ak (aR (bA cq (a9 dU (pv 1) aL) aL) (au (aF (a9 tX (a9 tX (a_ wL (pv 2) (a9 dU (a9 gU (a9 oi (pv 0) aL) (pv 1)) aL)) (d_ CP rfl bl.wZ wO (aa (a9 zk (pv 0) aL) ag))) (pv 3)))) aW) (ak (aR (bA cq (a9 dU (pv 1) aL) aL) (au (aF (a9 tX (a9 tX (a_ wL (pv 2) (a9 dU (pv 1) aL)) (pv 3)) (d_ CP rfl bl.wZ wO (aa (pv 4) ag))))) aW) (au (aF (a9 tX (a9 tX (a_ wL (pv 2) (a9 dU (pv 1) aL)) (d_ CP rfl bl.wZ wO (aa (pv 4) ag))) (pv 3)))))))))),?_⟩;have cm:uG (k:Int) (z:Int):=.inl ⟨by omega,by omega⟩;have Uq:∀j:Int,uG (k:Int) j:=λj=>.inl ⟨by omega,by omega⟩;have c3:Gy (z:Int) 3:=⟨by omega,by omega⟩;have c26:Gy (k:Int) 26:=⟨by omega,by omega⟩;have sz:(10000:Nat)<=sizeLine:=by rw[sizeLine_eq];omega
 have Ur:((k:Int)*17+(z:Int)) % 61=(((k*17+z) % 61:Nat):Int):=by omega
 have m26:((k:Int)*7+(z:Int)) % 26=(((k*7+z) % 26:Nat):Int):=by omega
 have Us:(z:Int) % 26=((z % 26:Nat):Int):=by omega
 have d26:(k:Int)/26=((k/26:Nat):Int):=by omega
 have e5:((k:Int)*(z:Int)+(z:Int)) % 5=(((k*z+z) % 5:Nat):Int):=by rw[Int.natCast_emod,Int.natCast_add,Int.natCast_mul];rfl
 refine setC ?_;refine bW ?_;refine⟨_,rfl,_,rfl,_,_,rfl,rfl,cm,_,rfl,_,_,rfl,rfl,_,_,rfl,rfl,by omega,"q",(k*z+z) % 5,rfl,congrArg V.int e5,by decide+kernel,by omega,?_⟩;refine bW ?_;refine⟨_,rfl,_,_,rfl,rfl,Uq _,_,rfl,_,_,rfl,rfl,_,_,rfl,rfl,by omega,?_⟩;refine mM (λσ H6=>H6=H/\σ=[some (.int (k:Int)),some (.int (z:Int)),some (.str tE),some (.str (jY (fq k z))),some (.int (((k*17+z) % 61:Nat):Int))]) (λnA eS=>?_) ?_
 ·refine⟨_,rfl,_,_,rfl,rfl,c3,_,_,rfl,rfl,by omega,rfl,_,rfl,bB (λc=>?_) (λc=>aV ?_)⟩
  ·have c:=V.int.inj (of_decide_eq_true c);have c1:z/3 % 3=1:=by omega
   have fe:fq k z=9:=if_pos c1;refine⟨"q",9,rfl,rfl,by decide+kernel,by omega,bb (eS _ _ ⟨rfl,?_⟩)⟩;rw[fe,←Ur];rfl
  ·have c1:¬z/3 % 3=1:=λw=>c (decide_eq_true (congrArg V.int (by omega)));have fe:fq k z=(k*z+z) % 5:=if_neg c1;refine eS _ _ ⟨rfl,?_⟩;rw[fe,←Ur];rfl
 rintro σ H6 ⟨rfl,rfl⟩;have ls:=ZcF _ (F5 k z);have ll:tE.length<=sizeLine:=Y4 (show tE.length<=100 by decide+kernel) (by omega);have lg:∀n:Nat,n<61->(n:Int).natAbs.log2<1920:=λn hn=>W9 (Nat.log2_le_self _) (by omega);refine⟨_,rfl,_,_,rfl,rfl,by omega,rfl,_,rfl,bB (λc=>?_) (λc=>aV ?_)⟩
 ·have h0:z % 3=0:=by have:=V.int.inj (of_decide_eq_true c);omega
  have ld:=OQ (k/26) (by omega);refine⟨_,rfl,_,rfl,_,_,rfl,rfl,Uq _,_,rfl,_,_,rfl,rfl,_,_,rfl,rfl,by omega,tE,_,_,rfl,congrArg V.int m26,ll,F4 _ (by omega),_,rfl,_,_,rfl,rfl,c26,((k/26:Nat):Int),congrArg (λi=>[V.int i]) d26,lg _ (by omega),_,_,rfl,rfl,?_,_,rfl,_,_,rfl,rfl,?_,?_⟩
  ·show 1+(jX (k/26)).length<=sizeLine;omega
  ·show(o_ ((k*7+z) % 26)++jX (k/26)).length+(jY (fq k z)).length<=sizeLine;rw[Fy];show 1+_+_<=_;omega
  ·have e:df z k=(o_ ((k*7+z) % 26)++jX (k/26))++jY (fq k z):=if_pos h0;rw[e] at q;exact q
 have h0:¬z % 3=0:=λw=>c (decide_eq_true (congrArg V.int (by omega)));have ld:=OQ ((k*17+z) % 61) (by omega);refine⟨_,rfl,_,_,rfl,rfl,by omega,rfl,_,rfl,bB (λc=>?_) (λc=>aV ?_)⟩
 ·have h1:z % 3=1:=by have:=V.int.inj (of_decide_eq_true c);omega
  refine⟨_,rfl,_,rfl,_,_,rfl,rfl,by omega,tE,_,_,rfl,congrArg V.int Us,ll,F4 _ (by omega),_,rfl,_,_,rfl,rfl,?_,_,rfl,_,rfl,lg _ (by omega),_,_,rfl,rfl,?_,?_⟩
  ·show 1+(jY (fq k z)).length<=sizeLine;omega
  ·show(o_ (z % 26)++jY (fq k z)).length+(jX ((k*17+z) % 61)).length<=sizeLine;rw[Fy];show 1+_+_<=_;omega
  ·have e:df z k=(o_ (z % 26)++jY (fq k z))++jX ((k*17+z) % 61):=(if_neg h0).trans (if_pos h1);rw[e] at q;exact q
 have h1:¬z % 3=1:=λw=>c (decide_eq_true (congrArg V.int (by omega)));refine⟨_,rfl,_,rfl,_,_,rfl,rfl,by omega,tE,_,_,rfl,congrArg V.int Us,ll,F4 _ (by omega),_,rfl,_,rfl,lg _ (by omega),_,_,rfl,rfl,?_,_,rfl,_,_,rfl,rfl,?_,?_⟩
 ·show 1+(jX ((k*17+z) % 61)).length<=sizeLine;omega
 ·show(o_ (z % 26)++jX ((k*17+z) % 61)).length+(jY (fq k z)).length<=sizeLine;rw[Fy];show 1+_+_<=_;omega
 ·have e:df z k=(o_ (z % 26)++jX ((k*17+z) % 61))++jY (fq k z):=(if_neg h0).trans (if_neg h1);rw[e] at q;exact q
end
inductive Qn(C CL CJ:Addr)(vs:List V)(H:Hp)(Q:VK):Prop
 |mk (l:BL) (b:BS) (xs ys:List Int) (c:Fc) (ff:Addr) (aC:vs=[.ref l.h,.ref ff]) (ba:a8 H C CL CJ l xs ys b) (ok:cg xs ys b) (hf:H ff=some (.tup [.str c.k,.str (aq b.ps c.one),kV (bg b.ps c)])) (fg:dN xs ys b.ps.length c) (lim:b.fs.length<63) (hw:mU xs.length b c="") (dl:b.dn.length<200) (q:∀(l':BL) (H':Hp),bM H H' l l'->a8 H' C CL CJ l' xs ys (b.pX c)->Q (.int (b.co:Int)) H'):Qn C CL CJ vs H Q
def Q6(C CL CJ:Addr):Sp:=λvs H Q _=>Qn C CL CJ vs H Q
structure fw(C CL CJ:Addr)(H:Hp)(xs ys:List Int)(z j:Nat)(td:Addr)(l:BL)(b:BS)(nl sd fl st:Addr):Prop where
 ba:a8 H C CL CJ l xs ys b
 ok:cg xs ys b
 names:H nl=some (.lst (jw b.ps))
 n1:nl∉l.fp
 cW:H sd=some (.dK (fX b.ps))
 n2:sd∉l.fp
 facts:∃as:List Addr,H fl=some (.lst (as.map V.ref))/\Paired (dM H b.ps) as b.fs
 n3:fl∉l.fp
 tup:H st=some (.tup [.ref nl,.ref sd,.ref fl,.int (b.co:Int)])
 turns:eK H td xs ys
 n4:td∉l.fp
 nm:b.ps.map (·.1)=(List.range b.ps.length).map (df z)
 so:(b.fs.map (·.1)).Pairwise (·<·)
 cp:b.ps.length<=j
 cf:b.ps.length+b.fs.length<=j
 cd:b.dn.length<=j
section
variable {H H':Hp}{xs ys:List Int}{z j:Nat}{td:Addr}{l l':BL}{b b':BS}{nl sd fl st:Addr}
theorem fw.same(g:ai H H')(s:fw C CL CJ H xs ys z j td l b nl sd fl st):fw C CL CJ H' xs ys z j td l b nl sd fl st:=
 ⟨s.ba.same g,s.ok,g _ _ s.names,s.n1,g _ _ s.cW,s.n2,let⟨as,h1,h2⟩:=s.facts;⟨as,g _ _ h1,L2.Paired.bw h2 λ_ _ e=>g _ _ e⟩,s.n3,g _ _ s.tup,s.turns.same g,s.n4,s.nm,s.so,s.cp,s.cf,s.cd⟩
theorem fw.more(s:fw C CL CJ H xs ys z j td l b nl sd fl st):fw C CL CJ H xs ys z (j+1) td l b nl sd fl st:=
 ⟨s.ba,s.ok,s.names,s.n1,s.cW,s.n2,s.facts,s.n3,s.tup,s.turns,s.n4,s.nm,s.so,W0 s.cp,W0 s.cf,W0 s.cd⟩
theorem fw.FL(s:fw C CL CJ H xs ys z j td l b nl sd fl st):FL H b.ps fl b.F:=by
 obtain⟨as,h1,h2⟩:=s.facts;refine⟨as,h1,?_⟩;have:∀{as:List Addr} {fs:List (Nat×Fc)},Paired (dM H b.ps) as fs->Paired (IY H b.ps) as (fs.map (·.2)):=λh=>by
  induction h with
  |nil=>exact .nil
  |cons e _ ih=>exact .cons ⟨_,e⟩ ih
 exact this h2
theorem bM.off(w:bM H H' l l')(h:H a=some o)(n:a∉l.fp):H' a=some o/\a∉l'.fp:=
 ⟨w.out _ _ h n,λz=>(w.grow a z).elim n λq=>by rw[h] at q;cases q⟩
theorem bM.bQ(w:bM H H' l l')(ba:a8 H C CL CJ l xs ys b)(h:H a=some (.tup us)):H' a=some (.tup us):=w.out _ _ h (ba.tup h)
theorem bM.eK(w:bM H H' l l')(ba:a8 H C CL CJ l xs ys b)(h:eK H td xs ys)(n:td∉l.fp):eK H' td xs ys:=by
 obtain⟨m,f,w1,s,h1,h2,h3,h4,h5⟩:=h;exact⟨m,f,w1,s,w.out _ _ h1 n,w.bQ ba h2,w.bQ ba h3,w.bQ ba h4,w.bQ ba h5⟩
theorem ud(w:bM H H' l l')(ba:a8 H C CL CJ l xs ys b)(h:Paired (dM H ps) as fs):Paired (dM H' ps) as fs:=L2.Paired.bw h λ_ _ e=>w.bQ ba e
theorem a8.fresh(ba:a8 H C CL CJ l xs ys b)(h:H a=none):a∉l.fp:=λz=>ba.there z h
theorem dM.ext(fg:dN xs ys ps.length p.2)(h:dM H ps a p):dM H (ps++[(n,s)]) a p:=by
 have e1:∀i,i<ps.length->aq (ps++[(n,s)]) i=aq ps i:=λi hi=>by
  unfold aq
  grind
 unfold dM dJ at h⊢;have e2:bg (ps++[(n,s)]) p.2=bg ps p.2:=by
  by_cases k:p.2.k=aY;·rw[jz k,jz k]
  ·rw[hJ k,hJ k,e1 _ (fg.ok.gF k).1.2]
 rw[e1 _ fg.ok.one,e2];exact h
theorem fw.fresh(s:fw C CL CJ H xs ys z j td l b nl sd fl st)(h60:j<60)(iF:Str)(hs:FZ iF=true):GR b (df z b.ps.length) iF:=by
 have c:=s.cp;obtain⟨f1,f2⟩:=Za (k:=b.ps.length) (by omega);refine⟨f1,hs,λm=>?_,by omega,by omega⟩;rw[s.nm] at m;obtain⟨i,hi,e⟩:=Ye.mp m;have hi:=Y7.mp hi;have:=Z7 (by omega) (by omega) e;omega
theorem nm_more(h:b.ps.map (·.1)=(List.range b.ps.length).map (df z))(s:Str):(b.ps++[(df z b.ps.length,s)]).map (·.1)=(List.range (b.ps++[(df z b.ps.length,s)]).length).map (df z):=by
 rw[Yn,h,Yk];show _++[df z b.ps.length]=(List.range (b.ps.length+1)).map (df z);rw[Jk,Yn];rfl
end
inductive Nn(C CL CJ:Addr)(vs:List V)(H:Hp)(Q:VK):Prop
 |mk (xs ys:List Int) (z j:Nat) (cell:Int) (td:Addr) (l:BL) (b:BS) (nl sd fl st:Addr) (aC:vs=[.ref l.h,.ref st,.int cell,.ref td,.int (z:Int)]) (si:fw C CL CJ H xs ys z j td l b nl sd fl st) (hz:z<97) (hj:j<60) (q:∀(l':BL) (b':BS) (jZ iF dm aI:Addr) (H':Hp),bM H H' l l'->fw C CL CJ H' xs ys z (j+1) td l' b' jZ iF dm aI->0<b'.ps.length->Q (.ref aI) H'):Nn C CL CJ vs H Q
def OS(C CL CJ:Addr):Sp:=λvs H Q _=>Nn C CL CJ vs H Q
theorem XI{P Q:α->β->Prop}(h:∀a b,b∈bs->P a b->Q a b)(p:Paired P as bs):Paired Q as bs:=by
 induction p with
 |nil=>exact .nil
 |cons e _ ih=>exact .cons (h _ _ Yf e) (ih λa b hb=>h a b (Yu _ hb))
theorem Zb(fs:List α)(p:α->Bool):((List.range fs.length).filter λi=>(fs[i]?.map p).getD false).map (λi=>fs[i]?)=(fs.filter p).map some:=by
 have e:(List.range fs.length).map (λi=>fs[i]?)=fs.map some:=Ws λi=>by
  grind
 have h:=Jm (f:=λi=>fs[i]?) (l:=List.range fs.length) (p:=λo:Option α=>(o.map p).getD false);rw[e,Jm] at h;exact h.symm
theorem OT:∀{l:List (Nat×α)},(l.map (·.1)).Nodup->∀{p q:Nat×α},p∈l->q∈l->p.1=q.1->p=q
 |[],_,_,_,h,_,_=>nomatch h
 |a::l,nd,p,q,hp,hq,e=>by
  obtain⟨n1,n2⟩:=Yz.mp (show(a.1::l.map (·.1)).Nodup from nd);rcases Yp.mp hp with e1|h1<;>rcases Yp.mp hq with e2|h2;·rw[e1,e2]
  ·grind
  ·grind
  ·exact OT n2 h1 h2 e
theorem Qo(ks:List Key):(ks.map kV).all m_=true:=by
 rw[Wr];intro v hv;obtain⟨k,_,rfl⟩:=Ye.mp hv;cases k<;>rfl
theorem ZcG:∃s:Str,dt [V.str "man",V.str "woman"] (d % 2)=some (.str s)/\FZ s=true:=by
 have:d % 2=0\/d % 2=1:=by omega
 rcases this with e|e<;>rw[e];·exact⟨_,rfl,by decide+kernel⟩
 ·exact⟨_,rfl,by decide+kernel⟩
section
theorem Zc:aN ["_law_book","_law_fact_here"] ["_law_book","_law_fact_here"] (aH Eo):=.aU
theorem Zd(F:aJ K "_law_put" "_law_put" Eo f fd)(tR:bT P w K mg base 12 "say" C ["self","name","section"] (F1 C CL CJ))(C6:bT P w K mg base 12 "tie" C ["self","kind","one","other"] (Qd C CL CJ)):aG P w K mg base aM 13 f fd ["_law_book","_law_fact_here"] (Q6 C CL CJ):=by
 refine F.o Zc λaB A outer s H vs Q E hr h=>?_;obtain⟨l,b,xs,ys,c,ff,rfl,ba,ok,hf,fg,lim,hw,dl,q⟩:=h;refine⟨_,(ak (aR (bA cq (a_ (iT K) (pv 1) aL) bq) (au (aF (cC tR hr (by omega) (pv 0) (aa (a_ (iT K) (pv 1) aL) (aa (a_ (iT K) (pv 1) aL) ag))))) aW) (au (aF (cC C6 hr (by omega) (pv 0) (aa (a_ (iT K) (pv 1) aL) (aa (a_ (iT K) (pv 1) aL) (aa (a_ (iT K) (pv 1) aL) ag))))))),?_⟩;obtain⟨dx,ho⟩:=ba.obj;refine⟨_,rfl,ff,_,_,_,rfl,rfl,aA.of hf,rfl,rfl,_,rfl,?_⟩;rw[dP];refine bB (λcc=>?_) (λcc=>aV ?_)
 ·have sk:c.k=aY:=of_decide_eq_true cc;have eo:kV (bg b.ps c)=.int c.aK:=by rw[jz sk];rfl
  exact⟨_,rfl,l.h,dx,_,rfl,ho,rfl,_,rfl,ff,_,_,_,rfl,rfl,aA.of hf,rfl,_,rfl,ff,_,_,_,rfl,rfl,aA.of hf,rfl,l,b,xs,ys,c,by rw[eo];rfl,ba,ok,⟨E4 ok fg lim hw,sk⟩,dl,λl' H' wt JK=>q l' H' wt JK⟩
 ·have ns:c.k≠aY:=λz=>cc (decide_eq_true z);have eo:kV (bg b.ps c)=.str (aq b.ps c.aK.toNat):=by rw[hJ ns];rfl
  exact⟨_,rfl,l.h,dx,_,rfl,ho,rfl,_,rfl,ff,_,_,_,rfl,rfl,aA.of hf,rfl,_,rfl,ff,_,_,_,rfl,rfl,aA.of hf,rfl,_,rfl,ff,_,_,_,rfl,rfl,aA.of hf,rfl,l,b,xs,ys,c,by rw[eo];rfl,ba,ok,Zbj ok fg lim hw ns,dl,λl' H' wt JK=>q l' H' wt JK⟩
theorem kY:aN ["_law_book","_law_state","_law_cell_here","_law_turns_here","_law_salt","_law_names","_law_sides","_law_facts","_law_after_here","_law_drawn","_law_name_here","_law_side","_law_fact_here","_law_out"] ["_law_book","_law_state","_law_cell_here","_law_turns_here","_law_salt"] (aH DZ):=.aU
theorem XJ(F:aJ K "_law_step" "_law_step" DZ f fd)(nP:HasFn P w K mg base 1 "_law_draws" ["_law_cell_here","_law_parts"] (zt K))(D9:HasFn P w K mg base 1 "_law_name" ["_law_k","_law_salt"] Qm)(D_:HasFn P w K mg base 2 "_law_fact" ["_law_names","_law_sides","_law_drawn","_law_size"] Qi)(Ea:HasFn P w K mg base 4 "_law_word" ["_law_sides","_law_facts","_law_turns_here","_law_fact_here"] Qg)(EA:HasFn P w K mg base 13 "_law_put" ["_law_book","_law_fact_here"] (Q6 C CL CJ))(Cf:bT P w K mg base 11 "person" C ["self","name","side"] (M9 C CL CJ))(CN:bT P w K mg base 11 "take" C ["self","number"] (Qa C CL CJ))(bl:Bl mg):aG P w K mg base aM 14 f fd ["_law_book","_law_state","_law_cell_here","_law_turns_here","_law_salt"] (OS C CL CJ):=by
 refine F.o kY λaB A outer s H vs Q E hr h=>?_;obtain⟨xs,ys,z,j,cell,td,l,b,nl,sd,fl,st,rfl,si,hz,hj,q⟩:=h;have hu:=hr.uu;refine⟨_,(ak (mK (pv 1) (hV (K:=K) (n:=4) rfl rfl (bL (bj 5 kY.nd) (bL (bj 6 kY.nd) (bL (bj 7 kY.nd) (bL (bj 8 kY.nd) hU)))))) (ak (bP 9 kY.nd (aP nP hr (aa (pv 2) (aa (c8 (aa aL (aa aL (aa aL (aa aL (aa aL ag)))))) ag)))) (ak (aR (PW.pt (pw_or (bA mQ (cU K bl (pv 5)) aL) (pw_or1 (bA mQ (a_ (iL K) (pv 9) aL) aL)))) (ak (bP 10 kY.nd (aP D9 hr (aa (cU K bl (pv 5)) (aa (pv 4) ag)))) (ak (bP 11 kY.nd (a_ (iL K) (c8 (aa bq (aa bq ag))) (a9 dU (a_ (iL K) (pv 9) aL) aL))) (ak (cy (cC Cf hr (by omega) (pv 0) (aa (pv 10) (aa (pv 11) ag)))) (ak (bP 6 kY.nd (d_ Xr rfl bl.Zc9 Zb5 (aa (pv 6) ag))) (ak (mE (bu hr) (pv 6) (pv 10) (pv 11)) (au (aF (dz (aa (a9 wy (pv 5) (c8 (aa (pv 10) ag))) (aa (pv 6) (aa (pv 7) (aa (pv 8) ag)))))))))))) aW) (ak (aR (bA mQ (a_ (iL K) (pv 9) aL) aL) (ak (bP 12 kY.nd (aP D_ hr (aa (pv 5) (aa (pv 6) (aa (pv 9) (aa (cU K bl (c_ (bu hr) (pv 3) bq (λ_ _=>rfl))) ag)))))) (ak (aR (bA lH (aP Ea hr (aa (pv 6) (aa (pv 7) (aa (pv 3) (aa (pv 12) ag))))) bq) (au (aF (pv 1))) aW) (ak (cy (aP EA hr (aa (pv 0) (aa (pv 12) ag)))) (au (aF (dz (aa (pv 5) (aa (pv 6) (aa (a9 wy (pv 7) (c8 (aa (a9 ZbJ (dz (aa (pv 8) ag)) (pv 12)) ag))) (aa (a9 gU (pv 8) aL) ag)))))))))) aW) (ak (aR (bA (NV (K:=K) rfl (ZdC hu)) (pv 7) (c8 ag)) (au (aF (pv 1))) aW) (ak (f_ (i:=13) kY.nd rfl (Or.inr rfl) (a_ (iL K) (pv 7) (a9 dU (a_ (iL K) (pv 9) aL) (cU K bl (pv 7))))) (ak (cy (cC CN hr (by omega) (pv 0) (aa (a_ (iT K) (pv 13) aL) ag))) (au (aF (dz (aa (pv 5) (aa (pv 6) (aa (iM (x:="_law_one") (fr:=[("_law_out",13)]) (cl:=[("_law_out",s.heap.objs.size+1)]) rfl (.fW ⟨rfl,trivial⟩ ⟨⟨rfl,.inl rfl,.inl rfl,rfl⟩,trivial⟩) (eY (K:=K) rfl (pv 7)) (λ_ _ _ _=>uj (bA (ZdP (K:=K) rfl hu) (pv 0) (pv 1))) (λ_ _ _ _=>(pv 0))) (aa (pv 8) ag)))))))))))))),?_⟩;have sz:(10000:Nat)<=sizeLine:=by rw[sizeLine_eq];omega
 refine⟨_,rfl,st,_,rfl,aA.of si.tup,rfl,_,_,rfl,bb ⟨_,_,rfl,bb ⟨_,_,rfl,bb ⟨_,_,rfl,bb ⟨rfl,?_⟩⟩⟩⟩⟩;dsimp only;refine bW ?_;refine⟨_,rfl,by show 5<=sizeLine;omega,λpp H1 np g1 hp=>⟨cell,pp,[16,61,59,8,4],rfl,aj.of hp,by decide,by decide,λdr ds H2 nd g2 h2 bd=>?_⟩⟩;obtain⟨d0,d1,d2,d3,d4,rfl,_,_,_,_,b4⟩:=Zcb bd;have kU:=g1.trans g2;have s2:=si.same kU;obtain⟨dx,ho⟩:=s2.ba.obj;have Bv:=wI b.ps;have cp:=si.cp;have cf:=si.cf;have cd:=si.cd;have Br:=si.ok.m;have f63:=si.ok.fl;have ix:∀{i:Int} {v:Int} {H9:Hp},ai H2 H9->dt ([d0,d1,d2,d3,d4].map V.int) i=some (.int v)->∀σ:St,σ[9]?=some (some (.ref dr))->Vt (iY (uH K) (gq 9) (tC (V.int i))) σ H9 (.int v):=λg e σ hσ kk hk=>⟨_,hσ,dr,_,_,_,rfl,rfl,aj.of (g _ _ h2),e,hk _ (ai.refl _)⟩;refine(Bt.or (a:=decide (((jw b.ps).length:Int)<2)) (b:=decide (d0<5)) (λkk hk=>⟨_,rfl,nl,_,rfl,.inl (aj.of s2.names),_,_,rfl,rfl,_,rfl,hk _ (ai.refl _)⟩) λH3 _ g3 kk hk=>ix g3 rfl _ rfl _ λH4 g4=>⟨_,_,rfl,rfl,_,rfl,hk _ g4⟩) _ λH3 g3=>?_;have s3:=s2.same g3;have js:=kU.trans g3;rw[Bv];refine bB (λcc=>?_) (λcc=>aV ?_)
 ·refine bW ?_;refine⟨_,rfl,nl,_,rfl,.inl (aj.of s3.names),_,rfl,b.ps.length,z,by rw[Bv];rfl,by omega,hz,?_⟩;refine bW ?_;obtain⟨sx,es,so⟩:=ZcG (d:=d1);refine⟨by show 2<=sizeLine;omega,λsl H4 IC g4 hsl=>ix (g3.trans g4) rfl _ rfl _ λH5 g5=>⟨_,_,rfl,rfl,by omega,sl,_,_,_,rfl,rfl,aj.of (g5 _ _ hsl),es,?_⟩⟩;have s5:=(s3.same g4).same g5;have Bx:=(js.trans g4).trans g5;obtain⟨JM,JN⟩:=s5.ba.obj;refine⟨_,rfl,l.h,JM,_,rfl,JN,rfl,_,rfl,_,rfl,l,b,xs,ys,df z b.ps.length,sx,rfl,s5.ba,s5.ok,s5.fresh hj sx so,by omega,λl' H6 wt ph=>?_⟩;have JO:=s5.fresh hj sx so;dsimp only;refine bW ?_;have off:=λ{a:Addr} {o:HO} (h:H5 a=some o) (n:a∉l.fp)=>wt.off h n;obtain⟨yA,Am⟩:=off s5.cW s5.n2;obtain⟨yB,An⟩:=off s5.names s5.n1;obtain⟨as,vK,dR⟩:=s5.facts;obtain⟨vL,GW⟩:=off vK s5.n3;refine⟨_,rfl,sd,_,rfl,yA,λs' H7 c9 g7 lV=>?_⟩;have vn:aO (fX b.ps) (.inr (df z b.ps.length))=none:=pA λhm=>JO.new (by
   obtain⟨p,hp,e⟩:=Ye.mp hm;obtain⟨p',hp',rfl⟩:=Ye.mp hp;exact Ye.mpr ⟨p',hp',Wk e⟩)
  refine⟨_,rfl,_,rfl,_,rfl,s',_,.inr (df z b.ps.length),rfl,lV,rfl,by rw[Ya];omega,λH8 b8 e8=>?_⟩;have j9:ai H6 H8:=λc o e=>b8 _ _ (g7 _ _ e) (bX e c9);rw[ke _ vn] at e8;refine⟨_,rfl,_,rfl,by show 1<=sizeLine;omega,λt H9 nt g9 ht=>⟨nl,t,_,_,rfl,rfl,g9 _ _ (j9 _ _ yB),ht,by rw[Bv];show _+1<=_;omega,λn' HA nn' gA uU=>⟨_,rfl,_,rfl,_,rfl,by show 4<=sizeLine;omega,λaI HB AV gB eB=>?_⟩⟩⟩;have yC:=(g9.trans gA).trans gB;have kW:=j9.trans yC;have pe:(b.Gk (df z b.ps.length) sx).ps=b.ps++[(df z b.ps.length,sx)]:=rfl;obtain⟨tm,tf,tw,ts,dw,_⟩:=id s5.turns;refine q l' (b.Gk (df z b.ps.length) sx) n' s' fl aI HB ((bM.after Bx wt).same kW) ⟨ph.same kW,si.ok.ZfJ JO.new JO.lim (Yd _) (by rw[Yk];show _+1<=200;omega) (Yw _),?_,((ph.same j9).same g9).fresh nn',?_,ph.fresh c9,⟨as,kW _ _ vL,?_⟩,GW,eB,(wt.eK s5.ba s5.turns s5.n4).same kW,(off dw s5.n4).2,nm_more si.nm sx,si.so,?_,?_,?_⟩ (by rw[pe,Yk];exact Nat.succ_pos _)
  ·rw[gB _ _ uU,pe,jw,jw,Yn];rfl
  ·rw[yC _ _ e8,pe];show _=some (HO.dK ((b.ps++[(df z b.ps.length,sx)]).map _));rw[Yn];rfl
  ·have:=ud wt s5.ba dR;refine XI (λa p hp e=>?_) this;exact dM.ext (si.ok.fg p hp) (kW _ _ e)
  ·rw[pe,Yk];show _+1<=_;omega
  ·rw[pe,Yk];show _+1+b.fs.length<=_;omega
  ·show(b.dn++[_]).length<=_;rw[Yk];show _+1<=_;omega
 have p0:0<b.ps.length:=by
  rw[JD,decide_eq_true_iff] at cc;omega
 refine⟨_,rfl,dr,_,_,_,rfl,rfl,aj.of (g3 _ _ h2),rfl,_,_,rfl,rfl,_,rfl,?_⟩;refine bB (λcc2=>?_) (λcc2=>aV ?_)
 ·refine bW ?_;obtain⟨tm,tf,tw,u0,dw,_,_,_,vI⟩:=id s3.turns;refine⟨_,rfl,_,rfl,_,rfl,_,rfl,td,.ref u0,rfl,cV dw rfl,u0,_,rfl,.inr (aA.of vI),nl,sd,dr,b.ps,xs,ys,d0,d1,d2,d3,d4,by rw[Ya,eM];rfl,s3.names,s3.cW,si.ok.nm,p0,by omega,g3 _ _ h2,b4,si.ok.gd,λc fg ff H4 Bw g4 tD=>?_⟩;have s4:=s3.same g4;refine⟨_,rfl,_,rfl,_,rfl,_,rfl,sd,fl,td,ff,xs,ys,b,c,rfl,s4.cW,s4.FL,s4.turns,tD,si.ok,fg,λH5 g5=>⟨rfl,_,rfl,?_⟩⟩;have s5:=s4.same g5;have Bx:=(js.trans g4).trans g5;rw[dP];refine bB (λcw=>?_) (λcw=>aV ?_);·exact⟨_,rfl,q l b nl sd fl st H5 (bM.of Bx) s5.more p0⟩
  have hw:mU xs.length b c="":=by
   by_cases e:mU xs.length b c="";·exact e
   ·rw[decide_eq_false e] at cw;exact absurd rfl cw
  have nf:=E4 si.ok fg (by omega) hw;refine⟨_,rfl,_,rfl,l,b,xs,ys,c,ff,rfl,s5.ba,si.ok,g5 _ _ tD,fg,by omega,hw,by omega,λl' H6 wt ph=>?_⟩;have off:=λ{a:Addr} {o:HO} (h:H5 a=some o) (n:a∉l.fp)=>wt.off h n;obtain⟨yA,Am⟩:=off s5.cW s5.n2;obtain⟨yB,An⟩:=off s5.names s5.n1;obtain⟨as,vK,dR⟩:=s5.facts;obtain⟨vL,GW⟩:=off vK s5.n3;have ff6:=wt.bQ s5.ba (g5 _ _ tD);have al:=cI dR;refine⟨_,rfl,_,rfl,_,rfl,_,rfl,by show 1<=sizeLine;omega,λt1 H7 nt1 g7 JH=>⟨_,rfl,t1,ff,_,_,rfl,rfl,aA.of JH,aA.of (g7 _ _ ff6),by simp,by show 1+3<=sizeLine;omega,λe=>(by cases e),λ_ t2 nt2=>?_⟩⟩;obtain⟨H8,e8⟩:∃H8,H8=upd H7 t2 (.tup ([V.int (b.co:Int)]++[V.str c.k,V.str (aq b.ps c.one),kV (bg b.ps c)])):=⟨_,rfl⟩;have g8:ai H7 H8:=by rw[e8];exact cj nt2 _
  have ht2:dM H8 b.ps t2 (b.co,c):=by
   show H8 t2=_;rw[e8,aS];rfl
  rw[←e8];have j9:=g7.trans g8;refine⟨by show 1<=sizeLine;omega,λl1 H9 nl1 g9 hl1=>⟨fl,l1,_,_,rfl,rfl,g9 _ _ (j9 _ _ vL),hl1,by rw[Ya];show _+1<=_;omega,λdm HA Zf2 gA Zf3=>⟨_,rfl,_,_,rfl,rfl,by show 4<=sizeLine;omega,λaI HB AV gB eB=>?_⟩⟩⟩;have yC:=(g9.trans gA).trans gB;have kW:=j9.trans yC;obtain⟨tm,tf,tw,ts,GX,_⟩:=id s5.turns;have Ut:=si.ok.lt;refine q l' (b.pX c) nl sd dm aI HB ((bM.after Bx wt).same kW) ⟨ph.same kW,?_,kW _ _ yB,An,kW _ _ yA,Am,⟨as++[t2],?_,?_⟩,((ph.same j9).same g9).fresh Zf2,eB,(wt.eK s5.ba s5.turns s5.n4).same kW,(off GX s5.n4).2,si.nm,?_,W0 cp,?_,?_⟩ p0
  ·exact si.ok.RN fg (λm=>by
    obtain⟨p,hp,e⟩:=Ye.mp m;have:=Ut p hp;omega) nf.nk nf.np nf.lv (by omega) (co:=b.co+1) (G6 _) (W8 _) (by rw[Yk];show _+1<=200;omega) (Yw _)
  ·rw[gB _ _ Zf3,Yn];rfl
  ·exact iH (F:=dM HB b.ps) (yC _ _ ht2) (L2.Paired.bw (ud wt s5.ba dR) λ_ _ e=>kW _ _ e)
  ·show((b.fs++[(b.co,c)]).map (·.1)).Pairwise _;rw[Yn];refine List.pairwise_append.mpr ⟨si.so,by simp,λu hu v hv=>?_⟩;obtain⟨p,hp,rfl⟩:=Ye.mp hu;have:v=b.co:=by simpa using hv
   rw[this];exact Ut p hp
  ·show _+(b.fs++[_]).length<=_;rw[Yk];show b.ps.length+(_+1)<=_;omega
  ·show(b.dn++[_]).length<=_;rw[Yk];show _+1<=_;omega
 obtain⟨as,vK,dR⟩:=s3.facts;have al:=cI dR;refine⟨_,rfl,by show 0<=sizeLine;omega,λe0 H4 yv g4 ya=>⟨fl,e0,_,rfl,rfl,aj.of (g4 _ _ vK),aj.of ya,_,rfl,bB (λce=>?_) (λce=>aV ?_)⟩⟩;·exact⟨_,rfl,q l b nl sd fl st H4 (bM.of (js.trans g4)) (s3.same g4).more p0⟩
 refine bW ?_;have s4:=s3.same g4;have f0:0<as.length:=by
  cases e:as with
  |nil=>rw[e] at ce;exact absurd rfl ce
  |cons _ _=>exact Nat.succ_pos _
 have mi:=wX (z:=d1) f0;refine⟨_,rfl,ix (g3.trans g4) rfl _ rfl _ λH5 g5=>?_⟩;have s5:=s4.same g5;have GY:=g5 _ _ (g4 _ _ vK);obtain⟨i,ei⟩:∃i:Nat,d1 % (as.length:Int)=(i:Int):=⟨(d1 % (as.length:Int)).toNat,by omega⟩;have hi:i<as.length:=by omega
 obtain⟨ao,Uu⟩:∃ao,as[i]?=some ao:=⟨_,Yb hi⟩;obtain⟨⟨z0,c0⟩,Uv,IV⟩:=fO dR Uu;have R4:=g5 _ _ (g4 _ _ IV);refine⟨_,rfl,fl,_,rfl,.inl (aj.of GY),_,_,rfl,rfl,by rw[Ya];omega,fl,_,_,.ref ao,rfl,rfl,aj.of GY,?_,?_⟩
 ·rw[Ya,ei];exact fF (by rw[Yg,Uu];rfl)
 obtain⟨JM,JN⟩:=s5.ba.obj;refine⟨_,rfl,l.h,JM,_,rfl,JN,rfl,_,rfl,ao,_,_,_,rfl,rfl,aA.of R4,rfl,l,b,xs,ys,z0,c0,rfl,s5.ba,si.ok,Yi Uv,by omega,λl' H6 wt ph=>?_⟩;have off:=λ{a:Addr} {o:HO} (h:H5 a=some o) (n:a∉l.fp)=>wt.off h n;obtain⟨yA,Am⟩:=off s5.cW s5.n2;obtain⟨yB,An⟩:=off s5.names s5.n1;obtain⟨vL,GW⟩:=off GY s5.n3;have Zf4:Paired (dM H5 b.ps) as b.fs:=L2.Paired.bw dR λ_ _ e=>g5 _ _ (g4 _ _ e);have R5:=ud wt s5.ba Zf4;have al5:=cI dR;have ao6:=wt.bQ s5.ba R4;refine⟨_,rfl,_,rfl,_,rfl,fl,rfl,⟨_,aj.of vL⟩,λD hD=>?_⟩;have qe:∀p∈b.fs,p.1=z0->p=(z0,c0):=λp hp e=>OT si.ok.zs hp (Yi Uv) e;refine DI (K:=K) (aj.of vL) (by rw[Ya];omega) hD (λi=>(b.fs[i]?.map λp=>decide (p.1≠z0)).getD false) (λi y _=>∃a,as[i]?=some a/\y=.ref a) (λ_ _ _ _ _ h=>h) (λi v hi H7 g7 _ Kt Kf kt kf=>?_) λus H7 g7 h7 pr=>?_
 ·rw[Yg] at hi;obtain⟨a,ea,rfl⟩:∃a,as[i]?=some a/\V.ref a=v:=by
   cases e:as[i]? with
   |none=>rw[e] at hi;cases hi
   |some c=>rw[e] at hi;exact⟨c,rfl,Yq hi⟩
  obtain⟨p,ep,hp⟩:=fO R5 ea;have mp:=Yi ep;have pb:(b.fs[i]?.map λp=>decide (p.1≠z0)).getD false=decide (p.1≠z0):=by rw[ep];rfl
  rw[pb] at kt kf;refine⟨_,rfl,_,rfl,a,ao,_,_,rfl,rfl,aA.of (g7 _ _ hp),aA.of (g7 _ _ ao6),Qo _,Qo _,_,rfl,?_⟩;have ed:(!decide ((dJ b.ps p.1 p.2).map kV=(dJ b.ps z0 c0).map kV))=decide (p.1≠z0):=by
   by_cases e:p.1=z0
   ·rw[qe p mp e];simp
   ·rw[decide_eq_true e,decide_eq_false (λh=>e ?_)];·rfl
    ·injection h with h1 _;have:=V.int.inj h1;omega
  show(if(!decide ((dJ b.ps p.1 p.2).map kV=(dJ b.ps z0 c0).map kV))=true then _ else _);rw[ed];cases e:decide (p.1≠z0) with
  |true=>exact cS ⟨_,rfl,kt _ H7 e (ai.refl _) ⟨a,ea,rfl⟩⟩
  |false=>exact bY (kf H7 e (ai.refl _))
 rw[Ya,al5] at pr;obtain⟨iu,rfl,Zf5⟩:∃iu:List Addr,us=iu.map V.ref/\Paired (dM H7 b.ps) iu (cQ z0 b.fs):=by
  have aux:∀{ys:List V} {is:List Nat} {gs:List (Nat×Fc)},Paired (λy i=>∃a,as[i]?=some a/\y=.ref a) ys is->is.map (λi=>b.fs[i]?)=gs.map some->∃as:List Addr,ys=as.map V.ref/\Paired (dM H7 b.ps) as gs:=by
   intro ys is gs pr;induction pr generalizing gs with
   |nil=>
    intro e;cases gs with
    |nil=>exact⟨[],rfl,.nil⟩
    |cons _ _=>cases e
   |cons f _ ih=>
    intro e;cases gs with
    |nil=>cases e
    |cons g gs=>
     obtain⟨a,e1,e2⟩:=f;obtain⟨p,ep,hp⟩:=fO R5 e1;injection e with e4 e5;obtain⟨as,r1,r2⟩:=ih e5;exact⟨a::as,by rw[e2,r1];rfl,.cons (by rw[←Yq (ep.symm.trans e4)];exact g7 _ _ hp) r2⟩
  exact aux pr (Zb b.fs λp=>decide (p.1≠z0))
 refine⟨_,rfl,by show 4<=sizeLine;omega,λaI H8 AV g8 eB=>?_⟩;have j9:=g7.trans g8;obtain⟨tm,tf,tw,ts,GX,_⟩:=id s5.turns;have sub:(cQ z0 b.fs).Sublist b.fs:=List.filter_sublist;refine q l' (b.without z0 c0) nl sd D aI H8 ((bM.after (((js.trans g4).trans g5)) wt).same j9) ⟨ph.same j9,si.ok.drop z0 (Yd _) (by rw[Yk];show _+1<=200;omega) (Yw _),j9 _ _ yB,An,j9 _ _ yA,Am,⟨iu,g8 _ _ h7,L2.Paired.bw Zf5 λ_ _ e=>g8 _ _ e⟩,ph.fresh hD,eB,(wt.eK s5.ba s5.turns s5.n4).same j9,(off GX s5.n4).2,si.nm,si.so.sublist (sub.map _),W0 cp,W0 (Y4 (Nat.add_le_add_left sub.length_le _) cf),?_⟩ p0;show(b.dn++[_]).length<=_;rw[Yk];show _+1<=_;omega
end
theorem cg.nil(gd:mS xs ys):cg xs ys ⟨[],[],0,[],[]⟩:=
 ⟨gd,W1,Yw _,Yw _,λ_ h=>(nomatch h),W1,λ_ h=>(nomatch h),W1,W1,⟨λ_=>0,λ_ h=>absurd h (Wm _),λ_ h=>(nomatch h)⟩,Yw _,Yw _⟩
inductive OU(C CL CJ:Addr)(vs:List V)(H:Hp)(Q:VK):Prop
 |mk (xs ys:List Int) (z:Nat) (ca td:Addr) (l:BL) (b:BS) (cs:List Int) (aC:vs=[.ref l.h,.ref ca,.ref td,.int (z:Int)]) (ba:a8 H C CL CJ l xs ys b) (eb:b=⟨[],[],0,[],[]⟩) (gd:mS xs ys) (hc:H ca=some (.lst (cs.map V.int))) (nc:ca∉l.fp) (ht:eK H td xs ys) (nt:td∉l.fp) (hz:z<97) (lc:cs.length<=59) (q:∀(l':BL) (b':BS) (jZ iF dm aI:Addr) (H':Hp),bM H H' l l'->fw C CL CJ H' xs ys z 59 td l' b' jZ iF dm aI->Q (.ref aI) H'):OU C CL CJ vs H Q
def Qp(C CL CJ:Addr):Sp:=λvs H Q _=>OU C CL CJ vs H Q
section
theorem yN:aN ["_law_book","_law_cells","_law_turns_here","_law_salt","_law_state","_law_cell_here"] ["_law_book","_law_cells","_law_turns_here","_law_salt"] (aH D0):=.aU
theorem XM(F:aJ K "_law_grow" "_law_grow" D0 f fd)(Eb:HasFn P w K mg base 14 "_law_step" ["_law_book","_law_state","_law_cell_here","_law_turns_here","_law_salt"] (OS C CL CJ))(bl:Bl mg):aG P w K mg base aM 15 f fd ["_law_book","_law_cells","_law_turns_here","_law_salt"] (Qp C CL CJ):=by
 refine F.o yN λaB A outer s H vs Q E hr h=>?_;obtain⟨xs,ys,z,ca,td,l,b,cs,rfl,ba,rfl,gd,hc,nc,ht,nt,hz,lc,q⟩:=h;refine⟨_,(ak (bP 4 yN.nd (dz (aa (c8 ag) (aa nT (aa (c8 ag) (aa aL ag)))))) (ak (fH PassesOwn.never rfl (eY (K:=K) rfl (pv 1)) (bj 5 yN.nd) (au (bP 4 yN.nd (aP Eb hr (aa (pv 0) (aa (pv 4) (aa (pv 5) (aa (pv 2) (aa (pv 3) ag))))))))) (au (aF (pv 4))))),?_⟩;have sz:(10000:Nat)<=sizeLine:=by rw[sizeLine_eq];omega
 refine bW ?_;refine⟨by show 0<=sizeLine;omega,λnl H1 n1 g1 h1=>?_⟩;refine λsd H2 n2 g2 h2=>?_;refine⟨by show 0<=sizeLine;omega,λfl H3 n3 g3 h3=>⟨by show 4<=sizeLine;omega,λst H4 n4 g4 h4=>?_⟩⟩;have qA:=((g1.trans g2).trans g3).trans g4;have bZ:=ba.same g1;have mj:=bZ.same g2;have si:fw C CL CJ H4 xs ys z 0 td l ⟨[],[],0,[],[]⟩ nl sd fl st:=⟨ba.same qA,cg.nil gd,g4 _ _ (g3 _ _ (g2 _ _ h1)),ba.fresh n1,g4 _ _ (g3 _ _ h2),bZ.fresh n2,⟨[],g4 _ _ h3,.nil⟩,mj.fresh n3,h4,ht.same qA,nt,rfl,List.Pairwise.nil,Yw _,Yw _,Yw _⟩;refine fP (λσ H6=>∃(l':BL) (b':BS) (jZ iF dm aI:Addr) (o5:Option V),bM H H6 l l'/\fw C CL CJ H6 xs ys z 59 td l' b' jZ iF dm aI/\σ=[some (.ref l.h),some (.ref ca),some (.ref td),some (.int (z:Int)),some (.ref aI),o5]) (λl9 eG=>?_) ?_
 ·refine⟨_,rfl,ca,rfl,⟨_,aj.of (qA _ _ hc)⟩,jA (K:=K) (a:=ca) (xs:=cs.map V.int) (λj σ H6=>∃(l':BL) (b':BS) (jZ iF dm aI:Addr) (o5:Option V),bM H H6 l l'/\fw C CL CJ H6 xs ys z j td l' b' jZ iF dm aI/\σ=[some (.ref l.h),some (.ref ca),some (.ref td),some (.int (z:Int)),some (.ref aI),o5])
   ⟨l,_,nl,sd,fl,st,none,bM.of qA,si,rfl⟩ (λj σ H6 _ ⟨_,_,_,_,_,_,_,wt,_⟩=>aj.of (wt.off hc nc).1) ?_ ?_⟩
  ·rintro j v σ H6 hj ⟨l',b',jZ,iF,dm,aI,o5,wt,s6,rfl⟩;obtain⟨x,rfl,hx⟩:=mG hj;have jl:j<cs.length:=(Yh.mp hx).1;refine bb ?_;rw[←wt.h];refine⟨_,rfl,_,rfl,_,rfl,_,rfl,_,rfl,xs,ys,z,j,x,td,l',b',jZ,iF,dm,aI,rfl,s6,hz,by omega,λl2 b2 IG Hy fl2 dQ H7 wt7 s7 _=>bb ⟨l2,b2,IG,Hy,fl2,dQ,_,wt.trans wt7,s7,rfl⟩⟩
  ·rintro σ H6 ⟨l',b',jZ,iF,dm,aI,o5,wt,s6,rfl⟩;rw[Ya] at s6;exact eG _ _ ⟨l',b',jZ,iF,dm,aI,o5,wt,⟨s6.ba,s6.ok,s6.names,s6.n1,s6.cW,s6.n2,s6.facts,s6.n3,s6.tup,s6.turns,s6.n4,s6.nm,s6.so,Y4 s6.cp lc,Y4 s6.cf lc,Y4 s6.cd lc⟩,rfl⟩
 rintro σ H6 ⟨l',b',jZ,iF,dm,aI,o5,wt,s6,rfl⟩;exact⟨_,rfl,q l' b' jZ iF dm aI H6 wt s6⟩
end
theorem fw.xu{C CL CJ:Addr}{H H':Hp}{xs ys:List Int}{z j:Nat}{td:Addr}{l l':BL}{b:BS}{nl sd fl st:Addr}(s:fw C CL CJ H xs ys z j td l b nl sd fl st)(w:bM H H' l l')(ba:a8 H' C CL CJ l' xs ys b):fw C CL CJ H' xs ys z j td l' b nl sd fl st:=by
 obtain⟨a1,c1⟩:=w.off s.names s.n1;obtain⟨a2,c2⟩:=w.off s.cW s.n2;obtain⟨as,h1,h2⟩:=s.facts;obtain⟨a3,c3⟩:=w.off h1 s.n3;obtain⟨_,_,_,_,dw,_⟩:=id s.turns;exact⟨ba,s.ok,a1,c1,a2,c2,⟨as,a3,ud w s.ba h2⟩,c3,w.bQ s.ba s.tup,w.eK s.ba s.turns s.n4,(w.off dw s.n4).2,s.nm,s.so,s.cp,s.cf,s.cd⟩
theorem fw.good{C CL CJ:Addr}{H:Hp}{xs ys:List Int}{z j:Nat}{td:Addr}{l:BL}{b:BS}{nl sd fl st:Addr}(s:fw C CL CJ H xs ys z j td l b nl sd fl st):(∀c∈b.F,dN xs ys b.ps.length c)/\b.F.length<=64:=by
 refine⟨λc hc=>?_,?_⟩
 ·obtain⟨p,hp,rfl⟩:=Ye.mp (show c∈b.fs.map (·.2) from hc);exact s.ok.fg p hp
 ·show(b.fs.map (·.2)).length<=64;rw[Ya];exact W0 s.ok.fl
theorem ZcH{ds:List Int}{a:Int}(h:Paired Bd ds [a]):∃v,ds=[v]/\Bd v a:=by
 cases h with
 |cons r t=>cases t;exact⟨_,rfl,r⟩
theorem zR:At H 3 (.int i) (.int i):=by unfold At;rfl
theorem Zbl(h:xs.length<=63):(kH xs (some 4) none).length<=59:=by
 unfold kH;have e:HT.fT xs.length 0 (some 4)=min 4 xs.length:=HT.ZbH _ _ 4
 grind
theorem OV{ps:bo}{j:Nat}(h:j<ps.length):(jw ps)[j]?=some (.str (aq ps j)):=by
 unfold jw aq;rw[Yg,Yb h,Yl,Yb h];rfl
theorem Lb(ok:cg xs ys b)(hi:i<b.ps.length):∃(r:Int) (rs:List Int),cA b.F xs.length i=r::rs:=by
 obtain⟨f,inr,sat⟩:=ok.lv;have fL:∀c∈b.F,dB xs.length b.ps.length c:=λc hc=>by
  obtain⟨p,hp,rfl⟩:=Ye.mp (show c∈b.fs.map (·.2) from hc);exact(ok.fg p hp).ok
 have m:=qN.mpr ⟨inr i hi,Kd fL hi inr sat⟩;cases e:cA b.F xs.length i with
 |nil=>grind
 |cons r rs=>grind
theorem Kv(p:Paired R as bs)(h:a∈as):∃b∈bs,R a b:=by
 induction p with
 |nil=>cases h
 |cons e _ ih=>grind
inductive L9(C CL CJ:Addr)(vs:List V)(H:Hp)(Q:VK):Prop
 |mk (l:BL) (b:BS) (xs ys:List Int) (i:Nat) (aC:vs=[.ref l.h,.str (aq b.ps i)]) (ba:a8 H C CL CJ l xs ys b) (nm:(b.ps.map (·.1)).Nodup) (hi:i<b.ps.length) (q:Q (.int (i:Int)) H):L9 C CL CJ vs H Q
def E5(C CL CJ:Addr):Sp:=λvs H Q _=>L9 C CL CJ vs H Q
inductive Np(C CL CJ:Addr)(vs:List V)(H:Hp)(Q:VK):Prop
 |mk (l:BL) (b:BS) (xs ys:List Int) (i:Nat) (aC:vs=[.ref l.h,.str (aq b.ps i)]) (ba:a8 H C CL CJ l xs ys b) (ok:cg xs ys b) (hi:i<b.ps.length) (q:∀(l':BL) (H1:Hp) (p:Addr) (H':Hp),bM H H1 l l'->a8 H1 C CL CJ l' xs ys b->(l.rk≠.ay->H1=H/\l'=l)->H1 p=none->ai H1 H'->H' p=some (.lst ((cA b.F xs.length i).map V.int))->Q (.ref p) H'):Np C CL CJ vs H Q
def OW(C CL CJ:Addr):Sp:=λvs H Q _=>Np C CL CJ vs H Q
section
theorem UW:aN ["self","name"] ["self","name"] (aH BR):=.aU
theorem XN(F:aJ K "place_of" "Hearth.place_of" BR f fd)(hc:fG K C):aG P w K mg base aM 1 f fd ["self","name"] (E5 C CL CJ):=by
 refine F.o UW λaB A outer s H vs Q E hr h=>?_;obtain⟨l,b,xs,ys,i,rfl,ba,nm,hi,q⟩:=h;refine⟨_,(ak (aR (je (kZ (bu hr) (pv 1) (pF K 0)) (by with_unfolding_all rfl)) fD aW) (au (aF (c_ (bu hr) (pF K 0) (pv 1) (λ_ _=>rfl))))),?_⟩;obtain⟨dx,h1⟩:=ba.obj;have pg:=qV nm hi;exact⟨_,rfl,_,rfl,l.h,C,dx,_,_,rfl,h1,hc.cls,hc.qQ,rfl,l.pl,some _,rfl,cV ba.places pg,_,rfl,bY (aV ⟨_,rfl,l.h,C,dx,_,_,rfl,h1,hc.cls,hc.qQ,rfl,_,rfl,l.pl,_,rfl,cV ba.places pg,q⟩)⟩
theorem Ze:aN ["hearth","name"] ["hearth","name"] (aH Em):=.aU
theorem Zf(F:aJ K "open_of" "open_of" Em f fd)(j_:bT P w K mg base 8 "joins" C ["self"] (wD C CL CJ))(tG:bT P w K mg base 1 "place_of" C ["self","name"] (E5 C CL CJ))(jx:bT P w K mg base 2 "open_at" CJ ["self","one"] (wo CJ)):aG P w K mg base aM 9 f fd ["hearth","name"] (OW C CL CJ):=by
 refine F.o Ze λaB A outer s H vs Q E hr h=>?_;obtain⟨l,b,xs,ys,i,rfl,ba,ok,hi,q⟩:=h;refine⟨_,(au (aF (cC jx hr (by omega) (oo j_ hr (by omega) (pv 0)) (aa (cC tG hr (by omega) (pv 0) (aa (pv 1) ag)) ag)))),?_⟩;obtain⟨dx,ho⟩:=ba.obj;refine⟨_,rfl,l.h,dx,_,rfl,ho,rfl,l,b,xs,ys,rfl,ba,ok,λl' jl st H1 w1 bZ e1 e2 ja me len eV sm=>?_⟩;obtain⟨dy,hj⟩:=ja.obj;obtain⟨qp,sC⟩:=bZ.obj;rw[w1.h] at sC;have ir:i<st.hd.length:=by rw[len];exact hi
 have one:=me.wf.one ok.gd.2.2.2.2 ir;refine⟨jl.J,dy,_,rfl,hj,rfl,_,rfl,l.h,qp,_,rfl,sC,rfl,_,rfl,l',b,xs,ys,i,by rw[w1.h];rfl,bZ,ok.nm,hi,jl,st,xs.length,i,_,_,_,rfl,ja,one.hd,one.ld,one.fr,one.e_,one.eT,λp ns H2 np g2 pm so hp=>?_⟩;rw[me.opn ir pm so] at hp;exact q l' H1 p H2 w1 bZ sm np g2 hp
end
def cz(hd:Nat->Nat):Nat->List (Nat×List Nat)
 |0=>[]
 |j+1=>match(cz hd j).lookup (hd j) with
  |some is=>cT (hd j) (is++[j]) (cz hd j)
  |none=>cz hd j++[(hd j,[j])]
def jI(hd:Nat->Nat)(j x:Nat):List Nat:=(List.range j).filter λk=>decide (hd k=x)
open Classical in
noncomputable def pY (hd:Nat->Nat) (j:Nat):List Nat:=(List.range j).filter λi=>decide (∀k,k<i->hd k≠hd i)
theorem Lc{hd:Nat->Nat}{g:Nat->List Nat}{x:Nat}:∀{R:List Nat},((R.map λi=>(hd i,g (hd i))).lookup x=some (g x)/\x∈R.map hd)\/((R.map λi=>(hd i,g (hd i))).lookup x=none/\x∉R.map hd)
 |[]=>.inr ⟨rfl,by simp⟩
 |i::R=>by
  rw[Wl,Wl,Wv];by_cases e:x=hd i
  ·rw[beq_iff_eq.mpr e];exact .inl ⟨by rw[e],by rw[e];exact Yf⟩
  ·rw[beq_eq_false_iff_ne.mpr e];rcases Lc (hd:=hd) (g:=g) (x:=x) (R:=R) with⟨a,b⟩|⟨a,b⟩;·exact .inl ⟨a,Yu _ b⟩
   ·exact .inr ⟨a,λz=>(Yp.mp z).elim e b⟩
theorem EB(hd:Nat->Nat)(j x:Nat):jI hd (j+1) x=jI hd j x++if hd j=x then[j] else[]:=by
 unfold jI;rw[Jk,Y9,Wb];by_cases e:hd j=x;·rw[if_pos (decide_eq_true e),if_pos e];rfl
 ·rw[if_neg (by rw[decide_eq_false e];exact Yj),if_neg e];rfl
open Classical in
theorem Nq{hd:Nat->Nat}{j x:Nat}:x∈(pY hd j).map hd↔∃k,k<j/\hd k=x:=by
 unfold pY;constructor
 ·intro h;obtain⟨i,hi,rfl⟩:=Ye.mp h;exact⟨i,Y7.mp (Yy.mp hi).1,rfl⟩
 ·rintro⟨k,hk,rfl⟩;induction k using Nat.strongRecOn with
  |ind k ih=>
   by_cases r:∀i,i<k->hd i≠hd k;·exact Ye.mpr ⟨k,Yy.mpr ⟨Y7.mpr hk,decide_eq_true r⟩,rfl⟩
   ·have⟨i,hi,e⟩:∃i,i<k/\hd i=hd k:=by
     by_cases z:∃i,i<k/\hd i=hd k;·exact z
     ·exact absurd (λi hi e=>z ⟨i,hi,e⟩) r
    rw[←e];exact ih i hi (by omega)
open Classical in
theorem OX(hd:Nat->Nat):∀j,cz hd j=(pY hd j).map λi=>(hd i,jI hd j (hd i))
 |0=>rfl
 |j+1=>by
  have ih:=OX hd j;have er:pY hd (j+1)=pY hd j++if ∀k,k<j->hd k≠hd j then[j] else[]:=by
   unfold pY;rw[Jk,Y9,Wb];by_cases e:∀k,k<j->hd k≠hd j;·rw[if_pos (decide_eq_true e),if_pos e];rfl
   ·rw[if_neg (by rw[decide_eq_false e];exact Yj),if_neg e];rfl
  show(match(cz hd j).lookup (hd j) with|some is=>cT (hd j) (is++[j]) (cz hd j)|none=>cz hd j++[(hd j,[j])])=_;rw[ih];rcases Lc (hd:=hd) (g:=jI hd j) (x:=hd j) (R:=pY hd j) with⟨a,b⟩|⟨a,b⟩
  ·rw[a,er,if_neg (λh=>by obtain⟨k,hk,e⟩:=Nq.mp b;exact h k hk e),Y8];show cT (hd j) (jI hd j (hd j)++[j]) _=_;unfold cT;rw[Wa];refine Wj λi _=>?_;show(if hd i=hd j then(hd i,jI hd j (hd j)++[j]) else(hd i,jI hd j (hd i)))=(hd i,jI hd (j+1) (hd i));rw[EB];by_cases e:hd i=hd j;·rw[if_pos e,if_pos e.symm,e]
   ·rw[if_neg e,if_neg (λz=>e z.symm),Y8]
  ·have no:∀k,k<j->hd k≠hd j:=λk hk e=>b (Nq.mpr ⟨k,hk,e⟩);rw[a,er,if_pos no,Yn];show _++[(hd j,[j])]=_++[(hd j,jI hd (j+1) (hd j))];have ec:jI hd j (hd j)=[]:=List.filter_eq_nil_iff.mpr λk hk=>by
    rw[decide_eq_true_iff];exact no k (Y7.mp hk)
   rw[EB,if_pos rfl,ec]
   congr 1
   refine Wj λi hi=>?_;rw[EB,if_neg (λz=>b (Ye.mpr ⟨i,hi,z.symm⟩)),Y8]
open Classical in
noncomputable def Ao (F:List Fc) (m:Nat):List (List Nat):=((List.range m).filter λi=>decide (∀k,k<i->¬bJ F k i)).map λi=>(List.range m).filter λk=>decide (bJ F i k)
open Classical in
theorem Zbm{n:Nat}{st:JS}{F:List Fc}(me:dk n st F):(cz st.ae st.hd.length).map (·.2)=Ao F st.hd.length:=by
 rw[OX,Wa];unfold Ao pY;have e1:(List.range st.hd.length).filter (λi=>decide (∀k,k<i->st.ae k≠st.ae i))=(List.range st.hd.length).filter λi=>decide (∀k,k<i->¬bJ F k i):=Wz λi hi=>by
  have im:=Y7.mp hi;rw[Wc,decide_eq_true_iff,decide_eq_true_iff];exact⟨λh j hj c=>h j hj ((me.conn j i (by omega) im).mpr c),λh j hj z=>h j hj ((me.conn j i (by omega) im).mp z)⟩
 rw[e1];refine Wj λi hi=>?_;have im:=Y7.mp (Yy.mp hi).1;show jI st.ae st.hd.length (st.ae i)=_;unfold jI;refine Wz λk hk=>?_;have km:=Y7.mp hk;rw[Wc,decide_eq_true_iff,decide_eq_true_iff];exact⟨λe=>(me.conn i k im km).mp e.symm,λc=>((me.conn i k im km).mpr c).symm⟩
inductive L_(C:Addr)(vs:List V)(H:Hp)(Q:VK):Prop
 |mk (l:JL) (st:JS) (n i a:Nat) (aC:vs=[.ref l.J,.int (i:Int)]) (aT:cB H C n l st) (bc:st.hd[i]?=some a) (cE:Q (.int (a:Int)) H):L_ C vs H Q
def Nr(C:Addr):Sp:=λvs H Q _=>L_ C vs H Q
def cO(ps:bo)(is:List Nat):List V:=is.map λi=>.str (aq ps i)
inductive Ma(C CL CJ:Addr)(vs:List V)(H:Hp)(Q:VK):Prop
 |mk (l:BL) (b:BS) (xs ys:List Int) (aC:vs=[.ref l.h]) (ba:a8 H C CL CJ l xs ys b) (ok:cg xs ys b) (q:∀(l':BL) (H1:Hp) (p:Addr) (as:List Addr) (H':Hp),bM H H1 l l'->a8 H1 C CL CJ l' xs ys b->l'.rk≠.ay->(l.rk≠.ay->H1=H/\l'=l)->H1 p=none->ai H1 H'->H' p=some (.lst (as.map V.ref))->Paired (λa is=>H' a=some (.lst (cO b.ps is))) as (Ao b.F b.ps.length)->(∀a∈as,H1 a=none)->(p::as).Nodup->Q (.ref p) H'):Ma C CL CJ vs H Q
def Nt(C CL CJ:Addr):Sp:=λvs H Q _=>Ma C CL CJ vs H Q
structure kK(ps:bo)(H0:Hp)(d:Addr)(gs:List (Nat×List Nat))(as:List Addr)(H':Hp):Prop where
 kp:∀c o,H0 c=some o->c≠d->H' c=some o
 dict:H' d=some (.dK (aX (gs.map (·.1)) as))
 pr:Paired (λa (g:Nat×List Nat)=>H' a=some (.lst (cO ps g.2))) as gs
 new:∀a∈as,H0 a=none
 nd:as.Nodup
theorem kK.to{ps:bo}{H0 H' H2:Hp}{d:Addr}{gs:List (Nat×List Nat)}{as:List Addr}(h:kK ps H0 d gs as H')(g:ai H' H2):kK ps H0 d gs as H2:=⟨λc o e n=>g _ _ (h.kp c o e n),g _ _ h.dict,L2.Paired.bw h.pr λ_ _ e=>g _ _ e,h.new,h.nd⟩
theorem Zbn{gs:List (Nat×List Nat)}{as:List Addr}{k:Nat}(h:k∉gs.map (·.1))(l:as.length=gs.length):aO (aX (gs.map (·.1)) as) (.inl (k:Int))=none:=pA λm=>h (by
 rw[K6 (by rw[Ya,l])] at m;obtain⟨z,hz,e⟩:=Ye.mp m;obtain⟨y,hy,rfl⟩:=Ye.mp hz;have:y=k:=by have:=J9 e;omega
 rw[←this];exact hy)
theorem Le:∀{ks:List Nat} {as:List Addr},ks.length=as.length->(aX ks as).map (·.2)=as.map V.ref
 |[],[],_=>rfl
 |k::ks,a::as,h=>by
  show V.ref a::(aX ks as).map (·.2)=_;rw[Le (Nat.succ.inj h)];rfl
 |[],_::_,h=>nomatch h
 |_::_,[],h=>nomatch h
theorem Zg{P:Addr->List Nat->Prop}{as:List Addr}{gs:List (Nat×List Nat)}(h:Paired (λa (g:Nat×List Nat)=>P a g.2) as gs):Paired P as (gs.map (·.2)):=by
 induction h with
 |nil=>exact .nil
 |cons r _ ih=>exact .cons r ih
theorem EC(hd:Nat->Nat):∀j,((cz hd j).map (·.1)).Nodup
 |0=>W1
 |j+1=>by
  show((match(cz hd j).lookup (hd j) with|some is=>cT (hd j) (is++[j]) (cz hd j)|none=>cz hd j++[(hd j,[j])]:List (Nat×List Nat)).map (λp=>p.1)).Nodup;cases e:(cz hd j).lookup (hd j) with
  |some is=>rw[nU];exact EC hd j
  |none=>
   rw[Yn];exact Wo.mpr ⟨EC hd j,by simp,λa ha b hb z=>Cb e (by have q:b=hd j:=Ym.mp hb;rw[←q,←z];exact ha)⟩
theorem E6(hd:Nat->Nat):∀j,(cz hd j).length<=j/\∀g∈cz hd j,g.2.length<=j
 |0=>⟨Yd _,λ_ h=>nomatch h⟩
 |j+1=>by
  obtain⟨h1,h2⟩:=E6 hd j;show((match(cz hd j).lookup (hd j) with|some is=>cT (hd j) (is++[j]) (cz hd j)|none=>cz hd j++[(hd j,[j])]).length<=j+1)/\∀g∈(match(cz hd j).lookup (hd j) with|some is=>cT (hd j) (is++[j]) (cz hd j)|none=>cz hd j++[(hd j,[j])]),g.2.length<=j+1;cases e:(cz hd j).lookup (hd j) with
  |some is=>
   refine⟨by show(cT _ _ _).length<=_;unfold cT;rw[Ya];omega,λg hg=>?_⟩;obtain⟨p,hp,rfl⟩:=Ye.mp (show g∈(cz hd j).map _ from hg);have:=h2 p hp;have:=h2 _ (lookup_mem e);by_cases c:p.1=hd j;·rw[if_pos c];show(is++[j]).length<=_;rw[Yk];simp at this⊢;omega
   ·rw[if_neg c];omega
  |none=>
   refine⟨by show(_++[_]).length<=_;rw[Yk];show _+1<=_;omega,λg hg=>?_⟩;rcases Yt.mp hg with z|z;·have:=h2 g z;omega
   ·rw[Ym.mp z];show 1<=_;omega
theorem kK.has{ps:bo}{H0 H' H2:Hp}{d a:Addr}{hd:Nat->Nat}{j:Nat}{as:List Addr}{is:List Nat}(h:kK ps H0 d (cz hd j) as H')(e:(cz hd j).lookup (hd j)=some is)(hv:aO (aX ((cz hd j).map (·.1)) as) (.inl (hd j:Int))=some (.ref a))(ma:a∈as)(ha:H' a=some (.lst (cO ps is)))(br:aw a H' H2)(ea:H2 a=some (.lst (cO ps is++[.str (aq ps j)]))):kK ps H0 d (cz hd (j+1)) as H2:=by
 have eg:cz hd (j+1)=cT (hd j) (is++[j]) (cz hd j):=by
  show(match(cz hd j).lookup (hd j) with|some is=>cT (hd j) (is++[j]) (cz hd j)|none=>cz hd j++[(hd j,[j])])=_;rw[e]
 rw[eg];refine⟨λc o q n=>br _ _ (h.kp c o q n) (bX q (h.new a ma)),?_,?_,h.new,h.nd⟩
 ·rw[nU];exact br _ _ h.dict (di h.dict ha (λz=>by cases z))
 ·refine K0 (F:=λa (g:Nat×List Nat)=>H' a=some (.lst (cO ps g.2))) (m:=a) (λk=>?_) h.pr h.nd (EC hd j) hv λc p q _ nc=>br _ _ q nc;rw[ea];unfold cO;rw[Yn];rfl
theorem kK.IX{ps:bo}{H0 H' H2 H3:Hp}{d p:Addr}{hd:Nat->Nat}{j:Nat}{as:List Addr}(h:kK ps H0 d (cz hd j) as H')(e:(cz hd j).lookup (hd j)=none)(np:H' p=none)(k2:∀c o,H' c=some o->c≠d->H2 c=some o)(ed:H2 d=some (.dK (aX ((cz hd j).map (·.1)) as++[(.inl (hd j:Int),.ref p)])))(br:aw p H2 H3)(ep:H3 p=some (.lst [.str (aq ps j)])):kK ps H0 d (cz hd (j+1)) (as++[p]) H3:=by
 have eg:cz hd (j+1)=cz hd j++[(hd j,[j])]:=by
  show(match(cz hd j).lookup (hd j) with|some is=>cT (hd j) (is++[j]) (cz hd j)|none=>cz hd j++[(hd j,[j])])=_;rw[e]
 have pd:p≠d:=λz=>by rw[z,h.dict] at np;cases np
 have sX:H0 p=none:=by
  cases z:H0 p with
  |none=>rfl
  |some o=>rw[h.kp p o z pd] at np;cases np
 rw[eg];refine⟨λc o q n=>br _ _ (k2 _ _ (h.kp c o q n) n) (bX q sX),?_,?_,λa ha=>?_,?_⟩
 ·rw[Yn];show _=some (HO.dK (aX ((cz hd j).map (·.1)++[hd j]) (as++[p])));rw[←v_ _ _ (by rw[Ya];exact(cI h.pr).symm)];exact br _ _ ed (λz=>pd z.symm)
 ·refine iH (F:=λa (g:Nat×List Nat)=>H3 a=some (.lst (cO ps g.2))) ep (L2.Paired.bw h.pr λc g q=>br _ _ (k2 _ _ q (di q h.dict (λz=>by cases z))) (λz=>by rw[z] at q;rw[q] at np;cases np))
 ·rcases Yt.mp ha with z|z;·exact h.new a z
  ·rw[Ym.mp z];exact sX
 ·refine Wo.mpr ⟨h.nd,by simp,λa ha b hb z=>?_⟩;rw[Ym.mp hb] at z;obtain⟨g,_,q⟩:=Kv h.pr ha;rw[z] at q;rw[q] at np;cases np
section
theorem Va:aN ["self","one"] ["self","one"] (aH B6):=.aU
theorem Zh(F:aJ K "head_of" "Joins.head_of" B6 f fd)(jc:kj K C):aG P w K mg base aM 1 f fd ["self","one"] (Nr C):=by
 refine F.o Va λaB A outer s H vs Q E hr h=>?_;obtain⟨l,st,n,i,a,rfl,ja,hi,q⟩:=h;refine⟨_,(au (aF (a_ (iL K) (pF K 0) (pv 1)))),?_⟩;obtain⟨dx,ho⟩:=ja.obj;exact⟨_,rfl,l.J,C,dx,_,_,rfl,ho,jc.cls,jc.jd,rfl,_,rfl,l.ha,_,_,_,rfl,rfl,aj.of ja.heads,mJ hi,q⟩
theorem y8:aN ["hearth","joins","found","name"] ["hearth"] (aH ER):=.aU
theorem Z8(F:aJ K "groups" "groups" ER f fd)(j_:bT P w K mg base 8 "joins" C ["self"] (wD C CL CJ))(tI:bT P w K mg base 1 "people" C ["self"] (EY C CL CJ))(tG:bT P w K mg base 1 "place_of" C ["self","name"] (E5 C CL CJ))(Cg:bT P w K mg base 1 "head_of" CJ ["self","one"] (Nr CJ))(bl:Bl mg):aG P w K mg base aM 9 f fd ["hearth"] (Nt C CL CJ):=by
 refine F.o y8 λaB A outer s H vs Q E hr h=>?_;obtain⟨l,b,xs,ys,rfl,ba,ok,q⟩:=h;refine⟨_,(ak (bP 1 y8.nd (oo j_ hr (by omega) (pv 0))) (ak (bP 2 y8.nd nT) (ak (fH PassesOwn.never rfl (eY (K:=K) rfl (oo tI hr (by omega) (pv 0))) (bj 3 y8.nd) (au (cy (lE (K:=K) rfl (ji plainAttrs_list PySem.F.slot_list_append PySem.F.type_list_append mC (DK (pv 2) (cC Cg hr (by omega) (pv 1) (aa (cC tG hr (by omega) (pv 0) (aa (pv 3) ag)) ag)) (c8 ag) ⟨rfl,rfl,rfl,rfl⟩) (aa (pv 3) ag)))))) (au (aF (d_ (Xs rfl) rfl bl.q0 qR (aa (Zb9 (pv 2)) ag))))))),?_⟩;have sz:(10000:Nat)<=sizeLine:=by rw[sizeLine_eq];omega
 have Br:=ok.m;obtain⟨dx,ho⟩:=ba.obj;refine bW ?_;refine⟨_,rfl,l.h,dx,_,rfl,ho,rfl,l,b,xs,ys,rfl,ba,ok,λl' jl st H1 w1 bZ e1 e2 ja me len eV sm=>?_⟩;refine bW ?_;refine λd H2 nd g2 hd2=>?_;have mj:=bZ.same g2;obtain⟨vA,sh⟩:=mj.obj;rw[w1.h] at sh;have base:∀{H3:Hp} {gs:List (Nat×List Nat)} {as:List Addr} {H':Hp},ai H1 H3->kK b.ps H3 d gs as H'->ai H1 H':=λc7 gi c o e=>gi.kp c o (c7 _ _ e) (bX e nd);refine fP (λσ H'=>∃(H3:Hp) (as:List Addr) (o3:Option V),ai H1 H3/\kK b.ps H3 d (cz st.ae b.ps.length) as H'/\σ=[some (.ref l.h),some (.ref jl.J),some (.ref d),o3]) (λl9 eG=>?_) ?_
 ·refine⟨_,rfl,l.h,vA,_,rfl,sh,rfl,l',b,xs,ys,by rw[w1.h];rfl,mj,λnp H3 Uw g3 Ux=>⟨np,rfl,⟨_,aj.of Ux⟩,?_⟩⟩;have c7:=g2.trans g3;have npd:np≠d:=λz=>by rw[z,hd2] at Uw;cases Uw
  refine jA (K:=K) (a:=np) (xs:=b.ps.map λp=>V.str p.1) (λj σ H'=>∃(as:List Addr) (o3:Option V),kK b.ps H3 d (cz st.ae j) as H'/\σ=[some (.ref l.h),some (.ref jl.J),some (.ref d),o3])
   ⟨[],none,⟨λ_ _ e _=>e,g3 _ _ hd2,.nil,(λ_ h=>nomatch h),W1⟩,rfl⟩ (λj σ H' _ ⟨_,_,gi,_⟩=>aj.of (gi.kp _ _ Ux npd)) ?_ ?_
  ·rintro j v σ H4 hj ⟨as,o3,gi,rfl⟩;have jm:j<b.ps.length:=by
    have:=(Yh.mp hj).1;rw[Ya] at this;exact this
   obtain rfl:V.str (aq b.ps j)=v:=Yq ((OV jm).symm.trans hj);have jm':j<st.hd.length:=by omega
   refine bb ?_;have Bb:=bZ.same (base c7 gi);have Uy:=ja.same (base c7 gi);obtain⟨dx4,Uz⟩:=Bb.obj;rw[w1.h] at Uz;obtain⟨dy4,hj4⟩:=Uy.obj;have ehd:st.hd[j]?=some (st.ae j):=(me.wf.one ok.gd.2.2.2.2 jm').hd;have gl:=(E6 st.ae j).1;have pl:=cI gi.pr;refine⟨_,rfl,d,rfl,.inl ⟨_,.inl gi.dict⟩,_,rfl,jl.J,dy4,_,rfl,hj4,rfl,_,rfl,l.h,dx4,_,rfl,Uz,rfl,_,rfl,l',b,xs,ys,j,by rw[w1.h];rfl,Bb,ok.nm,jm,jl,st,xs.length,j,st.ae j,rfl,Uy,ehd,?_⟩;refine⟨by show 0<=sizeLine;omega,λp H5 yD g5 hp5=>⟨_,.inl (st.ae j:Int),g5 _ _ gi.dict,rfl,by unfold aX;rw[Ya,W5,Ya];omega,λv hv=>?_,λhv H6 b6 e6=>?_⟩⟩
   ·cases el:(cz st.ae j).lookup (st.ae j) with
    |none=>rw[Zbn (Cb el) pl] at hv;cases hv
    |some is=>
     obtain⟨a,ma,va,ha⟩:=k9 (f:=λis:List Nat=>HO.lst (cO b.ps is)) gi.pr el;obtain rfl:v=.ref a:=Yq (hv.symm.trans va);refine⟨.inl ⟨rfl,_,aj.of (g5 _ _ ha)⟩,_,rfl,a,_,_,rfl,rfl,g5 _ _ ha,?_,λH6 b6 e6=>?_⟩
     ·have:=(E6 st.ae j).2 _ (lookup_mem el);unfold cO;rw[Ya];simp only at this;omega
     ·exact⟨as,_,(gi.to g5).has el hv ma (g5 _ _ ha) b6 e6,rfl⟩
   ·cases el:(cz st.ae j).lookup (st.ae j) with
    |some is=>
     obtain⟨a,ma,va,ha⟩:=k9 (f:=λis:List Nat=>HO.lst (cO b.ps is)) gi.pr el;rw[va] at hv;cases hv
    |none=>
     have pd:p≠d:=λz=>by rw[z,gi.dict] at yD;cases yD
     have UA:=b6 _ _ hp5 pd;refine⟨.inl ⟨rfl,_,aj.of (xs:=[]) UA⟩,_,rfl,p,_,_,rfl,rfl,UA,by show 0<sizeLine;omega,λH7 b7 e7=>?_⟩;exact⟨as++[p],_,gi.IX el yD (λc o e n=>b6 _ _ (g5 _ _ e) n) e6 b7 e7,rfl⟩
  ·rintro σ H4 ⟨as,o3,gi,rfl⟩;rw[Ya] at gi;exact eG _ _ ⟨H3,as,o3,c7,gi,rfl⟩
 rintro σ H4 ⟨H3,as,o3,c7,gi,rfl⟩;have pl:=cI gi.pr;refine⟨_,rfl,d,_,rfl,gi.dict,λv nv=>⟨v,d,_,rfl,aS,by rw[aQ (λz=>by rw[←z,gi.dict] at nv;cases nv)];exact gi.dict,λp H5 yD g5 hp=>?_⟩⟩;have g4:ai H4 H5:=(cj nv _).trans g5;rw[Le (by rw[Ya];exact pl.symm)] at hp;have yc:H4 p=none:=(cj nv _).free yD;refine q l' H1 p as H5 w1 bZ (by rw[e1];exact λz=>nomatch z) sm ((base c7 gi).free yc) ((base c7 gi).trans g4) hp ?_ (λa ha=>c7.free (gi.new a ha)) (Yz.mpr ⟨λm=>?_,gi.nd⟩)
 ·have e:=Zbm me;rw[len] at e;rw[←e];exact Zg (P:=λa is=>H5 a=some (.lst (cO b.ps is))) (L2.Paired.bw gi.pr λ_ _ e=>g4 _ _ e)
 ·obtain⟨g,_,e⟩:=Kv gi.pr m;rw[e] at yc;cases yc
end
def mulL:List Int->Int
 |[]=>1
 |a::r=>a*mulL r
theorem Mb(a:Int):∀xs:List Int,mulL (xs++[a])=mulL xs*a
 |[]=>by show a*1=1*a;rw[Int.mul_comm]
 |x::xs=>by show x*mulL (xs++[a])=x*mulL xs*a;rw[Mb a xs,Int.mul_assoc]
theorem Z9{xs ys:List Int}(h:xs.Perm ys):mulL xs=mulL ys:=by
 induction h with
 |nil=>rfl
 |cons x _ ih=>show x*mulL _=x*mulL _;rw[ih]
 |swap x y l=>show y*(x*mulL l)=x*(y*mulL l);rw[←Int.mul_assoc,←Int.mul_assoc,Int.mul_comm y x]
 |trans _ _ h1 h2=>exact h1.trans h2
def lG(hs:List Int)(ps:List (Nat×List Int)):List Int:=(ps.filter λp=>!decide ((p.1:Int)∈hs)).map λp=>(p.2.length:Int)
theorem Lf{H:Hp}:∀{as:List Addr} {ps:List (Nat×List Int)} {i:Nat} {k:Key} {y:V},Paired (λa (p:Nat×List Int)=>H a=some (.lst (p.2.map V.int))) as ps->(aX (ps.map (·.1)) as)[i]?=some (k,y)->∃q a,ps[i]?=some q/\k=.inl (q.1:Int)/\y=.ref a/\H a=some (.lst (q.2.map V.int))
 |_,_,i,k,y,.nil,h=>by
  have h':([]:List (Key×V))[i]?=some (k,y):=h;simp at h'
 |a::as,p::ps,0,k,y,.cons e t,h=>by
  have h':some (Sum.inl (p.1:Int),V.ref a)=some (k,y):=h;cases h';exact⟨p,a,rfl,rfl,rfl,e⟩
 |a::as,p::ps,i+1,k,y,.cons e t,h=>by
  have h':(aX (ps.map (·.1)) as)[i]?=some (k,y):=h;obtain⟨q,b,h1,h2⟩:=Lf t h';exact⟨q,b,h1,h2⟩
inductive Mc(C:Addr)(vs:List V)(H:Hp)(Q:VK):Prop
 |mk (l:JL) (st:JS) (n:Nat) (hl:Addr) (hs:List Int) (e:vs=[.ref l.J,.ref hl]) (ja:cB H C n l st) (hh:H hl=some (.lst (hs.map V.int))) (eT:∀p∈st.fr,p.2.length<=1000) (q:∀H',ai H H'->Q (.int (mulL (lG hs st.fr))) H'):Mc C vs H Q
def Nu(C:Addr):Sp:=λvs H Q _=>Mc C vs H Q
inductive Nv(C:Addr)(vs:List V)(H:Hp)(Q:VK):Prop
 |mk (l:JL) (st:JS) (n:Nat) (e:vs=[.ref l.J]) (ja:cB H C n l st) (eT:∀p∈st.fr,p.2.length<=1000) (q:∀H',ai H H'->Q (.int (mulL (st.fr.map λp=>(p.2.length:Int)))) H'):Nv C vs H Q
def OY(C:Addr):Sp:=λvs H Q _=>Nv C vs H Q
section
theorem vN:aN ["self","heads","many","head","sections"] ["self","heads"] (aH BG):=.aU
theorem Vn(F:aJ K "dealt_beside" "Joins.dealt_beside" BG f fd)(jc:kj K C)(bl:Bl mg):aG P w K mg base aM 1 f fd ["self","heads"] (Nu C):=by
 refine F.o vN λaB A outer s H vs Q E hr h=>?_;obtain⟨l,st,n,hl,hs,rfl,ja,hh,eT,q⟩:=h;refine⟨_,(ak (bP 2 vN.nd aL) (ak (Xq (H0:=H) rfl PassesOwn.never rfl (ZaN (H0:=H) rfl (pF K 0)) (hV (K:=K) (n:=2) rfl rfl (bL (bj 3 vN.nd) (bL (bj 4 vN.nd) hU))) (au (aR (gT (zK (K:=K) rfl) (pv 3) (pv 1) (by with_unfolding_all rfl)) (au (zG (i:=2) vN.nd rfl (Or.inl rfl) (cU K bl (pv 4)) ZdJ)) aW))) (au (aF (pv 2))))),?_⟩;obtain⟨dx,ho⟩:=ja.obj;refine setC ?_;have pl:=cI ja.free;have dl:(aX (st.fr.map (·.1)) l.bV).length=st.fr.length:=by unfold aX;rw[Ya,W5,Ya];omega
 refine fP (λσ H6=>ai H H6/\∃o3 o4:Option V,σ=[some (.ref l.J),some (.ref hl),some (.int (mulL (lG hs st.fr))),o3,o4]) (λl9 eG=>?_) ?_
 ·refine ZR (d:=l.fd) (kvs:=aX (st.fr.map (·.1)) l.bV) (λQ' q'=>⟨_,rfl,l.J,C,dx,_,_,rfl,ho,jc.cls,jc.pS,rfl,q'⟩) ja.frees (λj σ=>∃o3 o4:Option V,σ=[some (.ref l.J),some (.ref hl),some (.int (mulL (lG hs (st.fr.take j)))),o3,o4]) ⟨none,none,rfl⟩ ?_ ?_
  ·rintro j k y σ H' a N rt bk hk ⟨o3,o4,rfl⟩ kp ha hN;obtain⟨p,fa,ep,rfl,rfl,cP⟩:=Lf ja.free hk;have jU:st.fr.take (j+1)=st.fr.take j++[p]:=by rw[Y0,ep];rfl
   have Zf6:=kp _ _ cP (di cP ja.frees (λz=>by cases z));have hh':=kp _ _ hh (di hh ja.frees (λz=>by cases z));refine⟨a,_,rfl,aA.of ha,rfl,_,_,rfl,bb ⟨_,_,rfl,bb ⟨rfl,?_⟩⟩⟩;refine⟨_,rfl,_,rfl,hl,_,rfl,.inl (aj.of hh'),rfl,zc hs,_,rfl,?_⟩;rw[if_pos rfl,show kV (Sum.inl (p.1:Int))=V.int (p.1:Int) from rfl,wz];refine bB (λc=>?_) (λc=>aV (hN _ ⟨some (.int (p.1:Int)),some (.ref fa),?_⟩))
   ·refine⟨_,rfl,_,rfl,fa,_,rfl,.inl (aj.of Zf6),_,_,rfl,rfl,.inr ?_,hN _ ⟨some (.int (p.1:Int)),some (.ref fa),?_⟩⟩
    ·have:=eT p (Yi ep);rw[Ya];omega
    have e:lG hs (st.fr.take (j+1))=lG hs (st.fr.take j)++[(p.2.length:Int)]:=by
     unfold lG;rw[jU,Y9,Yn]
     congr 1
     rw[Wb,if_pos c];rfl
    rw[e,Mb,Ya];rfl
   ·have e:lG hs (st.fr.take (j+1))=lG hs (st.fr.take j):=by
     unfold lG;rw[jU,Y9,Yn,Wb,if_neg c];simp
    rw[e];rfl
  ·rintro σ H' ⟨o3,o4,rfl⟩ g;rw[dl,Wd];exact eG _ _ ⟨g,o3,o4,rfl⟩
 rintro σ H6 ⟨g,o3,o4,rfl⟩;exact⟨_,rfl,q H6 g⟩
theorem VE:aN ["self"] ["self"] (aH CF):=.aU
theorem Zbo(F:aJ K "dealt" "Joins.dealt" CF f fd)(BH:bT P w K mg base 1 "dealt_beside" C ["self","heads"] (Nu C))(bl:Bl mg):aG P w K mg base aM 2 f fd ["self"] (OY C):=by
 refine F.o VE λaB A outer s H vs Q E hr h=>?_;obtain⟨l,st,n,rfl,ja,eT,q⟩:=h;refine⟨_,(au (aF (cC BH hr (by omega) (pv 0) (aa (c8 ag) ag)))),?_⟩;obtain⟨dx,ho⟩:=ja.obj;refine⟨_,rfl,l.J,dx,_,rfl,ho,rfl,by show 0<=sizeLine;exact Yw _,λhl H1 nhl g1 hh=>?_⟩;refine⟨l,st,n,hl,[],rfl,ja.same g1,hh,eT,λH2 g2=>?_⟩;have e:lG [] st.fr=st.fr.map λp=>(p.2.length:Int):=by
  unfold lG;rw[Jt.mpr λp _=>by simp]
 rw[e];exact q H2 (g1.trans g2)
end
open Classical in
noncomputable def rV (st:JS):List Nat:=(List.range st.hd.length).filter λi=>decide (∀j,j<i->st.ae j≠st.ae i)
open Classical in
theorem E7{st:JS}{i:Nat}:i∈rV st↔i<st.hd.length/\∀j,j<i->st.ae j≠st.ae i:=by
 unfold rV;rw[Yy,Y7,decide_eq_true_iff]
theorem Zbp{P:Nat->Prop}:∀{m:Nat},P m->∃i,i<=m/\P i/\∀j,j<i->¬P j:=λ{m} h=>by
 induction m using Nat.strongRecOn with
 |ind m ih=>
  by_cases z:∃j,j<m/\P j
  ·obtain⟨j,jm,pj⟩:=z;obtain⟨i,a,b,c⟩:=ih j jm pj;exact⟨i,by omega,b,c⟩
  ·exact⟨m,Yd _,h,λj hj pj=>z ⟨j,hj,pj⟩⟩
open Classical in
theorem fr_perm{n:Nat}{st:JS}(wf:WF n st):(st.fr.map λp=>(p.2.length:Int)).Perm ((rV st).map λi=>((st.bR (st.ae i)).length:Int)):=by
 have h1:((rV st).map st.ae).Perm (st.fr.map (·.1)):=by
  refine(Js ?_ wf.nf).mpr λk=>?_
  ·rw[Ww,Wx];have nd:(rV st).Pairwise (·<·):=List.Pairwise.filter _ List.pairwise_lt_range;refine(J4.mp nd).imp ?_;rintro a b ⟨_,mb,lt⟩;exact(E7.mp mb).2 a lt
  ·rw[Ye];constructor
   ·rintro⟨i,mi,rfl⟩;exact wa (wf.dA (E7.mp mi).1).1
   ·intro mk;obtain⟨i,hi,e⟩:=wf.hf k mk;obtain⟨r,ri,pr,lst⟩:=Zbp (P:=λj=>st.ae j=k) (m:=i) e;exact⟨r,E7.mpr ⟨by omega,λj hj z=>lst j hj (z.trans pr)⟩,pr⟩
 have h2:=h1.map λk=>((st.bR k).length:Int);rw[Wa,Wa] at h2;have h3:st.fr.map ((λk=>((st.bR k).length:Int))∘(·.1))=st.fr.map λp=>(p.2.length:Int):=Wj λp hp=>by
  show((st.bR p.1).length:Int)=_;have e:st.bR p.1=p.2:=by unfold JS.bR;rw[mem_lookup (v:=p.2) wf.nf hp];rfl
  rw[e]
 rw[h3] at h2;exact h2.symm
open Classical in
theorem WF.ZeP{n:Nat}{st:JS}(wf:WF n st)(n8:n<=8):∀p∈st.fr,p.2.length<=1000:=λp hp=>by
 obtain⟨i,hi,e⟩:=wf.hf p.1 (Ye.mpr ⟨p,hp,rfl⟩);obtain⟨e1,a,b⟩:=wf.dA hi;have e2:st.bR (st.ae i)=p.2:=by unfold JS.bR;rw[e,mem_lookup (v:=p.2) wf.nf hp];rfl
 rw[e2] at a b;have:=yI a b;omega
inductive OZ(vs:List V)(H:Hp)(Q:VK):Prop
 |mk (fa td:Addr) (ps:bo) (xs ys:List Int) (F:List Fc) (x:Nat) (a:Int) (aC:vs=[.ref fa,.ref td,.str (aq ps x),.int a]) (aT:FL H ps fa F) (ht:eK H td xs ys) (nd:(ps.map (·.1)).Nodup) (bc:∀c∈F,dN xs ys ps.length c) (bK:xs.length<=8) (cE:ps.length<=100) (dI:F.length<=64) (gw:x<ps.length) (ik:0<=a/\a<(xs.length:Int)) (oR:∃g,gc xs.length F g/\g x=some a) (u4:∀(p:Addr) (g:List (Nat×Int)) (H':Hp),ai H H'->H' p=some (.dK (gN ps g))->BF F xs.length ps.length x a g->gc xs.length F (λk=>g.lookup k)->Q (.ref p) H'):OZ vs H Q
def Qq:Sp:=λvs H Q _=>OZ vs H Q
section
theorem XO:aN ["_law_facts","_law_turns_here","_law_name_here","_law_section"] ["_law_facts","_law_turns_here","_law_name_here","_law_section"] (aH D1):=.aU
theorem ZcI(F:aJ K "_law_good" "_law_good" D1 f fd)(t4:HasFn P w K mg base 2 "_law_nets" ["_law_facts","_law_turns_here"] F2)(tN:HasFn P w K mg base 1 "_law_carried" ["_law_nets_here","_law_facts","_law_name_here","_law_section"] Ey):aG P w K mg base aM 3 f fd ["_law_facts","_law_turns_here","_law_name_here","_law_section"] Qq:=by
 refine F.o XO λaB A outer s H vs Q E hr h=>?_;obtain⟨fa,td,ps,xs,ys,F,x,a,rfl,iy,ht,iE,fg,n8,Al,sY,hx,ain,yes,q⟩:=h;refine⟨_,(au (aF (aP tN hr (aa (aP t4 hr (aa (pv 0) (aa (pv 1) ag))) (aa (pv 0) (aa (pv 2) (aa (pv 3) ag))))))),?_⟩;refine⟨_,rfl,_,rfl,fa,td,ps,xs,ys,F,rfl,iy,ht,iE,fg,n8,sY,λd kvs L H1 g1 uQ ed=>?_⟩;exact⟨_,rfl,_,rfl,_,rfl,H,d,fa,kvs,L,xs.length,ps,F,x,a,rfl,iE,uQ,ed,iy.same g1,λc hc=>(fg c hc).ok,n8,Al,sY,hx,ain,λno=>absurd yes no,λp g H2 g2 hp bf cl=>q p g H2 (g1.trans g2) hp bf cl⟩
end
open Classical in
noncomputable def eA (F:List Fc) (j:Nat):List Nat:=(List.range j).filter λi=>decide (∀k,k<i->¬bJ F k i)
open Classical in
theorem Z_{F:List Fc}{j:Nat}(h:∀k,k<j->¬bJ F k j):eA F (j+1)=eA F j++[j]:=by
 unfold eA;rw[Jk,Y9,Wb,if_pos (decide_eq_true h)];rfl
open Classical in
theorem Zbq{F:List Fc}{j:Nat}(h:¬∀k,k<j->¬bJ F k j):eA F (j+1)=eA F j:=by
 unfold eA;rw[Jk,Y9,Wb,if_neg (by rw[decide_eq_false h];exact Yj)];simp
open Classical in
theorem qO{F:List Fc}{m i:Nat}:i∈eA F m↔i<m/\∀k,k<i->¬bJ F k i:=by
 unfold eA;rw[Yy,Y7,decide_eq_true_iff]
noncomputable def xv (F:List Fc) (n j:Nat):Int:=mulL ((eA F j).map λi=>((cA F n i).length:Int))
open Classical in
theorem Zaa{n:Nat}{st:JS}{F:List Fc}(me:dk n st F){i:Nat}(im:i<st.hd.length):((st.bR (st.ae i)).map λz=>(st.bI i).getD z.toNat 0).Perm (cA F n i):=by
 refine(Js (me.wf.dist im) (ze F n i).2).mpr λa=>?_;rw[me.room im,Ye];constructor
 ·rintro⟨z,mz,rfl⟩;obtain⟨f0,d0⟩:=me.live;obtain⟨f,d,q⟩:=wj me.wf d0 (st.ae i) (st.ae i) z z mz mz (λ_=>rfl);exact⟨f,d,(q i im).1 rfl⟩
 ·rintro⟨f,⟨s,h⟩,rfl⟩;exact⟨s (st.ae i),(h i im).1,(h i im).2.symm⟩
open Classical in
theorem Zbr{n:Nat}{st:JS}{F:List Fc}(me:dk n st F):mulL (st.fr.map λp=>(p.2.length:Int))=xv F n st.hd.length:=by
 rw[Z9 (fr_perm me.wf)];unfold xv;have er:rV st=eA F st.hd.length:=by
  unfold rV eA;refine Wz λi hi=>?_;have im:=Y7.mp hi;rw[Wc,decide_eq_true_iff,decide_eq_true_iff];exact⟨λh j hj c=>h j hj ((me.conn j i (by omega) im).mpr c),λh j hj z=>h j hj ((me.conn j i (by omega) im).mp z)⟩
 rw[er]
 congr 1
 refine Wj λi hi=>?_;have l:=(Zaa me (qO.mp hi).1).length_eq;rw[Ya] at l;rw[l]
inductive Kw(C CL CJ:Addr)(vs:List V)(H:Hp)(Q:VK):Prop
 |mk (l:BL) (b:BS) (xs ys:List Int) (aC:vs=[.ref l.h]) (ba:a8 H C CL CJ l xs ys b) (ok:cg xs ys b) (q:∀(l':BL) (H':Hp),bM H H' l l'->a8 H' C CL CJ l' xs ys b->Q (.int (xv b.F xs.length b.ps.length)) H'):Kw C CL CJ vs H Q
def Lg(C CL CJ:Addr):Sp:=λvs H Q _=>Kw C CL CJ vs H Q
section
theorem XQ:aN ["hearth"] ["hearth"] (aH DQ):=.aU
theorem XR(F:aJ K "dealings" "dealings" DQ f fd)(j_:bT P w K mg base 8 "joins" C ["self"] (wD C CL CJ))(CO:bT P w K mg base 2 "dealt" CJ ["self"] (OY CJ)):aG P w K mg base aM 9 f fd ["hearth"] (Lg C CL CJ):=by
 refine F.o XQ λaB A outer s H vs Q E hr h=>?_;obtain⟨l,b,xs,ys,rfl,ba,ok,q⟩:=h;refine⟨_,(au (aF (oo CO hr (by omega) (oo j_ hr (by omega) (pv 0))))),?_⟩;obtain⟨dx,ho⟩:=ba.obj;refine⟨_,rfl,l.h,dx,_,rfl,ho,rfl,l,b,xs,ys,rfl,ba,ok,λl' jl st H1 w1 bZ e1 e2 ja me len eV _=>?_⟩;obtain⟨dy,hj⟩:=ja.obj;refine⟨jl.J,dy,_,rfl,hj,rfl,jl,st,xs.length,rfl,ja,me.wf.ZeP ok.gd.2.2.2.2,λH2 g2=>?_⟩;rw[Zbr me,len];exact q l' H2 (w1.same g2) (bZ.same g2)
end
theorem bJ.symm{F:List Fc}{x y:Nat}(c:bJ F x y):bJ F y x:=by
 induction c with
 |refl=>exact .refl
 |step _ e ih=>
  obtain⟨c,mc,ns,⟨h1,h2,_⟩|⟨h1,h2,_⟩⟩:=e;·exact(bJ.step .refl ⟨c,mc,ns,.inr ⟨h2,h1,rfl⟩⟩).trans ih
  ·exact(bJ.step .refl ⟨c,mc,ns,.inl ⟨h2,h1,rfl⟩⟩).trans ih
open Classical in
noncomputable def rW (F:List Fc) (m i:Nat):List Nat:=(List.range m).filter λk=>decide (bJ F i k)
open Classical in
noncomputable def d5 (F:List Fc) (n m:Nat):List Nat:=(eA F m).filter λi=>decide (1<(cA F n i).length)
open Classical in
theorem Zab{F:List Fc}{m i:Nat}(h:i∈eA F m):(rW F m i)[0]?=some i:=by
 obtain⟨im,no⟩:=qO.mp h;have mi:i∈rW F m i:=Yy.mpr ⟨Y7.mpr im,decide_eq_true .refl⟩;have pw:(rW F m i).Pairwise (·<·):=List.Pairwise.filter _ List.pairwise_lt_range;cases e:rW F m i with
 |nil=>rw[e] at mi;cases mi
 |cons k r=>
  have c:bJ F i k:=of_decide_eq_true (Yy.mp (show k∈rW F m i by rw[e];exact Yf)).2;rw[e] at mi pw;rcases Yp.mp mi with rfl|h;·rfl
  ·exact absurd c.symm (no k ((List.pairwise_cons.mp pw).1 i h))
theorem O0{r:Int}:∀{l:List Int},l.Nodup->(∀a∈l,a=r)->l.length<=1
 |[],_,_=>Yw _
 |[_],_,_=>Yd _
 |a::b::l,nd,h=>absurd (show a∈b::l by rw[h a Yf,h b (Yu _ Yf)];exact Yf) (Yz.mp nd).1
theorem Zbs{F:List Fc}{n i:Nat}(h:1<(cA F n i).length){c:Fc}(mc:c∈F)(sk:c.k=aY):c.one≠i:=λe=>by
 have:=O0 (ze F n i).2 λa ha=>by
  obtain⟨_,g,cl,hg⟩:=qN.mp ha;exact cl.2.1 c mc sk a (by rw[e];exact hg)
 omega
section
variable {F:List Fc}{n i:Nat}{r:Int}
theorem Zac:(cA (F++[⟨aY,i,r,[]⟩]) n i).length<=1:=O0 (ze _ n i).2 λa ha=>by
 obtain⟨_,g,cl,hg⟩:=qN.mp ha;exact cl.2.1 _ (Yr _ Yf) rfl a hg
theorem Md{x y:Nat}{t:List Int}:eP (F++[⟨aY,i,r,[]⟩]) x y t↔eP F x y t:=⟨λe=>(mF.mp e).elim id λz=>absurd rfl z.1,λe=>mF.mpr (.inl e)⟩
open Classical in
theorem Zi{j:Nat}(no:¬bJ F j i):cA (F++[⟨aY,i,r,[]⟩]) n j=cA F n j:=by
 refine Wz λa _=>?_;rw[Wc,decide_eq_true_iff,decide_eq_true_iff];constructor
 ·rintro⟨g,⟨c1,c2,c3⟩,hg⟩;exact⟨g,⟨λx y t u e=>c1 x y t u (Md.mpr e),λc mc=>c2 c (Ys _ mc),c3⟩,hg⟩
 ·rintro⟨g,⟨c1,c2,c3⟩,hg⟩;have q:∀{k:Nat} {v:Int},(if bJ F j k then g k else none)=some v->bJ F j k/\g k=some v:=λ{k v} h=>by
   by_cases z:bJ F j k;·rw[if_pos z] at h;exact⟨z,h⟩
   ·rw[if_neg z] at h;cases h
  refine⟨λk=>if bJ F j k then g k else none,⟨λx y t u e h=>?_,λc mc sk u h=>?_,λk v h=>c3 k v (q h).2⟩,(if_pos (bJ.refl (F:=F) (x:=j))).trans hg⟩
  ·have e:=Md.mp e;obtain⟨h1,h2⟩:=q h;exact(if_pos (bJ.step h1 e)).trans (c1 x y t u e h2)
  ·obtain⟨h1,h2⟩:=q h;rcases Yt.mp mc with mc|mc;·exact c2 c mc sk u h2
   ·rw[Ym.mp mc] at h1;exact absurd h1 no
open Classical in
theorem Zbt{m:Nat}{rest:List Nat}(h:d5 F n m=i::rest):d5 (F++[⟨aY,i,r,[]⟩]) n m=rest:=by
 have er:eA (F++[⟨aY,i,r,[]⟩]) m=eA F m:=by
  unfold eA;refine Wz λj _=>?_;rw[Wc,decide_eq_true_iff,decide_eq_true_iff];exact⟨λh k hk c=>h k hk ((Et rfl).mpr c),λh k hk c=>h k hk ((Et rfl).mp c)⟩
 have mi:i∈eA F m:=(Yy.mp (show i∈d5 F n m by rw[h];exact Yf)).1;have nd:(d5 F n m).Nodup:=(List.nodup_range.filter _).filter _;have e1:d5 (F++[⟨aY,i,r,[]⟩]) n m=(d5 F n m).filter λj=>decide (j≠i):=by
  unfold d5;rw[er,Ja];refine Wz λj hj=>?_;rw[Wc,Wn,decide_eq_true_iff,decide_eq_true_iff,decide_eq_true_iff];by_cases z:j=i
  ·have:=Zac (F:=F) (n:=n) (i:=i) (r:=r);rw[z];exact⟨λh=>by omega,λh=>absurd rfl h.1⟩
  ·have no:¬bJ F j i:=λc=>by
    obtain⟨_,n1⟩:=qO.mp mi;obtain⟨_,n2⟩:=qO.mp hj;rcases Nat.lt_or_gt_of_ne z with l|l;·exact n1 j l c
    ·exact n2 i l c.symm
   rw[Zi no];exact⟨λh=>⟨z,h⟩,λh=>h.2⟩
 rw[e1,h];rw[h] at nd;rw[Wb,if_neg (by simp)];exact Jt.mpr λj hj=>decide_eq_true λz=>(Yz.mp nd).1 (by rw[←z];exact hj)
end
theorem Zbu{xs:List Int}(h:∀x∈xs,1<=x):1<=mulL xs/\(mulL xs=1↔∀x∈xs,x=1):=by
 induction xs with
 |nil=>exact⟨Int.le_refl _,λ_ _ h=>(nomatch h),λ_=>rfl⟩
 |cons x xs ih=>
  obtain⟨h1,h2⟩:=ih λy hy=>h y (Yu _ hy);have hx:=h x Yf;have a1:x*1<=x*mulL xs:=Int.mul_le_mul_of_nonneg_left h1 (by omega);have a2:1*mulL xs<=x*mulL xs:=Int.mul_le_mul_of_nonneg_right hx (by omega);show 1<=x*mulL xs/\(x*mulL xs=1↔_);refine⟨by omega,λe y hy=>?_,λe=>?_⟩
  ·rcases Yp.mp hy with rfl|hy;·omega
   ·exact h2.mp (by omega) y hy
  ·rw[e x Yf,h2.mpr λy hy=>e y (Yu _ hy)];rfl
theorem O1{xs ys:List Int}{b:BS}(ok:cg xs ys b):xv b.F xs.length b.ps.length=1↔d5 b.F xs.length b.ps.length=[]:=by
 have pos:∀i∈eA b.F b.ps.length,1<=(cA b.F xs.length i).length:=λi hi=>by
  obtain⟨r,rs,e⟩:=Lb ok (qO.mp hi).1;rw[e];exact Nat.le_add_left _ _
 have h:=(Zbu (xs:=(eA b.F b.ps.length).map λi=>((cA b.F xs.length i).length:Int)) λx hx=>by
  obtain⟨i,hi,rfl⟩:=Ye.mp hx;have:=pos i hi;omega).2
 unfold xv d5;rw[h,List.filter_eq_nil_iff];constructor
 ·intro e i hi;have:=e _ (Ye.mpr ⟨i,hi,rfl⟩);rw[decide_eq_true_iff];omega
 ·intro e x hx;obtain⟨i,hi,rfl⟩:=Ye.mp hx;have h1:=pos i hi;have h2:=e i hi;rw[decide_eq_true_iff] at h2;omega
theorem Zbv{xs ys:List Int}{b:BS}(ok:cg xs ys b){i:Nat}(hi:i<b.ps.length){r:Int}(hr:r∈cA b.F xs.length i)(big:1<(cA b.F xs.length i).length)(lim:b.fs.length<63):Gp xs ys b ⟨aY,i,r,[]⟩:=by
 obtain⟨rb,g,cl,hg⟩:=qN.mp hr;obtain⟨f0,inr,sat⟩:=ok.lv;have fL:∀c∈b.F,dB xs.length b.ps.length c:=λc hc=>by
  obtain⟨p,hp,rfl⟩:=Ye.mp (show c∈b.fs.map (·.2) from hc);exact(ok.fg p hp).ok
 obtain⟨f,h1,h2,h3⟩:=C3 fL inr (λc hc=>.inr (sat c hc)) cl hg;refine⟨⟨⟨⟨hi,λz=>absurd rfl z⟩,.inl rfl,λ_=>rb⟩,λhk=>?_,λz=>absurd z (by show ¬cG aY=true;decide+kernel),⟨f,h1,λc' mZ=>?_⟩,lim⟩,rfl⟩
 ·obtain⟨p,hp,e⟩:=Ye.mp hk;have mp:p.2∈b.F:=Ye.mpr ⟨p,hp,rfl⟩;have e:keyOf p.2.k (aq b.ps p.2.one) (bg b.ps p.2)=[.inr aY,.inr (aq b.ps i),.inl r]:=e.trans (by unfold eU;rw[jz rfl];rfl);by_cases h:p.2.k=aY
  ·rw[jz h] at e;injection e with _ e;injection e with e _;exact Zbs big mp h (qY ok.nm (fL _ mp).one hi (Wk e))
  ·rw[hJ h] at e;unfold keyOf at e
   grind
 ·rcases Yt.mp mZ with h|h;·exact h2 c' h
  ·rw[Ym.mp h];exact⟨λ_=>h3,λz=>absurd rfl z⟩
inductive Kx(C CL CJ:Addr)(vs:List V)(H:Hp)(Q:VK):Prop
 |mk (l:BL) (b:BS) (xs ys:List Int) (aC:vs=[.ref l.h]) (ba:a8 H C CL CJ l xs ys b) (ok:cg xs ys b) (q:∀(l':BL) (p:Addr) (H':Hp),bM H H' l l'->a8 H' C CL CJ l' xs ys b->H' p=some (.lst (cO b.ps (d5 b.F xs.length b.ps.length)))->Q (.ref p) H'):Kx C CL CJ vs H Q
def Lh(C CL CJ:Addr):Sp:=λvs H Q _=>Kx C CL CJ vs H Q
theorem O2(l:List Nat):(List.range l.length).map (λj=>l.getD j 0)=l:=Ws λi=>by grind
theorem Me(F:List Fc)(m:Nat):(eA F m).length<=m:=by
 unfold eA;exact Y4 (Wh _ _) (G5 Jz)
section
theorem Ky:aN ["hearth","firsts"] ["hearth"] (aH DR):=.aU
theorem XS(F:aJ K "settlers" "settlers" DR f fd)(ED:HasFn P w K mg base 9 "open_of" ["hearth","name"] (OW C CL CJ))(E8:HasFn P w K mg base 9 "groups" ["hearth"] (Nt C CL CJ))(bl:Bl mg):aG P w K mg base aM 10 f fd ["hearth"] (Lh C CL CJ):=by
 refine F.o Ky λaB A outer s H vs Q E hr h=>?_;obtain⟨l,b,xs,ys,rfl,ba,ok,q⟩:=h;refine⟨_,(ak (X5 (i:=1) (x:="group") (fr:=[]) (cl:=[]) rfl Ky.nd rfl (Or.inl rfl) (.fW trivial trivial) (eY (K:=K) rfl (aP E8 hr (aa (pv 0) ag))) (λ_ _ _ _=>lq) (λ_ _ _ _=>(a_ (iL K) (pv 0) aL))) (au (aF (iM (x:="name") (fr:=[("hearth",0)]) (cl:=[("hearth",s.heap.objs.size+1)]) rfl (.fW ⟨rfl,trivial⟩ ⟨⟨rfl,.inl rfl,.inl rfl,rfl⟩,trivial⟩) (eY (K:=K) rfl (pv 1)) (λ_ _ _ _=>uj (bA wY (cU K bl (zW ED hr (by omega) rfl (aa (pv 1) (aa (pv 0) ag)))) aL)) (λ_ _ _ _=>(pv 0)))))),?_⟩;have Br:=ok.m;obtain⟨R,eR⟩:∃R,R=eA b.F b.ps.length:=⟨_,rfl⟩;have rl:=Me b.F b.ps.length;rw[←eR] at rl;have rm:∀{j:Nat},j<R.length->R.getD j 0∈R:=λh=>by grind
 refine bW ?_;refine⟨_,rfl,l,b,xs,ys,rfl,ba,ok,λl' H1 p as H2 w1 bZ rk sm np g2 hp pr new nd=>?_⟩;have eg:Ao b.F b.ps.length=R.map (rW b.F b.ps.length):=by rw[eR];rfl
 have pl:=cI pr;rw[eg] at pr pl;rw[Ya] at pl;have al:(as.map V.ref).length=R.length:=by rw[Ya];exact pl
 refine⟨p,rfl,⟨_,aj.of hp⟩,λD hD=>DJ (aj.of hp) (by omega) hD (λ_=>true) (λj=>.str (aq b.ps (R.getD j 0))) (λj v hj H3 g3 _ Kt Kf kt _=>kI (cS ?_)) λH3 g3 h3=>?_⟩
 ·rw[Yg] at hj;obtain⟨a,ea,rfl⟩:∃a,as[j]?=some a/\V.ref a=v:=by
   cases e:as[j]? with
   |none=>rw[e] at hj;cases hj
   |some c=>rw[e] at hj;exact⟨c,rfl,Yq hj⟩
  have jl:j<R.length:=by have:=(Yh.mp ea).1;omega
  obtain⟨is,UB,ha⟩:=fO pr ea;have es:is=rW b.F b.ps.length (R.getD j 0):=by
   rw[Yg,Yb jl] at UB;rw[Yl,Yb jl];exact(Yq UB).symm
  have at0:dt (cO b.ps is) 0=some (.str (aq b.ps (R.getD j 0))):=fF (j:=0) (by
   unfold cO;rw[Yg,es,Zab (by rw[←eR];exact rm jl)];rfl)
  exact⟨_,rfl,a,_,_,_,rfl,rfl,aj.of (g3 _ _ ha),at0,kt _ _ rfl (ai.refl _) rfl⟩
 ·rw[al,DH] at h3;have c7:=g2.trans g3;have i_:=bZ.same c7;have en:(List.range R.length).map (λj=>V.str (aq b.ps (R.getD j 0)))=cO b.ps R:=by
   have:=congrArg (cO b.ps) (O2 R);unfold cO at this;rw[Wa] at this;exact this
  rw[en] at h3;have nl:(cO b.ps R).length=R.length:=by unfold cO;rw[Ya]
  refine⟨_,rfl,D,rfl,⟨_,aj.of h3⟩,λD2 hD2=>DJ (aj.of h3) (by omega) hD2 (λj=>decide (1<(cA b.F xs.length (R.getD j 0)).length)) (λj=>.str (aq b.ps (R.getD j 0))) (λj v hj H4 g4 _ Kt Kf kt kf=>?_) λH4 g4 h4=>?_⟩
  ·have jl:j<R.length:=by have:=(Yh.mp hj).1;omega
   obtain rfl:V.str (aq b.ps (R.getD j 0))=v:=by
    unfold cO at hj;rw[Yg,Yb jl] at hj;rw[Yl,Yb jl];exact Yq hj
   have hi:=(qO.mp (show R.getD j 0∈eA b.F b.ps.length by rw[←eR];exact rm jl)).1;refine⟨_,rfl,_,rfl,l',b,xs,ys,R.getD j 0,by rw[w1.h];rfl,i_.same g4,ok,hi,λl2 H5 p2 H6 _ _ sm2 _ g6 dv=>?_⟩;obtain⟨rfl,rfl⟩:=sm2 rk;refine⟨p2,_,rfl,.inl (aj.of dv),_,_,rfl,rfl,_,rfl,?_⟩;rw[Ya];refine bB (λcc=>⟨_,rfl,kt _ _ (decide_eq_true (by have:=of_decide_eq_true cc;omega)) g6 rfl⟩) (λcc=>kf _ (decide_eq_false λz=>cc (decide_eq_true (by omega))) g6)
  ·refine q l' D2 H4 (w1.same (c7.trans g4)) (i_.same g4) ?_;rw[h4,nl];have e:=Jm (f:=λj=>R.getD j 0) (l:=List.range R.length) (p:=λi=>decide (1<(cA b.F xs.length i).length));rw[O2,eR] at e;unfold d5 cO;rw[e,Wa,eR];rfl
end
open Classical in
theorem E9(F:List Fc)(n j:Nat):d5 F n (j+1)=d5 F n j++if(∀k,k<j->¬bJ F k j)/\1<(cA F n j).length then[j] else[]:=by
 unfold d5;by_cases h:∀k,k<j->¬bJ F k j
 ·rw[Z_ h,Y9,Wb];by_cases e:1<(cA F n j).length;·rw[if_pos (decide_eq_true e),if_pos ⟨h,e⟩];rfl
  ·rw[if_neg (by rw[decide_eq_false e];exact Yj),if_neg (λz=>e z.2)];rfl
 ·rw[Zbq h,if_neg (λz=>h z.1),Y8]
theorem O3(F:List Fc)(n m:Nat):(d5 F n m).length<=m:=Y4 (Wh _ _) (Me F m)
theorem Qr{H:Hp}{m:Nat}(ps:bo):∀is:List Nat,Paired (At H m) (cO ps is) (is.map λi=>Dt.str (aq ps i))
 |[]=>.nil
 |i::is=>.cons (Zdl _) (Qr ps is)
theorem uE{H:Hp}{ps:bo}{p:Addr}{is:List Nat}(h:H p=some (.lst (cO ps is)))(l:is.length<=1000):At H 3 (.ref p) (.lst (is.map λi=>.str (aq ps i))):=Zdm h (by rw[Ya];exact l) (Qr ps is)
theorem Zbw(xs:List V){k:Nat}(h:k<=xs.length):kH xs (some (k:Int)) none=xs.drop k:=by
 unfold kH;have e:HT.fT xs.length 0 (some (k:Int))=k:=by
  show(if(k:Int)<0 then((k:Int)+(xs.length:Int)).toNat else min ((k:Int)).toNat xs.length)=k;rw[if_neg (by omega),Y5];omega
 rw[e];show List.take (xs.length-k) _=_;rw[Wp (by rw[Jg];omega)]
structure kL(C CL CJ:Addr)(xs ys:List Int)(ps:bo)(D:List Nat)(s1 td du:Addr)(ms:List Int)(f0 j:Nat)(l:BL)(b:BS)(fl:Addr)(H:Hp):Prop where
 ba:a8 H C CL CJ l xs ys b
 ok:cg xs ys b
 ep:b.ps=ps
 facts:∃as:List Addr,H fl=some (.lst (as.map V.ref))/\Paired (dM H b.ps) as b.fs
 n3:fl∉l.fp
 turns:eK H td xs ys
 n4:td∉l.fp
 hs:H s1=some (.lst (ms.map V.int))
 ns:s1∉l.fp
 hd:H du=some (.lst (cO ps D))
 nd:du∉l.fp
 es:d5 b.F xs.length ps.length=D.drop j
 cf:b.fs.length<=f0+j
 cd:b.dn.length<=59+j
theorem kL.xu{C CL CJ:Addr}{xs ys:List Int}{ps:bo}{D:List Nat}{s1 td du:Addr}{ms:List Int}{f0 j:Nat}{l l':BL}{b:BS}{fl:Addr}{H H':Hp}(s:kL C CL CJ xs ys ps D s1 td du ms f0 j l b fl H)(w:bM H H' l l')(ba:a8 H' C CL CJ l' xs ys b):kL C CL CJ xs ys ps D s1 td du ms f0 j l' b fl H':=by
 obtain⟨as,h1,h2⟩:=s.facts;obtain⟨a3,c3⟩:=w.off h1 s.n3;obtain⟨_,_,_,_,dw,_⟩:=id s.turns;exact⟨ba,s.ok,s.ep,⟨as,a3,ud w s.ba h2⟩,c3,w.eK s.ba s.turns s.n4,(w.off dw s.n4).2,(w.off s.hs s.ns).1,(w.off s.hs s.ns).2,(w.off s.hd s.nd).1,(w.off s.hd s.nd).2,s.es,s.cf,s.cd⟩
theorem kL.same{C CL CJ:Addr}{xs ys:List Int}{ps:bo}{D:List Nat}{s1 td du:Addr}{ms:List Int}{f0 j:Nat}{l:BL}{b:BS}{fl:Addr}{H H':Hp}(s:kL C CL CJ xs ys ps D s1 td du ms f0 j l b fl H)(g:ai H H'):kL C CL CJ xs ys ps D s1 td du ms f0 j l b fl H':=s.xu (bM.of g) (s.ba.same g)
theorem kL.FL{C CL CJ:Addr}{xs ys:List Int}{ps:bo}{D:List Nat}{s1 td du:Addr}{ms:List Int}{f0 j:Nat}{l:BL}{b:BS}{fl:Addr}{H:Hp}(s:kL C CL CJ xs ys ps D s1 td du ms f0 j l b fl H):FL H ps fl b.F:=by
 obtain⟨as,h1,h2⟩:=s.facts;rw[s.ep] at h2;refine⟨as,h1,?_⟩;show Paired _ as (b.fs.map (·.2));clear h1;generalize b.fs=fs at h2;induction h2 with
 |nil=>exact .nil
 |cons e _ ih=>exact .cons ⟨_,e⟩ ih
theorem cg.good{xs ys:List Int}{b:BS}(ok:cg xs ys b):(∀c∈b.F,dN xs ys b.ps.length c)/\b.F.length<=64:=by
 refine⟨λc hc=>?_,?_⟩
 ·obtain⟨p,hp,rfl⟩:=Ye.mp (show c∈b.fs.map (·.2) from hc);exact ok.fg p hp
 ·show(b.fs.map (·.2)).length<=64;rw[Ya];exact W0 ok.fl
def z7(K:PySem.W.Frag):Sp:=λvs H Q _=>∃(a:Addr) (ns:List Int),vs=[.ref a]/\aj K H a (ns.map V.int)/\ns.length<=63/\∀H',Q (.bl true) H'
def qC(s1 m wi td h nl sd fl:Addr)(n z co:Int)(nF nG eW nK iG o16 o17:Option V):St:=[some (.ref s1),some (.int n),some (.ref m),some (.ref wi),some (.ref td),some (.int z),some (.ref h),some (.ref nl),some (.ref sd),some (.ref fl),some (.int co),nF,nG,eW,nK,iG,o16,o17]
section
theorem eO:aN ["_law_script","_law_size","_law_mother","_law_wife","_law_turns_here","_law_salt","_law_book","_law_names","_law_sides","_law_facts","_law_after_here","_law_due","_law_seen","_law_name_here","_law_room_here","_law_one","_law_k","_law_section"] ["_law_script"] (aH rC):=.aU
open Classical in
theorem Zd5(F:aJ K "law" "law" rC f fd)(qM:HasFn P w K mg base 1 "_law_cell" ["_law_script","_law_k"] (Pr K))(nP:HasFn P w K mg base 1 "_law_draws" ["_law_cell_here","_law_parts"] (zt K))(y9:HasFn P w K mg base 2 "_law_row" ["_law_cell_here","_law_size"] QV)(DF:HasFn P w K mg base 2 "_law_turns" ["_law_mother","_law_wife"] OI)(nQ:HasFn P w K mg base 4 "_law_same" ["_law_found","_law_due"] (q_ 4))(qL:HasFn P w K mg base 3 "_law_room" ["_law_facts","_law_turns_here","_law_name_here"] F3)(Ec:HasFn P w K mg base 3 "_law_good" ["_law_facts","_law_turns_here","_law_name_here","_law_section"] Qq)(Ed:HasFn P w K mg base 15 "_law_grow" ["_law_book","_law_cells","_law_turns_here","_law_salt"] (Qp C CL CJ))(yV:HasFn P w K mg base 9 "dealings" ["hearth"] (Lg C CL CJ))(wb:HasFn P w K mg base 10 "settlers" ["hearth"] (Lh C CL CJ))
  (tR:bT P w K mg base 12 "say" C ["self","name","section"] (F1 C CL CJ))(EE:HasFn P w K mg base 7 "land_of" ["mother","wife"] (ML CL))(E_:uA P w K mg base 1 "Hearth" C ["self","land"] (Ov C CL CJ))(bl:Bl mg):aG P w K mg base (m9 P w) 16 f fd ["_law_script"] (z7 K):=by
 refine F.okX eO (λvs H Q E h=>?_) (λaB A outer s H vs Q E hr h=>?_)
 ·obtain⟨a,ns,rfl,_⟩:=h;rfl
 obtain⟨a,ns,rfl,hs,hlen,q⟩:=h;have hu:=hr.uu;refine⟨_,(ak (bP 0 eO.nd (EI (EK (K:=K) rfl) (pv 0) Fe (Ff aL))) (ak (bP 1 eO.nd (a9 gU aL (a9 dU (aP qM hr (aa (pv 0) (aa aL ag))) aL))) (ak (bP 2 eO.nd (aP y9 hr (aa (aP qM hr (aa (pv 0) (aa aL ag))) (aa (pv 1) ag)))) (ak (bP 3 eO.nd (aP y9 hr (aa (aP qM hr (aa (pv 0) (aa aL ag))) (aa (pv 1) ag)))) (ak (bP 4 eO.nd (aP DF hr (aa (pv 2) (aa (pv 3) ag)))) (ak (bP 5 eO.nd (a9 dU (aP qM hr (aa (pv 0) (aa aL ag))) aL)) (ak (bP 6 eO.nd (F9 E_ hr (by omega) rfl (aa (aP EE hr (aa (pv 2) (aa (pv 3) ag))) ag))) (ak (mK (aP Ed hr (aa (pv 6) (aa (EI (EK (K:=K) rfl) (pv 0) (Ff aL) Fe) (aa (pv 4) (aa (pv 5) ag))))) (hV (K:=K) (n:=4) rfl rfl (bL (bj 7 eO.nd) (bL (bj 8 eO.nd) (bL (bj 9 eO.nd) (bL (bj 10 eO.nd) hU)))))) (ak (bP 11 eO.nd (c8 ag)) (ak (bP 12 eO.nd nT) (ak (fH GH rfl (eY (K:=K) rfl (pv 7)) (bj 13 eO.nd) (au (aR (je (kZ (bu hr) (pv 13) (pv 12)) (by with_unfolding_all rfl)) (ak (bP 14 eO.nd (aP qL hr (aa (pv 9) (aa (pv 4) (aa (pv 13) ag))))) (ak (KU (H0:=H) rfl GH rfl (NW (H0:=H) rfl (aP Ec hr (aa (pv 9) (aa (pv 4) (aa (pv 13) (aa (a_ (iL K) (pv 14) aL) ag)))))) (bj 15 eO.nd) (au (mE (bu hr) (pv 12) (pv 15) jh))) (au (aR (bA wY (cU K bl (pv 14)) aL) (au (cy (lE (K:=K) rfl (ji plainAttrs_list PySem.F.slot_list_append PySem.F.type_list_append mC (pv 11) (aa (pv 13) ag))))) aW)))) aW))) (ak (aR (jg (eN (aP nQ hr (aa (aP wb hr (aa (pv 6) ag)) (aa (pv 11) ag))))) (au (aF jh)) aW) (ak (fH GH rfl (nS rfl bl.jb (aa (cU K bl (pv 11)) ag)) (bj 16 eO.nd) (ak (aR (PW.pt (pw_or (bA cq (aP yV hr (aa (pv 6) ag)) aL) (pw_or1 (jg (eN (aP nQ hr (aa (aP wb hr (aa (pv 6) ag)) (aa (EI (EK (K:=K) rfl) (pv 11) (Ff (pv 16)) Fe) ag)))))))) (au (aF jh)) aW) (ak (bP 14 eO.nd (aP qL hr (aa (pv 9) (aa (pv 4) (aa (a_ (iL K) (pv 11) (pv 16)) ag))))) (ak (bP 17 eO.nd (a_ (iL K) (pv 14) (a9 dU (a_ (iL K) (aP nP hr (aa (a9 gU (aP qM hr (aa (pv 0) (aa (a9 gU aL (pv 16)) ag))) aL) (aa (c8 (aa aL ag)) ag))) aL) (cU K bl (pv 14))))) (ak (aR (jg (eN (aP nQ hr (aa (cC tR hr (by omega) (pv 6) (aa (a_ (iL K) (pv 11) (pv 16)) (aa (pv 17) ag))) (aa (pv 10) ag))))) (au (aF jh)) aW) (ak (bP 9 eO.nd (a9 wy (pv 9) (c8 (aa (dz (aa (pv 10) (aa bq (aa (a_ (iL K) (pv 11) (pv 16)) (aa (pv 17) ag))))) ag)))) (au (zG (i:=10) eO.nd rfl (Or.inl rfl) aL FA)))))))) (au (aF (oh (aP nQ hr (aa (aP yV hr (aa (pv 6) ag)) (aa aL ag))) (lD (aP nQ hr (aa (aP wb hr (aa (pv 6) ag)) (aa (c8 ag) ag)))))))))))))))))))),?_⟩;have sz:(10000:Nat)<=sizeLine:=by rw[sizeLine_eq];omega
 obtain⟨ms,em⟩:=Mn ns none (some 63);have lms:ms.length<=ns.length:=by
  have:=Kh (ns.map V.int) none (some 63);rw[em,Ya,Ya] at this;exact this
 obtain⟨cs,ec⟩:=Mn ms (some 4) none;have lcs:cs.length<=59:=by
  have:=Zbl (xs:=ms.map V.int) (by rw[Ya];omega);rw[ec,Ya] at this;exact this
 refine bW ?_;refine⟨_,rfl,_,rfl,a,_,rfl,hs,λs1 H0 n1 g0 vM=>?_⟩;rw[em] at vM;refine bW ?_;refine⟨_,rfl,s1,ms,0,rfl,aj.of vM,Int.le_refl 0,λc0=>⟨_,_,rfl,rfl,(by show(0:Int)<7;decide),_,_,rfl,rfl,?_⟩⟩;try dsimp only
 have m0:=W7 c0 (show(7:Int)≠0 by decide);have m1:=Wt c0 (show(0:Int)<7 by decide);obtain⟨n,en⟩:∃n:Nat,2+c0 % 7=(n:Int):=⟨(2+c0 % 7).toNat,by omega⟩;rw[en];have n2:2<=n:=by omega
 have n8:n<=8:=by omega
 refine bW ?_;refine⟨_,rfl,s1,ms,1,rfl,aj.of vM,by decide,λc1=>⟨_,rfl,c1,n,rfl,by omega,by omega,λm xs H1 nm g1 hM px=>?_⟩⟩;refine bW ?_;refine⟨_,rfl,s1,ms,2,rfl,aj.of (g1 _ _ vM),by decide,λc2=>⟨_,rfl,c2,n,rfl,by omega,by omega,λwi ys H2 nw g2 hW py=>?_⟩⟩;have lx:xs.length=n:=by rw[px.length_eq,eM]
 have ly:ys.length=n:=by rw[py.length_eq,eM]
 have gd:mS xs ys:=⟨qS px,qS py,by omega,by omega,by omega⟩;refine bW ?_;refine⟨_,rfl,_,rfl,m,wi,xs,ys,rfl,g2 _ _ hM,hW,gd,λtd H3 ntd g3 ht=>?_⟩;have js:=(g1.trans g2).trans g3;refine bW ?_;refine⟨_,rfl,s1,ms,3,rfl,aj.of (js _ _ vM),by decide,λc3=>⟨_,_,rfl,rfl,(by show(0:Int)<97;decide),?_⟩⟩;try dsimp only
 have z0:=W7 c3 (show(97:Int)≠0 by decide);have z1:=Wt c3 (show(0:Int)<97 by decide);obtain⟨z,ez⟩:∃z:Nat,c3 % 97=(z:Int):=⟨(c3 % 97).toNat,by omega⟩;rw[ez];have hz:z<97:=by omega
 refine bW ?_;refine⟨_,rfl,_,rfl,m,wi,xs,ys,rfl,g3 _ _ (g2 _ _ hM),g3 _ _ hW,gd.1,gd.2.1,gd.2.2.1,gd.2.2.2.1,gd.2.2.2.2,λLd H4 g4 la=>λx dx nx xT nd=>?_⟩;have xU:upd H4 dx (.own x) x=none:=by rw[aQ (λz=>nd z.symm)];exact nx
 obtain⟨H5,e5⟩:∃H5,H5=upd (upd H4 dx (.own x)) x (.ins C dx []):=⟨_,rfl⟩;have g5:ai H4 H5:=by rw[e5];exact(cj xT _).trans (cj xU _)
 have hx5:H5 x=some (.ins C dx []):=by rw[e5];exact aS
 rw[←e5];refine⟨x,dx,Ld,xs,ys,rfl,hx5,la.same g5,λl H6 eh Bg b6 ba=>⟨rfl,?_⟩⟩;subst eh;have keep:∀{a:Addr} {o:HO},H4 a=some o->H6 a=some o/\a∉l.fp:=λ{a o} e=>by
  have na:a≠l.h:=bX e nx;refine⟨b6 _ _ (g5 _ _ e) na,λz=>?_⟩;have:=Bg a z na;rw[g5 _ _ e] at this;cases this
 have JP:=g4 _ _ (js _ _ vM);have ht4:=ht.same g4;obtain⟨tm,tf,tw,ts,dw,q1,q2,q3,q4⟩:=ht4;have JQ:eK H6 td xs ys:=⟨tm,tf,tw,ts,(keep dw).1,(keep q1).1,(keep q2).1,(keep q3).1,(keep q4).1⟩;refine⟨_,rfl,_,rfl,_,rfl,s1,_,rfl,aj.of (keep JP).1,λca H7 UC g7 By=>⟨_,rfl,_,rfl,xs,ys,z,ca,td,l,⟨[],[],0,[],[]⟩,cs,rfl,ba.same g7,rfl,gd,by rw[By,ec],ba.fresh UC,JQ.same g7,(keep dw).2,hz,lcs,λl2 b nl sd fl st H8 wt si=>?_⟩⟩;refine⟨st,_,rfl,aA.of si.tup,rfl,_,_,rfl,bb ⟨_,_,rfl,bb ⟨_,_,rfl,bb ⟨_,_,rfl,bb ⟨rfl,?_⟩⟩⟩⟩⟩;dsimp only;have eh:=wt.h;have f63:=si.ok.fl;have Br:=si.ok.m;have ok:=si.ok;have UD:H8 s1=some (.lst (ms.map V.int))/\s1∉l2.fp:=wt.off (g7 _ _ (keep JP).1) (keep JP).2;have sz5:(100000:Nat)<=sizeLine:=by rw[sizeLine_eq];omega
 refine bW ?_;refine⟨by show 0<=sizeLine;omega,λdu H9 yk g9 UE=>?_⟩;refine bW ?_;refine λse HA yt gA hse=>?_;have R6:se≠du:=λz=>by rw[z,UE] at yt;cases yt
 have Zf7:=g9.free yt;refine fP (λσ H'=>∃(eW nK iG:Option V),ai H8 H'/\H' du=some (.lst (cO b.ps (d5 b.F xs.length b.ps.length)))/\σ=qC s1 m wi td l.h nl sd fl n z b.co (some (.ref du)) (some (.ref se)) eW nK iG none none) (λl9 eG=>?_) ?_
 ·have siA:=si.same (g9.trans gA);refine⟨_,rfl,nl,rfl,⟨_,aj.of siA.names⟩,jA (K:=K) (a:=nl) (xs:=jw b.ps) (λj σ H'=>∃(kvs:List (Key×V)) (eW nK iG:Option V),ai H8 H'/\H' du=some (.lst (cO b.ps (d5 b.F xs.length j)))/\H' se=some (.dK kvs)/\kvs.length<=100*j/\(∀x:Nat,x<b.ps.length->(aO kvs (.inr (aq b.ps x))≠none↔∃r,r<j/\bJ b.F r x))/\σ=qC s1 m wi td l.h nl sd fl n z b.co (some (.ref du)) (some (.ref se)) eW nK iG none none)
   ⟨[],none,none,none,g9.trans gA,gA _ _ UE,hse,Yd _,λx _=>⟨λz=>absurd rfl z,λ⟨r,h,_⟩=>absurd h (Wm _)⟩,rfl⟩ (λj σ H' _ ⟨_,_,_,_,g,_⟩=>aj.of (g _ _ si.names)) ?_ ?_⟩
  ·rintro j v σ HB hj ⟨kvs,eW,nK,iG,gB,rX,Ap,len,seen,rfl⟩;have jm:j<b.ps.length:=by
    have:=(Yh.mp hj).1;rw[wI] at this;exact this
   obtain rfl:V.str (aq b.ps j)=v:=Yq ((OV jm).symm.trans hj);have pk:=si.same gB;refine bb ?_;refine⟨_,rfl,_,rfl,se,_,rfl,cV Ap rfl,_,rfl,?_⟩;cases ev:aO kvs (.inr (aq b.ps j)) with
   |some y=>
    refine bY (aV ?_);obtain⟨r,rj,cr⟩:=(seen j jm).mp (by rw[ev];exact λz=>nomatch z);refine⟨kvs,_,_,_,gB,?_,Ap,by omega,λx xm=>?_,rfl⟩
    ·rw[E9,if_neg (λh=>h.1 r rj cr),Y8];exact rX
    rw[seen x xm];constructor
    ·rintro⟨r',h1,h2⟩;exact⟨r',by omega,h2⟩
    ·rintro⟨r',h1,h2⟩;by_cases z:r'=j;·exact⟨r,rj,cr.trans (by rw[←z];exact h2)⟩
     ·exact⟨r',by omega,h2⟩
   |none=>
    refine cS ?_;have rep:∀k,k<j->¬bJ b.F k j:=λk hk c=>(seen j jm).mpr ⟨k,hk,c⟩ ev;refine bW ?_;refine⟨_,rfl,_,rfl,_,rfl,fl,td,b.ps,xs,ys,b.F,j,rfl,pk.FL,pk.turns,ok.nm,pk.good.1,gd.2.2.2.2,by omega,pk.good.2,jm,λrl HC nrl gC Bz=>?_⟩;obtain⟨u,R,eR⟩:=Lb ok jm;obtain⟨uin,yes⟩:=qN.mp (show u∈cA b.F xs.length j by rw[eR];exact Yf);have Zf8:=gC _ _ Ap;have BA:=si.same (gB.trans gC);refine fP (λσ H9=>ai H8 H9/\H9 rl=some (.lst ((cA b.F xs.length j).map V.int))/\H9 du=some (.lst (cO b.ps (d5 b.F xs.length j)))/\∃(kvs:List (Key×V)) (iG:Option V),H9 se=some (.dK kvs)/\kvs.length<=100*(j+1)/\(∀x:Nat,x<b.ps.length->(aO kvs (.inr (aq b.ps x))≠none↔∃r,r<j+1/\bJ b.F r x))/\σ=qC s1 m wi td l.h nl sd fl n z b.co (some (.ref du)) (some (.ref se)) (some (.str (aq b.ps j))) (some (.ref rl)) iG none none) (λnA eS=>?_) ?_
    ·refine ZT (λd H9 kv=>∃gl:List (Nat×Int),ai HC H9/\H9 d=some (.dK kv)/\kv=gN b.ps gl/\BF b.F xs.length b.ps.length j u gl/\gc xs.length b.F (λk=>gl.lookup k)) (λR' hR=>?_) ?_;·exact⟨_,rfl,_,rfl,_,rfl,_,rfl,rl,_,_,.int u,rfl,rfl,aj.of (by rw[eR] at Bz;exact Bz),fF (j:=0) rfl,fl,td,b.ps,xs,ys,b.F,j,u,rfl,BA.FL,BA.turns,ok.nm,pk.good.1,gd.2.2.2.2,by omega,pk.good.2,jm,uin,yes,λdp gl HD gD hdp bf cl=>hR dp HD (gN b.ps gl) ⟨gl,gD,hdp,rfl,bf,cl⟩⟩
     ·rintro d HD kv ⟨gl,gD,hd,rfl,bf,cl⟩;have gll:=bf.len;have tF:=gD _ _ Zf8;have JR:se≠d:=λz=>by
       rw[z,hd] at tF;have e:gN b.ps gl=kvs:=by injection tF with h;injection h
       rw[←e,ot ok.nm jm λp hp=>(bf.lt p hp).1,bf.hd] at ev;cases ev
      refine⟨hd,λi σ H'=>∃(qD:List (Key×V)) (yE:Option V),(∀c o,HD c=some o->c≠d->c≠se->H' c=some o)/\H' se=some (.dK qD)/\qD.length<=100*j+i/\(∀x:Nat,x<b.ps.length->(aO qD (.inr (aq b.ps x))≠none↔(∃r,r<j/\bJ b.F r x)\/x∈(gl.take i).map (·.1)))/\σ=qC s1 m wi td l.h nl sd fl n z b.co (some (.ref du)) (some (.ref se)) (some (.str (aq b.ps j))) (some (.ref rl)) yE none none,λod=>?_,?_,?_⟩;·exact⟨kvs,iG,λc o e n1 _=>by rw[aQ n1];exact e,by rw[aQ JR];exact tF,by omega,λx xm=>by rw[seen x xm];simp,rfl⟩
      ·rintro od i k y aE H' N rt bk hk ⟨qD,yE,gk,JT,R7,xf,rfl⟩ fz hN;rw[gN,Yg] at hk;obtain⟨⟨k0,v0⟩,ek⟩:∃p,gl[i]?=some p:=by
        cases e:gl[i]? with
        |none=>rw[e] at hk;cases hk
        |some p=>exact⟨p,rfl⟩
       rw[ek] at hk;cases hk;have il:i<gl.length:=(Yh.mp ek).1;have jU:gl.take (i+1)=gl.take i++[(k0,v0)]:=by rw[Y0,ek];rfl
       refine bb ?_;have k0m:k0<b.ps.length:=(bf.lt _ (Yi ek)).1;refine⟨_,rfl,_,rfl,se,qD,.inr (aq b.ps k0),rfl,JT,rfl,by omega,λH2 b2 e2=>?_⟩;refine hN _ _ ⟨_,_,λc o e n1 n2=>b2 _ _ (gk c o e n1 n2) n2,e2,?_,λx xm=>?_,rfl⟩ (b2 _ _ fz (λz=>JR z.symm))
       ·have:=vV qD (.inr (aq b.ps k0)) (.bl true);omega
       ·rw[Ms,jU,Yn,Yt];by_cases z:x=k0
        ·rw[if_pos (by rw[z])];exact⟨λ_=>.inr (.inr (by rw[z];exact Yf)),λ_ z=>nomatch z⟩
        ·rw[if_neg (λw=>z (qY ok.nm xm k0m (Wk w))),xf x xm];constructor
         ·rintro(h|h);·exact .inl h
          ·exact .inr (.inl h)
         ·rintro(h|h|h);·exact .inl h
          ·exact .inr h
          ·exact absurd (by simpa using h) z
      ·rintro od aE H' ⟨qD,yE,gk,JT,R7,xf,rfl⟩ fz;rw[Qf] at R7 xf;rw[Wd] at xf;have kp:∀c o,HD c=some o->c≠se->upd H' d (.dK (gN b.ps gl)) c=some o:=λc o e n2=>by
        by_cases z:c=d;·subst z;rw[aS];rw[hd] at e;exact e
        ·rw[aQ z];exact gk c o e z n2
       have UG:=gC.trans gD;refine eS _ _ ⟨λc o e=>kp c o (UG _ _ (gB _ _ e)) (bX e Zf7),kp _ _ (gD _ _ Bz) (di (gD _ _ Bz) tF (λz=>by cases z)),kp _ _ (UG _ _ rX) (λz=>R6 z.symm),qD,yE,by rw[aQ JR];exact JT,by omega,λx xm=>?_,rfl⟩;rw[xf x xm];have key:=bf.key cl x;have mem:x∈gl.map (·.1)↔∃v,gl.lookup x=some v:=⟨λh=>by
        cases e:gl.lookup x with
        |none=>exact absurd h (Cb e)
        |some v=>exact⟨v,rfl⟩,λ⟨v,h⟩=>wa h⟩
       rw[mem,key];constructor
       ·rintro(⟨r,h1,h2⟩|h);·exact⟨r,by omega,h2⟩
        ·exact⟨j,by omega,h⟩
       ·rintro⟨r,h1,h2⟩;by_cases z:r=j;·exact .inr (by rw[←z];exact h2)
        ·exact .inl ⟨r,by omega,h2⟩
    rintro _ HD ⟨gD,hrD,GZ,Ak,yE,tF,R8,Q7,rfl⟩;refine⟨_,rfl,rl,_,rfl,.inl (aj.of hrD),_,_,rfl,rfl,_,rfl,?_⟩;rw[Ya];refine bB (λcc=>?_) (λcc=>aV ?_)
    ·have big:1<(cA b.F xs.length j).length:=by have:=of_decide_eq_true cc;omega
     have sl:=O3 b.F xs.length j;refine⟨_,rfl,.inl ⟨rfl,_,aj.of GZ⟩,_,rfl,du,_,_,rfl,rfl,GZ,by unfold cO;rw[Ya];omega,λHE bE eE=>?_⟩;refine⟨Ak,_,_,_,λc o e=>bE _ _ (gD _ _ e) (bX e yk),?_,bE _ _ tF R6,R8,Q7,rfl⟩;rw[E9,if_pos ⟨rep,big⟩,eE];unfold cO;rw[Yn];rfl
    ·refine⟨Ak,_,_,_,gD,?_,tF,R8,Q7,rfl⟩;rw[E9,if_neg (λh=>cc (decide_eq_true (by omega))),Y8];exact GZ
  ·rintro σ HB ⟨kvs,eW,nK,iG,gB,rX,Ap,len,seen,rfl⟩;rw[wI] at rX;exact eG _ _ ⟨eW,nK,iG,gB,rX,rfl⟩
 rintro σ HB ⟨eW,nK,iG,gB,rX,rfl⟩;have pk:=si.same gB;have ndB:du∉l2.fp:=si.ba.fresh yk;have sl:=O3 b.F xs.length b.ps.length;refine⟨_,rfl,l2,b,xs,ys,by rw[eh];rfl,pk.ba,ok,λl3 p HC wC baC hp=>?_⟩;have BA:=pk.xu wC baC;obtain⟨R9,ndC⟩:=wC.off rX ndB;obtain⟨hsC,nsC⟩:=wC.off (gB _ _ UD.1) UD.2;refine⟨_,rfl,_,_,.lst _,3,rfl,rfl,uE hp (by omega),uE R9 (by omega),λHD gD=>⟨_,rfl,bY (aV ?_)⟩⟩;have yF:=BA.same gD;have s0:kL C CL CJ xs ys b.ps (d5 b.F xs.length b.ps.length) s1 td du ms b.fs.length 0 l3 b fl HD:=⟨yF.ba,ok,rfl,yF.facts,yF.n3,yF.turns,yF.n4,gD _ _ hsC,nsC,gD _ _ R9,ndC,rfl,Yd _,si.cd⟩;obtain⟨D,eD⟩:∃D,D=d5 b.F xs.length b.ps.length:=⟨_,rfl⟩;rw[←eD] at s0 sl;have Dm:∀i∈D,i<b.ps.length:=λi hi=>(qO.mp (Yy.mp (by rw[eD] at hi;exact hi)).1).1;have nlD:(cO b.ps D).length=D.length:=by unfold cO;rw[Ya]
 have cf0:=si.cf;refine fP (λσ H'=>∃(l':BL) (b':BS) (dm:Addr) (nL pq nM:Option V),l'.h=l.h/\kL C CL CJ xs ys b.ps D s1 td du ms b.fs.length D.length l' b' dm H'/\σ=qC s1 m wi td l.h nl sd dm n z b'.co (some (.ref du)) (some (.ref se)) eW nL iG pq nM) (λBc nB=>?_) ?_
 ·refine⟨_,rfl,du,_,rfl,.inl (aj.of s0.hd),_,rfl,by omega,by omega,yW (lo:=0) (n:=(((cO b.ps D).length:Nat):Int).toNat) (λj σ H'=>∃(l':BL) (b':BS) (dm:Addr) (nL pq nM:Option V),l'.h=l.h/\kL C CL CJ xs ys b.ps D s1 td du ms b.fs.length j l' b' dm H'/\σ=qC s1 m wi td l.h nl sd dm n z b'.co (some (.ref du)) (some (.ref se)) eW nL iG pq nM)
   ⟨l3,b,fl,nK,none,none,wC.h.trans eh,s0,rfl⟩ ?_ ?_⟩
  ·rintro j σ HE hj ⟨l',b',dm,nL,pq,nM,e',s,rfl⟩;rw[J3];have jD:j<D.length:=by omega
   refine bb ?_;have ep:=s.ep;obtain⟨i,rest,ed⟩:∃i rest,D.drop j=i::rest:=⟨_,_,List.drop_eq_getElem_cons jD⟩;have st:d5 b'.F xs.length b.ps.length=i::rest:=s.es.trans ed;have ej:D[j]?=some i:=by
    have:=List.getElem?_drop (xs:=D) (i:=j) (j:=0);rw[ed] at this;exact this.symm
   have im:=Dm i (Yi ej);have big:1<(cA b'.F xs.length i).length:=of_decide_eq_true (Yy.mp (show i∈d5 b'.F xs.length b.ps.length by rw[st];exact Yf)).2;have xZ:dt (cO b.ps D) (j:Int)=some (.str (aq b.ps i)):=fF (by unfold cO;rw[Yg,ej];rfl);have Zf9:kH (cO b.ps D) (some (j:Int)) none=cO b.ps (D.drop j):=by
    rw[Zbw _ (by omega)];unfold cO;rw[List.map_drop]
   refine mM (λσ H'=>∃l4,l4.h=l.h/\kL C CL CJ xs ys b.ps D s1 td du ms b.fs.length j l4 b' dm H'/\σ=qC s1 m wi td l.h nl sd dm n z b'.co (some (.ref du)) (some (.ref se)) eW nL iG (some (.int (j:Int))) nM) (λnA eS=>?_) ?_
   ·refine⟨_,rfl,l',b',xs,ys,by rw[e'];rfl,s.ba,s.ok,λl4 HF wF BB=>⟨rfl,_,rfl,bB (λcc=>?_) (λ_=>?_)⟩⟩
    ·have:=(O1 s.ok).mp (V.int.inj (of_decide_eq_true cc));rw[ep,st] at this;cases this
    refine⟨_,rfl,l4,b',xs,ys,by rw[wF.h,e'];rfl,BB,s.ok,λl5 p HG wG baG hp=>?_⟩;have sG:=(s.xu wF BB).xu wG baG;rw[ep,sG.es] at hp;refine⟨_,rfl,_,rfl,_,rfl,du,_,rfl,aj.of sG.hd,λca HI UC gI By=>?_⟩;rw[Zf9] at By;have dl:(D.drop j).length<=1000:=by rw[Jg];omega
    exact⟨_,_,.lst _,3,rfl,rfl,uE (gI _ _ hp) dl,uE By dl,λHJ gJ=>⟨_,rfl,bY (aV (eS _ _ ⟨l5,by rw[wG.h,wF.h,e'],sG.same (gI.trans gJ),rfl⟩))⟩⟩
   rintro _ HF ⟨l4,e4,sF,rfl⟩;have gb:=s.ok.good;rw[ep] at gb;have nmb:(b.ps.map (·.1)).Nodup:=ok.nm;refine bW ?_;refine⟨_,rfl,_,rfl,_,rfl,_,rfl,du,_,_,_,rfl,rfl,aj.of sF.hd,xZ,dm,td,b.ps,xs,ys,b'.F,i,rfl,sF.FL,sF.turns,nmb,gb.1,gd.2.2.2.2,by omega,gb.2,im,λrm HK nrm gK hrm=>?_⟩;have sK:=sF.same gK;refine bW ?_;refine⟨_,rfl,_,rfl,_,rfl,_,_,rfl,rfl,s1,ms,4+(j:Int),rfl,aj.of sK.hs,by omega,λc0=>⟨_,_,rfl,rfl,by show 1<=sizeLine;omega,λpl HL yo gL cL=>⟨c0+9,pl,[8],rfl,aj.of cL,by decide,by decide,λdr ds HM ndr gM hdr bd=>?_⟩⟩⟩;obtain⟨d0,rfl,_⟩:=ZcH bd;have UH:=gL.trans gM;have R_:=UH _ _ hrm;have UI:((cA b'.F xs.length i).map V.int).length=(cA b'.F xs.length i).length:=Ya _;obtain⟨r,mr,er⟩:∃r,r∈cA b'.F xs.length i/\dt ((cA b'.F xs.length i).map V.int) (d0 % (((cA b'.F xs.length i).map V.int).length:Int))=some (.int r):=by
    rw[UI];have h0:=W7 d0 (show((cA b'.F xs.length i).length:Int)≠0 by omega);have h1:=Wt d0 (show(0:Int)<((cA b'.F xs.length i).length:Int) by omega);obtain⟨k,ek⟩:∃k:Nat,d0 % ((cA b'.F xs.length i).length:Int)=(k:Int):=⟨(d0 % ((cA b'.F xs.length i).length:Int)).toNat,by omega⟩;have kl:k<(cA b'.F xs.length i).length:=by omega
    rw[ek];exact⟨_,Jf kl,fF (by rw[Yg,Yb kl];rfl)⟩
   refine⟨dr,_,_,.int d0,rfl,rfl,aj.of hdr,rfl,_,rfl,rm,_,rfl,.inl (aj.of R_),_,_,rfl,rfl,by show(0:Int)<_;rw[UI];omega,rm,_,_,.int r,rfl,rfl,aj.of R_,er,?_⟩;have sM:=sK.same UH;have cf:=sM.cf;have cd:=sM.cd;have so:=Zbv s.ok (by rw[ep];exact im) mr big (by omega);obtain⟨dx,ho⟩:=sM.ba.obj;rw[e4] at ho;refine mM (λσ H'=>∃l6,l6.h=l.h/\bM HM H' l4 l6/\a8 H' C CL CJ l6 xs ys (b'.pX ⟨aY,i,r,[]⟩)/\σ=qC s1 m wi td l.h nl sd dm n z b'.co (some (.ref du)) (some (.ref se)) eW (some (.ref rm)) iG (some (.int (j:Int))) (some (.int r))) (λnx3 hn3=>?_) ?_;·exact⟨_,rfl,l.h,dx,_,rfl,ho,rfl,_,rfl,_,rfl,du,_,_,_,rfl,rfl,aj.of sM.hd,xZ,_,rfl,l4,b',xs,ys,⟨aY,i,r,[]⟩,by rw[e4,ep];rfl,sM.ba,s.ok,so,by omega,λl6 HN wN BC=>⟨_,rfl,_,_,.int (b'.co:Int),3,rfl,rfl,zR,zR,λHO gO=>⟨_,rfl,bY (aV (hn3 _ _ ⟨l6,wN.h.trans e4,wN.same gO,BC.same gO,rfl⟩))⟩⟩⟩
   rintro _ HN ⟨l6,e6,wN,BC,rfl⟩;obtain⟨as,h1,h2⟩:=sM.facts;have al:=cI h2;have h1N:=(wN.off h1 sM.n3).1;have JU:=wN.off sM.hd sM.nd;have UJ:=wN.off sM.hs sM.ns;obtain⟨_,_,_,_,dw,_⟩:=id sM.turns;have pN:=ud wN sM.ba h2;refine bW ?_;refine⟨_,rfl,_,rfl,_,rfl,_,rfl,du,_,_,_,rfl,rfl,aj.of JU.1,xZ,_,rfl,by show 4<=sizeLine;omega,λt6 HP nt6 gP JQ=>⟨by show 1<=sizeLine;omega,λl7 HR nl7 gR hl7=>⟨dm,l7,_,_,rfl,rfl,gR _ _ (gP _ _ h1N),hl7,by rw[Ya];show _+1<=_;omega,λfl3 HS Zf_ gS Zga=>?_⟩⟩⟩;have UK:=gP.trans gR;have yG:=UK.trans gS;refine⟨_,rfl,_,_,rfl,rfl,⟨l6,b'.pX ⟨aY,i,r,[]⟩,fl3,_,_,_,e6,⟨BC.same yG,?_,ep,⟨as++[t6],?_,?_⟩,(BC.same UK).fresh Zf_,(wN.eK sM.ba sM.turns sM.n4).same yG,(wN.off dw sM.n4).2,yG _ _ UJ.1,UJ.2,yG _ _ JU.1,JU.2,?_,?_,?_⟩,rfl⟩⟩
   ·exact s.ok.RN so.nf.fg (λmm=>by
     obtain⟨pp,yy,e⟩:=Ye.mp mm;have:=s.ok.lt pp yy;omega) so.nf.nk so.nf.np so.nf.lv (by omega) (co:=b'.co+1) (G6 _) (W8 _) (by rw[Yk];show _+1<=200;omega) (Yw _)
   ·rw[Zga,Yn];rfl
   ·refine iH (F:=dM HS b'.ps) ?_ (L2.Paired.bw pN λ_ _ e=>yG _ _ e);show HS t6=_;rw[gS _ _ (gR _ _ JQ)];unfold dJ;rw[jz rfl,ep];rfl
   ·have e:(b'.pX ⟨aY,i,r,[]⟩).F=b'.F++[⟨aY,i,r,[]⟩]:=Yn;rw[e,Zbt st];rw[←List.drop_drop,ed];rfl
   ·show(b'.fs++[_]).length<=_;rw[Yk];show _+1<=_;omega
   ·show(b'.dn++[_]).length<=_;rw[Yk];show _+1<=_;omega
  ·rintro σ HE ⟨l',b',dm,nL,pq,nM,e',s,rfl⟩;rw[Y5,nlD] at s;exact nB _ _ ⟨l',b',dm,nL,pq,nM,e',s,rfl⟩
 rintro σ HE ⟨l',b',dm,nL,pq,nM,e',s,rfl⟩;have es:d5 b'.F xs.length b'.ps.length=[]:=by rw[s.ep,s.es,List.drop_length]
 refine⟨_,rfl,l',b',xs,ys,by rw[e'];rfl,s.ba,s.ok,λl4 HF wF BB=>⟨_,_,.int 1,3,rfl,rfl,by rw[(O1 s.ok).mpr es];exact zR,zR,λHG gG=>⟨true,rfl,cS ?_⟩⟩⟩;refine⟨_,rfl,l4,b',xs,ys,by rw[wF.h,e'];rfl,BB.same gG,s.ok,λl5 p HH wH baH hp=>⟨by show 0<=sizeLine;omega,λe0 HI ne gI he=>?_⟩⟩;rw[es] at hp;exact⟨_,_,.lst [],3,rfl,rfl,uE (ps:=b.ps) (is:=[]) (gI _ _ hp) (Yw _),uE (ps:=b.ps) (is:=[]) he (Yw _),λHJ _=>q HJ⟩
end
theorem all_mk{l:PySem.W.OpenLaw}{w:World}{K:PySem.W.Frag}{h:Heap}{mg:Str->Option Value}{fa:Addr}(X:K.In h)(G:h.Ns mainGlobals mg)(cP:mg "law"=some (.ref fa))
  (p1:bO K "is_turn" Ej f1)
  (p2:bO K "still" Fn f2)
  (p3:bO K "behind" EN f3)
  (p4:bO K "back" FR f4)
  (p5:bO K "check_turn" CT f5)
  (p6:bO K "check_rows" CU f6)
  (p7:bO K "check_parents" B3 f7)
  (p8:bO K "land_of" Ek f8)
  (p9:bO K "followed" DM f9)
  (p10:bO K "turned_back" CA Hv)
  (p11:bO K "lines_up" DN f11)
  (p12:bO K "is_tie" EO f12)
  (p13:bO K "tie_turn" DO f13)
  (nL:bO K "fact_key" DP f14)
  (p15:bO K "keep_fact" Dc f15)
  (pq:bO K "fact_fits" Dd f16)
  (nM:bO K "is_name" El f17)
  (p18:bO K "check_person" Ci f18)
  (p19:bO K "check_tie" De f19)
  (p20:bO K "sides_fit" Df f20)
  (p21:bO K "told_already" Cj f21)
  (p22:bO K "check_elders" Ck f22)
  (p23:bO K "check_saying" Cm f23)
  (p24:bO K "check_section" B4 f24)
  (p25:bO K "is_person" Dg f25)
  (p26:bO K "open_of" Em f26)
  (p27:bO K "groups" ER f27)
  (p28:bO K "dealings" DQ f28)
  (p29:bO K "settlers" DR f29)
  (p30:bO K "_law_cell" KW f30)
  (p31:bO K "_law_draws" Km f31)
  (p32:bO K "_law_turn" KY f32)
  (p33:bO K "_law_row" En f33)
  (p34:bO K "_law_inverse" CB f34)
  (p35:bO K "_law_after" Dh f35)
  (p36:bO K "_law_turns" Di f36)
  (p37:bO K "_law_same" yO f37)
  (p38:bO K "_law_nets" DS f38)
  (p39:bO K "_law_carried" CC f39)
  (p40:bO K "_law_room" DT f40)
  (p41:bO K "_law_name" DU f41)
  (p42:bO K "_law_up" ES f42)
  (p43:bO K "_law_told" DV f43)
  (p44:bO K "_law_sided" Dj f44)
  (p45:bO K "_law_word" DW f45)
  (p46:bO K "_law_pick" DX f46)
  (p47:bO K "_law_fact" DY f47)
  (p48:bO K "_law_put" Eo f48)
  (p49:bO K "_law_step" DZ f49)
  (p50:bO K "_law_grow" D0 f50)
  (p51:bO K "_law_good" D1 f51)
  (p52:bO K "law" rC f52)
  (z:ql K ["len","abs","list","range","tuple","any","all","isinstance","bool","int","str","sorted","min","max","sum","dict","reversed","ValueError"])
  (V2:nsIn K mainGlobals "LEAST_SIZE"=some (some (.int (2) Zgw)))
  (WX:nsIn K mainGlobals "MOST_SIZE"=some (some (.int (8) ZgF)))
  (Vo:nsIn K mainGlobals "LONGEST_NAME"=some (some (.int (12) Zgn)))
  (Zad:nsIn K mainGlobals "PUT_IN"=some (some (.int (1) ZgZ)))
  (WY:nsIn K mainGlobals "TAKEN_OUT"=some (some (.int (-1) ZgG)))
  (VF:nsIn K mainGlobals "TIE_LETTERS"=some (some (.ref mw)))
  (JY:PyProof.Rows.KTD.tabLook PyProof.Rows.KTD.flatLooks (λb=>K.lookup b) mw [("mother",PyData.str "m"),("father",PyData.str "f"),("wed",PyData.str "w"),("sibling",PyData.str "s")]=true)
  (Zj:nsIn K mainGlobals "PARENTS"=some (some (.ref dC)))
  (Zk:K.lookup dC=some ⟨.type "tuple",ZgV,.seq #[.str "mother" ZgH,.str "father" ZgI] ZgW,ZgX⟩)
  (Zd6:nsIn K mainGlobals "MAN"=some (some (.str "man" Zg7)))
  (Zbx:nsIn K mainGlobals "WOMAN"=some (some (.str "woman" Zg2)))
  (UT:nsIn K mainGlobals "LETTERS_OF_NAMES"=some (some (.str "abcdefghijklmnopqrstuvwxyz" Zgd)))
  (U2:nsIn K mainGlobals "SIGNS_OF_NAMES"=some (some (.str "abcdefghijklmnopqrstuvwxyz0123456789" Zgh)))
  (ZcJ:nsIn K mainGlobals "SAID"=some (some (.str "said" Zg3)))
  (Zl:nsIn K mainGlobals "SIBLING"=some (some (.str "sibling" ZgY)))
  (Zd7:xQ K "Land" cJ)
  (lc:uC K cJ)
  (XT:cH K cJ "__init__" "Land.__init__" Dk ZgP)
  (XU:cH K cJ "step" "Land.step" Dn ZgQ)
  (ZcK:xQ K "Joins" b_)
  (jc:kj K b_)
  (WZ:cH K b_ "__init__" "Joins.__init__" CV ZgJ)
  (XW:cH K b_ "add" "Joins.add" Dp ZgR)
  (XX:cH K b_ "tie" "Joins.tie" Dq ZgS)
  (XY:cH K b_ "say" "Joins.say" Dr ZgT)
  (Vp:cH K b_ "open_at" "Joins.open_at" B5 Zgo)
  (W_:cH K b_ "left" "Joins.left" CW ZgK)
  (Vb:cH K b_ "together" "Joins.together" BV Zgk)
  (V3:cH K b_ "pairs" "Joins.pairs" CD Zgx)
  (VG:cH K b_ "narrow" "Joins.narrow" Cn Zgt)
  (UM:cH K b_ "bring_together" "Joins.bring_together" BD Zgb)
  (Xa:cH K b_ "move" "Joins.move" CY ZgL)
  (Vq:cH K b_ "head_of" "Joins.head_of" B6 Zgp)
  (V4:cH K b_ "dealt" "Joins.dealt" CF Zgy)
  (UP:cH K b_ "dealt_beside" "Joins.dealt_beside" BG Zgc)
  (Zby:xQ K "Hearth" cX)
  (hc:fG K cX)
  (V5:cH K cX "__init__" "Hearth.__init__" CG Zgz)
  (Vr:cH K cX "person" "Hearth.person" B7 Zgq)
  (Xb:cH K cX "tie" "Hearth.tie" CZ ZgM)
  (Xc:cH K cX "say" "Hearth.say" C0 ZgN)
  (V6:cH K cX "keep" "Hearth.keep" CH ZgA)
  (V7:cH K cX "take" "Hearth.take" CI ZgB)
  (Vs:cH K cX "people" "Hearth.people" B8 Zgr)
  (Vc:cH K cX "side_of" "Hearth.side_of" BW Zgl)
  (ZgC:cH K cX "kept" "Hearth.kept" VR ZgD)
  (Xd:cH K cX "has" "Hearth.has" C1 ZgO)
  (UX:cH K cX "parent_of" "Hearth.parent_of" BK Zgf)
  (UU:cH K cX "parents_of" "Hearth.parents_of" BI Zge)
  (VH:cH K cX "joins" "Hearth.joins" Co Zgu)
  (Vd:cH K cX "do_deed" "Hearth.do_deed" BX Zgm)
  (VI:cH K cX "shift" "Hearth.shift" Cp Zgv)
  (Vu:cH K cX "put_in" "Hearth.put_in" B9 Zgs)
  (UY:cH K cX "note_fact" "Hearth.note_fact" BM Zgg)
  (U3:cH K cX "take_out" "Hearth.take_out" BQ Zgi)
  (U4:cH K cX "place_of" "Hearth.place_of" BR Zgj)
  :∃fd:FuncData,(∀(s:Shared) (v:Value),BindsTo s fd ⟨[v],[]⟩ [("_law_script",v)])/\∀base:Heap,K.In base->base.Ns mainGlobals mg->aG l.prog w K mg base (m9 l.prog w) 16 fa fd ["_law_script"] (z7 K):=by
 obtain @⟨od,an,sl,oc,kV,dc,pm,cd,ct,ax,lx,cx,kx⟩:=p52;have e:=cP.symm.trans (mg_of X G ax);cases e;have bl:=z.bl X G;have C2:=mg_of X G V2;have Du:=mg_of X G WX;have Cs:=mg_of X G Vo;have nZ:=mg_of X G Zad;have DA:=mg_of X G WY;have tL:=mg_of X G VF;have iI:=mg_of X G Zj;have wk:∀H,aA K H dC [.str "mother",.str "father"]:=λ_=>.inr ⟨_,_,_,Zk,rfl,rfl,by show 2<=sizeLine;decide,(.cons ⟨_,rfl⟩ (.cons ⟨_,rfl⟩ .nil))⟩;have rF:=mg_of X G Zd6;have qX:=mg_of X G Zbx;have BO:=mg_of X G UT;have B0:=mg_of X G U2;have ko:=mg_of X G ZcJ;have nX:=mg_of X G Zl;have Zd8:=lc.cls;have jE:=jc.cls;have gQ:=hc.cls;refine⟨fnOf "law" "law" (oa rC) (kh rC) (aH rC) .none kV dc pm an cd ct,λs v=>.of_eq rfl,λbase _ _=>?_⟩;have F:=wM (st:=rC) lx cx kx;have D:kQ l.prog w K mg base:=⟨X,G⟩;have qM:=D.d p30 (λ_ F=>Zb_ F bl.zX);have nP:=D.d p31 (λ_ F=>ZaR F bl.Zen);have t_:=D.d p1 (λ_ F=>YJ F bl);have pE:=D.d p9 (λ_ F=>Xv F bl);have nO:=D.d p10 (λ_ F=>VA F bl);have uk:=D.d p2 (λ_ F=>ZaU F bl);have Dw:=D.m Zd8 XU (λ_ F=>Zcf F lc);have Fu:=D.j ZcK WZ (λ_ F=>ZaY F jc bl);have tH:=D.m jE Vb (λ_ F=>Xw F jc bl);have jx:=D.m jE Vp (λ_ F=>YN F jc bl);have tJ:=D.m jE VG (λ_ F=>ZW F jc bl);have ui:=D.d p12 (λ_ F=>Z0 F tL JY);have nR:=D.d nL (λ_ F=>XA F nX bl);have tI:=D.m gQ Vs (λ_ F=>Z1 (CL:=cJ) (CJ:=b_) F hc bl);have qE:=D.m gQ Vc (λ_ F=>YT (CL:=cJ) (CJ:=b_) F hc bl);have tT:=D.d p25 (λ_ F=>WM F bl);have BP:=D.m gQ UX (λ_ F=>WN (CL:=cJ) (CJ:=b_) F hc);have BJ:=D.m gQ UU (λ_ F=>VZ (CL:=cJ) (CJ:=b_) F hc iI wk);have Ew:=D.d nM (λ_ F=>YW F Cs BO B0 bl);have E_:=D.j Zby V5 (λ_ F=>Zbg (CL:=cJ) (CJ:=b_) F hc);have DB:=D.d p20 (λ_ F=>WQ F rF qX nX);have Ce:=D.d p24 (λ_ F=>U_ (C:=cX) (CL:=cJ) (CJ:=b_) F hc lc bl);have DD:=D.d p35 (λ_ F=>WU F bl);have qG:=D.d p34 (λ_ F=>YY F bl);have tN:=D.d p39 (λ_ F=>YZ F bl);have D8:=D.d p43 (λ_ F=>XD F);have DE:=D.d p44 (λ_ F=>WW F);have E3:=D.d p42 (λ_ F=>Z5 F bl);have yS:=D.d p46 (λ_ F=>XF F bl);have D9:=D.d p41 (λ_ F=>XH F bl);have tG:=D.m gQ U4 (λ_ F=>XN (CL:=cJ) (CJ:=b_) F hc);have Cg:=D.m jE Vq (λ_ F=>Zh F jc);have BH:=D.m jE UP (λ_ F=>Vn F jc bl);have D7:=D.d p32 (λ_ F=>Zca F bl.q0 bl.jb bl.mH);have nQ:HasFn l.prog w K mg base 4 "_law_same" ["_law_found","_law_due"] (q_ 4):=let⟨_,F,b,k,m⟩:=D.p (ps:=["_law_found","_law_due"]) p37;⟨_,_,N3 F b k m bl 4,b,k,m⟩;have qH:=D.d p5 (λ_ F=>ZdT F t_);have tO:=D.d p6 (λ_ F=>Zcd F t_ C2 Du bl);have tU:=D.m jE XW (λ_ F=>ZdU F jc uk bl);have Dx:=D.m jE XY (λ_ F=>ZdV F jx tJ bl);have yH:=D.m jE Xa (λ_ F=>Zch F jc pE nO bl);have CM:=D.m jE V3 (λ_ F=>Za2 F jc tH jx bl);have tZ:=D.d p13 (λ_ F=>Xy (CL:=cJ) F tL JY lc ui Dw);have tQ:=D.m gQ Xd (λ_ F=>Zd1 (CL:=cJ) (CJ:=b_) F hc nR);have BN:=D.m gQ UY (λ_ F=>Zct (CL:=cJ) (CJ:=b_) F hc iI wk nR);have BU:=D.m gQ U3 (λ_ F=>XB (CL:=cJ) (CJ:=b_) F hc iI wk tT nR);have Ct:=D.d p18 (λ_ F=>Vi (C:=cX) (CL:=cJ) (CJ:=b_) F Ew rF qX tI);have D6:=D.d p11 (λ_ F=>XC (C:=cX) (CL:=cJ) (CJ:=b_) F BJ);have y9:=D.d p33 (λ_ F=>YX F nP D7 bl);have t4:=D.d p38 (λ_ F=>ZcB F qG bl);have DF:=D.d p36 (λ_ F=>Zbi F qG DD bl);have D_:=D.d p47 (λ_ F=>XG F yS bl);have CO:=D.m jE V4 (λ_ F=>Zbo F BH bl);have uh:=D.d p3 (λ_ F=>ZeG F qH pE bl);have wV:=D.d p4 (λ_ F=>ZeH F qH nO bl);have BE:=D.m jE UM (λ_ F=>Za1 F jc nO yH bl);have tP:=D.m jE W_ (λ_ F=>Zci F CM bl);have Cu:=D.d p21 (λ_ F=>Zcx (C:=cX) (CL:=cJ) (CJ:=b_) F nX iI wk BP tQ);have Cv:=D.d p22 (λ_ F=>Vk (C:=cX) (CL:=cJ) (CJ:=b_) F D6);have Cw:=D.d p23 (λ_ F=>Vm (C:=cX) (CL:=cJ) (CJ:=b_) F ko qE Ce tQ);have qL:=D.d p40 (λ_ F=>ZcD F t4 tN bl);have Ec:=D.d p51 (λ_ F=>ZcI F t4 tN);have B_:=D.d p7 (λ_ F=>YK F uh bl);have Dy:=D.m jE XX (λ_ F=>ZdY F jc tP tH BE tJ bl);have Dz:=D.d pq (λ_ F=>WK (CL:=cJ) (CJ:=b_) F ko tZ jx tP);have DC:=D.d p19 (λ_ F=>WS (C:=cX) (CL:=cJ) (CJ:=b_) F iI wk ui DB qE Cu Cv);have Ea:=D.d p45 (λ_ F=>XE F DE D8 E3 qL bl);have FU:=D.j Zd7 XT (λ_ F=>Zce F lc tO B_ wV uk bl);have tV:=D.d p15 (λ_ F=>WJ (CL:=cJ) (CJ:=b_) F ko tZ Dx Dy);have EE:=D.d p8 (λ_ F=>YM (C:=cJ) F tO uh FU);have Cc:=D.m gQ Vu (λ_ F=>Z3 (CL:=cJ) (CJ:=b_) F hc tT tU BN tV bl);have j_:=D.m gQ VH (λ_ F=>Zbe (CL:=cJ) (CJ:=b_) F hc lc Fu tU tV);have Cr:=D.m gQ VI (λ_ F=>Zbd (CL:=cJ) (CJ:=b_) F hc nZ Cc BU);have ED:=D.d p26 (λ_ F=>Zf (C:=cX) (CL:=cJ) (CJ:=b_) F j_ tG jx);have E8:=D.d p27 (λ_ F=>Z8 (C:=cX) (CL:=cJ) (CJ:=b_) F j_ tI tG Cg bl);have yV:=D.d p28 (λ_ F=>XR (C:=cX) (CL:=cJ) (CJ:=b_) F j_ CO);have nN:=D.m gQ Vd (λ_ F=>YU (CL:=cJ) (CJ:=b_) F hc Cr);have wb:=D.d p29 (λ_ F=>XS (C:=cX) (CL:=cJ) (CJ:=b_) F ED E8 bl);have Cf:=D.m gQ Vr (λ_ F=>Z4 (CL:=cJ) (CJ:=b_) F hc nZ Ct nN);have tM:=D.m gQ V6 (λ_ F=>Zcv (CL:=cJ) (CJ:=b_) F hc nZ Dz j_ nN);have CN:=D.m gQ V7 (λ_ F=>Zcw (CL:=cJ) (CJ:=b_) F hc DA nN);have C6:=D.m gQ Xb (λ_ F=>Zcy (CL:=cJ) (CJ:=b_) F hc DC tM);have tR:=D.m gQ Xc (λ_ F=>Zcz (CL:=cJ) (CJ:=b_) F hc ko Cw tM);have EA:=D.d p48 (λ_ F=>Zd (C:=cX) (CL:=cJ) (CJ:=b_) F tR C6);have Eb:=D.d p49 (λ_ F=>XJ (C:=cX) (CL:=cJ) (CJ:=b_) F nP D9 D_ Ea EA Cf CN bl);have Ed:=D.d p50 (λ_ F=>XM (C:=cX) (CL:=cJ) (CJ:=b_) F Eb bl);exact Zd5 F qM nP y9 DF nQ qL Ec Ed yV wb tR EE E_ bl
theorem walk{l:PySem.W.OpenLaw}{q:Program}{loose:List Str}{XP:(Str->Option Value)->Heap->Prop}{YP:World->Heap->Prop}{d:DefRec}{K:Params->PySem.W.Frag}(hn:l.most=some 63)(xI:d.params.defaults=[])
  (hY:∀(w:World) (h:Heap),YP w h->(K w.params).In h)
  (F:∀(w:World) (mg:Str->Option Value) (fa:Addr) (h:Heap),(K w.params).In h->h.Ns mainGlobals mg->mg d.name=some (.ref fa)->
   ∃fd:FuncData,(∀(s:Shared) (u:Value),BindsTo s fd ⟨[u],[]⟩ [("_law_script",u)])/\∀base:Heap,(K w.params).In base->base.Ns mainGlobals mg->aG l.prog w (K w.params) mg base (m9 l.prog w) 16 fa fd ["_law_script"] (z7 (K w.params))):
  PySem.W.WalkO q loose XP YP l.row.toRowW d [] (λf vs=>PySem.call f vs):=
 L2.ZbN (n:=63) (k:=16) (x:="_law_script") (CX:=λw=>m9 l.prog w) (sp:=λw=>z7 (K w.params)) hn (by decide) xI ⟨rfl,by decide,by decide,rfl⟩ hY F (λ_ _ a ns hl _ hS=>⟨a,ns,rfl,hS,hl,λ_=>rfl⟩) λ_ _ _ _ _ h=>by obtain⟨_,_,_,_,_,_,_,_,_,_,_,_,_,_,z⟩:=h;exact z
end Ib
namespace PySem.W.Fast
def tw5590939386451096437:=0
def tw6572667171069906329:=0
def tw16844797784374046113:=0
def tw1274850822595877409:=0
def tw14219607206979664865:=0
def tw615716791855074658:=0
def tw10640821291881652227:=0
def tw12831151026155530467:=0
def tw7761576251762594596:=0
def tw15490372440396384837:=0
def tw14549156427618793157:=0
def tw2816890904851209414:=0
def tw6231752984786161287:=0
def tw6805453108568044776:=0
def tw8644873289735085608:=0
def tw9665218308718054668:=0
def tw12876782583751208748:=0
def tw11452220992024931501:=0
def tw11413215476105760174:=0
def tw14027349156523961006:=0
def tw6852049234470061231:=0
def tw5771945364570770031:=0
def tw16158020438262781104:=0
def tw12749376340147242576:=0
def tw5055299878396896944:=0
def tw7669638518165477232:=0
def tw6988375867253585234:=0
def tw12144883666400677394:=0
def tw6477273819363788083:=0
def tw14589425398612504979:=0
def tw4112909777102032980:=0
def tw6156164122603002036:=0
def tw15153279778388529812:=0
def tw3395716737218728501:=0
def tw7101951559227978774:=0
def tw357698860684194903:=0
def tw10340025683526329623:=0
def tw16336594415546216856:=0
def tw9996730335146598872:=0
def tw1261257571535596665:=0
def tw13424966784642767993:=0
def tw284859009452567865:=0
def tw17683891564101181945:=0
def tw2054371537385822778:=0
def tw6782093956446838746:=0
def tw9356665016511698587:=0
def tw3187729405722559355:=0
def tw1197113930218501051:=0
def tw4745393797545738203:=0
def tw8871120735155830876:=0
def tw15019205919038537180:=0
def tw13350281057822484252:=0
def tw1601552165477472349:=0
def tw9715423114784235645:=0
def tw15909108604198575135:=0
def tw16546816577763742047:=0
def tw1542640935392977503:=0
def tw17035024546151783231:=0
def tw5900726515224670015:=0
def tw17778358364571044776:=0
def tw1922766665321096059:=0
def tw15441559561872495873:=0
def tw16027407899384524009:=0
def tw4214200697887815742:=0
def tw16501379667701910502:=0
def tw15039161064959038987:=0
def tw8429022193109117118:=0
def tw12390587629713005058:=0
def tw10015511684411312603:=0
def tw3541431026885424361:=0
def tw8788224473233200227:=0
def tw15926269659775074095:=0
def tw13980767497971881550:=0
def tw13374547840849579908:=0
def tw2086093272146944583:=0
def tw4007282860750984606:=0
def tw12980285202709226396:=0
def tw9984802748861084989:=0
def tw5263838066751372326:=0
def tw6482881832983965698:=0
def tw16221465324440782220:=0
def tw292337200986277939:=0
def tw11055471793990763005:=0
def tw14875987971201596794:=0
def tw10532068364411407832:=0
def tw6670753094554614702:=0
def tw7258721075702923008:=0
def tw8337415000401134656:=0
def tw4486225726289767720:=0
def tw3347055751438021704:=0
def tw4521282040875125996:=0
def tw14008918434297036202:=0
def tw15786531468601556837:=0
def tw14912828899905394471:=0
def tw13652819345156670488:=0
def tw2341049944702371164:=0
def tw5166989262283524830:=0
def tw5901634403382986380:=0
def tw11269433914437279702:=0
def tw3260323636054101269:=0
def tw12482889247292528433:=0
def tw2548662083506040319:=0
def tw12009995577180912860:=0
def tw10021126807012238603:=0
def tw7364833659368215953:=0
def tw588732588085040665:=0
def tw7877575414213019098:=0
def tw7578584611318265659:=0
def tw14926223812428783028:=0
def tw5404737059670837237:=0
def tw17286965823923707614:=0
def tw14092899947313117320:=0
def tw1403628450498451356:=0
def tw15898713711895935676:=0
def tw9979978131507055716:=0
def tw7310992253398973596:=0
def tw15913135291538190959:=0
def tw571571995692183447:=0
def tw18317851895864272567:=0
def tw4466374798549386626:=0
def tw14454079895595660563:=0
def tw1350485378321332197:=0
def tw2545362148793201217:=0
def tw4607482262729347599:=0
def tw11114611190100649300:=0
def tw12111555409518764716:=0
def tw17046270215394067180:=0
def tw12557240556536349357:=0
def tw3735214292000067139:=0
def tw6630627300273480577:=0
def tw7539466356975025270:=0
def tw4798090715240929439:=0
def tw8703298585067989535:=0
def tw11797088793360857376:=0
def tw6009382891522618414:=0
def tw1376817281172704810:=0
def tw17130801965637918689:=0
def tw1932242932775384951:=0
def tw7380847492563120914:=0
def tw7187319886475188432:=0
def tw4828396757439009431:=0
def tw1821584589008038293:=0
def tw15695632483399080451:=0
def tw73877257762553851:=0
def tw17103106058515167134:=0
def tw5862573872278733509:=0
def tw8148257836998774813:=0
def tw9867753512746452987:=0
def tw15913944424103020207:=0
def tw11410006336585649049:=0
def tw18177131656032170707:=0
def tw10755179370806825329:=0
def tw10886983116504301019:=0
def tw1429430134119606625:=0
def tw16198737919253777696:=0
def tw4819028376391837350:=0
def tw12441801349508597393:=0
def tw3026527952542214932:=0
def tw15931801937505356960:=0
def tw16252242637186280054:=0
def tw8825589662510405348:=0
def tw8171685907507379714:=0
def tw5722145982130383904:=0
def tw12262654511758282120:=0
def tw8877340610004131283:=0
def tw17614981065704142379:=0
def tw17136520669183923323:=0
def tw14133932379956888734:=0
def tw9366654246888512113:=0
def tw4498715599141632258:=0
def tw17327187159752007555:=0
def tw12359912197019017914:=0
def tw11330599658173555782:=0
def tw14409300095854499323:=0
def tw6364928652546501972:=0
def tw4956713715372485731:=0
def tw15684107287576401122:=0
def tw4430227963001816162:=0
def tw10694390533089718839:=0
def tw987480521837434923:=0
def tw17631804454446030164:=0
def tw3221441115885804753:=0
def tw1080229201062610546:=0
def tw3012772693856106534:=0
def tw2581896483662273560:=0
def tw521128153677725620:=0
def tw8828536996324924757:=0
def tw13501142292782422630:=0
def tw12367819028165300551:=0
def tw10783844647408546311:=0
def tw7211006631270877061:=0
def tw16428894815838005019:=0
def tw14589081857034465489:=0
def tw16888426494365632711:=0
def tw6567600346956139266:=0
def tw7840671081132657341:=0
def tw1396839242469930835:=0
def tw3419501777090835061:=0
def tw16731297879502263392:=0
def tw2328391579473021440:=0
def tw6703868033188898896:=0
def tw12479643777208454253:=0
def tw5270852915459391122:=0
def tw15021557172965986720:=0
def tw5641773059421503335:=0
def tw9171086284118953662:=0
def tw5548268488650670138:=0
def tw12687592199761942:=0
def tw308151060861269509:=0
def tw12368827688489571692:=0
def tw7798274610945847908:=0
def tw13109934416743551729:=0
def tw3858390445297603927:=0
def tw10584994410712123030:=0
def tw6571933228155561407:=0
def tw11121452965183473048:=0
def tw8921191251989215782:=0
def tw14779461771699293543:=0
def tw4370404309194621383:=0
def tw1377771608457774064:=0
def tw16136919413512376728:=0
def tw11095562033160752340:=0
def tw2061250566323737421:=0
def tw17086585851856667922:=0
def tw4719915449873106257:=0
def tw5619018649710475931:=0
def tw16417631961850277289:=0
def tw17122747053236404003:=0
def tw761009283763171667:=0
def tw8043340717434826286:=0
def tw16669294689292474197:=0
def tw5522298405833775514:=0
def tw12624076297974159080:=0
def tw4303610733236522041:=0
def tw4337436842205175230:=0
def tw17926239253069761738:=0
def tw16794878638476567262:=0
def tw4650123756219012296:=0
def tw9543918400586011805:=0
def tw9466377243847551184:=0
def tw2685988977559311495:=0
def tw13086851083740654076:=0
def tw3836712147215339675:=0
def tw1198211460962454084:=0
def tw3460100634534405383:=0
def tw6616474841662963581:=0
def tw14383131355000443965:=0
def tw17769459829683001216:=0
def tw16258023940229175525:=0
def tw11716469274725717113:=0
def tw5701174190490666530:=0
def tw2449560359727410628:=0
def tw11650702942837623808:=0
def tw8741356400125498247:=0
def tw15107900972257357672:=0
def tw1996228415656701379:=0
def tw11111445052747436872:=0
def tw18321818108165875660:=0
def tw10883379323164058213:=0
def tw13564839793368073398:=0
def tw6433312198392447376:=0
def tw10944373180905862843:=0
def tw7426296729472583928:=0
def tw13681107962476764101:=0
def tw16141640682153174242:=0
def tw15660235424994215826:=0
def tw6713123204745524895:=0
def tw4205540428967168915:=0
def tw1795246290376446291:=0
def tw10529123711228561419:=0
def tw3041466264456405158:=0
def tw9646985303855497872:=0
def tw1471440257151349362:=0
def tw9457934346411474809:=0
def tw3378845785043538615:=0
def tw11148116416920884680:=0
def tw3139233225627054385:=0
def tw13018967003082863978:=0
def tw8700763789874012131:=0
def tw592697082546133796:=0
def tw17589474136515978736:=0
def tw1146510797301626551:=0
def tw13698531856373744722:=0
def tw10021021108812236954:=0
def tw11368824090473796175:=0
def tw8547397988895192462:=0
def tw13703643434153107175:=0
def tw8302749287174012523:=0
def tw5186260311460151188:=0
def tw8632453442947522531:=0
def tw8557997882405557701:=0
def tw10580925007284178460:=0
def tw3712371493672553256:=0
def tw8667948261119970230:=0
def tw8148341493999302245:=0
def tw167751056519914757:=0
def tw1510241803821379356:=0
def tw9732593381623403271:=0
def tw15584819919560466839:=0
def tw17556854624713623301:=0
def tw1090319332036182264:=0
def tw3635322273847462404:=0
def tw12744377740404470424:=0
def tw16684587463862102288:=0
def tw9148654018130332615:=0
def tw11692521761723754462:=0
def tw16333528840784487208:=0
def tw12202399887639964245:=0
def tw244544230882253477:=0
def tw16257094277277709581:=0
def tw12651544713164642831:=0
def tw4690651937328707367:=0
def tw16819197682918571846:=0
def tw14102315816028559816:=0
def tw11041372457875206570:=0
def tw4144912358034133632:=0
def tw17354547953651799731:=0
def tw16026094567152472172:=0
def tw14549474695600169202:=0
def tw4510113517541334390:=0
def tw5785459619839426721:=0
def tw11607144167376383133:=0
def tw2660149240442728919:=0
def tw9116542910441227217:=0
def tw2130813296538172863:=0
def tw6609992982477719223:=0
def tw1203252962633514792:=0
def tw9118574612002731190:=0
def tw16677528241279362256:=0
def tw2964597635931811381:=0
def tw7822053310640010215:=0
def tw11882074552372938045:=0
def tw1083523817103932948:=0
def tw5190945066902138023:=0
def tw12635663342975468928:=0
def tw10845622037817314412:=0
def tw14546344643957002135:=0
def tw2290730329872226922:=0
def tw8629911756334291963:=0
def tw10281655581574634151:=0
def tw5878390086091911186:=0
def tw13667568550204619036:=0
def tw1793282928869143236:=0
def tw3159265062642880686:=0
def tw15686754400311945723:=0
def tw10023998633711143924:=0
def tw7999593003389940701:=0
def tw3887429770311120803:=0
def tw13076669436479570254:=0
def tw10350142398680880761:=0
def tw18027182839781657098:=0
def tw7371247236141340615:=0
def tw446553143070462258:=0
def tw2399513024304046350:=0
def tw15968202586801646348:=0
def tw13735471288719616679:=0
def tw16261451010546008579:=0
def tw13036653565790182013:=0
def tw9849859214140472685:=0
def tw15252966555696609753:=0
def tw6134499443139073664:=0
def tw1770867153913877454:=0
def tw15028318856987471999:=0
def tw12402271959882810544:=0
def tw12011644221387863950:=0
def tw10562419290449880375:=0
def tw1442050269870850080:=0
def tw17308930206597373887:=0
def tw8485552247437227626:=0
def tw15985825090759597702:=0
def tw4974696454806192643:=0
def tw2666426252993178151:=0
def tw11132649798652927711:=0
def tw10335101364959019007:=0
def tw6270276312255072676:=0
def tw16860511739181412652:=0
def tw1752410906776731265:=0
def tw12997422422757306532:=0
def tw9619730298551671549:=0
end PySem.W.Fast
open PySem PySem.W PyProof.Rows
set_option maxRecDepth 100000 in
set_option maxHeartbeats 0 in
theorem PySem.Challenge.cw_kinhearth_k34_fewest_who_settle_all_holds : PySem.Challenge.rw_kinhearth_k34_fewest_who_settle_all.Holds := by
 w_on; o_law; k_head; (case hw=>w_witness2)
 k_fill
 refine Ib.walk (l:=PySem.Challenge.rw_kinhearth_k34_fewest_who_settle_all) rfl rfl (λ w h Y=>kIn_of Y) ?F
 case F=>
  intro w mg fa h KX G xJ
  apply Ib.all_mk KX G xJ <;> repeat' first | k_is | (show _=_; k_is) | kernel_rfl | constructor
