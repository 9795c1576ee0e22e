import PyProof.Rows.All
import Wide.All
import OpenK.AllK
import Wide.FinOn
import Lean
import PyProof.EqAt
import PyProof.EqKinds
import PyProof.TupleCall
import PyProof.NeKinds
import PyProof.ConsumeWalk
import PyProof.ListRange
import PyProof.TupleOfSeq
import PyProof.Rows.SortWalk
import PyProof.CompFree
import PySem.Challenge.RW_kinhearth_k25_nobody_among_their_forebea
set_option Elab.async false
set_option linter.all false
set_option maxRecDepth 100000
set_option maxHeartbeats 4000000
abbrev ag:=PySem.W.Frag
abbrev aU:=PySem.Value->PySem.Shared->Prop
abbrev aM:=List (PySem.Addr×PySem.Obj)
abbrev aN:=PySem.Str->Option PySem.Value
open PySem
open PySem.W (instObj methodObj lookIn plainGet hasDictIn handedIn plainGet_of findObj_own isFn plainOver takerIn set_plain any_some makesIn typeIn emptyDict keepIn specialIn takesIn kitOne kia_one kitx_list kitx_dict callWith_K methodCall_KW cellsFrom_some fnOf codeIn notCls check_slot osa_eq findCls subIn nsIn mg_of kIn_of)
open PySem.F (excBase_ValueError slot_dict_delitem slot_dict_pop slot_dict_get entry_dict_get plainAttrs_dict plainAttrs_list)
abbrev Ya:=@List.length_map
abbrev Yb:=@List.getElem?_eq_getElem
abbrev Yc:=@Heap.get?_push_of_some
abbrev Yd:=@List.getD_eq_getElem?_getD
abbrev Ye:=@Nat.le_refl
abbrev Yf:=@Bool.false_ne_true
abbrev Yg:=@List.getElem?_map
abbrev Yh:=@List.mem_cons_self
abbrev Yi:=@List.mem_map
abbrev Yj:=@List.mem_append_right
abbrev Yk:=@List.getElem?_eq_some_iff
abbrev Yl:=@List.length_append
abbrev Ym:=@List.mem_append_left
abbrev Yn:=@Heap.get?_push_size
abbrev Yo:=@Heap.lt_size
abbrev Yp:=@List.mem_cons
abbrev Yq:=@List.map_append
abbrev Yr:=@List.mem_singleton
abbrev Ys:=@List.mem_of_getElem?
abbrev Yt:=@List.size_toArray
abbrev Yu:=@Option.some.inj
abbrev Yv:=@List.mem_cons_of_mem
abbrev Yw:=@Nat.zero_le
abbrev Yx:=@List.mem_append
abbrev Yy:=@Nat.ne_of_lt
abbrev Yz:=@Nat.le_trans
abbrev Y0:=@List.nodup_cons
abbrev Y1:=@List.getElem?_eq_none
abbrev Y2:=@Nat.lt_of_lt_of_le
abbrev Y3:=@List.mem_filter
abbrev Y4:=@List.not_mem_nil
abbrev Y5:=@Int.toNat_natCast
abbrev Y6:=@List.take_add_one
abbrev Y7:=@List.getElem?_append_left
abbrev Y8:=@List.map_map
abbrev Y9:=@Array.getD_eq_getD_getElem?
abbrev Wa:=@Heap.get?_update_other
abbrev Wb:=@List.length_cons
abbrev Wc:=@Nat.lt_irrefl
abbrev Wd:=@List.mem_range
abbrev We:=@List.append_nil
abbrev Wf:=@List.mem_iff_getElem
abbrev Wg:=@List.filter_append
abbrev Wh:=@List.length_take
abbrev Wi:=@List.getElem_mem
abbrev Wj:=@Array.length_toList
abbrev Wk:=@Nat.lt_succ_of_lt
abbrev Wl:=@List.length_filter_le
abbrev Wm:=@Bool.eq_iff_iff
abbrev Wn:=@List.map_cons
abbrev Wo:=@Int.emod_lt_of_pos
abbrev Wp:=@List.all_eq_true
abbrev Wq:=@List.take_length
abbrev Wr:=@List.pairwise_map
abbrev Ws:=@List.ext_getElem?
abbrev Wt:=@List.map_congr_left
abbrev Wu:=@Array.getElem?_eq_getElem
abbrev Wv:=@List.pairwise_iff_getElem
abbrev Ww:=@Heap.get?_update_self
abbrev Wx:=@List.length_replicate
abbrev Wy:=@Nat.not_lt_zero
abbrev Wz:=@List.filter_cons
abbrev W0:=@List.length_range
abbrev W1:=@Bool.eq_false_iff
abbrev W3:=@List.length_set
abbrev W4:=@Int.emod_nonneg
abbrev W5:=@Int.toNat_of_nonneg
abbrev W6:=@List.nodup_iff_pairwise_ne
abbrev W7:=@Nat.lt_succ_self
abbrev W8:=@Nat.lt_of_le_of_lt
abbrev W9:=@List.nodup_nil
abbrev Ja:=@Array.getElem?_setIfInBounds_ne
abbrev Jb:=@List.length_zip
abbrev Jc:=@List.nodup_append
abbrev Jd:=@Nat.ne_of_gt
abbrev Je:=@List.filterMap_cons
abbrev Jf:=@List.all_cons
abbrev Jg:=@Bool.and_eq_true
abbrev Jh:=@List.lookup_cons
abbrev Ji:=@List.mem_filterMap
abbrev Jj:=@List.filter_filter
abbrev Jk:=@Nat.le_of_lt
abbrev Jl:=@Sum.inr.inj
abbrev Jm:=@Heap.get?_push_ne
abbrev Jn:=@List.getElem?_append_right
abbrev Jo:=@Array.getElem?_eq_some_iff
abbrev Jp:=@Array.perm_iff_toList_perm
abbrev Jq:=@Heap.size_push
abbrev Jr:=@List.any_eq_true
abbrev Js:=@List.getElem?_range
abbrev Jt:=@Option.isSome_iff_exists
abbrev Ju:=@Array.size_setIfInBounds
abbrev Jv:=@List.any_cons
abbrev Jw:=@List.range_succ
abbrev Jx:=@List.filter_cons_of_pos
abbrev Jy:=@Nat.add_sub_cancel_left
abbrev Jz:=@Array.getElem?_eq_none
abbrev J0:=@List.take_of_length_le
abbrev J1:=@Nat.le_succ
abbrev J3:=@Array.getElem?_toList
abbrev J7:=@List.getElem?_set_ne
abbrev J8:=@Bool.true_and
abbrev J9:=@List.dropLast_concat_getLast
abbrev P6:=@Heap.get?_update_ne
abbrev GI:=@List.find?_cons
abbrev Qn:=@List.filter_eq_self
abbrev RC:=@Bool.or_eq_true_iff
abbrev QE:=@List.zip_cons_cons
abbrev PD:=@List.any_eq_false
abbrev Qf:=@Option.isSome_map
abbrev QS:=@List.append_assoc
abbrev AV:=@Sum.inl.inj
abbrev Qv:=@Nat.succ_le_succ
abbrev QT:=@List.mem_flatMap
abbrev Gq:=@Nat.le_of_eq
abbrev PM:=@List.of_mem_zip
abbrev PZ:=@List.length_nil
abbrev G0:=@List.all_map
abbrev G3:=@Int.zero_add
abbrev RE:=@Bool.or_eq_true
namespace L2
open PySem PySem.Spec PyProof.Rows
abbrev Key:=Sum Int Str
def qB:Key->Value->Bool
 |.inl k,v=>Value.isInt k v
 |.inr x,v=>Value.isStrOf x v
def ZcQ(w:World):Key->Int
 |.inl k=>hashInt k
 |.inr x=>hashStr w x
theorem kr:∀{k:Key} {v:Value},qB k v=true->(∃i t,k=Sum.inl i/\v=Value.int i t)\/(∃x t,k=Sum.inr x/\v=Value.str x t)
 |.inl i,v,h=>by
  obtain⟨t,e⟩:=Value.isInt_shape h
  grind
 |.inr x,v,h=>by
  obtain⟨t,e⟩:=Value.isStrOf_shape h
  grind
theorem VO(i:Int)(t:Tok):qB (.inl i) (.int i t)=true:=by simp[qB,Value.isInt]
theorem VP(x:Str)(t:Tok):qB (.inr x) (.str x t)=true:=by simp[qB,Value.isStrOf]
theorem ZaA(a b:Int):decide ((Sum.inl a:Key)=Sum.inl b)=(a==b):=by
 grind
theorem ZaB(a b:Str):decide ((Sum.inr a:Key)=Sum.inr b)=decide (a=b):=by
 grind
theorem ZaC(a:Int)(b:Str):decide ((Sum.inl a:Key)=Sum.inr b)=false:=decide_eq_false (λq=>nomatch q)
theorem ZaD(a:Str)(b:Int):decide ((Sum.inr a:Key)=Sum.inl b)=false:=decide_eq_false (λq=>nomatch q)
def dE(prog:Program)(w:World):PySem.KeyKind prog w Key where
 is:=qB
 hash:=ZcQ w
 inj:=λv a b ha hb=>by
  rcases kr ha with⟨i,t,rfl,rfl⟩|⟨x,t,rfl,rfl⟩
  ·rcases kr hb with⟨j,u,rfl,e⟩|⟨y,u,rfl,e⟩;·injection e with e1 _;rw[e1]
   ·exact nomatch e
  ·rcases kr hb with⟨j,u,rfl,e⟩|⟨y,u,rfl,e⟩;·exact nomatch e
   ·injection e with e1 _;rw[e1]
 byValue:=λk v h=>by
  rcases kr h with⟨i,t,rfl,rfl⟩|⟨x,t,rfl,rfl⟩<;>rfl
 pyHash:=λhv h=>by
  rcases kr hv with⟨i,t,rfl,rfl⟩|⟨x,t,rfl,rfl⟩;·exact wpAny_pyHash_int h
  ·exact wpAny_pyHash_str h
 eqBool:=λhu hv h=>by
  rcases kr hu with⟨i,t,rfl,rfl⟩|⟨x,t,rfl,rfl⟩
  ·rcases kr hv with⟨j,u,rfl,rfl⟩|⟨y,u,rfl,rfl⟩;·rw[ZaA] at h;exact wpAny_eqBool_int h
   ·rw[ZaC] at h;exact SeqAt.EqAt.int_str i t y u _ _ _ _ h
  ·rcases kr hv with⟨j,u,rfl,rfl⟩|⟨y,u,rfl,rfl⟩;·rw[ZaD] at h;exact SeqAt.EqAt.str_int x t j u _ _ _ _ h
   ·rw[ZaB] at h;exact wpAny_eqBool_str h
 «strs»:=λk x t v h=>by
  rcases kr h with⟨i,u,rfl,e⟩|⟨y,u,rfl,e⟩;·exact nomatch e
  ·injection e with e1 _;subst e1;cases v<;>rfl
theorem Up(prog:Program)(w:World)(i:Int)(t:Tok):(dE prog w).is (.inl i) (.int i t)=true:=VO i t
theorem Uq(prog:Program)(w:World)(x:Str)(t:Tok):(dE prog w).is (.inr x) (.str x t)=true:=VP x t
inductive V where
 |aA|bl (b:Bool)|int (i:Int)|str (x:Str)|iW (b:Array UInt8)|q_ (b:UInt64)|ref (a:Addr)|ty (n:String)
 deriving DecidableEq
def RelV:V->Value->Prop
 |.aA,u=>u=Value.none
 |.bl b,u=>u=Value.bool b
 |.int i,u=>∃t,u=Value.int i t
 |.str x,u=>∃t,u=Value.str x t
 |.iW b,u=>∃t,u=Value.bytes b t
 |.q_ b,u=>∃t,u=Value.float b t
 |.ref a,u=>u=Value.ref a
 |.ty n,u=>u=Value.type n
abbrev Vals:List V->List Value->Prop:=Paired RelV
theorem Vals.length{xs:List V}{us:List Value}(r:Vals xs us):xs.length=us.length:=Paired.length r
theorem Vals.get:∀{xs:List V} {us:List Value} {i:Nat} {x:V},Vals xs us->xs[i]?=some x->∃u,us[i]?=some u/\RelV x u
 |_,_,_,_,.nil,e=>by simp at e
 |_,_,0,_,.cons r _,e=>by simp at e;subst e;exact⟨_,rfl,r⟩
 |_,_,i+1,x,.cons _ t,e=>by
  obtain⟨u,h1,h2⟩:=Vals.get t (by simpa using e)
  grind
theorem Vals.set{x:V}{u:Value}(r:RelV x u):∀{xs:List V} {us:List Value} (i:Nat),Vals xs us->Vals (xs.set i x) (us.set i u)
 |_,_,_,.nil=>.nil
 |_,_,0,.cons _ t=>.cons r t
 |_,_,i+1,.cons q t=>.cons q (Vals.set r i t)
theorem Vals.append:∀{xs ys:List V} {us ws:List Value},Vals xs us->Vals ys ws->Vals (xs++ys) (us++ws):=by
 intro xs ys us ws h h';induction h with
 |nil=>exact h'
 |cons r t ih=>exact .cons r ih
theorem Vals.take:∀{xs:List V} {us:List Value} (n:Nat),Vals xs us->Vals (xs.take n) (us.take n)
 |_,_,0,_=>.nil
 |_,_,_+1,.nil=>.nil
 |_,_,n+1,.cons r t=>.cons r (Vals.take n t)
theorem Vals.drop:∀{xs:List V} {us:List Value} (n:Nat),Vals xs us->Vals (xs.drop n) (us.drop n)
 |_,_,0,r=>r
 |_,_,_+1,.nil=>.nil
 |_,_,n+1,.cons _ t=>Vals.drop n t
def dP:Option V->Option Value->Prop
 |some v,some u=>RelV v u
 |none,none=>True
 |_,_=>False
def KV{κ:Type}:List (κ×V)->List (κ×Value)->Prop:=Paired λ(p:κ×V) (q:κ×Value)=>p.1=q.1/\RelV p.2 q.2
def kV:Key->V
 |.inl i=>.int i
 |.inr x=>.str x
inductive HO where
 /--a list-/
 |lst(xs:List V)
 /--a tuple(never changes)-/
 |tup(xs:List V)
 /--a dict Zb2 keys are ints and texts;one Zb2 keys are tuples of ints and texts(nH empty one is both)-/
 |dK(kvs:List (Key×V))|dT(kvs:List (List Key×V))
 /--a set of ints:ah members,ah size-/
 |set (S:Int->Bool) (n:Nat)
 /--an instance of nH class at C,ah dict at dx,ah attributes-/
 |ins (C dx:Addr) (fs:List (Str×V))
 /--nH dict of nH instance at x-/
 |own (x:Addr)
 /--nH dict of an exception-/
 |xd (fs:List (Str×V))
 /--a bound method,f of x-/
 |met (f x:Addr)
 /--a range object lo,lo+1,.. below hi-/
 |kO (lo hi:Int)
 /--a Zb3 Ze1 is known to nH object (nH MF;a dict while a loop walks it):read,never written while it is so-/
 |bN (o:Obj) (u:HO)
 /--a code ZeO table-/
 |pG (ps:Array Value)
 /--any other Zb3,by ZcR is true of ah one object (a def of ZeW own:Ze2 a S n:=HO.ext λh=>..)-/
 |ext (φ:Heap->Prop)
abbrev Hp:=Addr->Option HO
def upd(H:Hp)(a:Addr)(o:HO):Hp:=λb=>if b=a then some o else H b
theorem aW{H:Hp}{a:Addr}{o:HO}:upd H a o a=some o:=by unfold upd;rw[if_pos rfl]
theorem aF{H:Hp}{a b:Addr}{o:HO}(h:b≠a):upd H a o b=H b:=by unfold upd;rw[if_neg h]
theorem En{H:Hp}{a:Addr}{o u:HO}:upd (upd H a o) a u=upd H a u:=by
 funext b;unfold upd;split<;>rfl
theorem NP{H:Hp}{a b:Addr}{o u:HO}(h:H a=some o)(h':H b=some u)(d:o≠u):a≠b:=by
 intro e;subst e;rw[h] at h';exact d (Yu h')
theorem cN{H:Hp}{a b:Addr}{o:HO}(h:H a=some o)(h':H b=none):a≠b:=by
 grind
section
variable (P:Program)(w:World)
def lN(h:Heap)(a:Addr)(items:Array Value):Prop:=∃o,h.get? a=some o/\o.cls=.type "tuple"/\∃n,o.data=.seq items n/\o.dict=none
theorem lN.tup{h:Heap}{a:Addr}{items:Array Value}(x:lN h a items):IsTup h a items:=let⟨o,e,c,n,d,_⟩:=x;⟨o,e,c,n,d⟩
theorem lN.lt{h:Heap}{a:Addr}{items:Array Value}(x:lN h a items):a<h.objs.size:=x.tup.lt
theorem lN.new(h:Heap)(items:Array Value):lN (h.push {cls:=.type "tuple",data:=.seq items}) h.objs.size items:=⟨_,Yn _ rfl,rfl,_,rfl,rfl⟩
def cz(H:Hp)(h:Heap)(a:Addr):HO->Prop
 |.lst xs=>xs.length<=sizeLine/\∃(ah:List Value) (n:Nat),Vals xs ah/\h.get? a=some {cls:=.type "list",data:=.seq ah.toArray n}
 |.tup xs=>xs.length<=sizeLine/\∃ah:List Value,Vals xs ah/\lN h a ah.toArray
 |.dK kvs=>kvs.length<=sizeLine/\(a==sysModules)=false/\∃vs,KV kvs vs/\h.DictOf (dE P w) a vs
 |.dT kvs=>kvs.length<=sizeLine/\(a==sysModules)=false/\∃xs:List (List Key×Addr×Value),
   Paired (λ(p:List Key×V) (q:List Key×Addr×Value)=>p.1=q.1/\H q.2.1=some (.tup (p.1.map kV))/\RelV p.2 q.2.2) kvs xs/\
   ∃o es ep,h.get? a=some o/\o.ExactDict/\o.data=.dict es ep/\es.toList=xs.map (entryOfKey (tupleKind (dE P w)))/\(xs.map (·.1)).Nodup
 |.set S n=>h.SetOf (intKind P w) a S n
 |.ins C dx fs=>H dx=some (.own a)/\fs.length<=1000/\dx≠a/\h.get? a=some (instObj C dx)/\
   ∃mA,h.Ns1 dx mA/\(∀f,dP (fs.lookup f) (mA f))/\PySem.Within mA (fs.map (·.1))
 |.own _=>∃o,h.get? a=some o
 |.xd fs=>∃mA,h.Ns1 a mA/\∀f,dP (fs.lookup f) (mA f)
 |.kO lo hi=>∃t u v,h.get? a=some {cls:=.type "range",data:=.fields #[.int lo t,.int hi u,.int 1 v]}
 |.bN o u=>h.get? a=some o/\cz H h a u
 |.pG ps=>h.get? a=some {cls:=.none,data:=.fields ps}
 |.met f x=>h.get? a=some (methodObj (.ref f) (.ref x))
 |.ext φ=>φ h/\(∃o,h.get? a=some o)/\∀h1 h2:Heap,φ h1->(∀o,h1.get? a=some o->h2.get? a=some o)->φ h2
def cX(H:Hp)(h:Heap):Prop:=∀a o,H a=some o->cz P w H h a o
end
section
variable {P:Program}{w:World}{H H':Hp}{h h':Heap}{a:Addr}{o:HO}
theorem cz.lt(x:cz P w H h a o):a<h.objs.size:=by
 cases o with
 |lst xs=>obtain⟨_,_,_,_,e⟩:=x;exact Yo e
 |tup xs=>obtain⟨_,_,_,p⟩:=x;exact p.lt
 |dK kvs=>obtain⟨_,_,_,_,o,_,_,e,_⟩:=x;exact Yo e
 |dT kvs=>obtain⟨_,_,_,_,o,_,_,e,_⟩:=x;exact Yo e
 |set S n=>obtain⟨o,_,_,_,e,_⟩:=x;exact Yo e
 |ins C dx fs=>obtain⟨_,_,_,e,_⟩:=x;exact Yo e
 |own y=>obtain⟨_,e⟩:=x;exact Yo e
 |xd fs=>obtain⟨_,⟨_,_,_,e,_⟩,_⟩:=x;exact Yo e
 |kO lo hi=>obtain⟨_,_,_,e⟩:=x;exact Yo e
 |bN ob u=>obtain⟨e,_⟩:=x;exact Yo e
 |pG ps=>exact Yo (show h.get? a=some _ from x)
 |met f y=>exact Yo (show h.get? a=some _ from x)
 |ext φ=>obtain⟨_,⟨_,e⟩,_⟩:=x;exact Yo e
theorem Paired.bp{α β:Type}{F G:α->β->Prop}:∀{l₁:List α} {l₂:List β},Paired F l₁ l₂->(∀a b,F a b->G a b)->Paired G l₁ l₂:=by
 intro l₁ l₂ h f;induction h with
 |nil=>exact .nil
 |cons r t ih=>exact .cons (f _ _ r) ih
theorem cz.gG(x:cz P w H h a o)(k:∀b u,(b=a\/H b=some (.own a))->h.get? b=some u->h'.get? b=some u)
  (ho:∀b,H b=some (.own a)->H' b=some (.own a))(ht:∀b xs,H b=some (.tup xs)->H' b=some (.tup xs)):cz P w H' h' a o:=by
 induction o with
 |lst xs=>obtain⟨z,ah,n,r,e⟩:=x;exact⟨z,ah,n,r,k _ _ (.inl rfl) e⟩
 |tup xs=>obtain⟨z,ah,r,ob,e,c⟩:=x;exact⟨z,ah,r,ob,k _ _ (.inl rfl) e,c⟩
 |dK kvs=>obtain⟨z,y,vs,r,ob,es,ep,e,c⟩:=x;exact⟨z,y,vs,r,ob,es,ep,k _ _ (.inl rfl) e,c⟩
 |dT kvs=>
  obtain⟨z,y,xs,r,ob,es,ep,e,c⟩:=x;exact⟨z,y,xs,Paired.bp r λp q z=>⟨z.1,ht _ _ z.2.1,z.2.2⟩,ob,es,ep,k _ _ (.inl rfl) e,c⟩
 |set S n=>obtain⟨ob,es,ep,t,e,c⟩:=x;exact⟨ob,es,ep,t,k _ _ (.inl rfl) e,c⟩
 |ins C dx fs=>
  obtain⟨d,z,ne,e,mA,⟨od,es,ep,e2,c⟩,r⟩:=x;exact⟨ho _ d,z,ne,k _ _ (.inl rfl) e,mA,⟨od,es,ep,k _ _ (.inr d) e2,c⟩,r⟩
 |own y=>obtain⟨ob,e⟩:=x;exact⟨ob,k _ _ (.inl rfl) e⟩
 |xd fs=>obtain⟨mA,⟨od,es,ep,e,c⟩,r⟩:=x;exact⟨mA,⟨od,es,ep,k _ _ (.inl rfl) e,c⟩,r⟩
 |kO lo hi=>obtain⟨t,u,v,e⟩:=x;exact⟨t,u,v,k _ _ (.inl rfl) e⟩
 |bN ob u ih=>obtain⟨e,q⟩:=x;exact⟨k _ _ (.inl rfl) e,ih q⟩
 |pG ps=>
  have e:h.get? a=some {cls:=.none,data:=.fields ps}:=x;show h'.get? a=some {cls:=.none,data:=.fields ps};exact k a _ (.inl rfl) e
 |met f y=>
  have e:h.get? a=some (methodObj (.ref f) (.ref y)):=x;show h'.get? a=some (methodObj (.ref f) (.ref y));exact k a _ (.inl rfl) e
 |ext φ=>obtain⟨p,⟨o,e⟩,st⟩:=x;exact⟨st _ _ p λo q=>k _ _ (.inl rfl) q,⟨o,k _ _ (.inl rfl) e⟩,st⟩
theorem cX.lt(x:cX P w H h)(e:H a=some o):a<h.objs.size:=(x a o e).lt
theorem cX.fresh(x:cX P w H h)(e:h.objs.size<=a):H a=none:=by
 cases q:H a with
 |none=>rfl
 |some u=>exact absurd (Y2 (x.lt q) e) (Wc _)
theorem cX.kept(x:cX P w H h)(k:∀b u,h.get? b=some u->h'.get? b=some u):cX P w H h':=λa o e=>
 (x a o e).gG (λb u _ q=>k b u q) (λ_ q=>q) λ_ _ q=>q
theorem cX.laid(x:cX P w H h)(k:∀b u,h.get? b=some u->h'.get? b=some u)(hp:h.objs.size<=a)(new:cz P w (upd H a o) h' a o):cX P w (upd H a o) h':=λb u e=>by
 have hn:=x.fresh hp;by_cases hb:b=a;·subst hb;rw[aW] at e;cases e;exact new
 ·rw[aF hb] at e;exact(x b u e).gG (λc v _ q=>k c v q) (λc q=>by rw[aF (cN q hn)];exact q) λc xs q=>by rw[aF (cN q hn)];exact q
end
def Rd(H:Hp)(a:Addr)(u:HO):Prop:=H a=some u\/∃o,H a=some (.bN o u)
theorem Rd.ok{P:Program}{w:World}{H:Hp}{h:Heap}{a:Addr}{u:HO}(r:Rd H a u)(x:cX P w H h):cz P w H h a u:=by
 rcases r with r|⟨o,r⟩;·exact x a u r
 ·obtain⟨_,q⟩:=x a _ r;exact q
def wO:Option HO->Prop
 |some (.lst _)=>True
 |some (.dK _)=>True
 |some (.dT _)=>True
 |some (.set _ _)=>True
 |some (.ins _ _ _)=>True
 |some (.ext _)=>True
 |_=>False
section
variable {P:Program}{w:World}{H:Hp}{h h':Heap}{x e:Addr}{o':HO}
theorem cX.write(ok:cX P w H h)(mu:wO (H x))(he:e=x\/H e=some (.own x))(k:∀b u,b≠e->h.get? b=some u->h'.get? b=some u)(wQ:∃u,h'.get? e=some u)
  (new:cz P w (upd H x o') h' x o'):cX P w (upd H x o') h':=λb u q=>by
 have Ou:∀c y,H c=some (.own y)->c≠x:=λc y r z=>by subst z;rw[r] at mu;exact mu
 have ZcS:∀c xs,H c=some (.tup xs)->c≠x:=λc xs r z=>by subst z;rw[r] at mu;exact mu
 by_cases hb:b=x;·subst hb;rw[aW] at q;cases q;exact new
 ·rw[aF hb] at q;by_cases Am:b=e
  ·have q':H b=some (.own x):=by
    rcases he with z|z;·exact absurd (Am.trans z) hb
    ·rw[Am];exact z
   rw[q] at q';cases q';obtain⟨v,hv⟩:=wQ;exact⟨v,by rw[Am];exact hv⟩
  ·refine(ok b u q).gG (λc v hc r=>k c v ?_ r) (λc r=>by rw[aF (Ou c b r)];exact r) λc xs r=>by rw[aF (ZcS c xs r)];exact r
   rcases hc with rfl|hc;·exact Am
   ·rintro rfl;rcases he with z|z;·exact Ou c b hc z
    ·rw[hc] at z;cases z;exact hb rfl
end
structure Un(fs ex:List Addr)(H H':Hp)(h h':Heap):Prop where
 keep:∀b o,h.get? b=some o->H b=none->b∉fs->b∉ex->h'.get? b=some o
 slot:∀b o,h.get? b=some o->H b=none->b∈fs->b∉ex->∃sl,h'.get? b=some {o with slots:=sl}
 free:∀b o,h.get? b=some o->H b=none->b∉ex->H' b=none
 there:∀b o,h.get? b=some o->b∉ex->∃o',h'.get? b=some o'
 fX:∀b xs,H b=some (.tup xs)->H' b=some (.tup xs)
 gH:∀b o u,H b=some (.bN o u)->H' b=some (.bN o u)
 gX:∀b ps,H b=some (.pG ps)->∃more,H' b=some (.pG (ps++more))
section
variable {fs c7 ex ex':List Addr}{H H1 H2:Hp}{h h1 h2 h':Heap}{a x e:Addr}{o:HO}
theorem Un.any(u:Un fs ex H H1 h h1){b:Addr}{ob:Obj}(q:h.get? b=some ob)(n:H b=none)(hx:b∉ex):∃sl,h1.get? b=some {ob with slots:=sl}:=by
 by_cases hb:b∈fs;·exact u.slot b ob q n hb hx
 ·exact⟨ob.slots,u.keep b ob q n hb hx⟩
theorem Un.trans(a:Un fs ex H H1 h h1)(b:Un fs ex H1 H2 h1 h2):Un fs ex H H2 h h2 where
 keep:=λc ob q n hc hx=>b.keep c ob (a.keep c ob q n hc hx) (a.free c ob q n hx) hc hx
 slot:=λc ob q n hc hx=>by
  obtain⟨sl,e1⟩:=a.slot c ob q n hc hx;obtain⟨Po,e2⟩:=b.slot c _ e1 (a.free c ob q n hx) hc hx
  grind
 free:=λc ob q n hx=>by
  obtain⟨o',e1⟩:=a.there c ob q hx;exact b.free c o' e1 (a.free c ob q n hx) hx
 there:=λc ob q hx=>by
  obtain⟨o',e1⟩:=a.there c ob q hx;exact b.there c o' e1 hx
 fX:=λc xs q=>b.fX c xs (a.fX c xs q)
 gH:=λc ob xs q=>b.gH c ob xs (a.gH c ob xs q)
 gX:=λc ps q=>by
  obtain⟨m1,e1⟩:=a.gX c ps q;obtain⟨m2,e2⟩:=b.gX c _ e1
  grind
theorem Un.kept(k:∀b u,h.get? b=some u->h'.get? b=some u):Un fs ex H H h h':=
 ⟨λb ob q _ _ _=>k b ob q,λb ob q _ _ _=>⟨ob.slots,k b ob q⟩,λ_ _ _ n _=>n,λb ob q _=>⟨ob,k b ob q⟩,λ_ _ q=>q,λ_ _ _ q=>q,λ_ ps q=>⟨#[],by rw[q];simp⟩⟩
theorem Un.refl:Un fs ex H H h h:=Un.kept λ_ _ q=>q
theorem Un.laid(k:∀b u,h.get? b=some u->h'.get? b=some u)(hp:h.objs.size<=a)(hn:H a=none):Un fs ex H (upd H a o) h h' where
 keep:=λb u q _ _ _=>k b u q
 slot:=λb u q _ _ _=>⟨u.slots,k b u q⟩
 free:=λb u q n _=>by rw[aF (Yy (Y2 (Yo q) hp))];exact n
 there:=λb u q _=>⟨u,k b u q⟩
 fX:=λb xs q=>by rw[aF (cN q hn)];exact q
 gH:=λb u xs q=>by rw[aF (cN q hn)];exact q
 gX:=λb ps q=>⟨#[],by rw[aF (cN q hn),q];simp⟩
theorem Un.write(mu:wO (H x))(he:e=x\/H e=some (.own x))(k:∀b u,b≠e->h.get? b=some u->h'.get? b=some u)(wQ:∃u,h'.get? e=some u):Un fs ex H (upd H x o) h h':=by
 have hx:∀b,H b=none->b≠x:=λb n z=>by subst z;rw[n] at mu;exact mu
 have hb:∀b,H b=none->b≠e:=λb n z=>by
  grind
 have hm:∀b u,H b=some u->¬wO (some u)->b≠x:=λb u q nm z=>by subst z;rw[q] at mu;exact nm mu
 refine⟨λb u q n _ _=>k b u (hb b n) q,λb u q n _ _=>⟨u.slots,k b u (hb b n) q⟩,λb u q n _=>by rw[aF (hx b n)];exact n,λb u q _=>?_,
  λb xs q=>by rw[aF (hm b _ q λz=>z)];exact q,λb u xs q=>by rw[aF (hm b _ q λz=>z)];exact q,λb ps q=>⟨#[],by rw[aF (hm b _ q λz=>z),q];simp⟩⟩
 grind
end
def uj(h:Heap)(H:Hp):List Addr:=(List.range h.objs.size).filter λa=>(H a).isSome
def ny(h:Heap)(H:Hp):Heap:=PySem.W.hideAll h (uj h H)
theorem VQ(h:Heap)(H:Hp):(ny h H).objs.size=h.objs.size:=PySem.W.hideAll_size _ _
theorem Xf{h:Heap}{H:Hp}{b:Addr}{o:Obj}(e:h.get? b=some o)(n:H b=none):(ny h H).get? b=some o:=
 PySem.W.hideAll_get _ e λhm=>by
  have q:=(Y3.mp hm).2
  grind
theorem Zm{h:Heap}{H:Hp}{b:Addr}{o:Obj}(e:(ny h H).get? b=some o):h.get? b=some o/\H b=none:=by
 have e':=PySem.W.of_hideAll (uj h H) e;refine⟨e',?_⟩;cases q:H b with
 |none=>rfl
 |some x=>
  have z:(ny h H).get? b=none:=PySem.W.hideAll_none (uj h H) (Y3.mpr ⟨Wd.mpr (Yo e'),by simp[q]⟩)
  grind
structure Mod(K:ag)(mg:aN)(base:Heap):Prop where
 hJ:K.In base
 glob:base.Ns mainGlobals mg
 blt:∃mb,base.Ns builtinsNs mb/\∀x:Str,x≠"__name__"->mb x=bootBuiltins x
 nolimit:base.NoLimit
structure Cx where
 prog:Program
 w:World
 K:ag
 mg:Str->Option Value
 base:Heap
 A:Around
 N:List Str
 cQ:Shared
 jT:Hp
 env:Env
 outer:List Env
 stack:List Env
 ex:List Addr
 fn:Str->Bool
 calm:Bool
 pn:List (Addr×Obj)
 xe:Value->Shared->Prop
abbrev Cx.md(X:Cx):=model X.prog X.w
abbrev gJ(X:Cx)(e:Expr)(es:List Expr):Prop:=starEach (e::es) X.env=(false,eval e X.env)::starEach es X.env
abbrev hU(X:Cx)(pos:Pos)(es:List Expr):Prop:=(backTo pos (starEach es X.env)).any (·.1)=false
def cB(l:List Env):List Addr:=l.filterMap (·.frame)
abbrev Cx.fs(X:Cx):List Addr:=cB X.outer
def rb(sc:Scope)(x:Str):Prop:=sc.names.lookup x=some .local\/sc.names.lookup x=some .cell\/sc.names.lookup x=some .free
def Loc(sc:Scope)(x:Str):Prop:=sc.names.lookup x=some .local\/sc.names.lookup x=some .cell
def Look(env:Env)(h:Heap)(m:aN)(x:Str)(u:Value):Prop:=
 (env.kindOf x=some .local/\m x=some u)\/((env.kindOf x=some .cell\/env.kindOf x=some .free)/\∃c,env.cells.lookup x=some c/\h.IsCell c (some u))
structure Cx.Ok(X:Cx):Prop where
 mod:Mod X.K X.mg X.base
 kind:X.env.scope.kind=.function
 glob:X.env.globals=mainGlobals
 blt:X.env.builtins=builtinsNs
 above:X.cQ.heap.objs.size<=X.env.locals
 inj:∀x y c,X.env.cells.lookup x=some c->X.env.cells.lookup y=some c->x=y
 has:∀x,(X.env.kindOf x=some .cell\/X.env.kindOf x=some .free)->∃c,X.env.cells.lookup x=some c
 rf:∀x c,X.fn x=true->X.env.cells.lookup x=some c->X.cQ.heap.objs.size<=c
 hd:X.calm=true->X.A.handled=none
 frames:X.A.frames=some X.stack
 um:X.stack=X.outer\/(X.stack=X.env::X.outer/\X.env.frame=some X.env.locals)
 pH:∀b∈X.ex,b≠X.env.locals/\∀x c,X.env.cells.lookup x=some c->c≠b
 bs:∀b o,X.base.get? b=some o->X.cQ.heap.get? b=some o/\X.jT b=none
 kP:X.base.objs.size<=X.cQ.heap.objs.size
 qN:∀b o,X.base.get? b=some o->b∉X.ex
 oZ:∀b∈X.ex,b∉X.fs
 iS:X.cQ.heap.FunFrames X.base X.outer
 nI:∀b∈X.fs,X.jT b=none
structure Inv(X:Cx)(pins:aM)(σ:List (Option V))(H:Hp)(s:Shared):Prop where
 ok:X.Ok
 os:s.os=X.cQ.os
 bare:AllBare s.gens
 base:Un X.fs X.ex X.jT H X.cQ.heap s.heap
 loc:∃m,s.heap.Ns X.env.locals m/\∀(i:Nat) (x:Str) (v:V),X.N[i]?=some x->σ[i]?=some (some v)->rb X.env.scope x->∃u,RelV v u/\Look X.env s.heap m x u
 cell:∀x c,X.env.cells.lookup x=some c->∃v,s.heap.IsCell c v
 free:H X.env.locals=none
 gw:∀x c,X.env.cells.lookup x=some c->H c=none
 pin:∀p∈X.pn++pins,s.heap.get? p.1=some p.2/\H p.1=none/\p.1≠X.env.locals/\p.1∉X.fs/\∀v,p.2.data≠.cell v
 ay:cX X.prog X.w H s.heap
 len:σ.length=X.N.length
section
variable {X:Cx}{pins:aM}{σ:List (Option V)}{H H':Hp}{s:Shared}{h':Heap}
theorem Cx.Ok.ZcT(ok:X.Ok){b:Addr}{o:Obj}(e:X.base.get? b=some o):b∉X.fs:=λhb=>by
 have:=(ok.iS.mem hb).1
 grind
theorem Inv.bs(I:Inv X pins σ H s):∀b o,X.base.get? b=some o->s.heap.get? b=some o/\H b=none:=λb o e=>
 ⟨I.base.keep b o (I.ok.bs b o e).1 (I.ok.bs b o e).2 (I.ok.ZcT e) (I.ok.qN b o e),I.base.free b o (I.ok.bs b o e).1 (I.ok.bs b o e).2 (I.ok.qN b o e)⟩
theorem Inv.bk(I:Inv X pins σ H s):∀b o,X.base.get? b=some o->s.heap.get? b=some o:=λb o e=>(I.bs b o e).1
theorem Inv.mod(I:Inv X pins σ H s):Mod X.K X.mg X.base:=I.ok.mod
theorem Inv.bL(I:Inv X pins σ H s):X.K.In s.heap:=I.ok.mod.hJ.keeps I.bk
theorem Inv.lt(I:Inv X pins σ H s):X.env.locals<s.heap.objs.size:=let⟨_,hn,_⟩:=I.loc;hn.lt
theorem Inv.sz(I:Inv X pins σ H s):X.cQ.heap.objs.size<=s.heap.objs.size:=Yz I.ok.above (Jk I.lt)
theorem Inv.ZcU(I:Inv X pins σ H s){a:Addr}(h:s.heap.objs.size<=a):a∉X.fs:=λhb=>by
 obtain⟨_,o,ho,_⟩:=I.ok.iS.mem hb;exact absurd (Y2 (Yo ho) (Yz I.sz h)) (Wc _)
theorem Inv.nJ(I:Inv X pins σ H s):∀x c,X.env.cells.lookup x=some c->c≠X.env.locals:=λx c e z=>by
 obtain⟨v,o,ho,hd⟩:=I.cell x c e;obtain⟨m,⟨o',es,ep,uo,Pp,_⟩,_⟩:=I.loc
 grind
theorem Inv.iS(I:Inv X pins σ H s):s.heap.FunFrames X.base X.outer:=by
 have all:∀(l:List Env),(∀b∈cB l,b∈X.fs)->X.cQ.heap.FunFrames X.base l->s.heap.FunFrames X.base l:=by
  intro l;induction l with
  |nil=>intro _ _;trivial
  |cons env r ih=>
   rintro hs ⟨hk,⟨L,o,hf,hn,ho,hd⟩,hr⟩;have hL:=hs L (by unfold cB;rw[Je,hf];exact Yh);obtain⟨sl,e⟩:=I.base.slot L o ho (I.ok.nI L hL) hL λz=>I.ok.oZ L z hL;exact⟨hk,⟨L,_,hf,hn,e,hd⟩,ih (λb hb=>hs b (by unfold cB;rw[Je,hf];exact Yv _ hb)) hr⟩
 exact all X.outer (λ_ hb=>hb) I.ok.iS
theorem Inv.stack(I:Inv X pins σ H s):s.heap.FunFrames X.base X.stack:=by
 rcases I.ok.um with e|⟨e,hf⟩;·rw[e];exact I.iS
 ·rw[e];obtain⟨m,hn,_⟩:=I.loc;refine .cons (by rw[I.ok.kind];decide) hf hn ?_ I.iS;exact Heap.get?_none_of_le (Yz I.ok.kP I.ok.above)
theorem Inv.EL(I:Inv X pins σ H s):∀b∈cB X.stack,b∈X.env.locals::X.fs:=λb hb=>by
 rcases I.ok.um with e|⟨e,hf⟩;·grind
 ·rw[e] at hb;unfold cB at hb;rw[Je,hf] at hb;exact hb
theorem Inv.yS(I:Inv X pins σ H s):∀b∈cB X.stack,H b=none:=λb hb=>by
 rcases Yp.mp (I.EL b hb) with e|hb;·rw[e];exact I.free
 ·obtain⟨_,o,ho,_⟩:=I.ok.iS.mem hb;exact I.base.free b o ho (I.ok.nI b hb) λz=>I.ok.oZ b z hb
theorem Inv.step{g':Array GenState}{t':Nat}{d':Drawn}{ch:List Addr}(I:Inv X pins σ H s)
  (lU:∀b∈ch,(b∈X.ex\/X.cQ.heap.objs.size<=b)/\b≠X.env.locals/\(∀x c,X.env.cells.lookup x=some c->c≠b)/\∀p∈X.pn++pins,p.1≠b)
  (keep:∀b o,b≠X.env.locals->b∉X.fs->b∉ch->s.heap.get? b=some o->H b=none->h'.get? b=some o)
  (slot:∀b o,b≠X.env.locals->b∈X.fs->b∉ch->s.heap.get? b=some o->H b=none->∃sl,h'.get? b=some {o with slots:=sl})(free:∀b o,b∉ch->s.heap.get? b=some o->H b=none->H' b=none)
  (there:∀b o,b∉ch->s.heap.get? b=some o->∃o',h'.get? b=some o')
  (fX:∀b xs,H b=some (.tup xs)->H' b=some (.tup xs))(gH:∀b o u,H b=some (.bN o u)->H' b=some (.bN o u))(gX:∀b ps,H b=some (.pG ps)->∃more,H' b=some (.pG (ps++more)))
  (ns:∀m,s.heap.Ns X.env.locals m->h'.Ns X.env.locals m)(ay:cX X.prog X.w H' h')(hg:AllBare g'):
  Inv X pins σ H' {s with heap:=h',gens:=g',drawn:=d',toks:=t'}:=by
 have Pq:∀b o,X.cQ.heap.get? b=some o->b≠X.env.locals:=λb o e=>Yy (Y2 (Yo e) I.ok.above);have An:∀b o,X.cQ.heap.get? b=some o->b∉X.ex->b∉ch:=λb o e hx hb=>by
  rcases(lU b hb).1 with z|z;·exact hx z
  ·exact absurd (Y2 (Yo e) z) (Wc _)
 have cellK:∀x c,X.env.cells.lookup x=some c->∀v,s.heap.IsCell c v->h'.IsCell c v:=λx c e v ⟨o,ho,hd⟩=>by
  have wR:c∉ch:=λz=>(lU c z).2.2.1 x c e rfl;by_cases hc:c∈X.fs
  ·obtain⟨sl,q⟩:=slot c o (I.nJ x c e) hc wR ho (I.gw x c e);exact⟨_,q,hd⟩
  ·exact⟨o,keep c o (I.nJ x c e) hc wR ho (I.gw x c e),hd⟩
 refine⟨I.ok,I.os,hg,⟨λb o e n hb hx=>?_,λb o e n hb hx=>?_,λb o e n hx=>?_,λb o e hx=>?_,λb xs e=>fX b xs (I.base.fX b xs e),λb o xs e=>gH b o xs (I.base.gH b o xs e),λb ps e=>?_⟩,?_,λx c e=>?_,?_,λx c e=>?_,λp hp=>?_,ay,I.len⟩;·exact keep b o (Pq b o e) hb (An b o e hx) (I.base.keep b o e n hb hx) (I.base.free b o e n hx)
 ·obtain⟨sl,e1⟩:=I.base.slot b o e n hb hx;obtain⟨Po,e2⟩:=slot b _ (Pq b o e) hb (An b o e hx) e1 (I.base.free b o e n hx);exact⟨Po,e2⟩
 ·obtain⟨o',e1⟩:=I.base.there b o e hx;exact free b o' (An b o e hx) e1 (I.base.free b o e n hx)
 ·obtain⟨o',e1⟩:=I.base.there b o e hx;exact there b o' (An b o e hx) e1
 ·obtain⟨m1,e1⟩:=I.base.gX b ps e;obtain⟨m2,e2⟩:=gX b _ e1;exact⟨m1++m2,by rw[e2,Array.append_assoc]⟩
 ·obtain⟨m,hn,hl⟩:=I.loc;refine⟨m,ns m hn,λi x v e1 e2 e3=>?_⟩;obtain⟨u,r,l⟩:=hl i x v e1 e2 e3;refine⟨u,r,?_⟩;rcases l with l|⟨k,c,e,z⟩;·exact .inl l
  ·exact .inr ⟨k,c,e,cellK x c e _ z⟩
 ·obtain⟨v,z⟩:=I.cell x c e;exact⟨v,cellK x c e v z⟩
 ·obtain⟨m,⟨o,_,_,ho,_⟩,_⟩:=I.loc;exact free _ o (λz=>(lU _ z).2.1 rfl) ho I.free
 ·obtain⟨v,o,ho,hd⟩:=I.cell x c e;exact free c o (λz=>(lU c z).2.2.1 x c e rfl) ho (I.gw x c e)
 ·obtain⟨e,n,ne,nf,d⟩:=I.pin p hp;have wR:p.1∉ch:=λz=>(lU p.1 z).2.2.2 p hp rfl;exact⟨keep p.1 p.2 ne nf wR e n,free p.1 p.2 wR e n,ne,nf,d⟩
theorem Inv.un{t':Nat}(I:Inv X pins σ H s)(u:Un X.fs [] H H' s.heap h')(ay:cX X.prog X.w H' h'):Inv X pins σ H' {s with heap:=h',toks:=t'}:=by
 obtain⟨m,⟨o,es,ep,ho,r⟩,_⟩:=id I.loc;obtain⟨sl,hL⟩:=u.any ho I.free (by simp);exact I.step (g':=s.gens) (d':=s.drawn) (ch:=[]) (λ_ z=>nomatch z) (λb o _ hb _ e n=>u.keep b o e n hb (by simp)) (λb o _ hb _ e n=>u.slot b o e n hb (by simp)) (λb o _ e n=>u.free b o e n (by simp)) (λb o _ e=>u.there b o e (by simp)) u.fX u.gH u.gX (λm' hm=>by
  obtain⟨o',Ao,Ap,uo,r'⟩:=hm;rw[ho] at uo;cases uo;exact⟨_,Ao,Ap,hL,r'⟩) ay I.bare
theorem Inv.call{g':Array GenState}{t':Nat}{d':Drawn}{ch:List Addr}(I:Inv X pins σ H s)(u:Un (cB X.stack) ch H H' s.heap h')(ay:cX X.prog X.w H' h')(hg:AllBare g')
  (lU:∀b∈ch,(b∈X.ex\/X.cQ.heap.objs.size<=b)/\b≠X.env.locals/\(∀x c,X.env.cells.lookup x=some c->c≠b)/\∀p∈X.pn++pins,p.1≠b):
  Inv X pins σ H' {s with heap:=h',gens:=g',drawn:=d',toks:=t'}:=by
 obtain⟨m,⟨o,es,ep,ho,r⟩,_⟩:=id I.loc;obtain⟨sl,hL⟩:=u.any ho I.free λz=>(lU _ z).2.1 rfl;exact I.step (ch:=ch) lU (λb o hL hb hc e n=>u.keep b o e n (λz=>(Yp.mp (I.EL b z)).elim hL hb) hc) (λb o _ _ hc e n=>u.any e n hc) (λb o hc e n=>u.free b o e n hc) (λb o hc e=>u.there b o e hc) u.fX u.gH u.gX (λm' hm=>by
  obtain⟨o',Ao,Ap,uo,r'⟩:=hm;rw[ho] at uo;cases uo;exact⟨_,Ao,Ap,hL,r'⟩) ay hg
theorem Inv.turned{t':Nat}{it:Addr}(I:Inv X pins σ H s)(k:∀b o,b≠it->s.heap.get? b=some o->h'.get? b=some o)(hn:H it=none)(hL:it≠X.env.locals)
  (h1:it∈X.ex\/X.cQ.heap.objs.size<=it)(h2:∀x c,X.env.cells.lookup x=some c->c≠it)(h3:∀p∈X.pn++pins,p.1≠it):Inv X pins σ H {s with heap:=h',toks:=t'}:=by
 have Pr:∀b u,H b=some u->b≠it:=λb u e z=>by rw[z,hn] at e;cases e
 refine I.step (g':=s.gens) (d':=s.drawn) (ch:=[it]) (λb hb=>?_) (λb o _ _ hc e _=>k b o (λz=>hc (by simp[z])) e) (λb o _ _ hc e _=>⟨o.slots,k b o (λz=>hc (by simp[z])) e⟩) (λ_ _ _ _ n=>n)
  (λb o hc e=>⟨o,k b o (λz=>hc (by simp[z])) e⟩) (λ_ _ e=>e) (λ_ _ _ e=>e) (λb ps e=>⟨#[],by rw[e];simp⟩) (λm hm=>?_) (λb u e=>?_) I.bare
 ·have e:b=it:=by simpa using hb
  subst e;exact⟨h1,hL,h2,h3⟩
 ·obtain⟨o,es,ep,ho,r⟩:=hm;exact⟨o,es,ep,k _ o (Ne.symm hL) ho,r⟩
 ·refine(I.ay b u e).gG (λc v hc q=>k c v ?_ q) (λ_ q=>q) λ_ _ q=>q;rcases hc with z|z;·rw[z];exact Pr b u e
  ·exact Pr c _ z
theorem Inv.tok(I:Inv X pins σ H s)(t:Nat):Inv X pins σ H {s with toks:=t}:=I.un (h':=s.heap) (t':=t) Un.refl I.ay
theorem Inv.kept{t':Nat}(I:Inv X pins σ H s)(k:∀b u,s.heap.get? b=some u->h'.get? b=some u):Inv X pins σ H {s with heap:=h',toks:=t'}:=I.un (Un.kept k) (I.ay.kept k)
theorem Inv.laid{a:Addr}{o:HO}{t':Nat}(I:Inv X pins σ H s)(k:∀b u,s.heap.get? b=some u->h'.get? b=some u)(hp:s.heap.objs.size<=a)(new:cz X.prog X.w (upd H a o) h' a o):
  Inv X pins σ (upd H a o) {s with heap:=h',toks:=t'}:=I.un (Un.laid k hp (I.ay.fresh hp)) (I.ay.laid k hp new)
theorem Inv.write{x e:Addr}{o:HO}{t':Nat}(I:Inv X pins σ H s)(mu:wO (H x))(he:e=x\/H e=some (.own x))(k:∀b u,b≠e->s.heap.get? b=some u->h'.get? b=some u)(wQ:∃u,h'.get? e=some u)
  (new:cz X.prog X.w (upd H x o) h' x o):Inv X pins σ (upd H x o) {s with heap:=h',toks:=t'}:=I.un (Un.write mu he k wQ) (I.ay.write mu he k wQ new)
theorem Inv.Lu{Fh:aM}(I:Inv X pins σ H s)(h:∀p∈Fh,s.heap.get? p.1=some p.2/\H p.1=none/\p.1≠X.env.locals/\p.1∉X.fs/\∀v,p.2.data≠.cell v):Inv X Fh σ H s:=
 ⟨I.ok,I.os,I.bare,I.base,I.loc,I.cell,I.free,I.gw,λp hp=>(Yx.mp hp).elim (λz=>I.pin p (Ym _ z)) (h p),I.ay,I.len⟩
theorem D1{N:List Str}(hN:N.Nodup){i j:Nat}{x:Str}(a:N[i]?=some x)(b:N[j]?=some x):i=j:=by
 obtain⟨h1,e1⟩:=Yk.mp a;obtain⟨h2,e2⟩:=Yk.mp b;exact(List.getElem_inj hN).mp (e1.trans e2.symm)
theorem JJ{M:Model}{A:Around}{E:aU}{i:Nat}{x:Str}{v:V}{u:Value}{Q:Unit->Shared->Prop}(I:Inv X pins σ H s)(hN:X.N.Nodup)(hi:X.N[i]?=some x)(hx:Loc X.env.scope x)(r:RelV v u)
  (h:∀s',Inv X pins (σ.set i (some v)) H s'->(∃a,Heap.SameBut a s.heap s'.heap/\(a=X.env.locals\/X.env.cells.lookup x=some a))->Q () s')(hf:X.fn x=true\/X.env.scope.names.lookup x=some .local:=by first|exact .inl rfl|exact .inr rfl|assumption):wpAny M A (storeName X.env x u) Q E s:=by
 obtain⟨m,hn,hl⟩:=id I.loc;have ZcV:(X.env.scope.kind==.class||(X.env.scope.kind==.module&&X.env.locals !=X.env.globals))=false:=by rw[I.ok.kind];rfl
 have Ov:i<σ.length:=by rw[I.len];exact(Yk.mp hi).1
 have nJ:=I.nJ;have tracked:∀{a:Addr} {h':Heap},(∃o,s.heap.get? a=some o/\H a=none)->Heap.SameBut a s.heap h'->cX X.prog X.w H h':=λ{a h'} ha hs b ob e=>by
  obtain⟨_,_,NQ⟩:=ha;refine(I.ay b ob e).gG (λc w' hc q=>(hs.2 c ?_).trans q) (λ_ q=>q) λ_ _ q=>q;rintro rfl;rcases hc with rfl|hc;·rw[NQ] at e;cases e
  ·rw[NQ] at hc;cases hc
 rcases hx with hk|hk
 ·refine wpAny_storeName_local hk hn (λh' hn' hs=>?_) ZcV;obtain⟨oL,_,_,nK,_⟩:=id hn;refine h _ ⟨I.ok,I.os,I.bare,⟨λb o e n hb hx=>?_,λb o e n hb hx=>?_,I.base.free,λb o e hx=>?_,I.base.fX,I.base.gH,I.base.gX⟩,⟨_,hn',λj y v' e1 e2 e3=>?_⟩,λy c e=>?_,I.free,I.gw,λp hp=>?_,tracked ⟨oL,nK,I.free⟩ hs,by simpa using I.len⟩ ⟨_,hs,.inl rfl⟩;·exact(hs.2 b (Yy (Y2 (Yo e) I.ok.above))).trans (I.base.keep b o e n hb hx)
  ·obtain⟨sl,e1⟩:=I.base.slot b o e n hb hx;exact⟨sl,(hs.2 b (Yy (Y2 (Yo e) I.ok.above))).trans e1⟩
  ·obtain⟨o',e1⟩:=I.base.there b o e hx;exact⟨o',(hs.2 b (Yy (Y2 (Yo e) I.ok.above))).trans e1⟩
  ·by_cases hj:j=i
   ·subst hj;rw[hi] at e1;cases e1;rw[List.getElem?_set_self Ov] at e2;cases e2;exact⟨u,r,.inl ⟨hk,by simp⟩⟩
   ·rw[J7 (Ne.symm hj)] at e2;obtain⟨u',r',q⟩:=hl j y v' e1 e2 e3;refine⟨u',r',?_⟩;rcases q with⟨k,e⟩|⟨k,c,e,z⟩
    ·refine .inl ⟨k,?_⟩;have:y≠x:=λe=>hj (D1 hN e1 (e▸hi));simp[this,e]
    ·exact .inr ⟨k,c,e,z.sameBut hs (nJ y c e)⟩
  ·obtain⟨w',z⟩:=I.cell y c e;exact⟨w',z.sameBut hs (nJ y c e)⟩
  ·obtain⟨e,n,ne,nf,d⟩:=I.pin p hp;exact⟨(hs.2 p.1 ne).trans e,n,ne,nf,d⟩
 ·have Gm:X.fn x=true:=by
   rcases hf with z|z;·exact z
   ·rw[z] at hk;cases hk
  obtain⟨c,hc⟩:=I.ok.has x (.inl hk);obtain⟨w',z⟩:=I.cell x c hc;refine wpAny_storeName_cell I.ok.kind hk hc z (λh' Aq hs=>?_);obtain⟨oc,Pt,ZcW⟩:=id z;refine h {s with heap:=h'} ⟨I.ok,I.os,I.bare,⟨λb o e n hb hx=>?_,λb o e n hb hx=>?_,I.base.free,λb o e hx=>?_,I.base.fX,I.base.gH,I.base.gX⟩,⟨m,hn.sameBut hs (Ne.symm (nJ x c hc)),λj y v' e1 e2 e3=>?_⟩,λy c' e=>?_,I.free,I.gw,λp hp=>?_,tracked ⟨oc,Pt,I.gw x c hc⟩ hs,by simpa using I.len⟩ ⟨c,hs,.inr hc⟩;·exact(hs.2 b (Yy (Y2 (Yo e) (I.ok.rf x c Gm hc)))).trans (I.base.keep b o e n hb hx)
  ·obtain⟨sl,e1⟩:=I.base.slot b o e n hb hx;exact⟨sl,(hs.2 b (Yy (Y2 (Yo e) (I.ok.rf x c Gm hc)))).trans e1⟩
  ·obtain⟨o',e1⟩:=I.base.there b o e hx;exact⟨o',(hs.2 b (Yy (Y2 (Yo e) (I.ok.rf x c Gm hc)))).trans e1⟩
  ·by_cases hj:j=i
   ·subst hj;rw[hi] at e1;cases e1;rw[List.getElem?_set_self Ov] at e2;cases e2;exact⟨u,r,.inr ⟨.inl hk,c,hc,Aq⟩⟩
   ·rw[J7 (Ne.symm hj)] at e2;obtain⟨u',r',q⟩:=hl j y v' e1 e2 e3;refine⟨u',r',?_⟩;rcases q with q|⟨k,c',e,z'⟩;·exact .inl q
    ·refine .inr ⟨k,c',e,z'.sameBut hs ?_⟩;rintro rfl;exact hj (D1 hN e1 (I.ok.inj _ _ _ e hc▸hi))
  ·by_cases Pu:c'=c;·subst Pu;exact⟨_,Aq⟩
   ·obtain⟨w2,z2⟩:=I.cell y c' e;exact⟨w2,z2.sameBut hs Pu⟩
  ·obtain⟨e,n,ne,nf,d⟩:=I.pin p hp;refine⟨(hs.2 p.1 ?_).trans e,n,ne,nf,d⟩;intro q;rw[q,Pt] at e;have q':oc=p.2:=Yu e;exact d w' (by rw[←q'];exact ZcW)
theorem vG{M:Model}{A:Around}{E:aU}{i:Nat}{x:Str}{v:V}{u:Value}{Q:Unit->Shared->Prop}(I:Inv X pins σ H s)(hN:X.N.Nodup)(hi:X.N[i]?=some x)(hx:Loc X.env.scope x)(r:RelV v u)
  (h:∀s',Inv X pins (σ.set i (some v)) H s'->Q () s')(hf:X.fn x=true\/X.env.scope.names.lookup x=some .local:=by first|exact .inl rfl|exact .inr rfl|assumption):wpAny M A (storeName X.env x u) Q E s:=
 JJ I hN hi hx r (λs' I' _=>h s' I') hf
theorem Inv.Fi{s':Shared}{ch:List Addr}(I:Inv X pins σ H s)(ho:s'.os=s.os)(u:Un (cB X.stack) ch H H' s.heap s'.heap)(ay:cX X.prog X.w H' s'.heap)(hg:AllBare s'.gens)
  (lU:∀b∈ch,(b∈X.ex\/X.cQ.heap.objs.size<=b)/\b≠X.env.locals/\(∀x c,X.env.cells.lookup x=some c->c≠b)/\∀p∈X.pn++pins,p.1≠b):Inv X pins σ H' s':=by
 obtain⟨h',g',d',t',o'⟩:=s';have e:o'=s.os:=ho;subst e;exact I.call (g':=g') (t':=t') (d':=d') u ay hg lU
end
abbrev XK:=Value->Option Addr->Hp->Prop
abbrev St:=List (Option V)
abbrev VK:=V->Hp->Prop
abbrev TE:=St->Hp->VK->Prop
abbrev TT:=St->Hp->(Bool->Hp->Prop)->Prop
abbrev TA:=St->Hp->(List V->Hp->Prop)->Prop
structure Ends where
 nx:St->Hp->Prop
 rt:VK
 bk:St->Hp->Prop:=λ_ _=>False
 ct:St->Hp->Prop:=λ_ _=>False
abbrev TS:=Ends->St->Hp->Prop
inductive Ow(X:Cx)(pins:aM)(σ:St)(Q:VK)(u:Value)(s':Shared):Prop
 |mk (v H') (aI:Inv X pins σ H' s') (aX:RelV v u) (bu:Q v H'):Ow X pins σ Q u s'
def EP(X:Cx)(pins:aM)(σ:St)(Q:VK)(u:Value)(s':Shared):Prop:=Ow X pins σ Q u s'
inductive Ox(X:Cx)(pins:aM)(σ:St)(R:Hp->Prop)(s':Shared):Prop
 |mk (H':Hp) (aI:Inv X pins σ H' s') (aX:R H'):Ox X pins σ R s'
def TP(X:Cx)(pins:aM)(σ:St)(Q:Bool->Hp->Prop)(b:Bool)(s':Shared):Prop:=Ox X pins σ (Q b) s'
inductive Oy(X:Cx)(pins:aM)(σ:St)(Q:List V->Hp->Prop)(us:List Value)(s':Shared):Prop
 |mk (vs H') (aI:Inv X pins σ H' s') (aX:Vals vs us) (bu:Q vs H'):Oy X pins σ Q us s'
def AP(X:Cx)(pins:aM)(σ:St)(Q:List V->Hp->Prop)(us:List Value)(s':Shared):Prop:=Oy X pins σ Q us s'
inductive qO(X:Cx)(pins:aM)(Q:St->Hp->Prop)(s':Shared):Prop
 |mk (aB:St) (H':Hp) (aI:Inv X pins aB H' s') (aX:Q aB H'):qO X pins Q s'
inductive Oz(X:Cx)(pins:aM)(Q:VK)(u:Value)(s':Shared):Prop
 |mk (v:V) (aB:St) (H':Hp) (aI:Inv X pins aB H' s') (aX:RelV v u) (bu:Q v H'):Oz X pins Q u s'
def SP(X:Cx)(pins:aM)(D:Ends)(f:Flow)(s':Shared):Prop:=
 match f with
 |.next=>qO X pins D.nx s'
 |.brk=>qO X pins D.bk s'
 |.cont=>qO X pins D.ct s'
 |.ret u=>Oz X pins D.rt u s'
def PE(X:Cx)(e:Expr)(t:TE):Prop:=
 ∀(pins:aM) (s:Shared) (σ:St) (H:Hp) (Q:VK),Inv X pins σ H s->t σ H Q->wpAny X.md X.A (eval e X.env) (EP X pins σ Q) X.xe s
def PT(X:Cx)(e:Expr)(t:TT):Prop:=
 ∀(pins:aM) (s:Shared) (σ:St) (H:Hp) (Q:Bool->Hp->Prop),Inv X pins σ H s->t σ H Q->wpAny X.md X.A (isTrue e X.env (eval e X.env)) (TP X pins σ Q) X.xe s
def PW(X:Cx)(e:Expr)(t:TT):Prop:=
 ∀(whole:Sem Value) (pins:aM) (s:Shared) (σ:St) (H:Hp) (Q:Bool->Hp->Prop),Inv X pins σ H s->t σ H Q->wpAny X.md X.A (isTrue e X.env whole) (TP X pins σ Q) X.xe s
theorem PW.pt{X:Cx}{e:Expr}{t:TT}(h:PW X e t):PT X e t:=h _
def PA(X:Cx)(es:List Expr)(t:TA):Prop:=
 ∀(pos:Pos) (pins:aM) (s:Shared) (σ:St) (H:Hp) (Q:List V->Hp->Prop),Inv X pins σ H s->t σ H Q->wpAny X.md X.A (spliced (backTo pos (starEach es X.env))) (AP X pins σ Q) X.xe s
def PS(X:Cx)(st:Stmt)(t:TS):Prop:=
 ∀(pins:aM) (s:Shared) (σ:St) (H:Hp) (D:Ends),Inv X pins σ H s->t D σ H->wpAny X.md X.A (exec st X.env) (SP X pins D) X.xe s
def eN(X:Cx)(st:List Stmt)(t:TS):Prop:=
 ∀(pins:aM) (s:Shared) (σ:St) (H:Hp) (D:Ends),Inv X pins σ H s->t D σ H->wpAny X.md X.A (execs st X.env) (SP X pins D) X.xe s
theorem az{α:Type}{t:Sem α}{Q Q':α->Shared->Prop}{M:Model}{A:Around}{E:aU}{s:Shared}(h:wpAny M A t Q E s)(hQ:∀a s,Q a s->Q' a s):wpAny M A t Q' E s:=wpAny_mono h hQ λ_ _ x=>x
section
variable {X:Cx}
inductive MG(i:Nat)(σ:St)(H:Hp)(Q:VK):Prop
 |mk (v) (aI:σ[i]?=some (some v)) (aX:Q v H):MG i σ H Q
def nA(i:Nat):TE:=λσ H Q=>MG i σ H Q
def tC(v:V):TE:=λ_ H Q=>Q v H
theorem ZaE{i:Nat}{x:Str}{pos:Pos}(hN:X.N[i]?=some x)(hv:rb X.env.scope x)(hd:(x==("__debug__":Str))=false:=by decide)(eU:(x==("__classdict__":Str))=false:=by decide):PE X (.Name x pos) (nA i):=by
 rintro pins s σ H Q I ⟨v,e,h⟩;obtain⟨m,hn,hl⟩:=I.loc;obtain⟨u,r,l⟩:=hl i x v hN e hv;have fin:EP X pins σ Q u s:=⟨v,H,I,r,h⟩;rcases l with⟨hk,hm⟩|⟨hk,c,hc,zB⟩;·exact wpAny_Name (wpAny_loadName_local I.ok.kind hk hn hm fin) hd
 ·rcases hk with hk|hk;·exact wpAny_Name (wpAny_loadName_cell I.ok.kind hk hc zB fin) hd
  ·exact wpAny_Name (wpAny_loadName_free I.ok.kind hk hc zB fin eU) hd
theorem aO{i j pos}:PE X (.Constant (.int i) j pos) (tC (.int i)):=λ_ _ _ H _ I h=>wpAny_Constant_int ⟨.int i,H,I.tok _,⟨_,rfl⟩,h⟩
theorem fh{b j pos}:PE X (.Constant (.bool b) j pos) (tC (.bl b)):=λ_ _ _ H _ I h=>Constant_bool ⟨.bl b,H,I,rfl,h⟩
theorem kA{j pos}:PE X (.Constant .none j pos) (tC .aA):=λ_ _ _ H _ I h=>Constant_none ⟨.aA,H,I,rfl,h⟩
theorem bR{x j pos}:PE X (.Constant (.str x) j pos) (tC (.str x)):=λ_ _ _ H _ I h=>Calls.Constant_str ⟨.str x,H,I.tok _,⟨_,rfl⟩,h⟩
def Gl(X:Cx)(x:Str):Prop:=X.env.kindOf x=some .globalImplicit
theorem mT{E:aU}{pins:aM}{s:Shared}{σ:St}{H:Hp}{x:Str}{u:Value}{pos:Pos}{Q:aU}(I:Inv X pins σ H s)(hg:Gl X x)(hm:X.mg x=some u)(h:Q u s)
  (hd:(x==("__debug__":Str))=false:=by decide):wpAny X.md X.A (eval (.Name x pos) X.env) Q E s:=
 Calls.Name_function_global I.ok.kind hg (Calls.loadGlobal_global (by rw[I.ok.glob];exact I.mod.glob.keeps I.bk) hm h) hd
theorem vT{E:aU}{pins:aM}{s:Shared}{σ:St}{H:Hp}{x:Str}{u:Value}{pos:Pos}{Q:aU}(I:Inv X pins σ H s)(hg:Gl X x)(hm:X.mg x=none)(hv:bootBuiltins x=some u)(h:Q u s)
  (hn:x≠"__name__":=by decide)(hd:(x==("__debug__":Str))=false:=by decide):wpAny X.md X.A (eval (.Name x pos) X.env) Q E s:=by
 obtain⟨mb,h1,h2⟩:=I.mod.blt;exact Calls.Name_function_global I.ok.kind hg (Calls.loadGlobal_builtin (by rw[I.ok.glob];exact I.mod.glob.keeps I.bk) hm (by rw[I.ok.blt];exact h1.keeps I.bk) ((h2 x hn).trans hv) h) hd
theorem df{x:Str}{v:V}{u:Value}{pos:Pos}(hg:Gl X x)(hm:X.mg x=some u)(r:RelV v u)(hd:(x==("__debug__":Str))=false:=by decide):PE X (.Name x pos) (tC v):=
 λ_ _ _ H _ I h=>mT I hg hm ⟨v,H,I,r,h⟩ hd
theorem Zn{x:Str}{v:V}{u:Value}{pos:Pos}(hg:Gl X x)(hm:X.mg x=none)(hv:bootBuiltins x=some u)(r:RelV v u)(hn:x≠"__name__":=by decide)(hd:(x==("__debug__":Str))=false:=by decide):PE X (.Name x pos) (tC v):=
 λ_ _ _ H _ I h=>vT I hg hm hv ⟨v,H,I,r,h⟩ hn hd
variable {a b:Expr}{ta tb:TE}{pos:Pos}
def PC(X:Cx)(op:CmpOp)(a b:Expr)(t:TE):Prop:=
 ∀(pins:aM) (s:Shared) (σ:St) (H:Hp) (Q:VK),Inv X pins σ H s->t σ H Q->
  wpAny X.md X.A (eval a X.env) (λv bo=>wpAny X.md X.A (eval b X.env) (λu dQ=>wpAny X.md X.A (compareOp op v u) (EP X pins σ Q) X.xe dQ) X.xe bo) X.xe s
inductive OA(Q:Bool->Hp->Prop)(x:V)(H1:Hp):Prop
 |mk (c) (aI:x=.bl c) (aX:Q c H1):OA Q x H1
def tB(t:TE):TT:=λσ H Q=>t σ H λx H1=>OA Q x H1
theorem ZaF{op:CmpOp}{t:TE}(h:PC X op a b t)(h1:behindInMarks op b=false:=by first|exact Xg _ (by decide) (by decide)|rfl):PE X (.Compare a [op] [b] pos) t:=λpins s σ H Q I hw=>wpAny_Compare1 (h pins s σ H Q I hw) h1
theorem qp{op:CmpOp}{t:TE}(h:PC X op a b t)(h1:behindInMarks op b=false:=by first|exact Xg _ (by decide) (by decide)|rfl):PT X (.Compare a [op] [b] pos) (tB t):=by
 intro pins s σ H Q I hw;refine wpAny_isTrue_Compare1 (az (h pins s σ H _ I hw) λv s1 h1=>az h1 λu s2 h2=>az h2 λc s3 zq=>?_) h1;obtain⟨x,H1,I1,r1,q1⟩:=zq;obtain⟨d,rfl,q⟩:=q1;cases r1;exact wpAny_truthy_bool ⟨H1,I1,q⟩
theorem di{e:Expr}{t:TE}(h:PE X e t)(he:∀whole,isTrue e X.env whole=(do let v←whole;standAt e.pos;holding [v] (truthy v)):=by intro _;rfl):PT X e (tB t):=by
 intro pins s σ H Q I hw;refine isTrue_plain (az (h pins s σ H _ I hw) λv s1 zq=>?_) (he _);obtain⟨x,H1,I1,r1,q1⟩:=zq;obtain⟨d,rfl,q⟩:=q1;cases r1;exact wpAny_truthy_bool ⟨H1,I1,q⟩
variable {tA Ar:TT}{rest:List Expr}
def OB(t u:TT):TT:=λσ H Q=>t σ H λc H1=>if c=true then u σ H1 Q else Q false H1
def tOr(t u:TT):TT:=λσ H Q=>t σ H λc H1=>if c=true then Q true H1 else u σ H1 Q
def ZcX(t:TT):TT:=λσ H Q=>t σ H λc H1=>Q (!c) H1
theorem pw_and1(ha:PT X a tA):PW X (.BoolOp .And [a] pos) tA:=by
 intro wh pins s σ H Q I h;refine isTrue_and (az (ha pins s σ H Q I h) λc s1 e=>?_);cases c with
 |true=>exact isTrue_and_nil e
 |false=>exact e
theorem pw_or1(ha:PT X a tA):PW X (.BoolOp .Or [a] pos) tA:=by
 intro wh pins s σ H Q I h;refine isTrue_or (az (ha pins s σ H Q I h) λc s1 e=>?_);cases c with
 |false=>exact isTrue_or_nil e
 |true=>exact e
theorem pw_and(ha:PT X a tA)(hb:PW X (.BoolOp .And (b::rest) pos) Ar):PW X (.BoolOp .And (a::b::rest) pos) (OB tA Ar):=by
 intro wh pins s σ H Q I h;refine isTrue_and (az (ha pins s σ H _ I h) λc s1 zq=>?_);obtain⟨H1,I1,q1⟩:=zq;cases c with
 |true=>exact hb wh pins s1 σ H1 Q I1 q1
 |false=>exact⟨H1,I1,q1⟩
theorem pw_or(ha:PT X a tA)(hb:PW X (.BoolOp .Or (b::rest) pos) Ar):PW X (.BoolOp .Or (a::b::rest) pos) (tOr tA Ar):=by
 intro wh pins s σ H Q I h;refine isTrue_or (az (ha pins s σ H _ I h) λc s1 zq=>?_);obtain⟨H1,I1,q1⟩:=zq;cases c with
 |true=>exact⟨H1,I1,q1⟩
 |false=>exact hb wh pins s1 σ H1 Q I1 q1
theorem eQ(ha:PT X a tA):PT X (.UnaryOp .Not a pos) (ZcX tA):=by
 intro pins s σ H Q I h;exact isTrue_not (ha pins s σ H (λc H1=>Q (!c) H1) I h)
def Zb4(ta tb:TE):TE:=λσ H Q=>ta σ H λx H1=>∃c,x=.bl c/\if c=true then tb σ H1 Q else Q (.bl false) H1
def ZcY(ta tb:TE):TE:=λσ H Q=>ta σ H λx H1=>∃c,x=.bl c/\if c=true then Q (.bl true) H1 else tb σ H1 Q
def Zb5(ta:TE):TE:=λσ H Q=>ta σ H λx H1=>∃c,x=.bl c/\Q (.bl (!c)) H1
theorem m6{op}{t:TE}(h:PE X a t):PE X (.BoolOp op [a] pos) t:=λpins s σ H Q I hw=>BoolOp_one (h pins s σ H Q I hw)
theorem qq(ha:PE X a ta)(hb:PE X (.BoolOp .And (b::rest) pos) tb):PE X (.BoolOp .And (a::b::rest) pos) (Zb4 ta tb):=by
 intro pins s σ H Q I h;refine BoolOp_and (az (ha pins s σ H _ I h) λv s1 zq=>?_);obtain⟨x,H1,I1,r1,q1⟩:=zq;obtain⟨c,rfl,q1⟩:=q1;cases r1;refine wpAny_truthy_bool ?_;cases c with
 |true=>exact hb pins s1 σ H1 Q I1 q1
 |false=>exact⟨.bl false,H1,I1,rfl,q1⟩
theorem Fj(ha:PE X a ta)(hb:PE X (.BoolOp .Or (b::rest) pos) tb):PE X (.BoolOp .Or (a::b::rest) pos) (ZcY ta tb):=by
 intro pins s σ H Q I h;refine BoolOp_or (az (ha pins s σ H _ I h) λv s1 zq=>?_);obtain⟨x,H1,I1,r1,q1⟩:=zq;obtain⟨c,rfl,q1⟩:=q1;cases r1;refine wpAny_truthy_bool ?_;cases c with
 |false=>exact hb pins s1 σ H1 Q I1 q1
 |true=>exact⟨.bl true,H1,I1,rfl,q1⟩
theorem ZaG(ha:PE X a ta):PE X (.UnaryOp .Not a pos) (Zb5 ta):=by
 intro pins s σ H Q I h;refine UnaryOp_ (az (ha pins s σ H _ I h) λv s1 zq=>?_);obtain⟨x,H1,I1,r1,q1⟩:=zq;obtain⟨c,rfl,q1⟩:=q1;cases r1;exact not_of (wpAny_truthy_bool ⟨.bl (!c),H1,I1,rfl,q1⟩)
def tIf(t:TT)(ta tb:TE):TE:=λσ H Q=>t σ H λc H1=>if c=true then ta σ H1 Q else tb σ H1 Q
theorem Xh{c:Expr}(hc:PT X c tA)(ha:PE X a ta)(hb:PE X b tb):PE X (.IfExp c a b pos) (tIf tA ta tb):=by
 intro pins s σ H Q I h;refine wpAny_IfExp (az (hc pins s σ H _ I h) λd s1 zq=>?_);obtain⟨H1,I1,q1⟩:=zq;cases d with
 |true=>exact ha pins s1 σ H1 Q I1 q1
 |false=>exact hb pins s1 σ H1 Q I1 q1
end
def aj(K:ag)(H:Hp)(a:Addr)(xs:List V):Prop:=
 Rd H a (.lst xs)\/
  ∃(o:Obj) (ah:Array Value) (n:Nat),K.lookup a=some o/\o.cls=.type "list"/\o.dict=none/\o.data=.seq ah n/\ah.size<=sizeLine/\Vals xs ah.toList
def aE(K:ag)(H:Hp)(a:Addr)(xs:List V):Prop:=
 Rd H a (.tup xs)\/
  ∃(o:Obj) (ah:Array Value) (n:Nat),K.lookup a=some o/\o.cls=.type "tuple"/\o.data=.seq ah n/\ah.size<=sizeLine/\Vals xs ah.toList
def ZcZ:Value->Option V
 |.none=>some .aA
 |.bool b=>some (.bl b)
 |.int i _=>some (.int i)
 |.str x _=>some (.str x)
 |.bytes b _=>some (.iW b)
 |.float b _=>some (.q_ b)
 |.ref a=>some (.ref a)
 |.type n=>some (.ty n)
 |_=>none
theorem RelV.abs{x:V}{u:Value}(r:RelV x u):ZcZ u=some x:=by
 cases x with
 |aA=>cases r;rfl
 |bl _=>cases r;rfl
 |int _=>obtain⟨t,rfl⟩:=r;rfl
 |str _=>obtain⟨t,rfl⟩:=r;rfl
 |iW _=>obtain⟨t,rfl⟩:=r;rfl
 |q_ _=>obtain⟨t,rfl⟩:=r;rfl
 |ref _=>cases r;rfl
 |ty _=>cases r;rfl
theorem RelV.inj{x y:V}{u:Value}(r:RelV x u)(q:RelV y u):x=y:=Yu (r.abs.symm.trans q.abs)
theorem Vals.inj:∀{xs ys:List V} {us:List Value},Vals xs us->Vals ys us->xs=ys:=by
 intro xs ys us h;induction h generalizing ys with
 |nil=>intro h';cases h';rfl
 |cons r t ih=>
  intro h';cases h' with
  |cons r' t'=>rw[r.inj r',ih t']
section
variable {X:Cx}{pins:aM}{σ:St}{H:Hp}{s:Shared}{a:Addr}{xs ys:List V}
theorem aj.of{K:ag}(h:H a=some (.lst xs)):aj K H a xs:=.inl (.inl h)
theorem aE.of{K:ag}(h:H a=some (.tup xs)):aE K H a xs:=.inl (.inl h)
theorem Inv.list(I:Inv X pins σ H s)(h:aj X.K H a xs):∃ah:List Value,Vals xs ah/\PlainL s.heap a ah.toArray/\xs.length<=sizeLine:=by
 rcases h with h|⟨o,ah,n,hk,hc,hd,hs,hz,r⟩
 ·obtain⟨z,ah,n,r,e⟩:=h.ok I.ay;exact⟨ah,r,⟨_,n,e,rfl,rfl,rfl⟩,z⟩
 ·refine⟨ah.toList,r,⟨o,n,I.bL a o hk,hc,hd,by simpa using hs⟩,?_⟩;have e:=r.length
  grind
theorem Inv.tuple(I:Inv X pins σ H s)(h:aE X.K H a xs):∃ah:List Value,Vals xs ah/\IsTup s.heap a ah.toArray/\xs.length<=sizeLine:=by
 rcases h with h|⟨o,ah,n,hk,hc,hs,hz,r⟩
 ·obtain⟨z,ah,r,p⟩:=h.ok I.ay;exact⟨ah,r,p.tup,z⟩
 ·refine⟨ah.toList,r,⟨o,I.bL a o hk,hc,n,by simpa using hs⟩,?_⟩;have e:=r.length
  grind
theorem Inv.Xi(I:Inv X pins σ H s)(h:aj X.K H a xs)(h':aj X.K H a ys):xs=ys:=by
 obtain⟨ah,r,⟨o,n,e,_,_,d⟩,_⟩:=I.list h;obtain⟨its',r',⟨o',n',e',_,_,d'⟩,_⟩:=I.list h';rw[e] at e';cases e';rw[d] at d';injection d' with d1 _;have:ah=its':=by simpa using congrArg Array.toList d1
 subst this;exact r.inj r'
theorem Inv.VR(I:Inv X pins σ H s)(h:aE X.K H a xs)(h':aE X.K H a ys):xs=ys:=by
 obtain⟨ah,r,⟨o,e,_,n,d⟩,_⟩:=I.tuple h;obtain⟨its',r',⟨o',e',_,n',d'⟩,_⟩:=I.tuple h';rw[e] at e';cases e';rw[d] at d';injection d' with d1 _;have:ah=its':=by simpa using congrArg Array.toList d1
 subst this;exact r.inj r'
end
abbrev Cx.iU(X:Cx)(E:aU):Cx:={X with xe:=E}
abbrev Cx.jX(X:Cx):Cx:=X.iU λ_ _=>False
theorem Cx.Ok.iU{X:Cx}(ok:X.Ok)(E:aU):(X.iU E).Ok:=
 ⟨ok.mod,ok.kind,ok.glob,ok.blt,ok.above,ok.inj,ok.has,ok.rf,ok.hd,ok.frames,ok.um,ok.pH,ok.bs,ok.kP,ok.qN,ok.oZ,ok.iS,ok.nI⟩
theorem Cx.Ok.oO{X:Cx}{E:aU}(ok:(X.iU E).Ok):X.Ok:=
 ⟨ok.mod,ok.kind,ok.glob,ok.blt,ok.above,ok.inj,ok.has,ok.rf,ok.hd,ok.frames,ok.um,ok.pH,ok.bs,ok.kP,ok.qN,ok.oZ,ok.iS,ok.nI⟩
section
variable {X:Cx}{pins:aM}{σ:St}{H:Hp}{s:Shared}{E:aU}
theorem Inv.iU(I:Inv X pins σ H s)(E:aU):Inv (X.iU E) pins σ H s:=⟨I.ok.iU E,I.os,I.bare,I.base,I.loc,I.cell,I.free,I.gw,I.pin,I.ay,I.len⟩
theorem Inv.oO(I:Inv (X.iU E) pins σ H s):Inv X pins σ H s:=⟨I.ok.oO,I.os,I.bare,I.base,I.loc,I.cell,I.free,I.gw,I.pin,I.ay,I.len⟩
theorem SP.oO{D:Ends}{f:Flow}{s':Shared}(h:SP (X.iU E) pins D f s'):SP X pins D f s':=by
 cases f with
 |next=>obtain⟨aB,H',I,q⟩:=h;exact⟨aB,H',I.oO,q⟩
 |brk=>obtain⟨aB,H',I,q⟩:=h;exact⟨aB,H',I.oO,q⟩
 |cont=>obtain⟨aB,H',I,q⟩:=h;exact⟨aB,H',I.oO,q⟩
 |ret u=>obtain⟨v,aB,H',I,r,q⟩:=h;exact⟨v,aB,H',I.oO,r,q⟩
theorem eN.jX{st:List Stmt}{t:TS}(h:eN X.jX st t):eN X st t:=λpins s σ H D I hw=>
 wpAny_mono (h pins s σ H D (I.iU _) hw) (λ_ _ q=>q.oO) λ_ _ z=>False.elim z
end
section
variable {X:Cx}{st:Stmt}{rest:List Stmt}{t u:TS}{e:Expr}{te:TE}{pos:Pos}
def NR:TS:=λD σ H=>D.nx σ H
def wq(t u:TS):TS:=λD σ H=>t {D with nx:=u D} σ H
theorem aZ:eN X [] NR:=λ_ _ σ H _ I h=>wpAny_execs_nil ⟨σ,H,I,h⟩
theorem aq(h1:PS X st t)(h2:eN X rest u):eN X (st::rest) (wq t u):=by
 intro pins s σ H D I h;refine wpAny_execs_cons (az (h1 pins s σ H {D with nx:=u D} I h) λf s1 q=>?_);cases f with
 |next=>
  obtain⟨aB,H',I',q⟩:=q;exact h2 pins s1 aB H' D I' q
 |ret v=>exact q
 |brk=>exact q
 |cont=>exact q
theorem aw(h1:PS X st t):eN X [st] t:=by
 intro pins s σ H D I h;refine wpAny_execs_cons (az (h1 pins s σ H D I h) λf s1 q=>?_);cases f with
 |next=>exact wpAny_execs_nil q
 |ret v=>exact q
 |brk=>exact q
 |cont=>exact q
def Zb6:TS:=λD σ H=>D.ct σ H
theorem Ur:PS X (.Continue pos) Zb6:=λ_ _ σ H _ I h=>wpAny_Continue ⟨σ,H,I,h⟩
theorem Inv.quiet{pins:aM}{σ:St}{H:Hp}{s:Shared}(I:Inv X pins σ H s):interactive X.env=false:=by simp[interactive,I.ok.kind]
def Zb7(te:TE):TS:=λD σ H=>te σ H λ_ H1=>D.nx σ H1
theorem cq(he:PE X e te)(hs:swapsWith e none pos.line X.env=pure false:=by rfl):PS X (.Expr e pos) (Zb7 te):=by
 intro pins s σ H D I h;exact wpAny_Expr_any (az (he pins s σ H _ I h) λv s1 ⟨x,H1,I1,r1,q1⟩=>⟨σ,H1,I1,q1⟩) I.quiet hs
def Zc0(te:TE):TS:=λD σ H=>te σ H D.rt
theorem aP(he:PE X e te):PS X (.Return (some e) pos) (Zc0 te):=by
 intro pins s σ H D I h;exact wpAny_Return_some (az (he pins s σ H _ I h) λv s1 ⟨x,H1,I1,r1,q1⟩=>⟨x,σ,H1,I1,r1,q1⟩)
def FG(c:TT)(t u:TS):TS:=λD σ H=>c σ H λb H1=>if b=true then t D σ H1 else u D σ H1
theorem aV{c:Expr}{a b:List Stmt}{tc:TT}(hc:PT X c tc)(ha:eN X a t)(hb:eN X b u):PS X (.If c a b pos) (FG tc t u):=by
 intro pins s σ H D I h;refine wpAny_If (az (hc pins s σ H _ I h) λd s1 zq=>?_);obtain⟨H1,I1,q1⟩:=zq;cases d with
 |true=>exact ha pins s1 σ H1 D I1 q1
 |false=>exact hb pins s1 σ H1 D I1 q1
def ZaH:TS:=λ_ _ _=>False
theorem fG{sts:List Stmt}:eN X sts ZaH:=λ_ _ _ _ _ _ h=>h.elim
end
abbrev TG:=V->St->Hp->(St->Hp->Prop)->Prop
abbrev lV:=List V->St->Hp->(St->Hp->Prop)->Prop
def PG(X:Cx)(target:Expr)(t:TG):Prop:=
 ∀(pins:aM) (s:Shared) (σ:St) (H:Hp) (v:V) (u:Value) (Q:St->Hp->Prop),Inv X pins σ H s->RelV v u->t v σ H Q->
  wpAny X.md X.A (assign target X.env u) (λ_ s'=>qO X pins Q s') X.xe s
def wU(X:Cx)(ts:List Expr)(t:lV):Prop:=
 ∀(pins:aM) (s:Shared) (σ:St) (H:Hp) (vs:List V) (us:List Value) (Q:St->Hp->Prop),Inv X pins σ H s->Vals vs us->t vs σ H Q->
  wpAny X.md X.A (assignInOrder ((assignEach ts X.env).map (·.2)) us) (λ_ s'=>qO X pins Q s') X.xe s
abbrev FH:=V->V->V->Hp->(Hp->Prop)->Prop
def qQ(X:Cx)(t:FH):Prop:=
 ∀(pins:aM) (s:Shared) (σ:St) (H:Hp) (o i v:V) (ov iv u:Value) (Q:Hp->Prop),Inv X pins σ H s->RelV o ov->RelV i iv->RelV v u->t o i v H Q->
  wpAny X.md X.A (setItem ov iv u) (λ_ s'=>∃H',Inv X pins σ H' s'/\Q H') X.xe s
abbrev As:=V->V->Hp->VK->Prop
def Px(X:Cx)(op:Operator)(t:As):Prop:=
 ∀(pins:aM) (s:Shared) (σ:St) (H:Hp) (x y:V) (v u:Value) (Q:VK),Inv X pins σ H s->RelV x v->RelV y u->t x y H Q->
  wpAny X.md X.A (inplaceOp op v u) (EP X pins σ Q) X.xe s
section
variable {X:Cx}{pos:Pos}
def ng(i:Nat):TG:=λv σ H Q=>Q (σ.set i (some v)) H
theorem oH{i:Nat}{x:Str}(hN:X.N.Nodup)(hi:X.N[i]?=some x)(hx:Loc X.env.scope x)(hf:X.fn x=true\/X.env.scope.names.lookup x=some .local:=by first|exact .inl rfl|exact .inr rfl|assumption):PG X (.Name x pos) (ng i):=by
 intro pins s σ H v u Q I r h;exact wpAny_assign_Name (vG I hN hi hx r (λs' I'=>⟨_,H,I',h⟩) hf)
def Zc1:lV:=λvs σ H Q=>vs=[]/\Q σ H
inductive Lv(t:TG)(u:lV)(vs:List V)(σ:St)(H:Hp)(Q:St->Hp->Prop):Prop
 |mk (v r) (aI:vs=v::r) (aX:t v σ H λaB H'=>u r aB H' Q):Lv t u vs σ H Q
def Zb8(t:TG)(u:lV):lV:=λvs σ H Q=>Lv t u vs σ H Q
theorem mU:wU X [] Zc1:=by
 rintro pins s σ H vs us Q I r ⟨e,h⟩;subst e;exact assignInOrder_nil ⟨σ,H,I,h⟩
theorem c8{e:Expr}{es:List Expr}{t:TG}{u:lV}(h1:PG X e t)(h2:wU X es u)
  (hs:(assignEach (e::es) X.env).map (·.2)=assign e X.env::(assignEach es X.env).map (·.2):=by rfl):wU X (e::es) (Zb8 t u):=by
 rintro pins s σ H vs us Q I r ⟨v,vr,e1,h⟩;subst e1;cases r with
 |cons r rr=>
  rw[hs];exact assignInOrder_cons (az (h1 pins s σ H _ _ _ I r h) λ_ s1 ⟨uq,H1,I1,q1⟩=>h2 pins s1 uq H1 _ _ Q I1 rr q1)
inductive MH(K:ag)(n:Nat)(t:lV)(v:V)(σ:St)(H:Hp)(Q:St->Hp->Prop):Prop
 |mk (a xs) (aI:v=.ref a) (aX:aE K H a xs) (bu:xs.length=n) (bW:t xs σ H Q):MH K n t v σ H Q
def OC(K:ag)(n:Nat)(t:lV):TG:=λv σ H Q=>MH K n t v σ H Q
theorem ZaI{es:List Expr}{k:Nat}{t:lV}{n:Nat}(hc:X.calm=true)(h:wU X es t)
  (hn:(assignEach es X.env).length=n:=by rfl)(dm:(assignEach es X.env).findIdx? (·.1)=none:=by rfl):PG X (.Tuple es k pos) (OC X.K n t):=by
 rintro pins s σ H v u Q I r ⟨a,xs,e1,hq,hl,hw⟩;subst e1;cases r;obtain⟨ah,rv,ht,hz⟩:=I.tuple hq;exact assign_Tuple_tuple (I.ok.hd hc) ht (by simp[hn,←hl,rv.length]) dm λh' hx=>h pins _ σ H xs _ Q (I.kept λb o e=>hx b o (Yy (Yo e)) e) (by simpa using rv) hw
def OD(to ti:TE)(t:FH):TG:=λv σ H Q=>to σ H λo H1=>ti σ H1 λi H2=>t o i v H2 λH3=>Q σ H3
theorem ZaJ{o i:Expr}{to ti:TE}{t:FH}(ho:PE X o to)(hi:PE X i ti)(hs:qQ X t)
  (ha:∀v,assign (.Subscript o i pos) X.env v=(do
   let ov←holding [v] (eval o X.env);let iv←holding [v,ov] (eval i X.env)
   standAt pos
   holding [v,ov,iv] (setItem ov iv v)
   release [v,ov,iv] []):=by intro _;rfl):PG X (.Subscript o i pos) (OD to ti t):=by
 intro pins s σ H v u Q I r h;exact wpAny_bind (wpAny_holding (az (ho pins s σ H _ I h) λov s1 ⟨x,H1,I1,r1,q1⟩=>wpAny_bind (wpAny_holding (az (hi pins s1 σ H1 _ I1 q1) λiv s2 ⟨y,H2,I2,r2,q2⟩=>wpAny_bind (wpAny_standAt (wpAny_bind (wpAny_holding (az (hs pins s2 σ H2 x y v ov iv u _ I2 r1 r2 r q2) λ_ s3 ⟨H3,I3,q3⟩=>wpAny_release ⟨σ,H3,I3,q3⟩))))))))
def qR(te:TE)(g:TG):TS:=λD σ H=>te σ H λx H1=>g x σ H1 D.nx
theorem oP{tg e:Expr}{te:TE}{g:TG}(he:PE X e te)(hg:PG X tg g)(hs:swapsWithSole [tg] e pos.line X.env=pure false:=by rfl)(hw:swappedStores [tg] e X.env=pure none:=by rfl)
  (h1:(assignEach [tg] X.env).map (·.2)=[assign tg X.env]:=by rfl):PS X (.Assign [tg] e pos) (qR te g):=by
 intro pins s σ H D I h;refine wpAny_Assign_stores (az (he pins s σ H _ I h) λv s1 zq=>?_) hs hw;obtain⟨x,H1,I1,r1,q1⟩:=zq;rw[h1];exact az (hg pins s1 σ H1 x v _ I1 r1 q1) λ_ s2 q=>q
theorem iQ{i:Nat}{x:Str}{e:Expr}{te:TE}{pos':Pos}(hN:X.N.Nodup)(hi:X.N[i]?=some x)(hx:Loc X.env.scope x)(he:PE X e te)(hs:swapsWith e (some (.Name x pos')) pos.line X.env=pure false:=by rfl)(hf:X.fn x=true\/X.env.scope.names.lookup x=some .local:=by first|exact .inl rfl|exact .inr rfl|assumption):
  PS X (.Assign [.Name x pos'] e pos) (qR te (ng i)):=by
 intro pins s σ H D I h;refine wpAny_Assign_Name (az (he pins s σ H _ I h) λv s1 zq=>?_) hs;obtain⟨y,H1,I1,r1,q1⟩:=zq;exact vG I1 hN hi hx r1 (λs2 I2=>⟨_,H1,I2,q1⟩) hf
def Zc2(i:Nat)(te:TE)(ti:As):TS:=λD σ H=>∃x,σ[i]?=some (some x)/\te σ H λy H1=>ti x y H1 λz H2=>D.nx (σ.set i (some z)) H2
theorem ZaK{i:Nat}{x:Str}{e:Expr}{te:TE}{op:Operator}{ti:As}{pos':Pos}(hN:X.N.Nodup)(hi:X.N[i]?=some x)(hx:Loc X.env.scope x)(he:PE X e te)(ho:Px X op ti)(hf:X.fn x=true\/X.env.scope.names.lookup x=some .local:=by first|exact .inl rfl|exact .inr rfl|assumption):
  PS X (.AugAssign (.Name x pos') op e pos) (Zc2 i te ti):=by
 rintro pins s σ H D I ⟨v,e1,h⟩;obtain⟨m,hn,hl⟩:=I.loc;have Gn:rb X.env.scope x:=by rcases hx with k|k;exact .inl k;exact .inr (.inl k)
 obtain⟨u,r,l⟩:=hl i x v hi e1 Gn;refine wpAny_AugAssign_Name ?_;have go:wpAny X.md X.A (eval e X.env) (λw dQ=>wpAny X.md X.A (inplaceOp op u w) (λr dB=>wpAny X.md X.A (storeName X.env x r) (λ_=>SP X pins D .next) X.xe dB) X.xe dQ) X.xe s:=az (he pins s σ H _ I h) λw s1 ⟨y,H1,I1,r1,q1⟩=>az (ho pins s1 σ H1 v y u w _ I1 r r1 q1) λz s2 ⟨zv,H2,I2,r2,q2⟩=>vG I2 hN hi hx r2 (λs3 I3=>⟨_,H2,I3,q2⟩) hf;rcases l with⟨hk,hm⟩|⟨hk,c,hc,zB⟩;·exact wpAny_loadName_local I.ok.kind hk hn hm go
 ·rcases hk with hk|hk;·exact wpAny_loadName_cell I.ok.kind hk hc zB go
  ·rcases hx with k|k
   ·have:X.env.scope.names.lookup x=some .free:=hk
    grind
   ·have:X.env.scope.names.lookup x=some .free:=hk
    grind
inductive NS(f:Int->Int->Int)(x:V)(y:V)(H:Hp)(Q:VK):Prop
 |mk (i j) (aI:x=.int i) (aX:y=.int j) (bu:Q (.int (f i j)) H):NS f x y H Q
def ipI(f:Int->Int->Int):As:=λx y H Q=>NS f x y H Q
theorem ZaL:Px X .Add (ipI λi j=>i+j):=by
 rintro pins s σ H x y v u Q I r1 r2 ⟨i,j,e1,e2,q⟩;subst e1;subst e2;obtain⟨t,rfl⟩:=r1;obtain⟨t',rfl⟩:=r2;exact iadd_int ⟨.int _,H,I.tok _,⟨_,rfl⟩,q⟩
end
section
variable {X:Cx}{pos:Pos}
def MI(c:TT)(tb:TS):TS:=λD σ H=>∃W:Nat->St->Hp->Prop,(∃m,W m σ H)/\∀m σ H,W m σ H->
 c σ H λb H1=>if b=true then ∃N:St->Hp->Prop,(∀aB H',N aB H'->∃m',m'<m/\W m' aB H')/\tb {D with nx:=N,ct:=N,bk:=D.nx} σ H1 else D.nx σ H1
theorem D2{c:Expr}{body:List Stmt}{tc:TT}{tb:TS}(hp:PassesOwn X.md X.A X.env X.xe)(hc:PT X c tc)(hb:eN X body tb):PS X (.While c body [] pos) (MI tc tb):=by
 intro pins s σ H D I h;obtain⟨W,⟨m0,w0⟩,turn⟩:=h;refine wpAny_While (codeAny_whileLoop (λn s'=>qO X pins (W n) s') ?_ m0 ⟨σ,H,I,w0⟩);rintro n s1 ⟨uq,H1,I1,w1⟩;refine wpAny_passesOwn hp (az (hc pins s1 uq H1 _ I1 (turn n uq H1 w1)) λb s2 zq=>?_);obtain⟨H2,I2,q2⟩:=zq;cases b with
 |true=>
  obtain⟨N,hN,q2⟩:=q2;rw[if_pos rfl];refine wpAny_passesOwn hp (az (hb pins s2 uq H2 _ I2 q2) λf s3 q3=>?_);cases f with
  |next=>
   obtain⟨cC,H3,I3,n3⟩:=q3;obtain⟨m',hm,w3⟩:=hN cC H3 n3;exact⟨m',hm,cC,H3,I3,w3⟩
  |cont=>
   obtain⟨cC,H3,I3,n3⟩:=q3;obtain⟨m',hm,w3⟩:=hN cC H3 n3;exact⟨m',hm,cC,H3,I3,w3⟩
  |brk=>exact q3
  |ret v=>exact q3
 |false=>
  rw[if_neg Yf];exact wpAny_execs_nil ⟨uq,H2,I2,q2⟩
end
structure It where
 go:Nat->Hp->Prop
 pI:Nat->Hp->V->Hp->Prop
 stop:Nat->Hp->Prop
def gY(X:Cx)(pins:aM)(H:Hp)(b:Addr):Prop:=
 H b=none/\b≠X.env.locals/\b∉X.fs/\(b∈X.ex\/X.cQ.heap.objs.size<=b)/\(∀x c,X.env.cells.lookup x=some c->c≠b)/\∀p∈X.pn++pins,p.1≠b
theorem Inv.o_{X:Cx}{pins:aM}{σ:St}{H H':Hp}{s:Shared}{b:Addr}(I:Inv X pins σ H s)(hb:s.heap.objs.size<=b)(hn:H' b=none):gY X pins H' b:=by
 refine⟨hn,Jd (Y2 I.lt hb),I.ZcU hb,.inr (Yz I.sz hb),λx c e z=>?_,λp hp z=>?_⟩
 ·obtain⟨v,q⟩:=I.cell x c e;exact absurd (Y2 q.lt (by rw[z];exact hb)) (Wc _)
 ·exact absurd (Y2 (Yo (I.pin p hp).1) (by rw[z];exact hb)) (Wc _)
structure Turn(P:Program)(w:World)(K:ag)(tg:Expr)(J:It)(fp:List Addr)(it:Addr)(tn:Nat->Heap->Prop):Prop where
 mem:it∈fp
 obj:∀i h,tn i h->∀b∈fp,∃o,h.get? b=some o/\∀v,o.data≠.cell v
 keep:∀i h h',tn i h->(∀b∈fp,∀o,h.get? b=some o->h'.get? b=some o)->tn i h'
 item:∀(X:Cx),X.prog=P->X.w=w->X.K=K->X.calm=true->∀(i:Nat) (pins:aM) (s:Shared) (σ:St) (H:Hp) (E:aU),Inv X pins σ H s->(∀b∈fp,gY X pins H b)->tn i s.heap->J.go i H->
  wpAny (model P w) X.A (pyNext (.ref it)) (λr s1=>∃u,r=some u/\
   wpAny (model P w) X.A (letOwnedTupleGo tg (.ref it) u) (λ_ s2=>∃x H',Inv X pins σ H' s2/\RelV x u/\J.pI i H x H'/\tn (i+1) s2.heap/\∀b∈fp,H' b=none) E s1) E s
 done:∀(X:Cx),X.prog=P->X.w=w->X.K=K->X.calm=true->∀(i:Nat) (pins:aM) (s:Shared) (σ:St) (H:Hp) (E:aU),Inv X pins σ H s->(∀b∈fp,gY X pins H b)->tn i s.heap->J.stop i H->
  wpAny (model P w) X.A (pyNext (.ref it)) (λr s1=>r=none/\Inv X pins σ H s1) E s
 self:∀(A:Around) (i:Nat) (s:Shared) (Q:aU) (E:aU),tn i s.heap->Q (.ref it) s->wpAny (model P w) A (pyIter (.ref it)) Q E s
abbrev TI:=St->Hp->(It->Hp->Prop)->Prop
def Py(X:Cx)(pins:aM)(σ:St)(tg:Expr)(R:It->Hp->Prop)(rg:Value)(s2:Shared):Prop:=
 ∃(it:Addr) (fp:List Addr) (tn:Nat->Heap->Prop) (J:It) (H':Hp),rg=.ref it/\Inv X pins σ H' s2/\Turn X.prog X.w X.K tg J fp it tn/\tn 0 s2.heap/\(∀b∈fp,gY X pins H' b)/\R J H'
def PI(X:Cx)(tg iter:Expr)(wi:TI):Prop:=
 ∀(pins:aM) (s:Shared) (σ:St) (H:Hp) (R:It->Hp->Prop),Inv X pins σ H s->wi σ H R->
  wpAny X.md X.A (eval iter X.env) (λv s1=>wpAny X.md X.A (pyIter v) (Py X pins σ tg R) X.xe s1) X.xe s
theorem qC{M:Model}{A:Around}{E:aU}{s:Shared}{tg:Expr}{it:Addr}{u:Value}{o:Obj}{n:String}{vs:Array Value}{Q:Unit->Shared->Prop}(ho:s.heap.get? it=some o)(hc:o.cls=.type n)(hd:o.data=.fields vs)
    (hn:["enumerate","zip","dict_itemiterator","dict_reverseitemiterator","odict_iterator","itertools.zip_longest","itertools.pairwise"].contains n=false)(hQ:Q () s):wpAny M A (letOwnedTupleGo tg (.ref it) u) Q E s:=by
  unfold letOwnedTupleGo;cases tg <;> first
    | exact wpAny_pure hQ
    | (cases u <;> first
        | exact wpAny_pure hQ
        | (refine wpAny_bind (wpAny_load ho ?_)
           rw [hc,hd];show wpAny M A (if (["enumerate","zip","dict_itemiterator","dict_reverseitemiterator","odict_iterator","itertools.zip_longest","itertools.pairwise"].contains n&&vs[0]? == some (rawInt _))=true then _ else _) Q E s;rw [if_neg (by intro h; rw [hn,Bool.false_and] at h; cases h)];exact wpAny_pure hQ))
def iX(K:ag)(a:Addr):It:=
 ⟨λi H=>∃xs x,aj K H a xs/\xs[i]?=some x,λi H x H'=>H'=H/\∀xs,aj K H a xs->xs[i]?=some x,λi H=>∃xs,aj K H a xs/\xs.length<=i⟩
def uu(K:ag)(a:Addr):It:=
 ⟨λi H=>∃xs x,aE K H a xs/\xs[i]?=some x,λi H x H'=>H'=H/\∀xs,aE K H a xs->xs[i]?=some x,λi H=>∃xs,aE K H a xs/\xs.length<=i⟩
def rh(lo:Int)(n:Nat):It:=⟨λi _=>i<n,λi H x H'=>H'=H/\x=.int (lo+i),λi _=>n<=i⟩
theorem JK{P:Program}{w:World}{K:ag}{tg:Expr}(a it:Addr):Turn P w K tg (iX K a) [it] it (λi h=>h.IsListIter it a i) where
 mem:=by simp
 obj:=λi h st b hb=>by
  have e:b=it:=by simpa using hb
  obtain⟨o,e,c,d⟩:=st
  grind
 keep:=λi h h' st k=>st.at λo e=>k it (by simp) o e
 item:=by
  intro X hP hw hK hc i pins s σ H E I hf st hg;subst hP hw hK;obtain⟨xs,x,hq,hx⟩:=hg;obtain⟨ah,rv,p,hz⟩:=I.list hq;obtain⟨u,hu,ru⟩:=rv.get hx;obtain⟨f0,f1,f2,f3,f4,f5⟩:=hf it (by simp);refine wpAny_pyNext_list_item st p.isList (by simpa using hu) λh' aR sb=>?_;obtain⟨o,e,c,d⟩:=id aR;exact⟨u,rfl,qC e c d (by decide) ⟨x,H,(I.turned (λb o hb e=>(sb.2 b hb).trans e) f0 f1 f3 f4 f5),ru,⟨rfl,λys hy=>by rw[I.Xi hy hq];exact hx⟩,aR,λb hb=>(hf b hb).1⟩⟩
 done:=by
  intro X hP hw hK hc i pins s σ H E I hf st hg;subst hP hw hK;obtain⟨xs,hq,hx⟩:=hg;obtain⟨ah,rv,p,hz⟩:=I.list hq;obtain⟨f0,f1,f2,f3,f4,f5⟩:=hf it (by simp);have hl:=rv.length;exact wpAny_pyNext_list_end (I.ok.hd hc) st p.isList (by simp;omega) λh' eb=>⟨rfl,I.turned (λb o hb e=>eb b o hb e) f0 f1 f3 f4 f5⟩
 self:=λ_ _ _ _ _ st h=>wpAny_pyIter_listiter st h
theorem IF{P:Program}{w:World}{K:ag}{tg:Expr}(a it:Addr):Turn P w K tg (uu K a) [it] it (λi h=>h.IsTupleIter it a i) where
 mem:=by simp
 obj:=λi h st b hb=>by
  have e:b=it:=by simpa using hb
  obtain⟨o,e,c,d⟩:=st
  grind
 keep:=λi h h' st k=>st.at λo e=>k it (by simp) o e
 item:=by
  intro X hP hw hK hc i pins s σ H E I hf st hg;subst hP hw hK;obtain⟨xs,x,hq,hx⟩:=hg;obtain⟨ah,rv,p,hz⟩:=I.tuple hq;obtain⟨u,hu,ru⟩:=rv.get hx;obtain⟨f0,f1,f2,f3,f4,f5⟩:=hf it (by simp);refine wpAny_pyNext_tuple_item st (show s.heap.IsTuple a ah.toArray from p) (by simpa using hu) λh' aR sb=>?_;obtain⟨o,e,c,d⟩:=id aR;exact⟨u,rfl,qC e c d (by decide) ⟨x,H,(I.turned (λb o hb e=>(sb.2 b hb).trans e) f0 f1 f3 f4 f5),ru,⟨rfl,λys hy=>by rw[I.VR hy hq];exact hx⟩,aR,λb hb=>(hf b hb).1⟩⟩
 done:=by
  intro X hP hw hK hc i pins s σ H E I hf st hg;subst hP hw hK;obtain⟨xs,hq,hx⟩:=hg;obtain⟨ah,rv,p,hz⟩:=I.tuple hq;obtain⟨f0,f1,f2,f3,f4,f5⟩:=hf it (by simp);have hl:=rv.length;exact wpAny_pyNext_tuple_end (I.ok.hd hc) st (show s.heap.IsTuple a ah.toArray from p) (by simp;omega) λh' eb=>⟨rfl,I.turned (λb o hb e=>eb b o hb e) f0 f1 f3 f4 f5⟩
 self:=λ_ _ _ _ _ st h=>wpAny_pyIter_tupleiter st h
theorem U2{P:Program}{w:World}{K:ag}{tg:Expr}(it:Addr)(lo:Int)(n:Nat):Turn P w K tg (rh lo n) [it] it (λi h=>IsRangeIter h it (lo+(i:Nat)*1) ((n:Int)-(i:Nat)) 1) where
 mem:=by simp
 obj:=λi h st b hb=>by
  grind
 keep:=λi h h' st k=>k it (by simp) _ st
 item:=by
  intro X hP hw hK hc i pins s σ H E I hf st hg;subst hP hw hK;obtain⟨f0,f1,f2,f3,f4,f5⟩:=hf it (by simp);refine(Walks.range (I.ok.hd hc) it lo 1 n).item i s _ _ hg st λv h' tk hv aR kk=>?_;obtain⟨t,rfl⟩:=hv;refine⟨_,rfl,qC aR rfl rfl (by decide) ⟨.int (lo+i),H,(I.turned (λb o hb e=>kk b o (by simpa using hb) e) f0 f1 f3 f4 f5),⟨t,?_⟩,⟨rfl,rfl⟩,aR,λb hb=>(hf b hb).1⟩⟩;rw[Int.mul_one]
 done:=by
  intro X hP hw hK hc i pins s σ H E I hf st hg;subst hP hw hK;obtain⟨f0,f1,f2,f3,f4,f5⟩:=hf it (by simp);exact wpAny_pyNext_range_end (I.ok.hd hc) st (by have:n<=i:=hg;omega) λh' eb=>⟨rfl,I.turned (λb o hb e=>eb b o hb e) f0 f1 f3 f4 f5⟩
 self:=λ_ _ _ _ _ st h=>wpAny_pyIter_rangeiter st h
section
variable {X:Cx}{tg:Expr}
inductive Lw(K:ag)(R:It->Hp->Prop)(x:V)(H1:Hp):Prop
 |mk (a) (aI:x=.ref a) (aX:(∃xs,aj K H1 a xs)) (bu:R (iX K a) H1):Lw K R x H1
def NT(K:ag)(tl:TE):TI:=λσ H R=>tl σ H λx H1=>Lw K R x H1
inductive MJ(K:ag)(R:It->Hp->Prop)(x:V)(H1:Hp):Prop
 |mk (a) (aI:x=.ref a) (aX:(∃xs,aE K H1 a xs)) (bu:R (uu K a) H1):MJ K R x H1
def Zc3(K:ag)(tl:TE):TI:=λσ H R=>tl σ H λx H1=>MJ K R x H1
theorem Lx{l:Expr}{tl:TE}(hl:PE X l tl):PI X tg l (NT X.K tl):=by
 intro pins s σ H R I h;refine az (hl pins s σ H _ I h) λv s1 zq=>?_;obtain⟨x,H1,I1,r1,q1⟩:=zq;obtain⟨a,e,⟨xs,hq⟩,q⟩:=q1;subst e;cases r1;obtain⟨ah,rv,p,hz⟩:=I1.list hq;refine wpAny_pyIter_list p.isList ⟨s1.heap.objs.size,[s1.heap.objs.size],_,_,H1,rfl,I1.kept λb o e=>Yc _ e,JK a _,⟨_,Yn _ rfl,rfl,rfl⟩,λb hb=>?_,q⟩;have e:b=s1.heap.objs.size:=by simpa using hb
 subst e;exact I1.o_ (Ye _) (I1.ay.fresh (Ye _))
theorem MK{l:Expr}{tl:TE}(hl:PE X l tl):PI X tg l (Zc3 X.K tl):=by
 intro pins s σ H R I h;refine az (hl pins s σ H _ I h) λv s1 zq=>?_;obtain⟨x,H1,I1,r1,q1⟩:=zq;obtain⟨a,e,⟨xs,hq⟩,q⟩:=q1;subst e;cases r1;obtain⟨ah,rv,p,hz⟩:=I1.tuple hq;refine wpAny_pyIter_tuple (show s1.heap.IsTuple a ah.toArray from p) ⟨s1.heap.objs.size,[s1.heap.objs.size],_,_,H1,rfl,I1.kept λb o e=>Yc _ e,IF a _,⟨_,Yn _ rfl,rfl,rfl⟩,λb hb=>?_,q⟩;have e:b=s1.heap.objs.size:=by simpa using hb
 subst e;exact I1.o_ (Ye _) (I1.ay.fresh (Ye _))
theorem Xj{pins:aM}{σ:St}{H:Hp}{s:Shared}{R:It->Hp->Prop}{E:aU}{lo hi:Int}{t u v:Tok}{tk:Nat}(I:Inv X pins σ H s)(h1:-(2^62)<=lo)(h2:lo<2^62)(h3:-(2^62)<=hi)(h4:hi<2^62)
  (q:R (rh lo (hi-lo).toNat) H):wpAny X.md X.A (pyIter (.ref s.heap.objs.size)) (Py X pins σ tg R) E {s with heap:=s.heap.push {cls:=.type "range",data:=.fields #[.int lo t,.int hi u,.int 1 v]},toks:=tk}:=by
 refine wpAny_pyIter_range (IsRange.new ..) (small_one h1 h2 h3 h4) ?_;have I1:Inv X pins σ H {s with heap:=s.heap.push {cls:=.type "range",data:=.fields #[.int lo t,.int hi u,.int 1 v]},toks:=tk}:=I.kept λb o e=>Yc _ e;refine⟨(s.heap.push {cls:=.type "range",data:=.fields #[.int lo t,.int hi u,.int 1 v]}).objs.size,[(s.heap.push {cls:=.type "range",data:=.fields #[.int lo t,.int hi u,.int 1 v]}).objs.size],_,_,H,rfl,
  I1.kept (t':=tk) λb o e=>Yc _ e,U2 _ lo (hi-lo).toNat,?_,λb hb=>?_,q⟩
 ·have e1:lo+((0:Nat):Int)*1=lo:=by simp
  have e2:(((hi-lo).toNat:Nat):Int)-((0:Nat):Int)=Builtin.Range.rangeSize lo hi 1:=by rw[rangeSize_one];split<;>omega
  show IsRangeIter _ _ (lo+((0:Nat):Int)*1) ((((hi-lo).toNat:Nat):Int)-((0:Nat):Int)) 1;rw[e1,e2];exact Yn _ rfl
 ·have e:b=(s.heap.push {cls:=.type "range",data:=.fields #[.int lo t,.int hi u,.int 1 v]}).objs.size:=by simpa using hb
  subst e;exact I1.o_ (Ye _) (I1.ay.fresh (Ye _))
inductive Ly(R:It->Hp->Prop)(vs:List V)(H1:Hp):Prop
 |mk (j:Int) (aI:vs=[.int j]) (aX:-(2^62)<=j) (bu:j<2^62) (bW:R (rh 0 j.toNat) H1):Ly R vs H1
def Zb9(ta:TA):TI:=λσ H R=>ta σ H λvs H1=>Ly R vs H1
theorem qa{a:Expr}{ta:TA}{p pos:Pos}(hg:Gl X "range")(hm:X.mg "range"=none)(ha:PA X [a] ta)(hs:starEach [a] X.env=[(false,eval a X.env)]:=by rfl):PI X tg (.Call (.Name "range" p) [a] [] pos) (Zb9 ta):=by
 intro pins s σ H R I h;refine Call_ (vT I hg hm boot_range (PyProof.Rows.callWith_type1 (az (ha pos pins s σ H _ I h) λus s1 zq=>?_) hs rfl));obtain⟨vs,H1,I1,r1,q1⟩:=zq;obtain⟨j,e,q1,q2,q⟩:=q1;subst e;cases r1 with
 |cons r rr=>
  cases rr;obtain⟨t,rfl⟩:=r;exact call_range_1 (Xj I1 (by omega) (by omega) q1 q2 (by simpa using q))
def FI(wi:TI)(g:TG)(tb:TS):TS:=λD σ H=>wi σ H λJ H1=>∃W:Nat->Nat->St->Hp->Prop,(∃m,W 0 m σ H1)/\∀i m σ H,W i m σ H->
 (J.stop i H/\D.nx σ H)\/(J.go i H/\∃N:St->Hp->Prop,(∀aB H',N aB H'->∃m',m'<m/\W (i+1) m' aB H')/\∀x H',J.pI i H x H'->g x σ H' λdh H2=>tb {D with nx:=N,ct:=N,bk:=D.nx} dh H2)
def oQ(fp:List Addr)(h:Heap):List (Addr×Obj):=fp.filterMap λb=>(h.get? b).map λo=>(b,o)
theorem ot{fp:List Addr}{h:Heap}{b:Addr}{o:Obj}(hb:b∈fp)(e:h.get? b=some o):(b,o)∈oQ fp h:=Ji.mpr ⟨b,hb,by rw[e];rfl⟩
theorem VS{fp:List Addr}{h:Heap}{p:Addr×Obj}(hp:p∈oQ fp h):p.1∈fp/\h.get? p.1=some p.2:=by
 obtain⟨b,hb,e⟩:=Ji.mp hp;cases q:h.get? b with
 |none=>grind
 |some o=>grind
theorem Inv.pinned{pins:aM}{σ:St}{H:Hp}{s:Shared}{fp:List Addr}(I:Inv X pins σ H s)(hf:∀b∈fp,gY X pins H b)(ho:∀b∈fp,∃o,s.heap.get? b=some o/\∀v,o.data≠.cell v):Inv X (pins++oQ fp s.heap) σ H s:=
 I.Lu λp hp=>(Yx.mp hp).elim (λz=>I.pin p (Yj _ z)) λz=>by
  obtain⟨hb,e⟩:=VS z;obtain⟨f0,f1,f2,_⟩:=hf p.1 hb
  grind
theorem Inv.tF{pins pl:aM}{σ:St}{H:Hp}{s:Shared}(I:Inv X (pins++pl) σ H s):Inv X pins σ H s:=I.Lu λp hp=>I.pin p (Yj _ (Ym _ hp))
theorem jd{iter:Expr}{body:List Stmt}{wi:TI}{g:TG}{tb:TS}{pos:Pos}(hp:PassesOwn X.md X.A X.env X.xe)(hc:X.calm=true)(hi:PI X tg iter wi)(hg:PG X tg g)(hb:eN X body tb)
  (hs:∀x,foldedSetIterable iter X.env x=pure x:=by intro _;rfl):PS X (.For tg iter body [] pos) (FI wi g tb):=by
 intro pins s σ H D I h;refine wpAny_For (az (hi pins s σ H _ I h) λv s1 h1=>az h1 λrg s2 h2=>?_) hs;obtain⟨it,fp,tn,J,H2,e,I2,T,eg,f2,W,⟨m0,w0⟩,turn⟩:=h2;subst e;have kG:∀{H':Hp},(∀b∈fp,H' b=none)->∀b∈fp,gY X pins H' b:=λhn b hb=>⟨hn b hb,(f2 b hb).2⟩;refine codeAny_forLoop_any (λn s'=>∃i aB H',Inv X pins aB H' s'/\tn i s'.heap/\(∀b∈fp,H' b=none)/\W i n aB H') ?_ m0 ⟨0,σ,H2,I2,eg,λb hb=>(f2 b hb).1,w0⟩;rintro n s3 ⟨i,cC,H3,I3,Pz,uv,w3⟩;rcases turn i n cC H3 w3 with⟨stop,qn⟩|⟨go,N,hN,step⟩
 ·refine wpAny_passesOwn hp (az (T.done X rfl rfl rfl hc i pins s3 cC H3 X.xe I3 (kG uv) Pz stop) λr s4 zq=>?_);obtain⟨hr,I4⟩:=zq;subst hr;exact wpAny_execs_nil ⟨cC,H3,I4,qn⟩
 ·refine wpAny_passesOwn hp (az (T.item X rfl rfl rfl hc i pins s3 cC H3 X.xe I3 (kG uv) Pz go) λr s4 zq=>?_);obtain⟨u,hr,h4⟩:=zq;subst hr;refine wpAny_passesOwn hp (az h4 λ_ s5 ⟨x,H5,I5,r5,y5,nL,rm⟩=>wpAny_passesOwn hp (az (hg _ s5 cC H5 x u _ (I5.pinned (kG rm) (T.obj _ _ nL)) r5 (step x H5 y5)) λ_ s6 ⟨Au,H6,I6,q6⟩=>wpAny_passesOwn hp (az (hb _ s6 Au H6 _ I6 q6) λf s7 q7=>?_)));have again:∀{kQ:St} {H7:Hp},Inv X (pins++oQ fp s5.heap) kQ H7 s7->N kQ H7->∃m,m<n/\∃i aB H',Inv X pins aB H' s7/\tn i s7.heap/\(∀b∈fp,H' b=none)/\W i m aB H':=λ{kQ H7} I7 n7=>by
   obtain⟨m',hm,w7⟩:=hN kQ H7 n7;refine⟨m',hm,i+1,kQ,H7,I7.tF,T.keep _ _ _ nL λb hb o e=>(I7.pin (b,o) (Yj _ (Yj _ (ot hb e)))).1,λb hb=>?_,w7⟩;obtain⟨o,e,d⟩:=T.obj _ _ nL b hb;exact(I7.pin (b,o) (Yj _ (Yj _ (ot hb e)))).2.1
  cases f with
  |next=>obtain⟨kQ,H7,I7,n7⟩:=q7;exact again I7 n7
  |cont=>obtain⟨kQ,H7,I7,n7⟩:=q7;exact again I7 n7
  |brk=>obtain⟨kQ,H7,I7,q7⟩:=q7;exact⟨kQ,H7,I7.tF,q7⟩
  |ret v=>obtain⟨x7,kQ,H7,I7,r7,q7⟩:=q7;exact⟨x7,kQ,H7,I7.tF,r7,q7⟩
end
theorem qe{K:ag}{a:Addr}{xs:List V}{g:TG}{tb:TS}{D:Ends}{σ:St}{H:Hp}(Pv:Nat->St->Hp->Prop)(h0:Pv 0 σ H)(hl:∀i σ H,i<=xs.length->Pv i σ H->aj K H a xs)
  (hs:∀i x σ H,xs[i]?=some x->Pv i σ H->g x σ H λdh H2=>tb {D with nx:=Pv (i+1),ct:=Pv (i+1),bk:=D.nx} dh H2)(hd:∀σ H,Pv xs.length σ H->D.nx σ H):
  ∃W:Nat->Nat->St->Hp->Prop,(∃m,W 0 m σ H)/\∀i m σ H,W i m σ H->
   ((iX K a).stop i H/\D.nx σ H)\/((iX K a).go i H/\∃N:St->Hp->Prop,(∀aB H',N aB H'->∃m',m'<m/\W (i+1) m' aB H')/\∀x H',(iX K a).pI i H x H'->g x σ H' λdh H2=>tb {D with nx:=N,ct:=N,bk:=D.nx} dh H2):=by
 refine⟨λi m σ H=>m=xs.length-i/\i<=xs.length/\Pv i σ H,⟨xs.length,by simp,Yw _,h0⟩,?_⟩;rintro i m σ H ⟨rfl,hi,p⟩;have q:=hl i σ H hi p;by_cases bq:i<xs.length
 ·refine .inr ⟨⟨xs,xs[i],q,by simp[bq]⟩,Pv (i+1),λaB H' p'=>⟨xs.length-(i+1),by omega,rfl,bq,p'⟩,λx H' y=>?_⟩;obtain⟨e,y⟩:=y;subst e;exact hs i x σ _ (y xs q) p
 ·have e:i=xs.length:=by omega
  subst e;exact .inl ⟨⟨xs,q,Ye _⟩,hd σ H p⟩
theorem yB{lo:Int}{n:Nat}{g:TG}{tb:TS}{D:Ends}{σ:St}{H:Hp}(Pv:Nat->St->Hp->Prop)(h0:Pv 0 σ H)
  (hs:∀i σ H,i<n->Pv i σ H->g (.int (lo+i)) σ H λdh H2=>tb {D with nx:=Pv (i+1),ct:=Pv (i+1),bk:=D.nx} dh H2)(hd:∀σ H,Pv n σ H->D.nx σ H):
  ∃W:Nat->Nat->St->Hp->Prop,(∃m,W 0 m σ H)/\∀i m σ H,W i m σ H->
   ((rh lo n).stop i H/\D.nx σ H)\/((rh lo n).go i H/\∃N:St->Hp->Prop,(∀aB H',N aB H'->∃m',m'<m/\W (i+1) m' aB H')/\∀x H',(rh lo n).pI i H x H'->g x σ H' λdh H2=>tb {D with nx:=N,ct:=N,bk:=D.nx} dh H2):=by
 refine⟨λi m σ H=>m=n-i/\i<=n/\Pv i σ H,⟨n,by simp,Yw _,h0⟩,?_⟩;rintro i m σ H ⟨rfl,hi,p⟩;by_cases bq:i<n
 ·refine .inr ⟨bq,Pv (i+1),λaB H' p'=>⟨n-(i+1),by omega,rfl,bq,p'⟩,λx H' y=>?_⟩;obtain⟨e,y⟩:=y
  grind
 ·have e:i=n:=by omega
  subst e;exact .inl ⟨Ye _,hd σ H p⟩
theorem D3{c:TT}{tb:TS}{D:Ends}{σ:St}{H:Hp}(Pv:St->Hp->Prop)(μ:St->Hp->Nat)(h0:Pv σ H)
  (hs:∀σ H,Pv σ H->c σ H λb H1=>if b=true then tb {D with nx:=λaB H'=>Pv aB H'/\μ aB H'<μ σ H,ct:=λaB H'=>Pv aB H'/\μ aB H'<μ σ H,bk:=D.nx} σ H1 else D.nx σ H1)
  (mono:∀σ H Q Q',(∀b H1,Q b H1->Q' b H1)->c σ H Q->c σ H Q'):MI c tb D σ H:=by
 refine⟨λm σ H=>m=μ σ H/\Pv σ H,⟨_,rfl,h0⟩,?_⟩;rintro m σ H ⟨rfl,p⟩;refine mono σ H _ _ (λb H1 q=>?_) (hs σ H p);cases b with
 |true=>exact⟨_,λaB H' ⟨p',l⟩=>⟨_,l,rfl,p'⟩,q⟩
 |false=>exact q
abbrev R2:=V->V->Hp->VK->Prop
def cD(X:Cx)(f:Value->Value->Sem Value)(r:R2):Prop:=
 ∀(pins:aM) (s:Shared) (σ:St) (H:Hp) (x y:V) (v u:Value) (Q:VK),Inv X pins σ H s->RelV x v->RelV y u->r x y H Q->
  wpAny X.md X.A (f v u) (EP X pins σ Q) X.xe s
def Gp(X:Cx)(f:Value->Sem Value)(r:V->Hp->VK->Prop):Prop:=
 ∀(pins:aM) (s:Shared) (σ:St) (H:Hp) (x:V) (v:Value) (Q:VK),Inv X pins σ H s->RelV x v->r x H Q->
  wpAny X.md X.A (f v) (EP X pins σ Q) X.xe s
def cU(X:Cx)(f:Value)(r:List V->Hp->VK->Prop):Prop:=
 ∀(pins:aM) (s:Shared) (σ:St) (H:Hp) (xs:List V) (us:List Value) (Q:VK),Inv X pins σ H s->Vals xs us->r xs H Q->
  wpAny X.md X.A (call f us) (EP X pins σ Q) X.xe s
def Zc4(X:Cx)(r:V->Hp->(Bool->Hp->Prop)->Prop):Prop:=
 ∀(pins:aM) (s:Shared) (σ:St) (H:Hp) (x:V) (v:Value) (Q:Bool->Hp->Prop),Inv X pins σ H s->RelV x v->r x H Q->
  wpAny X.md X.A (truthy v) (TP X pins σ Q) X.xe s
def lW(r:R2)(ta tb:TE):TE:=λσ H Q=>ta σ H λx H1=>tb σ H1 λy H2=>r x y H2 Q
def tUn(r:V->Hp->VK->Prop)(ta:TE):TE:=λσ H Q=>ta σ H λx H1=>r x H1 Q
inductive OE(C:Int->Int->Prop)(g:Int->Int->V)(x:V)(y:V)(H:Hp)(Q:VK):Prop
 |mk (i j) (aI:x=.int i) (aX:y=.int j) (bu:C i j) (bW:Q (g i j) H):OE C g x y H Q
def rI(C:Int->Int->Prop)(g:Int->Int->V):R2:=λx y H Q=>OE C g x y H Q
inductive NU(g:Int->Int->V)(x:V)(y:V)(H:Hp)(Q:VK):Prop
 |mk (i j) (aI:x=.int i) (aX:y=.int j) (bu:Q (g i j) H):NU g x y H Q
def uw(g:Int->Int->V):R2:=λx y H Q=>NU g x y H Q
inductive OF(g:Int->V)(x:V)(H:Hp)(Q:VK):Prop
 |mk (i) (aI:x=.int i) (aX:Q (g i) H):OF g x H Q
def rU(g:Int->V):V->Hp->VK->Prop:=λx H Q=>OF g x H Q
section
variable {X:Cx}{a b c:Expr}{ta tb tc:TE}{pos:Pos}
theorem FJ(ha:PE X a ta)(hb:PE X b tb){pins:aM}{s:Shared}{σ:St}{H:Hp}{R:V->V->Hp->Prop}(I:Inv X pins σ H s)
  (h:ta σ H λx H1=>tb σ H1 λy H2=>R x y H2){Q:aU}{f:Value->Value->Sem Value}
  (hf:∀v u s2 x y H2,Inv X pins σ H2 s2->RelV x v->RelV y u->R x y H2->wpAny X.md X.A (f v u) Q X.xe s2):
  wpAny X.md X.A (eval a X.env) (λv bo=>wpAny X.md X.A (eval b X.env) (λu dQ=>wpAny X.md X.A (f v u) Q X.xe dQ) X.xe bo) X.xe s:=by
 refine az (ha pins s σ H _ I h) λv s1 zq=>?_;obtain⟨x,H1,I1,r1,q1⟩:=zq;refine az (hb pins s1 σ H1 _ I1 q1) λu s2 zq=>?_;obtain⟨y,H2,I2,r2,q2⟩:=zq
 grind
theorem bj{op:Operator}{r:R2}(ho:cD X (binaryOp op) r)(ha:PE X a ta)(hb:PE X b tb):PE X (.BinOp a op b pos) (lW r ta tb):=by
 intro pins s σ H Q I h;exact wpAny_BinOp (FJ ha hb I h λv u s2 x y H2 I2 rx ry q=>ho pins s2 σ H2 x y v u Q I2 rx ry q)
theorem zC{op:UnaryOp}{r:V->Hp->VK->Prop}(ho:Gp X (unaryOp op) r)(ha:PE X a ta):PE X (.UnaryOp op a pos) (tUn r ta):=by
 intro pins s σ H Q I h;exact UnaryOp_ (az (ha pins s σ H _ I h) λv s1 ⟨x,H1,I1,r1,q1⟩=>ho pins s1 σ H1 x v Q I1 r1 q1)
theorem Av{f:Value->Value->Sem Value}{C:Int->Int->Prop}{g:Int->Int->Int}
  (rule:∀(i j:Int) (t u:Tok) (s:Shared) (Q:aU) (E:aU),C i j->Q (.int (g i j) s.toks) {s with toks:=s.toks+1}->wpAny X.md X.A (f (.int i t) (.int j u)) Q E s):
  cD X f (rI C λi j=>.int (g i j)):=by
 rintro pins s σ H x y v u Q I rx ry ⟨i,j,rfl,rfl,hc,q⟩;obtain⟨t,rfl⟩:=rx;obtain⟨t',rfl⟩:=ry;exact rule i j t t' s _ _ hc ⟨.int (g i j),H,I.tok _,⟨_,rfl⟩,q⟩
theorem OG{f:Value->Value->Sem Value}{g:Int->Int->Int}
  (rule:∀(i j:Int) (t u:Tok) (s:Shared) (Q:aU) (E:aU),Q (.int (g i j) s.toks) {s with toks:=s.toks+1}->wpAny X.md X.A (f (.int i t) (.int j u)) Q E s):
  cD X f (uw λi j=>.int (g i j)):=by
 rintro pins s σ H x y v u Q I rx ry ⟨i,j,rfl,rfl,q⟩;obtain⟨t,rfl⟩:=rx;obtain⟨t',rfl⟩:=ry;exact rule i j t t' s _ _ ⟨.int (g i j),H,I.tok _,⟨_,rfl⟩,q⟩
theorem OH{f:Value->Value->Sem Value}{g:Int->Int->Bool}
  (rule:∀(i j:Int) (t u:Tok) (s:Shared) (Q:aU) (E:aU),Q (.bool (g i j)) s->wpAny X.md X.A (f (.int i t) (.int j u)) Q E s):
  cD X f (uw λi j=>.bl (g i j)):=by
 rintro pins s σ H x y v u Q I rx ry ⟨i,j,rfl,rfl,q⟩;obtain⟨t,rfl⟩:=rx;obtain⟨t',rfl⟩:=ry;exact rule i j t t' s _ _ ⟨.bl (g i j),H,I,rfl,q⟩
def FK(i j:Int):Prop:=0<j/\j<1073741824
def Zc5(i j:Int):Prop:=0<=j/\j<=1000000/\i.natAbs<2^64
def wu(i j:Int):Prop:=(-(2^64)<i/\i<2^64)\/(-(2^64)<j/\j<2^64)
theorem wu.ok{i j:Int}(h:wu i j):IntMulOk i j:=by
 rcases h with⟨h1,h2⟩|⟨h1,h2⟩;·exact .of_left (intBits_le_64 h1 h2)
 ·exact .of_right (intBits_le_64 h1 h2)
theorem ig:cD X (binaryOp .Add) (uw λi j=>.int (i+j)):=OG λ_ _ _ _ _ _ _ q=>add_int q
theorem ML:cD X (binaryOp .Sub) (uw λi j=>.int (i-j)):=OG λ_ _ _ _ _ _ _ q=>sub_int q
theorem m7:cD X (binaryOp .Mult) (rI wu λi j=>.int (i*j)):=Av λ_ _ _ _ _ _ _ hc q=>mul_int q hc.ok
theorem Eo:cD X (binaryOp .FloorDiv) (rI FK λi j=>.int (i/j)):=Av λi j _ _ _ _ _ hc q=>by
 have h1:(0:Int)<j:=hc.1;have h2:j<1073741824:=hc.2;exact floordiv_int (by omega) (by rw[Int.fdiv_eq_ediv_of_nonneg i (by omega)];exact q) (.inl (PyProof.noPylong_small (by omega)))
theorem fJ:cD X (binaryOp .Mod) (rI (λ_ j=>0<j) λi j=>.int (i % j)):=Av λi j _ _ _ _ _ hc q=>by
 have h1:(0:Int)<j:=hc;exact mod_int' (by omega) (by rw[Int.fmod_eq_emod_of_nonneg i (by omega)];exact q)
theorem MM:cD X (binaryOp .Pow) (rI Zc5 λi j=>.int (i^j.toNat)):=Av λ_ _ _ _ _ _ _ hc q=>pow_int_small hc.1 hc.2.1 hc.2.2 q
theorem unI{f:Value->Sem Value}{g:Int->Int}
  (rule:∀(i:Int) (t:Tok) (s:Shared) (Q:aU) (E:aU),Q (.int (g i) s.toks) {s with toks:=s.toks+1}->wpAny X.md X.A (f (.int i t)) Q E s):
  Gp X f (rU λi=>.int (g i)):=by
 rintro pins s σ H x v Q I rx ⟨i,rfl,q⟩;obtain⟨t,rfl⟩:=rx;exact rule i t s _ _ ⟨.int (g i),H,I.tok _,⟨_,rfl⟩,q⟩
theorem ze:Gp X (unaryOp .USub) (rU λi=>.int (-i)):=unI λ_ _ _ _ _ q=>neg_int q
end
def FN:V->V->Bool
 |.aA,.aA=>true|.aA,.int _=>true|.int _,.aA=>true|.aA,.bl _=>true|.bl _,.aA=>true|.aA,.str _=>true|.str _,.aA=>true
 |.int _,.int _=>true|.bl _,.bl _=>true|.str _,.str _=>true|.iW _,.iW _=>true
 |.int _,.str _=>true|.str _,.int _=>true|.bl _,.str _=>true|.str _,.bl _=>true
 |_,_=>false
def PB:R2:=λx y H Q=>FN x y=true/\Q (.bl (decide (x=y))) H
def rNe:R2:=λx y H Q=>FN x y=true/\Q (.bl (!decide (x=y))) H
theorem Lz{i j:Int}:decide (V.int i=V.int j)=(i==j):=by
 grind
theorem MN{i j:Bool}:decide (V.bl i=V.bl j)=(i==j):=by
 grind
theorem LA{i j:Str}:decide (V.str i=V.str j)=(i==j):=by
 grind
theorem LB{i j:Array UInt8}:decide (V.iW i=V.iW j)=(i.toList==j.toList):=by
 rw[Wm];simp_all
section
variable {X:Cx}{a b c:Expr}{ta tb tc:TE}{pos:Pos}
theorem cy{pins:aM}{σ:St}{H:Hp}{s:Shared}{Q:VK}{k k':Bool}(I:Inv X pins σ H s)(q:Q (.bl k) H)(e:k=k'):EP X pins σ Q (.bool k') s:=by
 subst e;exact⟨.bl k,H,I,rfl,q⟩
theorem c5:cD X (compareOp .Eq) PB:=by
 intro pins s σ H x y v u Q I rx ry h;obtain⟨hs,q⟩:=h;cases x with
 |aA=>
  cases rx;cases y with
  |aA=>cases ry;exact PySem.EqNone.eq_none_none (cy I q (by simp))
  |bl j=>cases ry;exact PySem.EqNone.eq_none_bool (cy I q (by simp))
  |int j=>obtain⟨t',rfl⟩:=ry;exact PySem.EqNone.eq_none_int (cy I q (by simp))
  |str j=>obtain⟨t',rfl⟩:=ry;exact PySem.EqNone.eq_none_str (cy I q (by simp))
  |_=>exact absurd (show false=true from hs) Yf
 |bl i=>
  cases rx;cases y with
  |aA=>cases ry;exact PySem.EqNone.eq_bool_none (cy I q (by simp))
  |bl j=>cases ry;exact eq_bool (cy I q MN)
  |str j=>obtain⟨t',rfl⟩:=ry;exact PySem.EqMixed.eq_bool_str (cy I q (by simp))
  |_=>exact absurd (show false=true from hs) Yf
 |int i=>
  obtain⟨t,rfl⟩:=rx;cases y with
  |aA=>cases ry;exact PySem.EqNone.eq_int_none (cy I q (by simp))
  |int j=>obtain⟨t',rfl⟩:=ry;exact eq_int (cy I q Lz)
  |str j=>obtain⟨t',rfl⟩:=ry;exact PySem.EqMixed.eq_int_str (cy I q (by simp))
  |_=>exact absurd (show false=true from hs) Yf
 |str i=>
  obtain⟨t,rfl⟩:=rx;cases y with
  |aA=>cases ry;exact PySem.EqNone.eq_str_none (cy I q (by simp))
  |bl j=>cases ry;exact PySem.EqMixed.eq_str_bool (cy I q (by simp))
  |int j=>obtain⟨t',rfl⟩:=ry;exact PySem.EqMixed.eq_str_int (cy I q (by simp))
  |str j=>obtain⟨t',rfl⟩:=ry;exact eq_str (cy I q LA)
  |_=>exact absurd (show false=true from hs) Yf
 |iW i=>
  obtain⟨t,rfl⟩:=rx;cases y with
  |iW j=>obtain⟨t',rfl⟩:=ry;exact PySem.W.eq_bytes (cy I q LB)
  |_=>exact absurd (show false=true from hs) Yf
 |_=>cases y<;>exact absurd (show false=true from hs) Yf
theorem jP:cD X (compareOp .NotEq) rNe:=by
 intro pins s σ H x y v u Q I rx ry h;obtain⟨hs,q⟩:=h;cases x with
 |aA=>
  cases rx;cases y with
  |aA=>cases ry;exact PySem.EqNone.ne_none_none (cy I q (by simp))
  |bl j=>cases ry;exact PySem.EqNone.ne_none_bool (cy I q (by simp))
  |int j=>obtain⟨t',rfl⟩:=ry;exact PySem.EqNone.ne_none_int (cy I q (by simp))
  |str j=>obtain⟨t',rfl⟩:=ry;exact PySem.EqNone.ne_none_str (cy I q (by simp))
  |_=>exact absurd (show false=true from hs) Yf
 |bl i=>
  cases rx;cases y with
  |aA=>cases ry;exact PySem.EqNone.ne_bool_none (cy I q (by simp))
  |bl j=>cases ry;exact ne_bool (cy I q (congrArg not MN))
  |str j=>obtain⟨t',rfl⟩:=ry;exact PySem.EqMixed.ne_bool_str (cy I q (by simp))
  |_=>exact absurd (show false=true from hs) Yf
 |int i=>
  obtain⟨t,rfl⟩:=rx;cases y with
  |aA=>cases ry;exact PySem.EqNone.ne_int_none (cy I q (by simp))
  |int j=>obtain⟨t',rfl⟩:=ry;exact ne_int (cy I q (congrArg not Lz))
  |str j=>obtain⟨t',rfl⟩:=ry;exact PySem.EqMixed.ne_int_str (cy I q (by simp))
  |_=>exact absurd (show false=true from hs) Yf
 |str i=>
  obtain⟨t,rfl⟩:=rx;cases y with
  |aA=>cases ry;exact PySem.EqNone.ne_str_none (cy I q (by simp))
  |bl j=>cases ry;exact PySem.EqMixed.ne_str_bool (cy I q (by simp))
  |int j=>obtain⟨t',rfl⟩:=ry;exact PySem.EqMixed.ne_str_int (cy I q (by simp))
  |str j=>obtain⟨t',rfl⟩:=ry;exact ne_str (cy I q (congrArg not LA))
  |_=>exact absurd (show false=true from hs) Yf
 |iW i=>
  obtain⟨t,rfl⟩:=rx;cases y with
  |iW j=>obtain⟨t',rfl⟩:=ry;exact PySem.W.ne_bytes (cy I q (congrArg not LB))
  |_=>exact absurd (show false=true from hs) Yf
 |_=>cases y<;>exact absurd (show false=true from hs) Yf
theorem wb:cD X (compareOp .Lt) (uw λi j=>.bl (decide (i<j))):=OH λ_ _ _ _ _ _ _ q=>lt_int q
theorem Fl:cD X (compareOp .Gt) (uw λi j=>.bl (decide (j<i))):=OH λ_ _ _ _ _ _ _ q=>gt_int q
theorem VT:cD X (compareOp .In) (λx y H Q=>∃i j,x=.str i/\y=.str j/\Q (.bl (!(Builtin.Str.occurrences j i 0 j.length 1).isEmpty)) H):=by
 intro pins s σ H x y v u Q I rx ry h;obtain⟨i,j,rfl,rfl,q⟩:=h;obtain⟨t,rfl⟩:=rx;obtain⟨t',rfl⟩:=ry;exact in_str (cy I q rfl)
theorem zf:cD X (compareOp .Is) (λx y H Q=>y=.aA/\Q (.bl (decide (x=.aA))) H):=by
 intro pins s σ H x y v u Q I rx ry h;obtain⟨rfl,q⟩:=h;cases ry;refine is_none_gen (cy I q ?_);cases x<;>first
  |(cases rx;rfl)
  |(obtain⟨t,rfl⟩:=rx;rfl)
theorem yT:cD X (compareOp .IsNot) (λx y H Q=>y=.aA/\Q (.bl (!decide (x=.aA))) H):=by
 rintro pins s σ H x y v u Q I rx ry ⟨rfl,q⟩;cases ry;refine isnot_none_gen (cy I q ?_);cases x<;>first
  |(cases rx;rfl)
  |(obtain⟨t,rfl⟩:=rx;rfl)
theorem TN:cD X (compareOp .NotIn) (λx y H Q=>∃i j,x=.str i/\y=.str j/\Q (.bl (!(!(Builtin.Str.occurrences j i 0 j.length 1).isEmpty))) H):=by
 rintro pins s σ H x y v u Q I rx ry ⟨i,j,rfl,rfl,q⟩;obtain⟨t,rfl⟩:=rx;obtain⟨t',rfl⟩:=ry;exact notIn_str (cy I q rfl)
theorem MO(b:Expr){op:CmpOp}(h:op≠.In:=by decide)(h2:op≠.NotIn:=by decide):behindInMarks op b=false:=by
 have e1:(op==CmpOp.In)=false:=by cases op<;>first|rfl|exact absurd rfl h
 have e2:(op==CmpOp.NotIn)=false:=by cases op<;>first|rfl|exact absurd rfl h2
 cases b<;>simp[behindInMarks,e1,e2]
theorem yU{op:CmpOp}{r:R2}(ho:cD X (compareOp op) r)(ha:PE X a ta)(hb:PE X b tb)(hm:behindInMarks op b=false):PE X (.Compare a [op] [b] pos) (lW r ta tb):=by
 intro pins s σ H Q I h;exact wpAny_Compare1 (FJ ha hb I h λv u s2 x y H2 I2 rx ry q=>ho pins s2 σ H2 x y v u Q I2 rx ry q) hm
inductive LC(Q:Bool->Hp->Prop)(x:V)(H':Hp):Prop
 |mk (k) (aI:x=.bl k) (aX:Q k H'):LC Q x H'
def Fm(t:TE):TT:=λσ H Q=>t σ H λx H'=>LC Q x H'
theorem fP{op:CmpOp}{r:R2}(ho:cD X (compareOp op) r)(ha:PE X a ta)(hb:PE X b tb)(hm:behindInMarks op b=false):PT X (.Compare a [op] [b] pos) (Fm (lW r ta tb)):=by
 intro pins s σ H Q I h;refine wpAny_isTrue_Compare1 (az (ha pins s σ H _ I h) λv s1 ⟨x,H1,I1,r1,q1⟩=>az (hb pins s1 σ H1 _ I1 q1) λu s2 ⟨y,H2,I2,r2,q2⟩=>
  az (ho pins s2 σ H2 x y v u _ I2 r1 r2 q2) λc s3 ⟨z,H3,I3,r3,k,e,q3⟩=>?_) hm
 subst e;cases r3;exact wpAny_truthy_bool ⟨H3,I3,q3⟩
def zT(K:ag)(x:V)(H:Hp)(k:Bool):Prop:=
 match x with
 |.aA=>k=false
 |.bl b=>k=b
 |.int i=>k=(i !=0)
 |.str y=>y.length<=sizeLine/\k=((y.length:Int)!=0)
 |.iW y=>y.size<=sizeLine/\k=((y.size:Int)!=0)
 |.ref p=>(∃xs,aj K H p xs/\k=!xs.isEmpty)\/(∃xs,aE K H p xs/\k=!xs.isEmpty)\/∃kvs,H p=some (.dK kvs)/\k=!kvs.isEmpty
 |_=>False
theorem U3{κ:Type}{kvs:List (κ×V)}{vs:List (κ×Value)}(r:KV kvs vs):(!vs.isEmpty)=!kvs.isEmpty:=by
 cases r<;>rfl
theorem IG{xs:List V}{ah:List Value}(r:Vals xs ah):(!ah.toArray.isEmpty)=!xs.isEmpty:=by
 cases r<;>simp
theorem qr:(sizeLine:Nat)<2^63:=by rw[sizeLine_eq];decide
theorem ZaM:Zc4 X (λx H Q=>∃k,zT X.K x H k/\Q k H):=by
 intro pins s σ H x v Q I rx h;obtain⟨k,e,q⟩:=h;have hl:=qr;have hs:sizeLine=16777216:=sizeLine_eq;cases x with
 |aA=>
  cases rx;have e':k=false:=e;subst e';exact truthy_none ⟨H,I,q⟩
 |bl b=>
  cases rx;have e':k=b:=e;subst e';exact wpAny_truthy_bool ⟨H,I,q⟩
 |int i=>
  obtain⟨t,rfl⟩:=rx;have e':k=(i !=0):=e;subst e';exact PySem.P.truthy_int ⟨H,I,q⟩
 |str y=>
  obtain⟨t,rfl⟩:=rx;obtain⟨hy,e'⟩:y.length<=sizeLine/\k=((y.length:Int)!=0):=e;subst e';exact PySem.P.truthy_str (by omega) ⟨H,I.tok _,q⟩
 |iW y=>
  obtain⟨t,rfl⟩:=rx;obtain⟨hy,e'⟩:y.size<=sizeLine/\k=((y.size:Int)!=0):=e;subst e';exact PySem.W.truthy_bytes (by omega) ⟨H,I.tok _,q⟩
 |ref p=>
  cases rx;have e':=e;rcases e' with⟨xs,hx,e'⟩|⟨xs,hx,e'⟩|⟨kvs,hx,e'⟩
  ·subst e';obtain⟨ah,r,pl,hz⟩:=I.list hx;have hlen:=r.length;exact wpAny_truthy_list pl.isList (by simp only[Yt];omega) ⟨H,I.tok _,by rw[IG r];exact q⟩
  ·subst e';obtain⟨ah,r,pl,hz⟩:=I.tuple hx;have hlen:=r.length;exact truthy_tuple pl (by simp only[Yt];omega) ⟨H,I.tok _,by rw[IG r];exact q⟩
  ·subst e';obtain⟨hz,hS,vs,r,m⟩:kvs.length<=sizeLine/\(p==sysModules)=false/\∃vs,KV kvs vs/\s.heap.DictOf (dE X.prog X.w) p vs:=I.ay p _ hx;have hlen:kvs.length=vs.length:=Paired.length r;exact wpAny_truthy_dict hS m (by omega) ⟨H,I.tok _,by rw[U3 r];exact q⟩
 |_=>exact(show False from e).elim
theorem D4(ha:PE X a ta)(he:∀whole,isTrue a X.env whole=(do let v←whole;standAt a.pos;holding [v] (truthy v))):
  PT X a (λσ H Q=>ta σ H λx H'=>∃k,zT X.K x H' k/\Q k H'):=by
 intro pins s σ H Q I h;exact isTrue_plain (az (ha pins s σ H _ I h) λv s1 ⟨x,H1,I1,r1,q1⟩=>ZaM pins s1 σ H1 x v Q I1 r1 q1) (he _)
theorem sR:cD X (binaryOp .Add) (λx y H Q=>∃i j,x=.str i/\y=.str j/\i.length+j.length<=sizeLine/\Q (.str (i++j)) H):=by
 rintro pins s σ H x y v u Q I rx ry ⟨i,j,rfl,rfl,hz,q⟩;obtain⟨t,rfl⟩:=rx;obtain⟨t',rfl⟩:=ry;exact add_str (λt' tk=>⟨.str (i++j),H,I.tok _,⟨_,rfl⟩,q⟩) hz
theorem vals1{x:V}{us:List Value}(r:Vals [x] us):∃u,us=[u]/\RelV x u:=by
 cases r with
 |cons r1 r2=>cases r2;exact⟨_,rfl,r1⟩
theorem vals2{x y:V}{us:List Value}(r:Vals [x,y] us):∃u w',us=[u,w']/\RelV x u/\RelV y w':=by
 cases r with
 |cons r1 r2=>
  cases r2 with
  |cons r3 r4=>cases r4;exact⟨_,_,rfl,r1,r3⟩
theorem Kz:cU X (.builtin "abs") (λxs H Q=>∃i,xs=[.int i]/\Q (.int (if i<0 then-i else i)) H):=by
 rintro pins s σ H xs us Q I r ⟨i,rfl,q⟩;obtain⟨u,rfl,t,rfl⟩:=vals1 r;exact call_abs_int λu tk=>⟨.int (if i<0 then-i else i),H,I.tok _,⟨_,rfl⟩,q⟩
theorem Cz:cU X (.type "str") (λxs H Q=>∃i,xs=[.int i]/\i.natAbs.log2<1920/\Q (.str (toString i)) H):=by
 rintro pins s σ H xs us Q I r ⟨i,rfl,hz,q⟩;obtain⟨u,rfl,t,rfl⟩:=vals1 r;exact PySem.P.str_of_int hz ⟨.str _,H,I.tok _,⟨_,rfl⟩,q⟩
end
structure qS(h:Heap)(x dx C:Addr)(mA:aN):Prop where
 obj:h.get? x=some (instObj C dx)
 ns:h.Ns1 dx mA
 ne:dx≠x
theorem JM{h:Heap}{dx:Addr}{mA:aN}(n:h.Ns1 dx mA):∃od,h.get? dx=some od/\∀name,lookIn name od=some (mA name):=by
 obtain⟨o,es,ep,ho,hd,hk,_,hm⟩:=n;refine⟨o,ho,λname=>?_⟩;have e:=hm name;unfold nsFind findBy at e;rw[←Array.find?_toList] at e;unfold lookIn;rw[hd];dsimp only;split;·grind
 ·rename_i q
  have a:es.toList.any (·.refKey)=false:=by
   rw[PD];intro y hy;obtain⟨z,t,FO⟩:=hk y (Array.mem_toList_iff.mp hy);simp[DictEntry.refKey,FO]
  grind
theorem qS.look{h:Heap}{x dx C:Addr}{mA:aN}(I:qS h x dx C mA):∃od,PySem.W.InstAt h x (instObj C dx) C (some od)/\∀name,lookIn name od=some (mA name):=
 let⟨od,ho,hl⟩:=JM I.ns
 ⟨od,⟨I.obj,rfl,rfl,ho⟩,hl⟩
section
variable {prog:Program}{w:World}{A:Around}{E:aU}{s:Shared}{K:ag}{x dx C f:Addr}{mA:aN}{name:Str}{v:Value}
theorem get_map{expr:Bool}{Q:aU}(X:K.In s.heap)(I:qS s.heap x dx C mA)(hg:plainGet K C name=true)(hh:hasDictIn K C=true)
  (ha:PySem.W.findIn K (.ref C) name=some none)(hv:mA name=some v)(hv':handedIn v=true)(h:Q v {s with toks:=s.toks+1}):
  wpAny (model prog w) A (getAttr (.ref x) name expr) Q E s:=by
 obtain⟨od,J,hl⟩:=I.look;exact PySem.W.get_value X J (plainGet_of hg).1 (findObj_own hh ha rfl (by rw[hl,hv])) hv' h
theorem Xk{pl:Sem Bool}{Q:Value×List Value->Shared->Prop}(X:K.In s.heap)(I:qS s.heap x dx C mA)(hg:plainGet K C name=true)
  (hf:PySem.W.findIn K (.ref C) name=some (some (.ref f)))(ht:isFn K (.ref f)=true)(hv:mA name=none)(h:Q (.ref f,[.ref x]) s):
  wpAny (model prog w) A (getMethod (.ref x) name pl) Q E s:=by
 obtain⟨od,J,hl⟩:=I.look;exact PySem.W.method_fn X J (plainGet_of hg).1 (plainGet_of hg).2 hf (beq_iff_eq.mp ht) (by show(lookIn name od).map (·.isSome)=some false;rw[hl,hv];rfl) h
theorem Zo{ns:List Str}{Q:Unit->Shared->Prop}(X:K.In s.heap)(I:qS s.heap x dx C mA)
  (hs:PySem.W.findIn K (.ref C) "__setattr__"=some (some (.builtin "object.__setattr__")))(hp:plainOver K C=true)(ht:takerIn K C name=some none)(hh:hasDictIn K C=true)
  (hw:PySem.Within mA ns)(hsz:ns.length<=sizeLine)
  (h:∀h',qS h' x dx C (λy=>if y=name then some v else mA y)->Heap.SameBut dx s.heap h'->Q () {s with heap:=h',toks:=s.toks+2}):
  wpAny (model prog w) A (setAttr (.ref x) name v) Q E s:=by
 obtain⟨od,J,hl⟩:=I.look;refine set_plain X J hs (PySem.W.osa_open X J hp ht λb=>?_);obtain⟨cd,hc,Pp⟩:=any_some hh;refine wpAny_bind (wpAny_pure (wpAny_bind (wpAny_bind (wpAny_loadPart I.obj (wpAny_bind (PySem.W.Looks.here (PySem.W.looks_clsIn X hc) ?_))))));rw[Pp];refine wpAny_pure (wpAny_bind (wpAny_pure (wpAny_bind (wpAny_nsSet1 I.ns λh' rq lX=>?_))));obtain⟨oD,PH,PK,wV,wW,wX⟩:=rq.count (PySem.Within.cons name v hw);exact wpAny_bind (wpAny_lookBehind wV (by rw[wW];exact pastItsLine_dict (Yz wX (by rw[Wb];omega))) (wpAny_pure (h _ ⟨(lX.2 _ (Ne.symm I.ne)).trans I.obj,rq,I.ne⟩ lX)))
theorem Xl{R:Result->Shared->Prop}{vs:List Value}{kw:List (Str×Value)}(X:K.In s.heap)(hm:makesIn K C=true)
  (hi:PySem.W.findIn K (.ref C) "__init__"=some (some (.ref f)))(hf:typeIn K (.ref f)=some (.type "function"))
  (h:codeAny (model prog w) (A.under (.builtin "type.__call__" ⟨.ref C::vs,kw⟩)) (.call (.ref f) ⟨.ref (s.heap.objs.size+1)::vs,kw⟩) (PySem.W.InitBack (s.heap.objs.size+1) R)
   {s with heap:=(s.heap.push emptyDict).push (instObj C s.heap.objs.size)}):
  codeAny (model prog w) A (.call (.ref C) ⟨vs,kw⟩) R s:=by
 obtain⟨hh,g,d,t,os⟩:=s;exact PySem.W.make_core (PySem.W.makes_of X hm) (PySem.W.looks_findIn X hi) (λself=>PySem.W.bind_fn X self hf) (.inl rfl) h
end
def cw(f:Str)(v:V):List (Str×V)->List (Str×V)
 |[]=>[(f,v)]
 |(g,x)::r=>if g=f then(g,v)::r else(g,x)::cw f v r
theorem CS(f g:Str)(v:V):∀fs:List (Str×V),(cw f v fs).lookup g=if g=f then some v else fs.lookup g
 |[]=>by
  show List.lookup g [(f,v)]=_
  grind
 |(k,x)::r=>by
  have ih:=CS f g v r;rw[show cw f v ((k,x)::r)=(if k=f then(k,v)::r else(k,x)::cw f v r) from rfl]
  grind
theorem vB(f:Str)(v:V):∀fs:List (Str×V),f∈(cw f v fs).map (·.1)/\∀g,g∈fs.map (·.1)->g∈(cw f v fs).map (·.1)
 |[]=>⟨by simp[cw],λg h=>by simp at h⟩
 |(k,x)::r=>by
  obtain⟨i1,i2⟩:=vB f v r;rw[show cw f v ((k,x)::r)=(if k=f then(k,v)::r else(k,x)::cw f v r) from rfl]
  grind
theorem CT(f:Str)(v:V):∀fs:List (Str×V),(cw f v fs).length<=fs.length+1
 |[]=>by simp[cw]
 |(k,x)::r=>by
  have ih:=CT f v r;rw[show cw f v ((k,x)::r)=(if k=f then(k,v)::r else(k,x)::cw f v r) from rfl]
  grind
theorem dP.some_of{v:V}{o:Option Value}(r:dP (some v) o):∃u,o=some u/\RelV v u:=by
 cases o with
 |none=>exact(show False from r).elim
 |some u=>exact⟨u,rfl,r⟩
theorem dP.none_of{o:Option Value}(r:dP none o):o=none:=by
 cases o with
 |none=>rfl
 |some u=>exact(show False from r).elim
theorem JN{v:V}{u:Value}(r:RelV v u):handedIn u=true:=by
 cases v with
 |aA=>cases(show u=Value.none from r);rfl
 |bl b=>cases(show u=Value.bool b from r);rfl
 |int i=>obtain⟨t,e⟩:=(show ∃t,u=Value.int i t from r);cases e;rfl
 |str x=>obtain⟨t,e⟩:=(show ∃t,u=Value.str x t from r);cases e;rfl
 |iW b=>obtain⟨t,e⟩:=(show ∃t,u=Value.bytes b t from r);cases e;rfl
 |q_ b=>obtain⟨t,e⟩:=(show ∃t,u=Value.float b t from r);cases e;rfl
 |ref a=>cases(show u=Value.ref a from r);rfl
 |ty n=>cases(show u=Value.type n from r);rfl
section
variable {P:Program}{w:World}{H H':Hp}{h h':Heap}{a C dx:Addr}{fs c7:List (Str×V)}
theorem yV(ay:cX P w H h)(e:H a=some (.ins C dx fs)):∃mA,qS h a dx C mA/\(∀f,dP (fs.lookup f) (mA f))/\PySem.Within mA (fs.map (·.1))/\fs.length<=1000/\H dx=some (.own a):=by
 obtain⟨d,z,ne,ob,mA,n,r,q⟩:=(show cz P w H h a (.ins C dx fs) from ay a _ e);exact⟨mA,⟨ob,n,ne⟩,r,q,z,d⟩
end
structure fw(K:ag)(C:Addr):Prop where
 pg:plainGet K C Str.empty=true
 hd:hasDictIn K C=true
 po:plainOver K C=true
 sa:PySem.W.findIn K (.ref C) "__setattr__"=some (some (.builtin "object.__setattr__"))
theorem fw.get{K:ag}{C:Addr}(c:fw K C)(f:Str):plainGet K C f=true:=c.pg
def cu(K:ag)(C:Addr)(f:Str):Prop:=PySem.W.findIn K (.ref C) f=some none
theorem cu.Zb_{K:ag}{C:Addr}{f:Str}(n:cu K C f):takerIn K C f=some none:=by
 unfold takerIn;rw[show PySem.W.findIn K (.ref C) f=some none from n];rfl
structure Meth(K:ag)(C:Addr)(m:Str)(f:Addr):Prop where
 at_:PySem.W.findIn K (.ref C) m=some (some (.ref f))
 fn:isFn K (.ref f)=true
 kp:keepIn K (.ref f)=true
section
variable {X:Cx}{pins:aM}{σ:St}{H:Hp}{s:Shared}{a C dx:Addr}{fs:List (Str×V)}{f:Str}{v:V}{A:Around}{E:aU}
theorem U4{b:Bool}{Q:aU}(I:Inv X pins σ H s)(e:H a=some (.ins C dx fs))(c:fw X.K C)(n:cu X.K C f)(l:fs.lookup f=some v)
  (h:∀u s',Inv X pins σ H s'->RelV v u->Q u s'):wpAny X.md A (getAttr (.ref a) f b) Q E s:=by
 obtain⟨mA,O,r,_,_,_⟩:=yV I.ay e;obtain⟨u,hu,ru⟩:=dP.some_of (by rw[←l];exact r f);exact get_map I.bL O (c.get f) c.hd n hu (JN ru) (h u _ (I.tok _) ru)
theorem Dq{m:Str}{g:Addr}{pl:Sem Bool}{Q:Value×List Value->Shared->Prop}(I:Inv X pins σ H s)(e:H a=some (.ins C dx fs))(c:fw X.K C)(k:Meth X.K C m g)(l:fs.lookup m=none)
  (h:Q (.ref g,[.ref a]) s):wpAny X.md A (getMethod (.ref a) m pl) Q E s:=by
 obtain⟨mA,O,r,_,_,_⟩:=yV I.ay e;exact Xk I.bL O (c.get m) k.at_ k.fn (dP.none_of (by rw[←l];exact r m)) h
theorem IH{y:V}{u:Value}{Q:Unit->Shared->Prop}(I:Inv X pins σ H s)(e:H a=some (.ins C dx fs))(c:fw X.K C)(n:cu X.K C f)(hl:fs.length<1000)(ry:RelV y u)
  (h:∀s',Inv X pins σ (upd H a (.ins C dx (cw f y fs))) s'->Q () s'):wpAny X.md A (setAttr (.ref a) f u) Q E s:=by
 obtain⟨mA,O,r,wi,_,ho⟩:=yV I.ay e;have hz:(fs.map (·.1)).length<=sizeLine:=by rw[Ya,sizeLine_eq];omega
 refine Zo I.bL O c.sa c.po n.Zb_ c.hd wi hz λh' O' sb=>h _ (I.write (by rw[e];exact True.intro) (.inr ho) (λb q hb z=>(sb.2 b hb).trans z) (let⟨o,_,_,e',_⟩:=O'.ns;⟨o,e'⟩) ⟨by rw[aF O.ne];exact ho,?_,O.ne,O'.obj,_,O'.ns,λg=>?_,λg hg=>?_⟩);·have:=CT f y fs;omega
 ·show dP ((cw f y fs).lookup g) (if g=f then some u else mA g);rw[CS];by_cases q:g=f;·rw[if_pos q,if_pos q];exact ry
  ·grind
 ·by_cases q:g=f;·rw[q];exact(vB f y fs).1
  ·refine(vB f y fs).2 g (wi g λz=>hg ?_)
   grind
theorem Inv.made(I:Inv X pins σ H s):Inv X pins σ (upd (upd H s.heap.objs.size (.own (s.heap.objs.size+1))) (s.heap.objs.size+1) (.ins C s.heap.objs.size []))
  {s with heap:=(s.heap.push emptyDict).push (instObj C s.heap.objs.size)}:=by
 have e1:(s.heap.push emptyDict).get? s.heap.objs.size=some emptyDict:=Yn s.heap rfl;have e2:((s.heap.push emptyDict).push (instObj C s.heap.objs.size)).get? (s.heap.objs.size+1)=some (instObj C s.heap.objs.size):=by
  have:=Yn (s.heap.push emptyDict) (o:=instObj C s.heap.objs.size) rfl
  rwa [Jq] at this
 have e3:(s.heap.push emptyDict).Ns s.heap.objs.size (λ_=>none):=⟨emptyDict,#[],_,e1,rfl,(λe he=>absurd he (by simp)),λ_=>rfl⟩;have I1:=I.laid (a:=s.heap.objs.size) (o:=.own (s.heap.objs.size+1)) (h':=s.heap.push emptyDict) (t':=s.toks) (λb u q=>Yc _ q) (Ye _) ⟨_,e1⟩;refine I1.laid (a:=s.heap.objs.size+1) (o:=.ins C s.heap.objs.size []) (t':=s.toks) (λb u q=>Yc _ q) (Gq (Jq _ _)) ?_;have ne:s.heap.objs.size≠s.heap.objs.size+1:=Yy (W7 _);refine⟨by rw[aF ne,aW],Yw _,ne,e2,λ_=>none,(Heap.Ns1.of_empty e3).at λo q=>Yc _ q,λ_=>True.intro,λy hy=>absurd rfl hy⟩
theorem LD{prog:Program}{w:World}{env:Env}{e:Expr}{f:Str}{pos:Pos}{s:Shared}{Q:aU}(hb:attributeBase e f env (eval e env)=eval e env)
  (h:wpAny (model prog w) A (eval e env) (λo bo=>wpAny (model prog w) A (getAttr o f true) Q E bo) E s):wpAny (model prog w) A (eval (.Attribute e f pos) env) Q E s:=
 Attribute_any_ h (by rw[arm_eval_Attribute,hb])
end
inductive MP(K:ag)(f:Str)(Q:VK)(x:V)(H1:Hp):Prop
 |mk (a C dx fs v) (aI:x=.ref a) (aX:H1 a=some (.ins C dx fs)) (bu:fw K C) (bW:cu K C f) (dq:fs.lookup f=some v) (gK:Q v H1):MP K f Q x H1
def FP(K:ag)(ta:TE)(f:Str):TE:=λσ H Q=>ta σ H λx H1=>MP K f Q x H1
def Zc6(K:ag)(ta tv:TE)(f:Str):TS:=λD σ H=>tv σ H λy H1=>ta σ H1 λx H2=>∃a C dx fs,x=.ref a/\H2 a=some (.ins C dx fs)/\fw K C/\cu K C f/\fs.length<1000/\
 D.nx σ (upd H2 a (.ins C dx (cw f y fs)))
section
variable {X:Cx}{o e value:Expr}{f:Str}{pos pos' zU:Pos}{ta tv:TE}
theorem ZaN(he:PE X e ta)(hb:attributeBase e f X.env (eval e X.env)=eval e X.env):PE X (.Attribute e f pos) (FP X.K ta f):=by
 intro pins s σ H Q I h;refine LD hb (az (he pins s σ H _ I h) λu s1 zq=>?_);obtain⟨x,H1,I1,rx,a,C,dx,fs,v,ex,ea,c,n,l,q⟩:=zq;subst ex;obtain rfl:u=Value.ref a:=rx;exact U4 I1 ea c n l λu' s2 I2 ru=>⟨v,H1,I2,ru,q⟩
theorem vU(ha:PE X o ta)(hv:PE X value tv)(hs:swapsWith value (some (.Attribute o f pos')) pos.line X.env=pure false):PS X (.Assign [.Attribute o f pos'] value pos) (Zc6 X.K ta tv f):=by
 intro pins s σ H D I h;refine plainObj_wpAny_Assign_Attribute (az (hv pins s σ H _ I h) λu s1 zq=>?_) hs;obtain⟨y,H1,I1,ry,q⟩:=zq;refine az (ha pins s1 σ H1 _ I1 q) λov s2 zq=>?_;obtain⟨x,H2,I2,rx,a,C,dx,fs,ex,ea,c,n,l,q2⟩:=zq;subst ex;obtain rfl:ov=Value.ref a:=rx;exact IH I2 ea c n l ry λs3 I3=>⟨σ,_,I3,q2⟩
end
section
variable {X:Cx}{pins:aM}{σ:St}{H:Hp}{s:Shared}{A:Around}{E:aU}{Q:aU}{c:Value}{b:Bool}
inductive ir(K:ag)(H:Hp):V->Value->Prop where
 |aA:ir K H .aA (.type "NoneType")
 |bl (x:Bool):ir K H (.bl x) (.type "bool")
 |int (i:Int):ir K H (.int i) (.type "int")
 |str (x:Str):ir K H (.str x) (.type "str")
 |q_ (x:UInt64):ir K H (.q_ x) (.type "float")
 |lst {a:Addr} {xs:List V} (e:H a=some (.lst xs)):ir K H (.ref a) (.type "list")
 |bN {a:Addr} {o:Obj} {xs:List V} (e:H a=some (.bN o (.lst xs))):ir K H (.ref a) (.type "list")
 |tup {a:Addr} {xs:List V} (e:H a=some (.tup xs)):ir K H (.ref a) (.type "tuple")
 |dK {a:Addr} {kvs:List (Key×V)} (e:H a=some (.dK kvs)):ir K H (.ref a) (.type "dict")
 |dT {a:Addr} {kvs:List (List Key×V)} (e:H a=some (.dT kvs)):ir K H (.ref a) (.type "dict")
 |ins {a C dx:Addr} {fs:List (Str×V)} (e:H a=some (.ins C dx fs)) (cl:fw K C) (ha:PySem.W.findIn K (.ref C) "__class__"=some (some (.builtin "object.__class__")))
   (hn:specialIn K (.builtin "object.__class__") "__get__"=some (some (.builtin "getset_descriptor.__get__"))) (PL:takesIn K (.builtin "object.__class__")=some true)
   (hm:PySem.W.mroIn K C (.type "object")=some true):ir K H (.ref a) (.ref C)
theorem VU{x:V}{u t:Value}(I:Inv X pins σ H s)(rx:RelV x u)(ty:ir X.K H x t)(e:kitOne X.K t c=some b)(h:∀tk,Q (.bool b) {s with toks:=tk}):
  wpAny X.md A (call (.builtin "isinstance") [u,c]) Q E s:=by
 cases ty with
 |aA=>cases(show u=Value.none from rx);exact kia_one PySem.W.kitx_none I.bL True.intro e (λz=>nomatch z) h
 |bl y=>cases(show u=Value.bool y from rx);exact kia_one PySem.W.kitx_bool I.bL True.intro e (λz=>nomatch z) h
 |int i=>obtain⟨t,q⟩:=(show ∃t,u=Value.int i t from rx);cases q;exact kia_one PySem.W.kitx_int I.bL True.intro e (λz=>nomatch z) h
 |str y=>obtain⟨t,q⟩:=(show ∃t,u=Value.str y t from rx);cases q;exact kia_one PySem.W.kitx_str I.bL True.intro e (λz=>nomatch z) h
 |q_ y=>obtain⟨t,q⟩:=(show ∃t,u=Value.float y t from rx);cases q;exact kia_one PySem.W.kitx_float I.bL True.intro e (λz=>nomatch z) h
 |@lst a xs ea=>
  cases(show u=Value.ref a from rx);obtain⟨_,_,n,_,h1⟩:=(show cz X.prog X.w H s.heap a (.lst xs) from I.ay a _ ea);exact kia_one kitx_list I.bL ⟨_,h1,rfl⟩ e (λz=>nomatch z) h
 |@bN a ob xs ea=>
  cases(show u=Value.ref a from rx);obtain⟨_,_,_,n,_,h1⟩:=(show cz X.prog X.w H s.heap a (.bN ob (.lst xs)) from I.ay a _ ea);exact kia_one kitx_list I.bL ⟨_,h1,rfl⟩ e (λz=>nomatch z) h
 |@tup a xs ea=>
  cases(show u=Value.ref a from rx);obtain⟨_,_,_,p⟩:=(show cz X.prog X.w H s.heap a (.tup xs) from I.ay a _ ea);obtain⟨o,h1,h2,_⟩:=p;exact kia_one PySem.W.kitx_tuple I.bL ⟨o,h1,h2⟩ e (λz=>nomatch z) h
 |@dK a kvs ea=>
  cases(show u=Value.ref a from rx);obtain⟨_,_,vs,_,p⟩:=(show cz X.prog X.w H s.heap a (.dK kvs) from I.ay a _ ea);obtain⟨o,es,ep,h1,h2,_⟩:=p;exact kia_one kitx_dict I.bL ⟨o,h1,h2.1⟩ e (λz=>nomatch z) h
 |@dT a kvs ea=>
  cases(show u=Value.ref a from rx);obtain⟨_,_,xs,_,o,es,ep,h1,h2,_⟩:=(show cz X.prog X.w H s.heap a (.dT kvs) from I.ay a _ ea);exact kia_one kitx_dict I.bL ⟨o,h1,h2.1⟩ e (λz=>nomatch z) h
 |@ins a C dx fs ea cl ha hn PL hm=>
  cases(show u=Value.ref a from rx);obtain⟨mA,O,_⟩:=yV I.ay ea;obtain⟨od,J,_⟩:=O.look;exact kia_one (PySem.W.kitx_own (cl.get _) cl.hd ha hn PL hm) I.bL J e (λz=>nomatch z) h
end
structure bU(k:Nat)(A:Around):Prop where
 hd:A.handled=none
 dp:A.depth+3*k+5<recursionLimit
 un:A.units+16*k+200<cLine
 gd:A.guards=some []
theorem bU.mono{j k:Nat}{A:Around}(r:bU k A)(h:j<=k):bU j A:=⟨r.hd,by have:=r.dp;omega,by have:=r.un;omega,r.gd⟩
theorem bU.deeper{k:Nat}{A:Around}(r:bU (k+1) A)(env:Env):bU k (A.deeper env):=
 ⟨r.hd,by have:=r.dp;show A.depth+1+3*k+5<_;omega,by have:=r.un;show A.units+3+16*k+200<_;omega,r.gd⟩
theorem U5{A:Around}{C:Addr}{us:List Value}{kw:List (Str×Value)}:(A.under (.builtin "type.__call__" ⟨.ref C::us,kw⟩)).depth=A.depth+1:=by
 rfl
theorem U6{A:Around}{C:Addr}{us:List Value}{kw:List (Str×Value)}:(A.under (.builtin "type.__call__" ⟨.ref C::us,kw⟩)).units=A.units+1:=by
 rfl
theorem bU.make{k:Nat}{A:Around}(r:bU (k+1) A)(C:Addr)(us:List Value)(kw:List (Str×Value)):bU k (A.under (.builtin "type.__call__" ⟨.ref C::us,kw⟩)):=
 ⟨r.hd,by have:=r.dp;rw[U5];omega,by have:=r.un;rw[U6];omega,by first|exact r.gd|simpa[Around.under,Code.isGuard,Code.isFrame,guardIds] using r.gd⟩
theorem bU.depth{k:Nat}{A:Around}(r:bU k A):A.depth<recursionLimit:=by have:=r.dp;omega
theorem bU.units{k:Nat}{A:Around}(r:bU k A):A.units+64<cLine:=by have:=r.un;omega
theorem bU.m8{k:Nat}{A:Around}(r:bU k A):A.units<cLine:=by have:=r.un;omega
def kH:TA:=λ_ H Q=>Q [] H
def jQ(ta:TE)(tr:TA):TA:=λσ H Q=>ta σ H λx H1=>tr σ H1 λxs H2=>Q (x::xs) H2
section
variable {X:Cx}{e:Expr}{es:List Expr}{te:TE}{t:TA}{pos:Pos}
theorem ai:PA X [] kH:=λ_ _ _ _ H Q I h=>Calls.spliced_nil ⟨[],H,I,.nil,h⟩
theorem aa(ha:PE X e te)(hr:PA X es t)(hs:gJ X e es:=by rfl):PA X (e::es) (jQ te t):=by
 intro pos pins s σ H Q I h;rw[hs];exact Calls.spliced_cons (az (ha pins s σ H _ I h) λu s1 ⟨x,H1,I1,r1,q1⟩=>az (hr pos pins s1 σ H1 _ I1 q1) λus s2 ⟨xs,H2,I2,r2,q2⟩=>⟨x::xs,H2,I2,.cons r1 r2,q2⟩)
def Zc7(t:TA):TE:=λσ H Q=>t σ H λxs H1=>xs.length<=sizeLine/\∀p,H1 p=none->Q (.ref p) (upd H1 p (.lst xs))
theorem EM(h:PA X es t):PE X (.List es pos) (Zc7 t):=by
 intro pins s σ H Q I hq;refine wpAny_List_spliced (az (h pos pins s σ H _ I hq) λus s1 ⟨xs,H1,I1,r,z,q⟩=>⟨by rw[←r.length];exact z,⟨.ref s1.heap.objs.size,upd H1 s1.heap.objs.size (.lst xs),I1.laid (λb u e=>Yc _ e) (Ye _) ?_,rfl,q _ (I1.ay.fresh (Ye _))⟩⟩);exact⟨z,us,0,r,Yn _ rfl⟩
end
abbrev Sp:=List V->Hp->VK->XK->Prop
abbrev jo:=List Env->Hp->Shared->XK->Value->Shared->Prop
structure qT(P:Program)(w:World)(K:ag)(mg:aN)(base:Heap)(A:Around)(outer:List Env)(s:Shared)(H:Hp):Prop where
 frames:A.frames=some outer
 mod:Mod K mg base
 bs:∀b o,base.get? b=some o->s.heap.get? b=some o/\H b=none
 kP:base.objs.size<=s.heap.objs.size
 iS:s.heap.FunFrames base outer
 nI:∀b∈cB outer,H b=none
 ay:cX P w H s.heap
 bare:AllBare s.gens
def CE(outer:List Env)(P:Program)(w:World)(H:Hp)(s:Shared)(Q:VK)(u:Value)(s':Shared):Prop:=
 ∃v H',s'.os=s.os/\AllBare s'.gens/\Un (cB outer) [] H H' s.heap s'.heap/\cX P w H' s'.heap/\RelV v u/\Q v H'
def CR(CX:jo)(outer:List Env)(P:Program)(w:World)(H:Hp)(s:Shared)(Q:VK)(E:XK)(r:Result)(s':Shared):Prop:=
 match r with
 |.ok (.ret u)=>CE outer P w H s Q u s'
 |.ok _=>False
 |.error e=>CX outer H s E e s'
structure aG(P:Program)(w:World)(K:ag)(mg:aN)(base:Heap)(CX:jo)(k:Nat)(f:Addr)(fd:FuncData)(ps:List Str)(sp:Sp):Prop where
 len:∀vs H Q E,sp vs H Q E->vs.length=ps.length
 run:∀(A:Around) (outer:List Env) (s:Shared) (H:Hp) (args:Args) (us:List Value) (vs:List V) (Q:VK) (E:XK),bU k A->qT P w K mg base A outer s H->BindsTo s fd args (ps.zip us)->Vals vs us->sp vs H Q E->
  codeAny (model P w) A (.call (.ref f) args) (CR CX outer P w H s Q E) s
theorem qT.make{P:Program}{w:World}{K:ag}{mg:aN}{base:Heap}{A:Around}{outer:List Env}{s:Shared}{H:Hp}(e:qT P w K mg base A outer s H)(C:Addr)(us:List Value)(kw:List (Str×Value)):
  qT P w K mg base (A.under (.builtin "type.__call__" ⟨.ref C::us,kw⟩)) outer s H:=⟨by first|exact e.frames|(simpa[Around.under,Code.envs,Code.isFrame,pushEnvs] using e.frames),e.mod,e.bs,e.kP,e.iS,e.nI,e.ay,e.bare⟩
section
variable {X:Cx}{pins:aM}{σ:St}{H:Hp}{s s':Shared}
theorem Inv.zV(I:Inv X pins σ H s):qT X.prog X.w X.K X.mg X.base X.A X.stack s H:=
 ⟨I.ok.frames,I.ok.mod,I.bs,Yz I.ok.kP I.sz,I.stack,I.yS,I.ay,I.bare⟩
theorem Inv.after{Q:VK}{u:Value}(I:Inv X pins σ H s)(h:CE X.stack X.prog X.w H s Q u s'):EP X pins σ Q u s':=by
 obtain⟨v,H',os,bare,un,ay,r,q⟩:=h;obtain⟨hh,g,d,t,Aw⟩:=s';obtain rfl:Aw=s.os:=os;exact⟨v,H',I.call (h':=hh) (g':=g) (d':=d) (t':=t) (ch:=[]) un ay bare (λb z=>absurd z (by simp)),r,q⟩
end
def zD(sp:Sp)(cW:List V)(E:XK)(t:TA):TE:=λσ H Q=>t σ H λvs H1=>sp (vs++cW) H1 Q E
def zE(C:Addr)(m:Str)(sp:Sp)(cW:List V)(E:XK)(ta:TE)(t:TA):TE:=λσ H Q=>ta σ H λx H1=>∃a dx fs,x=.ref a/\H1 a=some (.ins C dx fs)/\fs.lookup m=none/\
 t σ H1 λvs H2=>sp (x::(vs++cW)) H2 Q E
def NV(C:Addr)(sp:Sp)(cW:List V)(E:XK)(t:TA):TE:=λσ H Q=>t σ H λvs H1=>∀x dx,H1 x=none->H1 dx=none->dx≠x->
 sp (.ref x::(vs++cW)) (upd (upd H1 dx (.own x)) x (.ins C dx [])) (λv H2=>v=.aA/\Q (.ref x) H2) E
def Binds(K:ag)(fd:FuncData)(ps:List Str)(ds:List Value):Prop:=
 ∀(s:Shared) (us:List Value),K.In s.heap->(us++ds).length=ps.length->BindsTo s fd ⟨us,[]⟩ (ps.zip (us++ds))
theorem Binds.all{K:ag}{fd:FuncData}{ps:List Str}(h:∀us:List Value,us.length=ps.length->bindArgs fd ⟨us,[]⟩=pure (ps.zip us)):Binds K fd ps []:=λs us _ hl=>by
 rw[We] at hl⊢;exact .of_eq (h us hl)
def Passes(CX:jo)(X:Cx)(E:XK):Prop:=∀(pins:aM) (σ:St) (H:Hp) (s:Shared) (e:Value) (s':Shared),Inv X pins σ H s->CX X.stack H s E e s'->X.xe e s'
section
variable {X:Cx}{CX:jo}{k:Nat}{f C:Addr}{fd:FuncData}{ps:List Str}{sp:Sp}{cW:List V}{ds:List Value}{E:XK}{x m:Str}{p pos apos:Pos}{e o:Expr}{es:List Expr}{ta:TE}{t:TA}
theorem zg{pins:aM}{σ:St}{H:Hp}{s:Shared}{Q:VK}{us:List Value}{vs:List V}(F:aG X.prog X.w X.K X.mg X.base CX k f fd ps sp)(hr:bU k X.A)(hb:Binds X.K fd ps ds)(hd:Vals cW ds)(hx:Passes CX X E)
  (I:Inv X pins σ H s)(r:Vals vs us)(h:sp (vs++cW) H Q E):wpAny X.md X.A (call (.ref f) us) (EP X pins σ Q) X.xe s:=by
 have r2:Vals (vs++cW) (us++ds):=r.append hd;have hl:(us++ds).length=ps.length:=by rw[←r2.length];exact F.len _ _ _ _ h
 refine wpAny_call (codeAny_mono (F.run X.A X.stack s H ⟨us,[]⟩ (us++ds) (vs++cW) Q E hr I.zV (hb s us I.bL hl) r2 h) λr s' hq=>?_);cases r with
 |error e=>exact hx pins σ H s e s' I hq
 |ok fl=>
  cases fl with
  |ret u=>exact I.after hq
  |next=>exact False.elim hq
  |brk=>exact False.elim hq
  |cont=>exact False.elim hq
theorem Zp(F:aG X.prog X.w X.K X.mg X.base CX k f fd ps sp)(hr:bU k X.A)(hg:Gl X x)(hm:X.mg x=some (.ref f))(hk:keepIn X.K (.ref f)=true)(hb:Binds X.K fd ps ds)(hd:Vals cW ds)(hx:Passes CX X E)
  (ha:PA X (e::es) t)(eA:(x==("__debug__":Str))=false:=by decide)(he:gJ X e es:=by rfl)(bG:hU X pos es:=by rfl):
  PE X (.Call (.Name x p) (e::es) [] pos) (zD sp cW E t):=by
 intro pins s σ H Q I h;exact wpAny_Call_Name_kw (mT I hg hm (callWith_K I.ok.mod.hJ hk (az (ha pos pins s σ H _ I h) λus s1 ⟨vs,H1,I1,r,q⟩=>⟨I1.bL,zg F hr hb hd hx I1 r q⟩) he bG) eA)
theorem Zq{pl:Sem Bool}(he:PE X o ta)(c:fw X.K C)(hm:Meth X.K C m f)(F:aG X.prog X.w X.K X.mg X.base CX k f fd ps sp)(hr:bU k X.A)(hb:Binds X.K fd ps ds)(hd:Vals cW ds)(hx:Passes CX X E)(ha:PA X (e::es) t)
  (dm:gJ X e es:=by rfl)(bG:hU X pos es:=by rfl)
  (ht:eval (.Call (.Attribute o m apos) (e::es) [] pos) X.env=(do
   let ov←eval o X.env
   standAt apos.atName
   let(f,first)←holding [ov] (getMethod ov m pl)
   callWith pos f first (backTo pos (starEach (e::es) X.env)) (backToKw pos (keywordEach [] X.env))):=by rfl):
  PE X (.Call (.Attribute o m apos) (e::es) [] pos) (zE C m sp cW E ta t):=by
 intro pins s σ H Q I h;refine methodCall_KW (pl:=pl) (az (he pins s σ H _ I h) λu s1 zq=>?_) ht;obtain⟨x,H1,I1,rx,a,dx,fs,ex,ea,l,q⟩:=zq;subst ex;obtain rfl:u=Value.ref a:=rx;refine Dq I1 ea c hm l ?_;refine callWith_K (first:=[.ref a]) (h₀:=X.base) I.ok.mod.hJ hm.kp (az (ha pos pins s1 σ H1 _ I1 q) λus s2 ⟨vs,H2,I2,r,q2⟩=>⟨I2.bL,?_⟩) dm bG;exact zg (us:=.ref a::us) (vs:=.ref a::vs) F hr hb hd hx I2 (.cons rfl r) q2
theorem Xm{pl:Sem Bool}(he:PE X o ta)(c:fw X.K C)(hm:Meth X.K C m f)(F:aG X.prog X.w X.K X.mg X.base CX k f fd ps sp)(hr:bU k X.A)(hb:Binds X.K fd ps ds)(hd:Vals cW ds)(hx:Passes CX X E)
  (ht:eval (.Call (.Attribute o m apos) [] [] pos) X.env=(do
   let ov←eval o X.env
   standAt apos.atName
   let(f,first)←holding [ov] (getMethod ov m pl)
   callWith pos f first (backTo pos (starEach [] X.env)) (backToKw pos (keywordEach [] X.env))):=by rfl):
  PE X (.Call (.Attribute o m apos) [] [] pos) (zE C m sp cW E ta kH):=by
 intro pins s σ H Q I h;refine methodCall_KW (pl:=pl) (az (he pins s σ H _ I h) λu s1 zq=>?_) ht;obtain⟨x,H1,I1,rx,a,dx,fs,ex,ea,l,q⟩:=zq;subst ex;obtain rfl:u=Value.ref a:=rx;refine Dq I1 ea c hm l ?_;exact PySem.W.callWith_K0 (first:=[.ref a]) I1.bL hm.kp (zg (us:=[.ref a]) (vs:=[.ref a]) F hr hb hd hx I1 (.cons rfl .nil) q)
structure Mk(K:ag)(C f:Addr):Prop where
 makes:makesIn K C=true
 init:PySem.W.findIn K (.ref C) "__init__"=some (some (.ref f))
 fn:isFn K (.ref f)=true
 kp:keepIn K (.ref C)=true
theorem Xn{pins:aM}{σ:St}{H:Hp}{s:Shared}{Q:VK}{us:List Value}{vs:List V}(M:Mk X.K C f)(F:aG X.prog X.w X.K X.mg X.base CX k f fd ps sp)(hr:bU (k+1) X.A)(hb:Binds X.K fd ps ds)(hd:Vals cW ds)
  (hx:Passes CX X E)(I:Inv X pins σ H s)(r:Vals vs us)
  (h:∀x dx,H x=none->H dx=none->dx≠x->sp (.ref x::(vs++cW)) (upd (upd H dx (.own x)) x (.ins C dx [])) (λv H2=>v=.aA/\Q (.ref x) H2) E):
  wpAny X.md X.A (call (.ref C) us) (EP X pins σ Q) X.xe s:=by
 have hq:=h (s.heap.objs.size+1) s.heap.objs.size (I.ay.fresh (J1 _)) (I.ay.fresh (Ye _)) (Yy (W7 _));have I2:=Inv.made (C:=C) I;have r2:Vals (V.ref (s.heap.objs.size+1)::(vs++cW)) (Value.ref (s.heap.objs.size+1)::(us++ds)):=.cons rfl (r.append hd);have hl:(Value.ref (s.heap.objs.size+1)::us++ds).length=ps.length:=by
  have e:=r2.length;rw[F.len _ _ _ _ hq] at e;exact e.symm
 refine wpAny_call (Xl I.bL M.makes M.init (beq_iff_eq.mp M.fn) (codeAny_mono (F.run _ X.stack _ _ ⟨Value.ref (s.heap.objs.size+1)::us,[]⟩ (Value.ref (s.heap.objs.size+1)::(us++ds)) _ _ E (hr.make C us [])
  (I2.zV.make C us []) (hb _ (Value.ref (s.heap.objs.size+1)::us) I2.bL hl) r2 hq) λr s' jq=>?_))
 cases r with
 |error e=>exact hx pins σ _ _ e s' I2 jq
 |ok fl=>
  cases fl with
  |ret u=>
   obtain⟨v,H',I3,rv,ev,q3⟩:=I2.after jq;subst ev;exact⟨rv,⟨V.ref (s.heap.objs.size+1),H',I3,rfl,q3⟩⟩
  |next=>exact False.elim jq
  |brk=>exact False.elim jq
  |cont=>exact False.elim jq
theorem Zr(M:Mk X.K C f)(F:aG X.prog X.w X.K X.mg X.base CX k f fd ps sp)(hr:bU (k+1) X.A)(hg:Gl X x)(hm:X.mg x=some (.ref C))(hb:Binds X.K fd ps ds)(hd:Vals cW ds)(hx:Passes CX X E)
  (ha:PA X (e::es) t)(eA:(x==("__debug__":Str))=false:=by decide)(he:gJ X e es:=by rfl)(bG:hU X pos es:=by rfl):
  PE X (.Call (.Name x p) (e::es) [] pos) (NV C sp cW E t):=by
 intro pins s σ H Q I h;exact wpAny_Call_Name_kw (mT I hg hm (callWith_K I.ok.mod.hJ M.kp (az (ha pos pins s σ H _ I h) λus s1 ⟨vs,H1,I1,r,q⟩=>⟨I1.bL,Xn M F hr hb hd hx I1 r q⟩) he bG) eA)
end
section
variable {X:Cx}{CX:jo}{k:Nat}{f C:Addr}{fd:FuncData}{ps ks:List Str}{sp:Sp}{E:XK}{x m:Str}{p pos apos Ze3:Pos}{e o:Expr}{es:List Expr}{kws:List Keyword}{te ta:TE}{t tk:TA}{nm:Option Str}
variable {g:List Value->List Value->List Value}{gV:List V->List V->List V}
end
structure aS(N P:List Str)(sc:Scope):Prop where
 kind:sc.kind=.function
 co:sc.isCoroutine=false
 gen:sc.isGenerator=false
 nd:N.Nodup
 pre:N.take P.length=P
 par:∀x∈P,sc.names.lookup x=some .local\/sc.names.lookup x=some .cell
 ZaO:∀y∈sc.names,y.2≠.free
theorem JO{kindOf:Str->Option NameKind}{x:Str}:∀{binds:List (Str×Value)} {m:aN},(∀v,(x,v)∉binds)->bindL kindOf binds m x=m x
 |[],_,_=>rfl
 |(n,v)::r,m,h=>by
  unfold bindL;rw[JO λw hw=>h w (Yv _ hw)];split;·grind
  ·rfl
theorem JP{kindOf:Str->Option NameKind}{x:Str}:∀{binds:List (Str×Value)} {m:aN},(∀v,(x,v)∉binds)->bindC kindOf binds m x=m x
 |[],_,_=>rfl
 |(n,v)::r,m,h=>by
  unfold bindC;rw[JP λw hw=>h w (Yv _ hw)];split;·rfl
  ·grind
theorem JQ{kindOf:Str->Option NameKind}{x:Str}{v:Value}:∀{P:List Str} {vs:List Value} {i:Nat} {m:aN},P.Nodup->P[i]?=some x->vs[i]?=some v->kindOf x=some .local->
  bindL kindOf (P.zip vs) m x=some v
 |[],_,_,_,_,h,_,_=>by simp at h
 |_::_,[],_,_,_,_,h,_=>by simp at h
 |p::P,w::vs,0,m,nd,h1,h2,hk=>by
  simp at h1 h2;subst h1;subst h2;show bindL kindOf ((p,w)::P.zip vs) m p=_;unfold bindL;rw[JO λv hv=>(Y0.mp nd).1 (PM hv).1,if_pos hk];simp
 |p::P,w::vs,i+1,m,nd,h1,h2,hk=>by
  unfold bindL;exact JQ (Y0.mp nd).2 (by simpa using h1) (by simpa using h2) hk
theorem JR{kindOf:Str->Option NameKind}{x:Str}{v:Value}:∀{P:List Str} {vs:List Value} {i:Nat} {m:aN},P.Nodup->P[i]?=some x->vs[i]?=some v->kindOf x≠some .local->
  bindC kindOf (P.zip vs) m x=some v
 |[],_,_,_,_,h,_,_=>by simp at h
 |_::_,[],_,_,_,_,h,_=>by simp at h
 |p::P,w::vs,0,m,nd,h1,h2,hk=>by
  simp at h1 h2;subst h1;subst h2;show bindC kindOf ((p,w)::P.zip vs) m p=_;unfold bindC;rw[JP λv hv=>(Y0.mp nd).1 (PM hv).1,if_neg hk];simp
 |p::P,w::vs,i+1,m,nd,h1,h2,hk=>by
  unfold bindC;exact JR (Y0.mp nd).2 (by simpa using h1) (by simpa using h2) hk
def start(N:List Str)(vs:List V):St:=vs.map some++List.replicate (N.length-vs.length) none
def ji(CX:jo)(P:Program)(w:World)(K:ag)(mg:aN)(base:Heap)(N:List Str)(qual:Str)(scope:Scope)(f:Addr)(cd:Value)(A:Around)(outer:List Env)(s:Shared)(H:Hp)(E:XK):Cx where
 prog:=P
 w:=w
 K:=K
 mg:=mg
 base:=base
 A:=A.deeper (envOfC qual scope s.heap.objs.size f cd)
 N:=N
 cQ:=s
 jT:=H
 env:=envOfC qual scope s.heap.objs.size f cd
 outer:=outer
 stack:=envOfC qual scope s.heap.objs.size f cd::outer
 ex:=[]
 calm:=true
 fn:=λ_=>true
 pn:=[]
 xe:=λe s'=>wpAny (model P w) (A.deeper (envOfC qual scope s.heap.objs.size f cd)) (leaving (envOfC qual scope s.heap.objs.size f cd) e) (λ_ rz=>CX outer H s E e rz) (λe' rz=>CX outer H s E e' rz) s'
theorem KA{sc:Scope}{n:Nat}{x:Str}(h:sc.names.lookup x=some .cell):∃c,(cellsFrom n sc.names []).lookup x=some c:=by
 exact Jt.mp (cellsFrom_some sc.names n [] (.inl h))
theorem VW{CX:jo}{P:Program}{w:World}{K:ag}{mg:aN}{base:Heap}{N ps:List Str}{qual:Str}{scope:Scope}{f:Addr}{cd:Value}{A:Around}{outer:List Env}{s s1:Shared}{H:Hp}{E:XK}{us:List Value}{vs:List V}
  (S:aS N ps scope)(hd:A.handled=none)(e0:qT P w K mg base A outer s H)(hl:vs.length=ps.length)(r:Vals vs us)
  (x:InCallC s s.heap.objs.size (bindL (envOfC qual scope s.heap.objs.size f cd).kindOf (ps.zip us) λ_=>none) (cellsFrom (s.heap.objs.size+1) scope.names []) (bindC (envOfC qual scope s.heap.objs.size f cd).kindOf (ps.zip us) λ_=>none) s1):
  Inv (ji CX P w K mg base N qual scope f cd A outer s H E) [] (start N vs) H s1:=by
 have bG:ps.length<=N.length:=by have:=congrArg List.length S.pre;rw[Wh] at this;omega
 obtain⟨h1,tk,rfl,hk⟩:=x.done;have jr:∀b:Addr,b∉(ji CX P w K mg base N qual scope f cd A outer s H E).ex:=λb z=>absurd (show b∈([]:List Addr) from z) (by simp);refine⟨⟨e0.mod,S.kind,rfl,rfl,Ye _,λy z c h1 h2=>?_,λy hy=>?_,λy c _ h=>?_,λ_=>hd,Around.frames_deeper e0.frames,.inr ⟨rfl,rfl⟩,λb z=>absurd z (jr b),e0.bs,e0.kP,λb _ _=>jr b,λb z=>absurd z (jr b),e0.iS,e0.nI⟩,
  rfl,e0.bare,Un.kept hk,⟨_,x.toInCall.ns,λi y v h1 h2 h3=>?_⟩,λy c h=>⟨_,x.cell y c h⟩,e0.ay.fresh (Ye _),λy c h=>?_,λp hp=>absurd (show p∈([]:aM) from hp) (by simp),e0.ay.kept hk,?_⟩
 ·exact name_of_addr x.apart (PySem.mem_of_lookup h1) (PySem.mem_of_lookup h2)
 ·have hy:scope.names.lookup y=some .cell\/scope.names.lookup y=some .free:=hy;rcases hy with hy|hy;·exact KA hy
  ·exact absurd rfl (S.ZaO _ (PySem.mem_of_lookup hy))
 ·exact Jk (x.above y c (PySem.mem_of_lookup h))
 ·have hi:i<vs.length:=by
   unfold start at h2
   grind
  have ha:vs[i]?=some v:=by
   unfold start at h2;rw[Y7 (by simpa using hi),Yg] at h2;cases e:vs[i]? with
   |none=>grind
   |some a=>grind
  obtain⟨u,hu,rv⟩:=r.get ha;have hp:ps[i]?=some y:=by
   rw[←S.pre,List.getElem?_take_of_lt (by omega)];exact h1
  have PN:ps.Nodup:=by rw[←S.pre];exact S.nd.sublist (List.take_sublist _ _)
  refine⟨u,rv,?_⟩;rcases S.par y (Ys hp) with k|k;·exact .inl ⟨k,JQ PN hp hu k⟩
  ·obtain⟨c,e⟩:=KA k;refine .inr ⟨.inl k,c,e,?_⟩;have q:=x.cell y c e;rw[JR PN hp hu (by show scope.names.lookup y≠_;rw[k];decide)] at q;exact q
 ·exact e0.ay.fresh (Jk (x.above y c (PySem.mem_of_lookup h)))
 ·unfold start;show _=N.length
  grind
theorem Fn{CX:jo}{P:Program}{w:World}{K:ag}{mg:aN}{base:Heap}{k:Nat}{f:Addr}{name qual:Str}{params:Arguments}{body:List Stmt}{scope:Scope}{dV kV doc pm bh ct oc:Value}{an od:Option Addr}
  {hV:Array (Option Value)}{N ps:List Str}{sp:Sp}(lk:K.lookup f=some ⟨oc,od,.func (fnOf name qual params body scope dV kV doc pm an bh ct),hV⟩)(eU:codeIn K bh qual=true)(S:aS N ps scope)
  (len:∀vs H Q E,sp vs H Q E->vs.length=ps.length)
  (ni:∀(A:Around) (outer:List Env) (s:Shared) (H:Hp) (vs:List V) (Q:VK) (E:XK),bU k (A.deeper (envOfC qual scope s.heap.objs.size f bh))->sp vs H Q E->
   ∃t,eN (ji CX P w K mg base N qual scope f bh A outer s H E) body t/\t {nx:=λ_ H'=>Q .aA H',rt:=Q} (start N vs) H):
  aG P w K mg base CX (k+1) f (fnOf name qual params body scope dV kV doc pm an bh ct) ps sp:=by
 refine⟨len,λA outer s H args us vs Q E hr e0 hb r jY=>?_⟩;have hl:=len _ _ _ _ jY;have KX:K.In s.heap:=e0.mod.hJ.keeps λb o e=>(e0.bs b o e).1;have lim:s.heap.NoLimit:=e0.mod.nolimit.keeps λb o e=>(e0.bs b o e).1;have Zca:∀y∈ps.zip us,scope.names.lookup y.1=some .local\/(scope.names.lookup y.1=some .cell/\((cellsFrom (s.heap.objs.size+1) scope.names []).lookup y.1).isSome=true):=λ⟨n,v⟩ hy=>by
  rcases S.par n (PM hy).1 with q|q;·exact .inl q
  ·exact .inr ⟨q,cellsFrom_some _ _ _ (.inl q)⟩
 refine codeAny_call_function hr.depth (KX _ _ lk) rfl S.co S.gen rfl (PySem.W.codeRec_of KX eU) (hb _ _ _ _ ?_);refine wpAny_newFunctionEnv_cells S.kind Zca λenv he s1 x=>?_;subst he;refine⟨lim.keeps x.toInCall.keep,codeAny_func ?_⟩;obtain⟨t,ht,hq⟩:=ni A outer s H vs Q E (hr.deeper _) jY;have I:Inv (ji CX P w K mg base N qual scope f bh A outer s H E) [] (start N vs) H s1:=VW S hr.hd e0 hl r x;refine wpAny_mono (ht [] s1 (start N vs) H _ I hq) (λfl s' hs=>?_) λe s' hs=>hs;have fin:∀{aB:St} {H':Hp} {v:V} {u:Value},Inv (ji CX P w K mg base N qual scope f bh A outer s H E) [] aB H' s'->RelV v u->Q v H'->CE outer P w H s Q u s':=
  λ{aB H' v u} J rv q=>⟨v,H',J.os,J.bare,J.base,J.ay,rv,q⟩
 cases fl with
 |ret u=>
  obtain⟨v,aB,H',J,rv,q⟩:=hs;exact fin J rv q
 |next=>
  obtain⟨aB,H',J,q⟩:=hs;exact fin (v:=V.aA) (u:=Value.none) J rfl q
 |brk=>
  obtain⟨_,_,_,q⟩:=hs;exact False.elim q
 |cont=>
  obtain⟨_,_,_,q⟩:=hs;exact False.elim q
section
variable {X:Cx}{x:Str}{p pos:Pos}{e:Expr}{es:List Expr}{t:TA}{id T:String}{r:List V->Hp->VK->Prop}
def lY(r:List V->Hp->VK->Prop)(t:TA):TE:=λσ H Q=>t σ H λvs H1=>r vs H1 Q
theorem gU(hc:cU X (.builtin id) r)(hg:Gl X x)(hm:X.mg x=none)(hv:bootBuiltins x=some (.builtin id))(ha:PA X (e::es) t)(hn:x≠"__name__":=by decide)(eA:(x==("__debug__":Str))=false:=by decide)
  (he:gJ X e es:=by rfl)(bG:hU X pos es:=by rfl):PE X (.Call (.Name x p) (e::es) [] pos) (lY r t):=by
 intro pins s σ H Q I h;refine wpAny_Call_Name_kw (vT I hg hm hv ?_ hn eA);exact PyProof.Rows.callWith_builtin1 (az (ha pos pins s σ H _ I h) λus s1 ⟨vs,H1,I1,r1,q1⟩=>hc pins s1 σ H1 vs us Q I1 r1 q1) he bG
theorem fO(hc:cU X (.type T) r)(hg:Gl X x)(hm:X.mg x=none)(hv:bootBuiltins x=some (.type T))(ha:PA X (e::es) t)(hn:x≠"__name__":=by decide)(eA:(x==("__debug__":Str))=false:=by decide)
  (he:gJ X e es:=by rfl)(bG:hU X pos es:=by rfl):PE X (.Call (.Name x p) (e::es) [] pos) (lY r t):=by
 intro pins s σ H Q I h;refine wpAny_Call_Name_kw (vT I hg hm hv ?_ hn eA);exact PyProof.Rows.callWith_type1 (az (ha pos pins s σ H _ I h) λus s1 ⟨vs,H1,I1,r1,q1⟩=>hc pins s1 σ H1 vs us Q I1 r1 q1) he bG
end
end L2
namespace HT
open PySem PyProof.Rows
section
open PySem.SeqAt
open PySem.AutoSeq1 (wpAny_loadPart')
open PySem.MeetsSeq PySem.MeetsSeq2 PySem.MeetsSeq3
end
section
variable {prog:Program}{w:World}{A:Around}{E:aU}{s:Shared}
def bH(n d:Nat):Option Int->Nat
 |none=>d
 |some v=>if v<0 then(v+(n:Int)).toNat else min v.toNat n
theorem Zs(n d k:Nat):bH n d (some (k:Int))=min k n:=by
 show(if(k:Int)<0 then((k:Int)+(n:Int)).toNat else min (k:Int).toNat n)=min k n;rfl
theorem LF(v:Int)(n d:Nat):(if v<0 then max (v+(n:Int)) 0 else min v (n:Int))=((bH n d (some v):Nat):Int):=by
 show(if v<0 then max (v+(n:Int)) 0 else min v (n:Int))=(((if v<0 then(v+(n:Int)).toNat else min v.toNat n):Nat):Int)
 grind
theorem U7(lo hi:Option Int)(n:Nat):Builtin.Slice.sliceAdjust lo hi 1 (n:Int)=(((bH n 0 lo:Nat):Int),((bH n n hi:Nat):Int)):=by
 have h1:¬((1:Int)<0):=by omega
 unfold Builtin.Slice.sliceAdjust;refine Prod.ext ?_ ?_
 ·cases lo with
  |none=>rfl
  |some v=>exact LF v n 0
 ·cases hi with
  |none=>rfl
  |some v=>exact LF v n n
theorem U8(i j:Nat):Builtin.Slice.slicePlaces (i:Int) (j:Int) 1=j-i:=by
 unfold Builtin.Slice.slicePlaces
 grind
theorem II{v:Value}{o:Option Int}{Q:Option Int->Shared->Prop}(p:IsPart v o)(h:Q o s):wpAny (model prog w) A (Builtin.Slice.slicePartIndex v) Q E s:=by
 cases p with
 |none=>exact slicePart_none h
 |int i t=>exact slicePart_int h
theorem Sv{sl:Addr}{vl vu:Value}{lo hi:Option Int}{n:Nat}{Q:Int×Int×Nat->Shared->Prop}(hs:s.heap.IsSliceOf sl vl vu .none)(pl:IsPart vl lo)(pu:IsPart vu hi)
  (h:Q (((bH n 0 lo:Nat):Int),1,bH n n hi-bH n 0 lo) s):wpAny (model prog w) A (Builtin.Slice.sliceApplied (.ref sl) (pure (n:Int))) Q E s:=by
 obtain⟨os,wY,PQ,ux⟩:=id hs;refine wpAny_bind (wpAny_bind (wpAny_field wY ux rfl (wpAny_bind (wpAny_field wY ux rfl (wpAny_bind (wpAny_field wY ux rfl (wpAny_pure (wpAny_bind (slicePart_none (wpAny_bind (II pl (wpAny_bind (II pu (wpAny_bind (wpAny_pure ?_)))))))))))))));show wpAny _ _ (match Builtin.Slice.sliceAdjust lo hi 1 (n:Int) with|(lo,hi)=>pure (lo,(1:Int),Builtin.Slice.slicePlaces lo hi 1)) _ _ s;rw[U7 lo hi n];show wpAny _ _ (pure (((bH n 0 lo:Nat):Int),(1:Int),Builtin.Slice.slicePlaces ((bH n 0 lo:Nat):Int) ((bH n n hi:Nat):Int) 1)) _ _ s;rw[U8];exact wpAny_pure h
theorem Xo(xs:Array Value)(i k:Nat):((List.range k).filterMap λ(m:Nat)=>xs[((i:Int)+(m:Int)*1).toNat]?).toArray=((xs.toList.drop i).take k).toArray:=by
 have e:(λ(m:Nat)=>xs[((i:Int)+(m:Int)*1).toNat]?)=λm=>xs[i+m]?:=by
  grind
 rw[e];have:=pick_run xs i k;rw[List.filterMap_map] at this;have e2:((λx=>xs[x]?)∘λx=>i+x)=λm=>xs[i+m]?:=rfl
 grind
theorem Sl{t sl:Addr}{items:Array Value}{vl vu:Value}{lo hi:Option Int}{Q:aU}(ht:IsTup s.heap t items)(hs:s.heap.IsSliceOf sl vl vu .none)(pl:IsPart vl lo)(pu:IsPart vu hi)
  (hw:¬(bH items.size 0 lo=0/\bH items.size items.size hi=items.size))
  (h:Q (.ref s.heap.objs.size) {s with heap:=s.heap.push {cls:=.type "tuple",data:=.seq ((items.toList.drop (bH items.size 0 lo)).take (bH items.size items.size hi-bH items.size 0 lo)).toArray}})
  (hsz:items.size<=sizeLine):wpAny (model prog w) A (getItem (.ref t) (.ref sl)) Q E s:=by
 have zF:sizeOk (.seq ((items.toList.drop (bH items.size 0 lo)).take (bH items.size items.size hi-bH items.size 0 lo)).toArray):=by
  show((items.toList.drop (bH items.size 0 lo)).take (bH items.size items.size hi-bH items.size 0 lo)).toArray.size<=sizeLine
  grind
 obtain⟨os,wY,PQ,ux⟩:=id hs;unfold getItem;try with_reducible refine wpAny_holding ?_
 refine wpAny_bind (wpAny_sequenceKey ht.typeIs (by decide) ?_);refine wpAny_bind (wpAny_callSpecial?_slot ht.typeIs PyProof.Rows.slot_tuple_getitem
  (wpAny_call_entry PyProof.Rows.slot_tuple_getitem ht.typeIs entry_tuple_getitem ?_ (args_tuple_getitem _ _)))
 show wpAny _ _ (Builtin.Tuple.tupleItemsOf (.ref t)>>=_) _ _ s;refine wpAny_bind (tupleItemsOf_ ht (wpAny_bind (wpAny_typeOf ⟨os,wY,PQ⟩ (wpAny_bind (Sv hs pl pu ?_)))));have wZ:¬((((bH items.size 0 lo:Nat):Int)==0&&(1:Int)==1&&(bH items.size items.size hi-bH items.size 0 lo)==items.size)=true):=by
  grind
 show wpAny _ _ (if(((bH items.size 0 lo:Nat):Int)==0&&(1:Int)==1&&(bH items.size items.size hi-bH items.size 0 lo)==items.size)=true then _ else _) _ _ s;rw[if_neg wZ,Xo];first
  |exact wpAny_bind (wpAny_newObj_type (wpAny_pure ⟨_,rfl,wpAny_pure h⟩) zF)
  |exact wpAny_bind (wpAny_newObj_type (wpAny_bind (wpAny_pure (wpAny_pure ⟨_,rfl,wpAny_pure h⟩))) zF)
  |exact wpAny_bind (wpAny_bind (wpAny_newObj_type (wpAny_pure (wpAny_pure ⟨_,rfl,wpAny_pure h⟩)) zF))
  |exact wpAny_bind (wpAny_bind (wpAny_newObj_type (wpAny_pure ⟨_,rfl,wpAny_pure h⟩) zF))
end
end HT
namespace L2
open PySem PySem.Spec PyProof.Rows
abbrev TO:=St->Hp->(Option Int->Hp->Prop)->Prop
def PO(X:Cx)(e:Option Expr)(t:TO):Prop:=
 ∀(pins:aM) (s:Shared) (σ:St) (H:Hp) (Q:Option Int->Hp->Prop),Inv X pins σ H s->t σ H Q->
  wpAny X.md X.A (evalPart e X.env) (λu s'=>∃o H',Inv X pins σ H' s'/\IsPart u o/\Q o H') X.xe s
def Zt:TO:=λ_ H Q=>Q none H
inductive LG(Q:Option Int->Hp->Prop)(x:V)(H1:Hp):Prop
 |mk (i) (aI:x=.int i) (aX:Q (some i) H1):LG Q x H1
def Zcb(t:TE):TO:=λσ H Q=>t σ H λx H1=>LG Q x H1
theorem intsAre_of{ns:List Int}:∀{us:List Value},Vals (ns.map V.int) us->IntsAre us ns:=by
 induction ns with
 |nil=>intro us r;rw[List.map_nil] at r;cases r;exact .nil
 |cons n ns ih=>
  intro us r;cases r with
  |cons r1 r2=>
   obtain⟨t,e⟩:=r1;subst e;exact .cons n t (ih r2)
section
variable {X:Cx}{e:Expr}{te:TE}{lo hi:Option Expr}{tl th:TO}{pos p2:Pos}
theorem yW:PO X none Zt:=by
 intro pins s σ H Q I h;exact wpAny_pure ⟨none,H,I,.none,h⟩
theorem yX(h:PE X e te):PO X (some e) (Zcb te):=by
 intro pins s σ H Q I hw;refine az (h pins s σ H _ I hw) λu s1 zq=>?_;obtain⟨x,H1,I1,r1,q1⟩:=zq;obtain⟨i,rfl,q⟩:=q1;obtain⟨t,rfl⟩:=r1;exact⟨some i,H1,I1,.int i t,q⟩
def pJ(X:Cx)(r:V->Option Int->Option Int->Hp->VK->Prop):Prop:=
 ∀(pins:aM) (s:Shared) (σ:St) (H:Hp) (x:V) (v vl vu:Value) (lo hi:Option Int) (sl:Addr) (Q:VK),Inv X pins σ H s->RelV x v->s.heap.IsSliceOf sl vl vu .none->IsPart vl lo->IsPart vu hi->r x lo hi H Q->
  ∃T id,typeLookup (.type T) "__getitem__"=pure (some (.builtin id))/\s.TypeIs v T/\wpAny X.md X.A (getItem v (.ref sl)) (EP X pins σ Q) X.xe s
def tSl(r:V->Option Int->Option Int->Hp->VK->Prop)(te:TE)(tl th:TO):TE:=λσ H Q=>te σ H λx H1=>tl σ H1 λl H2=>th σ H2 λu H3=>r x l u H3 Q
theorem yI{r:V->Option Int->Option Int->Hp->VK->Prop}(hr:pJ X r)(he:PE X e te)(hl:PO X lo tl)(hu:PO X hi th):PE X (.Subscript e (.Slice lo hi none p2) pos) (tSl r te tl th):=by
 intro pins s σ H Q I h;refine Subscript_ (az (he pins s σ H _ I h) λv s1 zq=>?_);obtain⟨x,H1,I1,r1,q1⟩:=zq;refine wpAny_Slice (az (hl pins s1 σ H1 _ I1 q1) λvl s2 zq=>?_);obtain⟨l,H2,I2,pl,q2⟩:=zq;refine az (hu pins s2 σ H2 _ I2 q2) λvu s3 zq=>?_;obtain⟨u,H3,I3,pu,q3⟩:=zq;rw[evalPart_none];refine wpAny_pure ?_;have I4:Inv X pins σ H3 {s3 with heap:=s3.heap.push {cls:=.type "slice",data:=.fields #[vl,vu,.none]}}:=I3.kept (t':=s3.toks) λb ob q=>Yc _ q;obtain⟨T,id,hT,ht,hg⟩:=hr pins {s3 with heap:=s3.heap.push {cls:=.type "slice",data:=.fields #[vl,vu,.none]}} σ H3 x v vl vu l u s3.heap.objs.size Q I4 r1 (Heap.IsSliceOf.new ..) pl pu q3;show wpAny X.md X.A (subscriptTail e (.Slice lo hi none p2) v (.ref s3.heap.objs.size)) (EP X pins σ Q) X.xe {s3 with heap:=s3.heap.push {cls:=.type "slice",data:=.fields #[vl,vu,.none]}};exact tail_any (ops:=[.ref s3.heap.objs.size,v]) ht hT hg (by with_unfolding_all rfl)
def iV(xs:List V)(lo hi:Option Int):List V:=(xs.drop (HT.bH xs.length 0 lo)).take (HT.bH xs.length xs.length hi-HT.bH xs.length 0 lo)
theorem CU(xs:List V)(lo hi:Option Int):(iV xs lo hi).length<=xs.length:=by
 unfold iV
 grind
def OI(K:ag):V->Option Int->Option Int->Hp->VK->Prop:=λx lo hi H Q=>∃a xs,x=.ref a/\aE K H a xs/\
 ¬(HT.bH xs.length 0 lo=0/\HT.bH xs.length xs.length hi=xs.length)/\∀p,H p=none->Q (.ref p) (upd H p (.tup (iV xs lo hi)))
theorem ZaP:pJ X (OI X.K):=by
 rintro pins s σ H x v vl vu lo hi sl Q I rx hs pl pu ⟨a,xs,rfl,hx,hw,q⟩;cases rx;obtain⟨ah,r,ht,hz⟩:=I.tuple hx;have hlen:ah.toArray.size=xs.length:=by rw[Yt];exact r.length.symm
 refine⟨"tuple",_,PyProof.Rows.slot_tuple_getitem.lookup,ht.typeIs,HT.Sl ht hs pl pu (by rw[hlen];exact hw) ?_ (by rw[hlen];exact hz)⟩;rw[hlen];refine⟨.ref s.heap.objs.size,_,I.laid (o:=.tup (iV xs lo hi)) (λb ob q=>Yc _ q) (Ye _) ?_,rfl,q _ (I.ay.fresh (Ye _))⟩;exact⟨Yz (CU xs lo hi) hz,_,(r.drop (HT.bH xs.length 0 lo)).take (HT.bH xs.length xs.length hi-HT.bH xs.length 0 lo),lN.new _ _⟩
end
def iY(n:Nat)(i:Int):Option Nat:=if 0<=i then(if i<n then some i.toNat else none) else if-(n:Int)<=i then some (i+n).toNat else none
def dy{α:Type}(xs:List α)(i:Int):Option α:=(iY xs.length i).bind λj=>xs[j]?
theorem LH{n:Nat}{i:Int}{j:Nat}(h:iY n i=some j):seqIndex? i n=some j/\j<n/\-(n:Int)<=i/\i<n:=by
 unfold iY at h;by_cases h0:0<=i
 ·rw[if_pos h0] at h;by_cases h1:i<n
  ·rw[if_pos h1] at h;have e:=Yu h;exact⟨by rw[seqIndex_of h0 h1,e],by omega,by omega,h1⟩
  ·grind
 ·rw[if_neg h0] at h;by_cases h1:-(n:Int)<=i
  ·rw[if_pos h1] at h;have e:=Yu h;exact⟨by rw[seqIndex_neg (by omega) h1,e],by omega,h1,by omega⟩
  ·grind
theorem Ep{α:Type}{xs:List α}{i:Int}{v:α}(h:dy xs i=some v):∃j,seqIndex? i xs.length=some j/\xs[j]?=some v/\j<xs.length/\-(xs.length:Int)<=i/\i<xs.length:=by
 unfold dy at h;cases e:iY xs.length i with
 |none=>grind
 |some j=>
  obtain⟨h1,h2,h3,h4⟩:=LH e
  grind
theorem bY{α:Type}{xs:List α}{j:Nat}{v:α}(h:xs[j]?=some v):dy xs (j:Int)=some v:=by
 have e:iY xs.length (j:Int)=some j:=by
  unfold iY
  grind
 unfold dy;rw[e];exact h
theorem D5{α:Type}(xs:List α)(v:α):dy (xs++[v]) (-1)=some v:=by
 have hl:(xs++[v]).length=xs.length+1:=by simp
 have e:iY (xs++[v]).length (-1)=some xs.length:=by
  unfold iY
  grind
 unfold dy
 grind
def LI(b:Expr):Prop:=∀o i,subscripted b false o i=operate [o,i] (getItem o i)
def hX(X:Cx)(r:R2):Prop:=
 ∀(value slice:Expr) (pins:aM) (s:Shared) (σ:St) (H:Hp) (x y:V) (v u:Value) (Q:VK),Inv X pins σ H s->RelV x v->RelV y u->r x y H Q->
  subscripted slice false v u=operate [v,u] (getItem v u)->wpAny X.md X.A (subscriptTail value slice v u) (EP X pins σ Q) X.xe s
def PR(X:Cx)(id:String)(r:V->List V->Hp->VK->Prop):Prop:=
 ∀(pins:aM) (s:Shared) (σ:St) (H:Hp) (x:V) (xs:List V) (v:Value) (us:List Value) (Q:VK),Inv X pins σ H s->RelV x v->Vals xs us->r x xs H Q->
  wpAny X.md X.A (call (.builtin id) (v::us)) (EP X pins σ Q) X.xe s
section
variable {X:Cx}{a b:Expr}{ta tb:TE}{pos:Pos}
theorem hX.or{r r':R2}(h:hX X r)(h':hX X r'):hX X (λx y H Q=>r x y H Q\/r' x y H Q):=by
 intro value slice pins s σ H x y v u Q I rx ry q hs;rcases q with q|q;·exact h value slice pins s σ H x y v u Q I rx ry q hs
 ·exact h' value slice pins s σ H x y v u Q I rx ry q hs
theorem NW{r:R2}(hr:hX X r)(ha:PE X a ta)(hb:PE X b tb)(hs:LI b):PE X (.Subscript a b pos) (lW r ta tb):=by
 intro pins s σ H Q I h;exact Subscript_ (FJ ha hb I h λv u s2 x y H2 I2 rx ry q=>hr a b pins s2 σ H2 x y v u Q I2 rx ry q (hs _ _))
inductive MQ(K:ag)(x:V)(y:V)(H:Hp)(Q:VK):Prop
 |mk (p xs i v) (aI:x=.ref p) (aX:y=.int i) (bu:aj K H p xs) (bW:dy xs i=some v) (dq:Q v H):MQ K x y H Q
def zW(K:ag):R2:=λx y H Q=>MQ K x y H Q
inductive MR(K:ag)(x:V)(y:V)(H:Hp)(Q:VK):Prop
 |mk (p xs i v) (aI:x=.ref p) (aX:y=.int i) (bu:aE K H p xs) (bW:dy xs i=some v) (dq:Q v H):MR K x y H Q
def zX(K:ag):R2:=λx y H Q=>MR K x y H Q
inductive MS(x:V)(y:V)(H:Hp)(Q:VK):Prop
 |mk (z i c) (aI:x=.str z) (aX:y=.int i) (bu:z.length<=sizeLine) (bW:dy z.cps.toList i=some c) (dq:Q (.str ⟨#[c]⟩) H):MS x y H Q
def OJ:R2:=λx y H Q=>MS x y H Q
theorem Es:hX X (zW X.K):=by
 intro value slice pins s σ H x y v u Q I rx ry h hs;obtain⟨p,xs,i,z,rfl,rfl,hq,he,q⟩:=h;cases rx;obtain⟨t,rfl⟩:=ry;obtain⟨ah,r,pl,hz⟩:=I.list hq;obtain⟨j,h1,h2,h3,h4,h5⟩:=Ep he;obtain⟨w,ew,iF⟩:=r.get h2;have hl:=r.length;have hn:=qr;have fin:EP X pins σ Q w s:=⟨z,H,I,iF,q⟩;by_cases h0:0<=i
 ·have hj:i.toNat=j:=by
   rw[seqIndex_of h0 h5] at h1;exact Yu h1
  exact item_listR pl.isList h0 (by omega) (by rw[hj];simpa using ew) fin hs
 ·have hj:(i+(ah.toArray.size:Int)).toNat=j:=by
   rw[seqIndex_neg (by omega) h4] at h1
   grind
  exact subscriptTail_builtinR (x:=w) pl.isList.typeIs slot_list_getitem.lookup
   (wpAny_getItem_list_neg pl.isList (by omega) (by rw[Yt]<;>omega) (by omega) (by rw[hj];simpa using ew) ⟨rfl,fin⟩) hs
theorem MT:hX X (zX X.K):=by
 intro value slice pins s σ H x y v u Q I rx ry h hs;obtain⟨p,xs,i,z,rfl,rfl,hq,he,q⟩:=h;cases rx;obtain⟨t,rfl⟩:=ry;obtain⟨ah,r,pl,hz⟩:=I.tuple hq;obtain⟨j,h1,h2,h3,h4,h5⟩:=Ep he;obtain⟨w,ew,iF⟩:=r.get h2;have hn:=qr;exact subscriptTail_builtinR pl.typeIs slot_tuple_getitem.lookup
  (getItem_tuple pl (by omega) (by omega) (by rw[Yt,←r.length];exact h1) (by simpa using ew) ⟨rfl,⟨z,H,I,iF,q⟩⟩) hs
theorem vV:hX X OJ:=by
 intro value slice pins s σ H x y v u Q I rx ry h hs;obtain⟨z,i,c,rfl,rfl,hz,he,q⟩:=h;obtain⟨t,rfl⟩:=rx;obtain⟨t',rfl⟩:=ry;obtain⟨j,h1,h2,h3,h4,h5⟩:=Ep he;have hl:z.cps.toList.length=z.length:=by simp[Str.length]
 rw[hl] at h1 h4 h5;have hn:=qr;exact tail_any (typeIs_str s z t) slot_str_getitem.lookup (getItem_str (by
  rw[(decide_eq_false (by omega)),(decide_eq_false (by omega)),Bool.or_false]) (by rw[h1];simpa using h2) ⟨.str ⟨#[c]⟩,H,I.tok _,⟨_,rfl⟩,q⟩) hs
def Gr(K:ag):R2:=λx y H Q=>zW K x y H Q\/zX K x y H Q\/OJ x y H Q
theorem ZaQ:hX X (Gr X.K):=Es.or (MT.or vV)
theorem U9(ah:List Value)(n j:Nat)(u:Value):Obj.mapSeq (·.setIfInBounds j u) {cls:=.type "list",data:=.seq ah.toArray n}={cls:=.type "list",data:=.seq (ah.set j u).toArray n}:=by
 simp[Obj.mapSeq]
theorem Inv.lst{pins:aM}{σ:St}{H:Hp}{s:Shared}{p:Addr}{xs:List V}(I:Inv X pins σ H s)(h:H p=some (.lst xs)):
  ∃(ah:List Value) (n:Nat),Vals xs ah/\s.heap.get? p=some {cls:=.type "list",data:=.seq ah.toArray n}/\xs.length<=sizeLine:=by
 obtain⟨z,ah,n,r,e⟩:=I.ay p _ h
 grind
theorem Inv.ZaR{pins:aM}{σ:St}{H:Hp}{s:Shared}{p:Addr}{xs ys:List V}{ah its':List Value}{n n':Nat}{f:Obj->Obj}(I:Inv X pins σ H s)(h:H p=some (.lst xs))
  (ho:s.heap.get? p=some {cls:=.type "list",data:=.seq ah.toArray n})(hf:f {cls:=.type "list",data:=.seq ah.toArray n}={cls:=.type "list",data:=.seq its'.toArray n'})(r:Vals ys its')(hz:ys.length<=sizeLine)(t:Nat):
  Inv X pins σ (upd H p (.lst ys)) {s with heap:=s.heap.update p f,toks:=t}:=by
 have e:(s.heap.update p f).get? p=some {cls:=.type "list",data:=.seq its'.toArray n'}:=by
  rw[Ww f ho (by rw[hf]<;>rfl),hf]
 refine I.write (x:=p) (e:=p) (by rw[h];trivial) (.inl rfl) (λb u hb q=>(Wa _ _ (Ne.symm hb)).trans q) ⟨_,e⟩ ?_;exact⟨hz,its',n',r,e⟩
def Zcc:V->V->V->Hp->(Hp->Prop)->Prop:=λo i v H Q=>∃p xs k j,o=.ref p/\i=.int k/\H p=some (.lst xs)/\iY xs.length k=some j/\Q (upd H p (.lst (xs.set j v)))
theorem set_list:qQ X Zcc:=by
 rintro pins s σ H o i v ov iv u Q I ro ri rv ⟨p,xs,k,j,rfl,rfl,hp,hj,q⟩;cases ro;obtain⟨t,rfl⟩:=ri;obtain⟨ah,n,r,ho,hz⟩:=I.lst hp;obtain⟨h1,h2,h3,h4⟩:=LH hj;have hl:=r.length;have hn:=qr;have I':Inv X pins σ (upd H p (.lst (xs.set j v))) {s with heap:=s.heap.update p (Obj.mapSeq (·.setIfInBounds j u))}:=
  I.ZaR hp ho (U9 ah n j u) (r.set rv j) (by rw[W3];exact hz) s.toks
 by_cases h0:0<=k
 ·have hk:k.toNat=j:=by
   rw[seqIndex_of h0 h4] at h1
   grind
  exact PySem.W.ki_setAt ho h0 (by omega) (by rw[Yt,←hl];exact h4) (by rw[hk];exact⟨_,I',q⟩)
 ·have hk:(k+(ah.toArray.size:Int)).toNat=j:=by
   rw[seqIndex_neg (by omega) h3] at h1
   grind
  exact PySem.W.ki_setBack ho (by omega) (by rw[Yt,←hl];exact h3) (by omega) (by rw[hk];exact⟨_,I',q⟩)
theorem TQ(lo hi:Option Int)(n:Nat):(sliceBounds lo hi none n).1=((HT.bH n 0 lo:Nat):Int)/\(sliceBounds lo hi none n).2.1=((HT.bH n n hi:Nat):Int)/\(sliceBounds lo hi none n).2.2=1:=by
 refine⟨?_,?_,rfl⟩
 ·cases lo with
  |none=>rfl
  |some i=>
   simp only[sliceBounds,HT.bH]
   grind
 ·cases hi with
  |none=>rfl
  |some i=>
   simp only[sliceBounds,HT.bH]
   grind
theorem Tc(ah:List Value)(lo hi:Option Int):slicePick ah.toArray lo hi none=((ah.drop (HT.bH ah.length 0 lo)).take (HT.bH ah.length ah.length hi-HT.bH ah.length 0 lo)).toArray:=by
 obtain⟨h1,h2,h3⟩:=TQ lo hi ah.toArray.size;unfold slicePick;rw[h1,h2,h3];simp only[sliceRange_one,pick_run]<;>rfl
def Zc8(K:ag):V->Option Int->Option Int->Hp->VK->Prop:=λx lo hi H Q=>∃a xs,x=.ref a/\aj K H a xs/\∀p,H p=none->Q (.ref p) (upd H p (.lst (iV xs lo hi)))
theorem Zu:pJ X (Zc8 X.K):=by
 rintro pins s σ H x v vl vu lo hi sl Q I rx hs pl pu ⟨a,xs,rfl,hx,q⟩;cases rx;obtain⟨ah,r,ht,hz⟩:=I.list hx;have hlen:=r.length;refine⟨"list",_,slot_list_getitem.lookup,ht.isList.typeIs,wpAny_getItem_list_slice ht.isList hs pl pu .none (by simp) ?_ (by rw[Yt]<;>omega)⟩;rw[Tc,←hlen];refine⟨.ref s.heap.objs.size,_,I.laid (o:=.lst (iV xs lo hi)) (λb ob q=>Yc _ q) (Ye _) ?_,rfl,q _ (I.ay.fresh (Ye _))⟩;exact⟨Yz (CU xs lo hi) hz,_,0,(r.drop (HT.bH xs.length 0 lo)).take (HT.bH xs.length xs.length hi-HT.bH xs.length 0 lo),Yn _ rfl⟩
def ij:V->Bool
 |.aA=>true
 |.bl _=>true
 |.int _=>true
 |.str _=>true
 |_=>false
def iZ:V->V->Bool
 |.aA,.aA=>true
 |.bl a,.bl b=>a==b
 |.bl a,.int b=>(if a then 1 else 0)==b
 |.int a,.bl b=>a==(if b then 1 else 0)
 |.int a,.int b=>a==b
 |.str a,.str b=>a==b
 |_,_=>false
theorem MU{A:Around}{s:Shared}{y x:V}{u v:Value}(ry:RelV y u)(rx:RelV x v)(fy:ij y=true)(fx:ij x=true):SeqAt.EqAt A s u v (iZ y x):=by
 cases y with
 |aA=>
  cases ry;cases x with
  |aA=>cases rx;exact SeqAt.EqAt.same _
  |bl b=>cases rx;exact SeqAt.EqAt.none_bool b
  |int b=>obtain⟨t,rfl⟩:=rx;exact SeqAt.EqAt.none_int b t
  |str b=>obtain⟨t,rfl⟩:=rx;exact SeqAt.EqAt.none_str b t
  |_=>exact absurd (show false=true from fx) Yf
 |bl a=>
  cases ry;cases x with
  |aA=>cases rx;exact SeqAt.EqAt.bool_none a
  |bl b=>cases rx;exact SeqAt.EqAt.bool_bool a b
  |int b=>obtain⟨t,rfl⟩:=rx;exact SeqAt.EqAt.bool_int a b t
  |str b=>obtain⟨t,rfl⟩:=rx;exact SeqAt.EqAt.bool_str a b t
  |_=>exact absurd (show false=true from fx) Yf
 |int a=>
  obtain⟨t',rfl⟩:=ry;cases x with
  |aA=>cases rx;exact SeqAt.EqAt.int_none a t'
  |bl b=>cases rx;exact SeqAt.EqAt.int_bool a t' b
  |int b=>obtain⟨t,rfl⟩:=rx;exact SeqAt.EqAt.int_int a t' b t
  |str b=>obtain⟨t,rfl⟩:=rx;exact SeqAt.EqAt.int_str a t' b t
  |_=>exact absurd (show false=true from fx) Yf
 |str a=>
  obtain⟨t',rfl⟩:=ry;cases x with
  |aA=>cases rx;exact SeqAt.EqAt.str_none a t'
  |bl b=>cases rx;exact SeqAt.EqAt.str_bool a t' b
  |int b=>obtain⟨t,rfl⟩:=rx;exact SeqAt.EqAt.str_int a t' b t
  |str b=>obtain⟨t,rfl⟩:=rx;exact SeqAt.EqAt.str_str a t' b t
  |_=>exact absurd (show false=true from fx) Yf
 |_=>exact absurd (show false=true from fy) Yf
def gL(x:V)(u:Value):Bool:=match u with
 |.none=>iZ .aA x
 |.bool b=>iZ (.bl b) x
 |.int i _=>iZ (.int i) x
 |.str z _=>iZ (.str z) x
 |_=>false
theorem MV{x y:V}{u:Value}(r:RelV y u)(f:ij y=true):gL x u=iZ y x:=by
 cases y with
 |aA=>cases r;rfl
 |bl b=>cases r;rfl
 |int i=>obtain⟨t,rfl⟩:=r;rfl
 |str z=>obtain⟨t,rfl⟩:=r;rfl
 |_=>exact absurd (show false=true from f) Yf
theorem vK{x:V}:∀{xs:List V} {us:List Value},Vals xs us->xs.all ij=true->us.any (gL x)=xs.any λy=>iZ y x
 |_,_,.nil,_=>rfl
 |y::xs,u::us,.cons r t,f=>by
  rw[Jf,Jg] at f;rw[Jv,Jv,MV r f.1,vK t f.2]
theorem vH{A:Around}{s:Shared}{x:V}{v:Value}(rx:RelV x v)(fx:ij x=true):∀{xs:List V} {us:List Value},Vals xs us->xs.all ij=true->∀u∈us,SeqAt.EqAt A s u v (gL x u):=by
 intro xs us h;induction h with
 |nil=>intro _ u hu;cases hu
 |cons r t ih=>
  intro f u' hu;rw[Jf,Jg] at f;rcases Yp.mp hu with rfl|hu;·rw[MV r f.1];exact MU r rx f.1 fx
  ·exact ih f.2 u' hu
def dY(x:V)(xs:List V):Bool:=xs.any λy=>iZ y x
def w8(K:ag)(neg:Bool):R2:=λx y H Q=>∃p xs,y=.ref p/\(aj K H p xs\/aE K H p xs)/\ij x=true/\xs.all ij=true/\Q (.bl (if neg then !dY x xs else dY x xs)) H
theorem VX:cD X (compareOp .In) (w8 X.K false):=by
 rintro pins s σ H x y v u Q I rx ry ⟨p,xs,rfl,hq,fx,fs,q⟩;cases ry;rcases hq with hq|hq
 ·obtain⟨ah,r,pl,hz⟩:=I.list hq;refine SeqAt.in_listAt (gL x) pl.isList (λw hw=>vH rx fx r fs w (by simpa using hw)) ⟨.bl _,H,I,rfl,?_⟩;rw[show ah.toArray.any (gL x)=ah.any (gL x) by simp,vK r fs];exact q
 ·obtain⟨ah,r,pl,hz⟩:=I.tuple hq;refine SeqAt.in_tupleAt (gL x) pl (λw hw=>vH rx fx r fs w (by simpa using hw)) ⟨.bl _,H,I,rfl,?_⟩;rw[show ah.toArray.any (gL x)=ah.any (gL x) by simp,vK r fs];exact q
theorem TR:cD X (compareOp .NotIn) (w8 X.K true):=by
 rintro pins s σ H x y v u Q I rx ry ⟨p,xs,rfl,hq,fx,fs,q⟩;cases ry;rcases hq with hq|hq
 ·obtain⟨ah,r,pl,hz⟩:=I.list hq;refine SeqAt.notIn_listAt (gL x) pl.isList (λw hw=>vH rx fx r fs w (by simpa using hw)) ⟨.bl _,H,I,rfl,?_⟩;rw[show ah.toArray.any (gL x)=ah.any (gL x) by simp,vK r fs];exact q
 ·obtain⟨ah,r,pl,hz⟩:=I.tuple hq;refine SeqAt.notIn_tupleAt (gL x) pl (λw hw=>vH rx fx r fs w (by simpa using hw)) ⟨.bl _,H,I,rfl,?_⟩;rw[show ah.toArray.any (gL x)=ah.any (gL x) by simp,vK r fs];exact q
theorem Ik:cU X (.builtin "len") (λxs H Q=>∃p ys,xs=[.ref p]/\(aj X.K H p ys\/aE X.K H p ys)/\Q (.int ys.length) H):=by
 rintro pins s σ H xs us Q I r ⟨p,ys,rfl,hq,q⟩;obtain⟨u,rfl,rx⟩:=vals1 r;cases rx;have hn:=qr;rcases hq with hq|hq
 ·obtain⟨ah,r',pl,hz⟩:=I.list hq;have hlen:=r'.length;exact Calls.call_len_list pl.isList (by simp only[Yt]<;>omega) ⟨.int ys.length,H,I.tok _,⟨s.toks+1,by rw[Yt,hlen]⟩,q⟩
 ·obtain⟨ah,r',pl,hz⟩:=I.tuple hq;have hlen:=r'.length;exact len_tuple pl (by simp only[Yt]<;>omega) ⟨.int ys.length,H,I.tok _,⟨s.toks+1,by rw[Yt,hlen]⟩,q⟩
theorem TU:cU X (.builtin "len") (λxs H Q=>∃z,xs=[.str z]/\z.length<=sizeLine/\Q (.int z.length) H):=by
 rintro pins s σ H xs us Q I r ⟨z,rfl,hz,q⟩;obtain⟨u,rfl,t,rfl⟩:=vals1 r;have hn:=qr;exact len_str (by omega) ⟨.int z.length,H,I.tok _,⟨_,rfl⟩,q⟩
theorem TV:cU X (.type "list") (λxs H Q=>∃p ys,xs=[.ref p]/\(aj X.K H p ys\/aE X.K H p ys)/\∀l,H l=none->Q (.ref l) (upd H l (.lst ys))):=by
 rintro pins s σ H xs us Q I r ⟨p,ys,rfl,hq,q⟩;obtain⟨u,rfl,rx⟩:=vals1 r;cases rx;have fin:∀(ah:List Value),Vals ys ah->ys.length<=sizeLine->∀(h':Heap) (c':Nat),(∀b o',s.heap.get? b=some o'->h'.get? b=some o')->
   h'.get? s.heap.objs.size=some {cls:=.type "list",dict:=none,data:=.seq ah.toArray c',slots:=#[]}->EP X pins σ Q (.ref s.heap.objs.size) {s with heap:=h'}:=λah r' hz h' c' kp e=>
  ⟨.ref s.heap.objs.size,_,I.laid kp (Ye _) (show cz X.prog X.w _ h' _ (.lst ys) from⟨hz,ah,c',r',e⟩),rfl,q _ (I.ay.fresh (Ye _))⟩
 rcases hq with hq|hq
 ·obtain⟨ah,r',pl,hz⟩:=I.list hq;have hlen:=r'.length;obtain⟨o,ho,hc,n,hd⟩:=pl.isList;exact call_list_seq p (.inl rfl) ho hc hd (λh' c' kp e=>fin ah r' hz h' c' kp e) (by simp only[Yt]<;>omega)
 ·obtain⟨ah,r',pl,hz⟩:=I.tuple hq;have hlen:=r'.length;obtain⟨o,ho,hc,n,hd⟩:=pl;exact call_list_seq p (.inr rfl) ho hc hd (λh' c' kp e=>fin ah r' hz h' c' kp e) (by simp only[Yt]<;>omega)
theorem Ib:cU X (.type "tuple") (λxs H Q=>∃p ys,xs=[.ref p]/\((aj X.K H p ys/\∀l,H l=none->Q (.ref l) (upd H l (.tup ys)))\/(aE X.K H p ys/\Q (.ref p) H))):=by
 rintro pins s σ H xs us Q I r ⟨p,ys,rfl,h⟩;obtain⟨u,rfl,rx⟩:=vals1 r;cases rx;rcases h with⟨hq,q⟩|⟨hq,q⟩
 ·obtain⟨ah,r',pl,hz⟩:=I.list hq;have hlen:=r'.length;refine call_tuple_list pl.isList (λh' kp=>?_) (by simp only[Yt]<;>omega);have I1:=I.kept (t':=s.toks) kp;have I2:Inv X pins σ (upd H h'.objs.size (.tup ys)) {s with heap:=h'.push {cls:=.type "tuple",data:=.seq ah.toArray}}:=
   I1.laid (λb o e=>Yc _ e) (Ye _) (show cz X.prog X.w _ _ _ (.tup ys) from⟨hz,ah,r',lN.new _ _⟩)
  exact⟨.ref h'.objs.size,_,I2,rfl,q _ (I1.ay.fresh (Ye _))⟩
 ·obtain⟨ah,r',pl,hz⟩:=I.tuple hq;exact call_tuple_same pl ⟨.ref p,H,I,rfl,q⟩
def Gs(K:ag)(T:String)(x:V)(H:Hp):Prop:=match x with
 |.str _=>T="str"
 |.int _=>T="int"
 |.ref p=>(T="list"/\∃xs,aj K H p xs)\/(T="tuple"/\∃o,K.lookup p=some o/\o.cls=.type "tuple"/\o.dict=none)\/
   (T="dict"/\((∃kvs,H p=some (.dK kvs))\/∃kvs,H p=some (.dT kvs)))\/(T="set"/\∃S n,H p=some (.set S n))
 |_=>False
theorem MW{pins:aM}{σ:St}{H:Hp}{s:Shared}{T:String}{x:V}{v:Value}(I:Inv X pins σ H s)(r:RelV x v)(ty:Gs X.K T x H):
  s.TypeIs v T/\∀a,v=.ref a->∃ob,s.heap.get? a=some ob/\ob.dict=none:=by
 cases x with
 |str z=>
  obtain⟨t,rfl⟩:=r;cases(show T="str" from ty);exact⟨typeIs_str s z t,λ_ e=>nomatch e⟩
 |int i=>
  obtain⟨t,rfl⟩:=r;cases(show T="int" from ty);exact⟨typeIs_int s i t,λ_ e=>nomatch e⟩
 |ref p=>
  cases r;rcases ty with⟨rfl,xs,hq⟩|⟨rfl,o,hk,hc,hd⟩|⟨rfl,hk⟩|⟨rfl,S,n,hk⟩
  ·obtain⟨ah,_,pl,_⟩:=I.list hq;refine⟨pl.isList.typeIs,λa e=>?_⟩;obtain⟨o,n,e,c,hd,_⟩:=pl
   grind
  ·refine⟨⟨o,I.bL p o hk,hc⟩,λa e=>?_⟩;cases e;exact⟨o,I.bL _ o hk,hd⟩
  ·have z:∃o,s.heap.get? p=some o/\o.ExactDict:=by
    rcases hk with⟨kvs,hk⟩|⟨kvs,hk⟩
    ·obtain⟨_,_,_,_,o,_,_,e,ex,_⟩:=I.ay p _ hk;exact⟨o,e,ex⟩
    ·obtain⟨_,_,_,_,o,_,_,e,ex,_⟩:=I.ay p _ hk;exact⟨o,e,ex⟩
   obtain⟨o,e,ex⟩:=z;refine⟨⟨o,e,ex.1⟩,λa e2=>?_⟩;cases e2;exact⟨o,e,ex.2.1⟩
  ·obtain⟨o,_,_,_,e,ex,_⟩:=I.ay p _ hk;refine⟨⟨o,e,ex.1⟩,λa e2=>?_⟩;cases e2;exact⟨o,e,ex.2.1⟩
 |_=>exact False.elim ty
def FQ(K:ag)(T:String)(r:V->List V->Hp->VK->Prop)(to:TE):TE:=λσ H Q=>to σ H λx H1=>Gs K T x H1/\r x [] H1 Q
def Gu(K:ag)(T:String)(r:V->List V->Hp->VK->Prop)(to:TE)(t:TA):TE:=λσ H Q=>to σ H λx H1=>Gs K T x H1/\t σ H1 λxs H2=>r x xs H2 Q
variable {o e:Expr}{es:List Expr}{to:TE}{t:TA}{name:Str}{apos cF:Pos}{T id:String}{r:V->List V->Hp->VK->Prop}
theorem ZaS(pa:PlainAttrs T)(slot:Slot T name id)(Gv:typeOf (.builtin id)=pure (.type "method_descriptor"))(hm:PR X id r)(ho:PE X o to)
  (qD:attributeBase o name X.env (eval o X.env)=eval o X.env:=by rfl)(qE:(apos.endLine==cF.line)=true:=by rfl):PE X (.Call (.Attribute o name apos) [] [] cF) (FQ X.K T r to):=by
 intro pins s σ H Q I h;refine wpAny_Call_method0_late qD qE (az (ho pins s σ H _ I h) λv s1 zq=>?_);obtain⟨x,H1,I1,r1,ty,q1⟩:=zq;obtain⟨h1,h2⟩:=MW I1 r1 ty;exact⟨T,id,pa,slot,Gv,h1,h2,Calls.callWith_builtin rfl (PySem.evalArgs_none (hm pins s1 σ H1 x [] v [] Q I1 r1 .nil q1))⟩
theorem oV(pa:PlainAttrs T)(slot:Slot T name id)(Gv:typeOf (.builtin id)=pure (.type "method_descriptor"))(hm:PR X id r)(ho:PE X o to)(ha:PA X (e::es) t)
  (qD:attributeBase o name X.env (eval o X.env)=eval o X.env:=by rfl)
  (FR:((backTo cF (starEach (e::es) X.env)).all (λx=>!x.1)&&(backToKw cF (keywordEach [] X.env)).all (λx=>x.1.isSome)
   &&decide ((e::es).length+([]:List Keyword).length+(if([]:List Keyword).isEmpty then 0 else 1)<30))=true:=by rfl)
  (qE:(apos.endLine==cF.line)=true:=by rfl)(hs:gJ X e es:=by rfl)(ZaT:hU X cF es:=by rfl):
  PE X (.Call (.Attribute o name apos) (e::es) [] cF) (Gu X.K T r to t):=by
 intro pins s σ H Q I h;refine wpAny_Call_method_late qD FR qE rfl (az (ho pins s σ H _ I h) λv s1 zq=>?_);obtain⟨x,H1,I1,r1,ty,q1⟩:=zq;obtain⟨h1,h2⟩:=MW I1 r1 ty;refine⟨T,id,pa,slot,Gv,h1,h2,?_⟩;have hA:=ha cF pins s1 σ H1 _ I1 q1;rw[hs] at hA⊢;exact Calls.callWith_builtin (by show(false||(backTo cF (starEach es X.env)).any (·.1))=false;rw[ZaT]<;>rfl) (Calls.evalArgs_plain (az hA λus s2 ⟨vs,H2,I2,r2,q2⟩=>hm pins s2 σ H2 x vs v us Q I2 r1 r2 q2))
end
def nM(X:Cx)(id:String)(r:V->List V->Hp->VK->Prop):Prop:=
 ∀(pins:aM) (s:Shared) (σ:St) (H:Hp) (x:V) (xs:List V) (v:Value) (us:List Value) (Q:VK),Inv X pins σ H s->RelV x v->Vals xs us->r x xs H Q->
  wpAny X.md X.A (call (.builtin id) (v::us)) (EP X pins σ Q) X.xe s
theorem Vals.one:∀{x:V} {us:List Value},Vals [x] us->∃u,us=[u]/\RelV x u:=by
 intro x us h;cases h with
 |cons r t=>
  cases t;exact⟨_,rfl,r⟩
theorem Vals.zero:∀{us:List Value},Vals [] us->us=[]
 |_,.nil=>rfl
section
variable {X:Cx}{pins:aM}{σ:St}{H:Hp}{s:Shared}{l b:Addr}{xs ys zs:List V}
theorem Inv.FT{ah its':List Value}{n:Nat}{f:Array Value->Array Value}{t':Nat}(I:Inv X pins σ H s)(hH:H l=some (.lst xs))
  (e:s.heap.get? l=some {cls:=.type "list",data:=.seq ah.toArray n})(hf:f ah.toArray=its'.toArray)(hv:Vals ys its')(hz:ys.length<=sizeLine):
  Inv X pins σ (upd H l (.lst ys)) {s with heap:=s.heap.update l (Obj.mapSeq f),toks:=t'}:=by
 have q:=PySem.IsL.update e f;rw[hf] at q;refine I.write (by rw[hH];exact trivial) (.inl rfl) (λb' u hb hu=>(Wa s.heap (Obj.mapSeq f) (Ne.symm hb)).trans hu) ⟨_,q⟩ ?_;exact⟨hz,its',_,hv,q⟩
theorem Inv.Zc9{ah:List Value}{t':Nat}(I:Inv X pins σ H s)(hv:Vals ys ah)(hz:ys.length<=sizeLine):
  Inv X pins σ (upd H s.heap.objs.size (.lst ys)) {s with heap:=s.heap.push {cls:=.type "list",data:=.seq ah.toArray},toks:=t'}:=
 I.laid (λ_ _ q=>Yc _ q) (Ye _) ⟨hz,ah,0,hv,Yn _ rfl⟩
theorem Inv.fresh(I:Inv X pins σ H s):H s.heap.objs.size=none:=I.ay.fresh (Ye _)
theorem Inv.t6(I:Inv X pins σ H s)(hH:H l=some (.lst xs)):xs.length<=sizeLine/\∃(ah:List Value) (n:Nat),Vals xs ah/\xs.length=ah.length/\s.heap.get? l=some {cls:=.type "list",data:=.seq ah.toArray n}:=by
 obtain⟨z,ah,n,r,e⟩:=I.ay l _ hH;exact⟨z,ah,n,r,r.length,e⟩
theorem Xp{n:Nat}(h:n<=sizeLine):Builtin.List.listTooLong n=false:=by
 exact decide_eq_false (by omega)
end
section
variable {X:Cx}
def Zv:V->List V->Hp->VK->Prop:=λx vs H Q=>∃l xs y,x=.ref l/\vs=[y]/\H l=some (.lst xs)/\xs.length<sizeLine/\Q .aA (upd H l (.lst (xs++[y])))
theorem yC:nM X "list.append" Zv:=by
 intro pins s σ H x vs v us Q I rx rv h;obtain⟨l,xs,y,rfl,rfl,hH,hz,q⟩:=h;cases rx;obtain⟨u,rfl,ru⟩:=rv.one;obtain⟨z,ah,n,r,hl,e⟩:=I.t6 hH;refine call_meets F.slot_list_append ⟨_,e,rfl⟩ F.entry_list_append (F.args_list_append_2 _ _) (PySem.list_append l ah.toArray n u (by rw[Yt];omega)) ⟨e,?_⟩;refine⟨.aA,_,I.FT (its':=ah++[u]) hH e (by simp) (r.append (.cons ru .nil)) ?_,rfl,q⟩
 grind
def Zw:V->List V->Hp->VK->Prop:=λx vs H Q=>∃l b xs zs,x=.ref l/\vs=[.ref b]/\H l=some (.lst xs)/\H b=some (.lst zs)/\xs.length+zs.length<=sizeLine/\Q .aA (upd H l (.lst (xs++zs)))
theorem VY:nM X "list.extend" Zw:=by
 rintro pins s σ H x vs v us Q I rx rv ⟨l,b,xs,zs,rfl,rfl,hH,hB,hz,q⟩;cases rx;obtain⟨u,rfl,ru⟩:=rv.one;cases ru;obtain⟨z,ah,n,r,hl,e⟩:=I.t6 hH;obtain⟨z2,iu,n2,r2,rA,e2⟩:=I.t6 hB;have hsz:ah.toArray.size+iu.toArray.size<=sizeLine:=by rw[Yt,Yt];omega
 have Zcd:¬(!ah.toArray.isEmpty&&Builtin.List.listTooLong (ah.toArray.size+iu.toArray.size))=true:=by
  rw[Xp hsz,Bool.and_false]
  grind
 refine call_meets F.slot_list_extend ⟨_,e,rfl⟩ F.entry_list_extend (F.args_list_extend_2 _ _)
  (AutoSeq1.list_extend_list_list_0 l ah.toArray n b iu.toArray n2 Zcd (by rw[Yt];omega) (by omega)) ⟨e,e2,?_⟩
 refine⟨.aA,_,I.FT hH e (by simp) (r.append r2) ?_,rfl,q⟩
 grind
def ZaU:V->List V->Hp->VK->Prop:=λx vs H Q=>∃l xs,x=.ref l/\vs=[]/\H l=some (.lst xs)/\Q .aA (upd H l (.lst []))
theorem Xq:nM X "list.clear" ZaU:=by
 rintro pins s σ H x vs v us Q I rx rv ⟨l,xs,rfl,rfl,hH,q⟩;cases rx;have hus:=rv.zero;subst hus;obtain⟨z,ah,n,r,hl,e⟩:=I.t6 hH;exact call_meets F.slot_list_clear ⟨_,e,rfl⟩ F.entry_list_clear (F.args_list_clear_1 _) (AutoSeq1.list_clear_list_0 l ah.toArray n (by rw[Yt];omega)) ⟨e,⟨.aA,_,I.FT hH e rfl .nil (Yw _),rfl,q⟩⟩
def Zc_:R2:=λx y H Q=>∃l b xs zs,x=.ref l/\y=.ref b/\H l=some (.lst xs)/\H b=some (.lst zs)/\xs.length+zs.length<=sizeLine/\∀p,H p=none->Q (.ref p) (upd H p (.lst (xs++zs)))
theorem ZaV:cD X (binaryOp .Add) Zc_:=by
 rintro pins s σ H x y v u Q I rx ry ⟨l,b,xs,zs,rfl,rfl,hH,hB,hz,q⟩;cases rx;cases ry;obtain⟨z,ah,n,r,hl,e⟩:=I.t6 hH;obtain⟨z2,iu,n2,r2,rA,e2⟩:=I.t6 hB;refine PySem.P.add_list e e2 ?_ (by rw[Yt,Yt];omega);have ea:ah.toArray++iu.toArray=(ah++iu).toArray:=by simp
 rw[ea];exact⟨.ref _,_,I.Zc9 (r.append r2) (by rw[Yl];omega),rfl,q _ I.fresh⟩
end
section
variable {prog:Program}{w:World}{A:Around}{E:aU}{s:Shared}
set_option maxRecDepth 100000 in
end
section
variable {X:Cx}
end
end L2
namespace PU
open PySem PySem.W PySem.Calls PyProof.Rows
theorem SI{P:Params}{h:Heap}:∀(ns:List Int) (vs:List Value),WellAll P h vs (ns.map WData.int)->IntsAre vs ns:=by
 intro ns;induction ns with
 |nil=>
  intro vs w;cases w;exact .nil
 |cons n ns ih=>
  intro vs w;cases w with
  |cons a b=>
   cases a;exact .cons _ _ (ih _ b)
theorem VZ{l:OpenLaw}{n:Nat}(hn:l.most=some n){P:Params}{h:Heap}{args:List WData}{vals:List Value}
  (zY:l.row.toRowW.claim.pre args=true)(Gw:WellAll P h vals args):
  ∃a vs ns,vals=[Value.ref a]/\args=[WData.list (ns.map WData.int)]/\h.get? a=some {cls:=.type "list",data:=.seq vs.toArray}/\IntsAre vs ns/\ns.length<=n:=by
 obtain⟨d,r,rfl,h1,h2⟩:=hasAllW_cons ((pre_splitW zY).1);obtain rfl:=hasAllW_nil h2;obtain⟨xs,rfl,h3⟩:=hasW_list h1;obtain⟨ns,rfl⟩:=items_int h3;have hlen:ns.length<=n:=by
  have h4:(WTm.not (.lt (.lit (.int (n:Int))) (.len (.arg 0)))).holds [] {args:=[.list (ns.map .int)]}=true:=by
   have h4:=(holds_andW ((pre_splitW zY).2)).1;rw[hn] at h4;exact h4
  have h5:=condW_of h4 (w_not (w_lt w_lit (w_len_list (w_arg rfl))))
  grind
 cases Gw with
 |cons w1 w2=>
  cases w2;cases w1 with
  |list ho FU=>exact⟨_,_,ns,rfl,rfl,ho,SI ns _ FU,hlen⟩
theorem V0(l:OpenLaw)(args:List WData):l.row.toRowW.claim.post args (.bool true) args=true:=
 postW_of (X:=(true==true))
  (show WShape.has [] (.bool true) .bool=true by first|rfl|decide|simp[WShape.has])
  (show(WTm.eq .res (.lit (.bool true))).value [] {args:=args,res:=some (.bool true),after:=args}=some (.bool (true==true)) from w_eq_bool (w_res rfl) w_lit) rfl
theorem Us{l:OpenLaw}{n:Nat}{q:Program}{loose:List Str}{XP:(Str->Option Value)->Heap->Prop}{YP:World->Heap->Prop}{d:DefRec}
  (hn:l.most=some n)(w_:d.params.defaults=[])
  (call:∀(w:World) (cQ bo:Shared) (mg mb:aN) (fa:Addr) (o:Obj) (pm cd doc:Value) (a:Addr) (vs:List Value) (ns:List Int),
   Ground q loose [] XP w cQ mg mb bo.heap->YP w bo.heap->
   bo.heap.get? fa=some o->o.data=.func (docDef d.name d.params d.body d.scope pm cd doc)->bo.heap.CodeRec cd d.name->mg d.name=some (.ref fa)->
   bo.heap.get? a=some {cls:=.type "list",data:=.seq vs.toArray}->IntsAre vs ns->ns.length<=n->bo.gens=#[]->
   codeAny (model l.prog w) callerA (.call (.ref fa) ⟨[.ref a],[]⟩) (λr s'=>r=.ok (.ret (.bool true))/\OldK bo.heap s'.heap/\s'.os=bo.os/\AllBare s'.gens) bo):
  WalkO q loose XP YP l.row.toRowW d [] (λf vs=>PySem.call f vs):=by
 intro w cQ bo mg mb G Y fa o pm cd doc dV kV ho hd eU hD xf hg args vals as zY Ze4 hrd Gw hlo;obtain rfl:dV=.none:=Dflts.none hD w_;obtain rfl:kV=.none:=Dflts.noKw hD;obtain⟨a,vs,ns,rfl,rfl,FV,hints,hlen⟩:=VZ hn zY Gw;refine enter_call (codeAny_mono (call w cQ bo mg mb fa o pm cd doc a vs ns G Y ho (fd_plain hd) eU xf FV hints hlen hg) λr s' hq=>?_);obtain⟨rfl,h2,h3,h4⟩:=hq;exact⟨.inl ⟨.bool true,.bool true,[],rfl,λ_=>rfl,.bool true,V0 l _,λ_=>⟨List.Pairwise.nil,λ_ hm=>(nomatch hm)⟩⟩,h2,h3,h4⟩
section
variable {prog:Program}{w:World}{A:Around}{E:aU}{s:Shared}{K:Frag}
end
end PU
namespace L2
open PySem PySem.Spec PyProof.Rows
theorem DL:∀{vs:List Value} {ns:List Int},IntsAre vs ns->Vals (ns.map V.int) vs:=by
 intro vs ns h;induction h with
 |nil=>exact .nil
 |cons n t h ih=>exact .cons ⟨t,rfl⟩ ih
def FW(H:Hp):Prop:=∀b,H b=none\/∃o xs,H b=some (.bN o (.lst xs))
theorem Xr{P:Program}{w:World}{K:ag}{mg mb:aN}{CX:jo}{k:Nat}{fa a:Addr}{fd:FuncData}{x:Str}{sp:Sp}{bo:Shared}{vs:List Value}{ns:List Int}
  (KX:K.In bo.heap)(PV:bo.heap.Ns mainGlobals mg)(hb:bo.heap.Ns builtinsNs mb)(hbb:∀x:Str,x≠"__name__"->mb x=bootBuiltins x)(Zda:bo.heap.NoLimit)(hg:bo.gens=#[])
  (ha:bo.heap.get? a=some {cls:=.type "list",data:=.seq vs.toArray})(hi:IntsAre vs ns)(hl:ns.length<=sizeLine)(hr:bU k callerA)
  (F:∀base:Heap,K.In base->base.Ns mainGlobals mg->aG P w K mg base CX k fa fd [x] sp)(Zce:∀(s:Shared) (u:Value),BindsTo s fd ⟨[u],[]⟩ [(x,u)])
  (jY:∀H:Hp,FW H->aj K H a (ns.map V.int)->sp [.ref a] H (λv _=>v=.bl true) λ_ _ _=>False)
  (Gx:∀H e s',CX [] H bo (λ_ _ _=>False) e s'->False):
  codeAny (model P w) callerA (.call (.ref fa) ⟨[.ref a],[]⟩) (λr s'=>r=.ok (.ret (.bool true))/\OldK bo.heap s'.heap/\s'.os=bo.os/\AllBare s'.gens) bo:=by
 have rv:=DL hi;have Zdb:=hi.length
 --from an abstract heap in ZeX nothing but nH MF may be tracked
 have core:∀H:Hp,FW H->aj K H a (ns.map V.int)->cX P w H bo.heap->(∀b,H b≠none->b=a)->(H a≠none->K.lookup a=none)->
   codeAny (model P w) callerA (.call (.ref fa) ⟨[.ref a],[]⟩) (λr s'=>r=.ok (.ret (.bool true))/\OldK bo.heap s'.heap/\s'.os=bo.os/\AllBare s'.gens) bo:=by
  intro H hO hS ay hA hK;have LJ:∀{b:Addr} {o:Obj},bo.heap.get? b=some o->H b=none->(ny bo.heap H).get? b=some o:=λe n=>Xf e n;have jr:∀{b:Addr} {o:Obj} {es:Array DictEntry} {ep:Nat},bo.heap.get? b=some o->o.data=.dict es ep->H b=none:=λ{b o es ep} e d=>by
   cases q:H b with
   |none=>rfl
   |some u=>
    have e':b=a:=hA b (by rw[q];simp);subst e';rw[ha] at e;cases e;have d':Data.seq vs.toArray _=Data.dict es ep:=d;cases d'
  have Ax:∀{b:Addr} {m:aN},bo.heap.Ns b m->(ny bo.heap H).Ns b m:=λ{b m} ⟨o,es,ep,e,d,r⟩=>⟨o,es,ep,LJ e (jr e d),d,r⟩;have PX:K.In (ny bo.heap H):=λb o e=>LJ (KX b o e) (by
   cases q:H b with
   |none=>rfl
   |some u=>
    have e':b=a:=hA b (by rw[q];simp);subst e';rw[hK (by rw[q];simp)] at e;cases e)
  have hM:Mod K mg (ny bo.heap H):=⟨PX,Ax PV,⟨mb,Ax hb,hbb⟩,let⟨mc,h1,h2⟩:=Zda;⟨mc,Ax h1,h2⟩⟩;have e0:qT P w K mg (ny bo.heap H) callerA [] bo H:=⟨rfl,hM,λb o e=>Zm e,Gq (VQ _ _),trivial,λb hb=>absurd (show b∈([]:List Addr) from hb) (by simp),ay,.of_eq hg⟩;refine codeAny_mono ((F _ PX (Ax PV)).run callerA [] bo H ⟨[.ref a],[]⟩ [.ref a] [.ref a] _ _ hr e0 (Zce bo (.ref a)) (.cons rfl .nil) (jY H hO hS)) λr s' h=>?_;cases r with
  |error e=>exact(Gx H e s' h).elim
  |ok fl=>
   cases fl with
   |next=>exact False.elim h
   |brk=>exact False.elim h
   |cont=>exact False.elim h
   |ret u=>
    obtain⟨v,H',os,bare,un,FX,r',q⟩:=h;have q':v=.bl true:=q;subst q';obtain rfl:u=Value.bool true:=r';refine⟨rfl,OldK.of_keep λb o e=>?_,os,bare⟩;cases q:H b with
    |none=>exact un.keep b o e q (by intro z;exact absurd (show b∈([]:List Addr) from z) (by simp)) (by simp)
    |some u=>
     rcases hO b with z|⟨ob,xs,z⟩;·rw[q] at z;cases z
     ·have z2:=un.gH b ob _ z;obtain⟨e1,_⟩:=ay b _ z;obtain⟨e2,_⟩:=FX b _ z2;rw[e] at e1;cases e1;exact e2
 cases hk:K.lookup a with
 |some o=>
  --nH MF is one of nH ZeP own objects
  have e:=KX a o hk;rw[ha] at e;cases e;refine core (λ_=>none) (λ_=>.inl rfl) (.inr ⟨_,vs.toArray,_,hk,rfl,rfl,rfl,by rw[Yt,Zdb];exact hl,by simpa using rv⟩) (λb u z=>by have z':(none:Option HO)=some u:=z;cases z') (λb z=>absurd rfl z) λz=>absurd rfl z
 |none=>
  refine core (λb=>if b=a then some (.bN {cls:=.type "list",data:=.seq vs.toArray} (.lst (ns.map V.int))) else none) (λb=>?_) (.inl (.inr ⟨{cls:=.type "list",data:=.seq vs.toArray},if_pos rfl⟩)) (λb u z=>?_) (λb z=>?_) λ_=>hk
  ·by_cases hb:b=a;·exact .inr ⟨_,_,if_pos hb⟩
   ·exact .inl (if_neg hb)
  ·by_cases hb:b=a
   ·have z':=(if_pos hb).symm.trans z;cases z';subst hb;exact⟨ha,by rw[Ya];exact hl,vs,_,rv,ha⟩
   ·have z':=(if_neg hb).symm.trans z;cases z'
  ·by_cases hb:b=a;·exact hb
   ·exact absurd (if_neg hb) z
theorem Zx{l:PySem.W.OpenLaw}{n k:Nat}{q:Program}{loose:List Str}{XP:(Str->Option Value)->Heap->Prop}{YP:World->Heap->Prop}{d:DefRec}{K:Params->ag}{CX:World->jo}{sp:World->Sp}{x:Str}
  (hn:l.most=some n)(rq:n<=sizeLine)(w_:d.params.defaults=[])(hr:bU k callerA)
  (hY:∀(w:World) (h:Heap),YP w h->(K w.params).In h)
  (F:∀(w:World) (mg:aN) (fa:Addr) (h:Heap),(K w.params).In h->h.Ns mainGlobals mg->mg d.name=some (.ref fa)->
   ∃fd:FuncData,(∀(s:Shared) (u:Value),BindsTo s fd ⟨[u],[]⟩ [(x,u)])/\
    ∀base:Heap,(K w.params).In base->base.Ns mainGlobals mg->aG l.prog w (K w.params) mg base (CX w) k fa fd [x] (sp w))
  (jY:∀(w:World) (H:Hp) (a:Addr) (ns:List Int),ns.length<=n->FW H->aj (K w.params) H a (ns.map V.int)->sp w [.ref a] H (λv _=>v=.bl true) λ_ _ _=>False)
  (Gx:∀(w:World) (H:Hp) (s:Shared) (e:Value) (s':Shared),CX w [] H s (λ_ _ _=>False) e s'->False):
  PySem.W.WalkO q loose XP YP l.row.toRowW d [] (λf vs=>PySem.call f vs):=by
 refine PU.Us hn w_ λw cQ bo mg mb fa o pm cd doc a vs ns G Y ho hd eU xf FV hints hlen hg=>?_;have KX:=hY w _ Y;obtain⟨fd,hb,hF⟩:=F w mg fa _ KX G.T.g xf;exact Xr KX G.T.g G.T.b G.T.builtins G.T.nolimit hg FV hints (Yz hlen rq) hr hF hb (λH hO hS=>jY w H a ns hlen hO hS) λH e s'=>Gx w H bo e s'
def inClass(s:Stmt)(j:Nat):Stmt:=match s with
 |.ClassDef _ _ _ body _ _ _ _ _ _ _=>body.getD j (.Pass ⟨0,0,0,0⟩)
 |_=>.Pass ⟨0,0,0,0⟩
def iO(s:Stmt):Arguments:=match s with
 |.FunctionDef _ a _ _ _ _ _ _ _ _=>a
 |_=>{posonlyargs:=[],args:=[],vararg:=none,kwonlyargs:=[],kw_defaults:=[],kwarg:=none,defaults:=[]}
def fQ(s:Stmt):List Stmt:=match s with
 |.FunctionDef _ _ b _ _ _ _ _ _ _=>b
 |_=>[]
def aJ(s:Stmt):Scope:=match s with
 |.FunctionDef _ _ _ _ _ _ sc _ _ _=>sc
 |_=>{kind:=.function,names:=[],isGenerator:=false,isCoroutine:=false}
abbrev aK:jo:=λ_ _ _ _ _ _=>False
abbrev E0:XK:=λ_ _ _=>False
theorem tV{X:Cx}:Passes aK X E0:=λ_ _ _ _ _ _ _ h=>h.elim
structure aL(K:ag)(x qual:Str)(st:Stmt)(f:Addr)(fd:FuncData):Prop where
 ex:∃(oc:Value) (od:Option Addr) (kV doc pm:Value) (an:Option Addr) (bh ct:Value) (hV:Array (Option Value)),
  fd=fnOf x qual (iO st) (fQ st) (aJ st) .none kV doc pm an bh ct/\K.lookup f=some ⟨oc,od,.func fd,hV⟩/\codeIn K bh qual=true
 kp:keepIn K (.ref f)=true
section
variable {P:Program}{w:World}{K:ag}{mg:aN}{base:Heap}
theorem aL.ok{x qual:Str}{st:Stmt}{f:Addr}{fd:FuncData}{N ps:List Str}{k:Nat}{sp:Sp}(F:aL K x qual st f fd)(S:aS N ps (aJ st))(len:∀vs H Q E,sp vs H Q E->vs.length=ps.length)
  (ni:∀(bh:Value) (A:Around) (outer:List Env) (s:Shared) (H:Hp) (vs:List V) (Q:VK) (E:XK),bU k (A.deeper (envOfC qual (aJ st) s.heap.objs.size f bh))->sp vs H Q E->
   ∃t,eN (ji aK P w K mg base N qual (aJ st) f bh A outer s H E).jX (fQ st) t/\t {nx:=λ_ H'=>Q .aA H',rt:=Q} (start N vs) H):aG P w K mg base aK (k+1) f fd ps sp:=by
 obtain⟨oc,od,kV,doc,pm,an,bh,ct,hV,rfl,lk,eU⟩:=F.ex;refine Fn lk eU S len λA outer s H vs Q E hr jY=>?_;obtain⟨t,h,q⟩:=ni bh A outer s H vs Q E hr jY;exact⟨t,h.jX,q⟩
theorem aL.binds{x qual:Str}{st:Stmt}{f:Addr}{fd:FuncData}{ps:List Str}(F:aL K x qual st f fd)
  (h:∀(kV doc pm:Value) (an:Option Addr) (bh ct:Value) (us:List Value),us.length=ps.length->bindArgs (fnOf x qual (iO st) (fQ st) (aJ st) .none kV doc pm an bh ct) ⟨us,[]⟩=pure (ps.zip us)):Binds K fd ps []:=by
 obtain⟨oc,od,kV,doc,pm,an,bh,ct,hV,rfl,lk,eU⟩:=F.ex;exact .all (h kV doc pm an bh ct)
theorem qt{x qual:Str}{st:Stmt}{f:Addr}{oc:Value}{od an:Option Addr}{hV:Array (Option Value)}{kV doc pm bh ct:Value}(l:K.lookup f=some ⟨oc,od,.func (fnOf x qual (iO st) (fQ st) (aJ st) .none kV doc pm an bh ct),hV⟩)
  (c:codeIn K bh qual=true)(k:keepIn K (.ref f)=true):aL K x qual st f (fnOf x qual (iO st) (fQ st) (aJ st) .none kV doc pm an bh ct):=⟨⟨oc,od,kV,doc,pm,an,bh,ct,hV,rfl,l,c⟩,k⟩
end
theorem bT{A:Around}{k:Nat}(hr:bU k A):A.units+1<cLine:=W8 (Nat.add_le_add_left (by decide:1<=64) _) hr.units
theorem mK{n:Nat}(h:n<=1000):n<sizeLine:=W8 h (by decide)
section
variable {X:Cx}
theorem pv(i:Nat){x:Str}{pos:Pos}(hN:X.N[i]?=some x:=by rfl)(hv:rb X.env.scope x:=by first|exact Or.inl rfl|exact Or.inr (Or.inl rfl)|exact Or.inr (Or.inr rfl))(hd:(x==("__debug__":Str))=false:=by decide)
  (eU:(x==("__classdict__":Str))=false:=by decide):PE X (.Name x pos) (nA i):=ZaE hN hv hd eU
end
theorem cR{A B:Prop}(h:B):if false=true then A else B:=by
 grind
theorem dk{A B:Prop}(h:A):if true=true then A else B:=by
 grind
theorem bb{c A B:Prop}[Decidable c](h1:c->A)(h2:¬c->B):if c then A else B:=by
 grind
theorem tX{c A B:Prop}[Decidable c](hc:c)(h:B):if(!decide c)=true then A else B:=by
 grind
def au(H H':Hp):Prop:=∀b o,H b=some o->H' b=some o
theorem au.refl(H:Hp):au H H:=λ_ _ h=>h
theorem au.trans{H H1 H2:Hp}(a:au H H1)(b:au H1 H2):au H H2:=λc o h=>b c o (a c o h)
theorem au.free{H H':Hp}(e:au H H'){l:Addr}(h:H' l=Option.none):H l=Option.none:=by
 cases q:H l with
 |none=>rfl
 |some o=>
  rw[e l o q] at h;cases h
theorem au.seq{K:ag}{H H':Hp}{a:Addr}{xs:List V}(e:au H H')(h:aj K H a xs):aj K H' a xs:=by
 rcases h with(h|⟨o,h⟩)|h;·exact .inl (.inl (e _ _ h))
 ·exact .inl (.inr ⟨o,e _ _ h⟩)
 ·exact .inr h
def oI(cells:List (Str×Addr)):List (Str×Addr)->Prop
 |[]=>True
 |p::r=>cells.lookup p.1=some p.2/\oI cells r
theorem oI.look:∀{cl:List (Str×Addr)},oI cells cl->∀(x:Str) (c:Addr),cl.lookup x=some c->cells.lookup x=some c
 |[],_,x,c,h=>by simp at h
 |(n,a)::r,hh,x,c,h=>by
  rw[Jh] at h;cases e:x==n with
  |true=>
   rw[e] at h;rw[(eq_of_beq e),←(Yu h)];exact hh.1
  |false=>
   rw[e] at h;exact oI.look hh.2 x c h
theorem CA{env:Env}:∀{names:List (Str×NameKind)} {x:Str} {k:NameKind},
  (names.map λ(n,k)=>if(k==NameKind.free&&env.scope.kind==.function&&env.kindOf n==some .cell) then(n,NameKind.cell) else(n,k)).lookup x=some k->
  ∃k0,(x,k0)∈names/\(k=k0\/k0=.free)
 |[],_,_,h=>by simp at h
 |(n,k0)::r,x,k,h=>by
  have h:List.lookup x ((if(k0==NameKind.free&&env.scope.kind==.function&&env.kindOf n==some .cell)=true then(n,NameKind.cell) else(n,k0))::(r.map λ(n,k)=>if(k==NameKind.free&&env.scope.kind==.function&&env.kindOf n==some .cell) then(n,NameKind.cell) else(n,k)))=some k:=h;by_cases hc:(k0==NameKind.free&&env.scope.kind==.function&&env.kindOf n==some .cell)=true
  ·rw[if_pos hc,Jh] at h;cases e:x==n with
   |true=>grind
   |false=>
    rw[e] at h;obtain⟨k1,m,q⟩:=CA h
    grind
  ·rw[if_neg hc,Jh] at h;cases e:x==n with
   |true=>grind
   |false=>
    rw[e] at h;obtain⟨k1,m,q⟩:=CA h
    grind
structure MX(X:Cx)(scope:Scope)(cl:List (Str×Addr))(y:Str)(j:Nat):Prop where
 ix:X.N[j]?=some y
 out:X.env.kindOf y=some .cell\/X.env.kindOf y=some .free
 rB:(relabel scope X.env).names.lookup y=some .cell\/(relabel scope X.env).names.lookup y=some .free
 cl:(cl.lookup y).isSome=true
def oK(X:Cx)(scope:Scope)(cl:List (Str×Addr)):List (Str×Nat)->Prop
 |[]=>True
 |p::r=>MX X scope cl p.1 p.2/\oK X scope cl r
theorem oK.get:∀{fr:List (Str×Nat)} {k:Nat} {p:Str×Nat},oK X scope cl fr->fr[k]?=some p->MX X scope cl p.1 p.2
 |[],k,p,_,h=>by simp at h
 |q::r,0,p,hh,h=>by
  have e:q=p:=by simpa using h
  rw[←e];exact hh.1
 |q::r,k+1,p,hh,h=>oK.get hh.2 (by simpa using h)
structure vC(X:Cx)(scope:Scope)(cl:List (Str×Addr))(x:Str)(fr:List (Str×Nat)):Prop where
 t8:closureFor scope X.env=pure cl
 sub:oI X.env.cells cl
 kind:scope.kind=.function
 names:∀y∈scope.names,y.2=.local->scope.names.lookup y.1=some .local
 lx:scope.names.lookup x=some .local
 zG:∀y∈scope.names,y.2≠.cell
 has:(scope.names.all λy=>!(y.2==.free)||(cl.lookup y.1).isSome)=true
 cB:oK X scope cl fr
 nd:(x::fr.map (·.1)).Nodup
def fS(σ:St)(fr:List (Str×Nat)):St:=fr.map λp=>(σ[p.2]?).join
structure ou(X:Cx)(scope:Scope)(cl:List (Str×Addr))(xs:List Str)(fr:List (Str×Nat)):Prop where
 t8:closureFor scope X.env=pure cl
 sub:oI X.env.cells cl
 kind:scope.kind=.function
 names:∀y∈scope.names,y.2=.local->scope.names.lookup y.1=some .local
 zG:∀y∈scope.names,y.2≠.cell
 has:(scope.names.all λy=>!(y.2==.free)||(cl.lookup y.1).isSome)=true
 cB:oK X scope cl fr
 nd:(xs++fr.map (·.1)).Nodup
def cH(X:Cx)(xs:List Str)(fr:List (Str×Nat))(scope:Scope)(cl:List (Str×Addr))(C:Addr)(s:Shared)(H:Hp)(fp:List Addr):Cx where
 prog:=X.prog
 w:=X.w
 K:=X.K
 mg:=X.mg
 base:=X.base
 A:=X.A
 N:=xs++fr.map (·.1)
 cQ:=s
 jT:=H
 env:=compEnvC scope cl C X.env
 outer:=X.stack
 stack:=X.stack
 ex:=fp
 fn:=λ_=>false
 calm:=X.calm
 pn:=[]
 xe:=λ_ _=>False
section
variable {X:Cx}{scope:Scope}{cl:List (Str×Addr)}{xs:List Str}{fr:List (Str×Nat)}{pins:aM}{σ:St}{H:Hp}{s:Shared}
theorem V1(S:ou X scope cl xs fr)(I:Inv X pins σ H s)(hC:C=s.heap.objs.size)(hf:∀b∈fp,gY X pins H b)(bq:∀b∈fp,b<s.heap.objs.size)
  (old:∀b o,s.heap.get? b=some o->fY.get? b=some o)(hn:fY.Ns C m):Inv (cH X xs fr scope cl C s H fp) [] (List.replicate xs.length none++fS σ fr) H {s with heap:=fY,toks:=tk}:=by
 have look:=S.sub.look;refine⟨⟨I.ok.mod,S.kind,I.ok.glob,I.ok.blt,by show s.heap.objs.size<=C;rw[hC];exact Ye _,λy z c h1 h2=>I.ok.inj y z c (look y c h1) (look z c h2),λy hy=>?_,λy c h=>?_,I.ok.hd,I.ok.frames,.inl rfl,λb hb=>⟨?_,λy c h=>?_⟩,
   I.bs,Yz I.ok.kP I.sz,λb o e hb=>?_,λb hb hb2=>?_,I.stack,I.yS⟩,
  rfl,I.bare,Un.kept old,⟨m,hn,λi y v h1 h2 h3=>?_⟩,λy c h=>?_,?_,λy c h=>I.gw y c (look y c h),λp hp=>absurd (show p∈([]:aM) from hp) (by simp),I.ay.kept old,?_⟩
 ·have hy:(relabel scope X.env).names.lookup y=some .cell\/(relabel scope X.env).names.lookup y=some .free:=hy;have fin:∀{k:NameKind},(relabel scope X.env).names.lookup y=some k->(k=.cell\/k=.free)->∃c,cl.lookup y=some c:=λ{k} e hk=>by
   obtain⟨k0,hm,q⟩:=CA (env:=X.env) e;have hk0:k0=.free:=by
    rcases q with q|q
    ·rcases hk with z|z;·exact absurd (q.symm.trans z) (S.zG _ hm)
     ·exact q.symm.trans z
    ·exact q
   have hq:=Wp.mp S.has _ hm;rw[hk0] at hq;exact Jt.mp (by simpa using hq)
  rcases hy with e|e;·exact fin e (.inl rfl)
  ·exact fin e (.inr rfl)
 ·exact absurd (show false=true from h) Yf
 ·show b≠C;exact λz=>absurd (bq b hb) (by rw[show b=C from z,hC];exact Wc _)
 ·exact(hf b hb).2.2.2.2.1 y c (look y c h)
 ·obtain⟨_,_,_,z,_⟩:=hf b hb;rcases z with z|z;·exact I.ok.qN b o e z
  ·have h1:=Yo e;have h2:=I.ok.kP;exact absurd (Y2 h1 (Yz h2 z)) (Wc _)
 ·have z:=I.EL b hb2;rcases Yp.mp z with z|z;·exact(hf b hb).2.1 z
  ·exact(hf b hb).2.2.1 z
 ·by_cases hi:i<xs.length;·grind
  ·have h1:(xs++fr.map (·.1))[i]?=some y:=h1;rw[Jn (Nat.le_of_not_lt hi)] at h1;rw[Jn (by rw[Wx];exact Nat.le_of_not_lt hi),Wx] at h2;generalize i-xs.length=k at h1 h2;have h2:(fr.map λp=>(σ[p.2]?).join)[k]?=some (some v):=h2;rw[Yg] at h1 h2;cases e:fr[k]? with
   |none=>rw[e] at h1;cases h1
   |some p=>
    rw[e] at h1 h2;have e1:p.1=y:=Yu h1;have e2:(σ[p.2]?).join=some v:=Yu h2;have F:=S.cB.get e;rw[e1] at F;have e3:σ[p.2]?=some (some v):=by
     cases q:σ[p.2]? with
     |none=>rw[q] at e2;cases e2
     |some o=>grind
    obtain⟨m0,_,hl⟩:=I.loc;have Gn:rb X.env.scope y:=by
     rcases F.out with z|z;·exact .inr (.inl z)
     ·exact .inr (.inr z)
    obtain⟨u,r,l⟩:=hl p.2 y v F.ix e3 Gn;refine⟨u,r,.inr ⟨F.rB,?_⟩⟩;obtain⟨c,hc⟩:=Jt.mp F.cl;refine⟨c,hc,?_⟩;rcases l with⟨k1,_⟩|⟨_,c',e',z⟩
    ·rcases F.out with q|q;·rw[q] at k1;cases k1
     ·rw[q] at k1;cases k1
    ·have e4:=look y c hc;rw[e'] at e4;cases e4;obtain⟨o,ho,hd⟩:=z;exact⟨o,old _ _ ho,hd⟩
 ·obtain⟨v,o,ho,hd⟩:=I.cell y c (look y c h);exact⟨v,o,old _ _ ho,hd⟩
 ·show H C=none;rw[hC];exact I.ay.fresh (Ye _)
 ·show(List.replicate xs.length none++fS σ fr).length=(xs++fr.map (·.1)).length;simp[fS]
end
abbrev tQ(X:Cx)(x:Str)(fr:List (Str×Nat))(scope:Scope)(cl:List (Str×Addr))(C:Addr)(s:Shared)(H:Hp)(fp:List Addr):Cx:=cH X [x] fr scope cl C s H fp
section
variable {prog:Program}{w:World}{A:Around}{R:Result->Shared->Prop}{s:Shared}
theorem Sf(I:Nat->Shared->Prop)
  (turn:∀n s,I n s->wpAny (model prog w) A (pyNext it) (λr bo=>match r with
   |none=>R (.ok .next) bo
   |some v=>wpAny (model prog w) A (letOwnedTupleGo target it v) (λ_ cQ=>wpAny (model prog w) A (assign target env v) (λ_ dQ=>
     wpAny (model prog w) A (forIn ifs true λc r=>if r=true then do let ok←isTrue c env (eval c env);pure (ForInStep.yield ok) else pure (ForInStep.yield r)) (λok dB=>
      if ok=true then wpAny (model prog w) A (eval elt env) (λx gZ=>
       wpAny (model prog w) A (call (.builtin "list.append") [acc,x]) (λ_ kI=>∃m,m<n/\I m kI) (notedBy (model prog w) A env λe s'=>R (.error e) s') gZ) (notedBy (model prog w) A env λe s'=>R (.error e) s') dB
      else ∃m,m<n/\I m dB) (notedBy (model prog w) A env λe s'=>R (.error e) s') dQ) (notedBy (model prog w) A env λe s'=>R (.error e) s') cQ) (notedBy (model prog w) A env λe s'=>R (.error e) s') bo) (notedBy (model prog w) A env λe s'=>R (.error e) s') s)
  (n:Nat)(h:I n s):codeAny (model prog w) A (.compLoop (.ListComp elt [⟨target,iter,ifs,0⟩] scope pos) 0 it acc env) R s:=by
 refine codeAny_loop rfl I (λn s hI=>wpAny_noted (wpAny_bind (wpAny_standAt (wpAny_bind (wpAny_mono (turn n s hI) (λr bo fY=>?_) λ_ _ h'=>h'))))) n h;cases r with
 |none=>exact wpAny_pure fY
 |some v=>
  refine wpAny_bind (wpAny_mono fY (λ_ cQ h₀=>wpAny_bind (wpAny_mono h₀ (λ_ dQ nB=>wpAny_bind (wpAny_mono nB (λok dB t9=>?_) λ_ _ h'=>h')) λ_ _ h'=>h')) λ_ _ h'=>h');cases ok with
  |false=>exact wpAny_pure ⟨rfl,t9⟩
  |true=>
   exact wpAny_bind (wpAny_bind (wpAny_mono t9 (λx gZ wx=>wpAny_bind (wpAny_mono wx (λ_ kI wy=>wpAny_pure (wpAny_pure ⟨rfl,wy⟩)) λ_ _ h'=>h')) λ_ _ h'=>h'))
end
def rC(X:Cx)(ifs:List Expr)(t:TT):Prop:=
 ∀(pins:aM) (s:Shared) (σ:St) (H:Hp) (Q:Bool->Hp->Prop),Inv X pins σ H s->t σ H Q->
  wpAny X.md X.A (forIn ifs true λc r=>if r=true then do let ok←isTrue c X.env (eval c X.env);pure (ForInStep.yield ok) else pure (ForInStep.yield r)) (TP X pins σ Q) X.xe s
def zZ:TT:=λ_ H Q=>Q true H
theorem mV:rC X [] zZ:=λ_ _ _ H _ I h=>wpAny_tests_nil ⟨H,I,h⟩
theorem tK(h:PT X c t):rC X [c] t:=λpins s σ H Q I hw=>wpAny_tests_one (h pins s σ H Q I hw)
def EN(n:Nat)(J:It)(tg:TG)(tt:TT)(te:TE)(fv:St)(D:Addr)(H:Hp)(Q:VK):Prop:=
 ∃W:Nat->Nat->List V->Hp->Prop,(∃m,W 0 m [] (upd H D (.lst [])))/\∀i m ys H,W i m ys H->
  (J.stop i H/\Q (.ref D) H)\/(J.go i H/\∃N:List V->Hp->Prop,(∀fZ H',N fZ H'->∃m',m'<m/\W (i+1) m' fZ H')/\
   ∀v H',J.pI i H v H'->∀os:St,os.length=n->tg v (os++fv) H' λdh H2=>(∃jt:St,jt.length=n/\dh=jt++fv)/\tt dh H2 λc H1=>if c=true then te dh H1 λy H3=>H3 D=some (.lst ys)/\ys.length<sizeLine/\N (ys++[y]) (upd H3 D (.lst (ys++[y]))) else N ys H1)
section
variable {X:Cx}{elt iter tgt:Expr}{xs:List Str}{pos:Pos}{ifs:List Expr}{scope:Scope}{cl:List (Str×Addr)}{fr:List (Str×Nat)}{tg:TG}{tt:TT}{te:TE}{pins:aM}{σ:St}
theorem KC{H2:Hp}{s2:Shared}{it:Addr}{fp:List Addr}{tn:Nat->Heap->Prop}{J:It}{Q:VK}{RR:Value->Addr->Result->Shared->Prop}{E:aU}{rest:List Comprehension}(S:ou X scope cl xs fr)
  (I2:Inv X pins σ H2 s2)(T:Turn X.prog X.w X.K tgt J fp it tn)(eg:tn 0 s2.heap)(f2:∀b∈fp,gY X pins H2 b)
  (hR:∀D C s1 H1 m,Inv X pins σ H1 s1->s1.heap.Ns C m->H1 C=none->C≠X.env.locals->X.cQ.heap.objs.size<=C->(∀y c,X.env.cells.lookup y=some c->c≠C)->(∀p∈X.pn++pins,p.1≠C)->Q (.ref D) H1->RR (.ref D) C (.ok .next) s1)
  (hl:∀(D C:Addr) (s:Shared) (H3:Hp) (dB:Shared),H2 D=none->H3=upd H2 D (.lst [])->Inv (cH X xs fr scope cl C s H3 fp) [] (List.replicate xs.length none++fS σ fr) H3 dB->tn 0 dB.heap->(∀b∈fp,H3 b=none)->
   (∀s6 Au H5,Inv (cH X xs fr scope cl C s H3 fp) [] Au H5 s6->Q (.ref D) H5->RR (.ref D) C (.ok .next) s6)->
   codeAny X.md X.A (.compLoop (.ListComp elt (⟨tgt,iter,ifs,0⟩::rest) scope pos) 0 (.ref it) (.ref D) (compEnvC scope cl C X.env)) (RR (.ref D) C) dB):
  wpAny X.md X.A (newList []) (λacc dB=>wpAny X.md X.A (newFunctionEnv scope X.env.globals cl [] X.env.qual none .none (some X.env)) (λkJ gZ=>
   codeAny X.md X.A (.compStart (.ListComp elt (⟨tgt,iter,ifs,0⟩::rest) scope pos) 0 (.ref it) acc {kJ with scope:=relabel scope X.env}) (RR acc kJ.locals) gZ) E dB) E s2:=by
 refine wpAny_newObj_type (wpAny_newFunctionEnv S.zG (by intro y hy;simp at hy) (λfY EO ER=>?_) S.kind);dsimp only at EO ER⊢;have I3:Inv X pins σ (upd H2 s2.heap.objs.size (.lst [])) {s2 with heap:=s2.heap.push {cls:=.type "list",dict:=none,data:=.seq ([]:List Value).toArray}}:=
  I2.laid (t':=s2.toks) (λb u e=>Yc _ e) (Ye _) ⟨Yw _,[],0,.nil,Yn _ rfl⟩
 have hDn:H2 s2.heap.objs.size=none:=I2.ay.fresh (Ye _);have OK:∀b∈fp,b<s2.heap.objs.size:=λb hb=>by
  obtain⟨o,e,_⟩:=T.obj _ _ eg b hb;exact Yo e
 generalize PY:s2.heap.push {cls:=.type "list",dict:=none,data:=.seq ([]:List Value).toArray}=G2 at EO ER I3⊢;have hC:G2.objs.size=s2.heap.objs.size+1:=by rw[←PY,Jq]
 have old:∀b o,G2.get? b=some o->fY.get? b=some o:=λb o e=>ER.extBut b o (Yy (Yo e)) (Yc _ e);have f3:∀b∈fp,gY X pins (upd H2 s2.heap.objs.size (.lst [])) b:=λb hb=>by
  have:=OK b hb;exact⟨by rw[aF (Yy this)];exact(f2 b hb).1,(f2 b hb).2⟩
 have lt3:∀b∈fp,b<G2.objs.size:=λb hb=>by
  rw[hC];exact Wk (OK b hb)
 have uy:tn 0 fY:=T.keep _ _ _ eg λb hb o e=>old b o ((λb o e=>PY▸Yc _ e) b o e);have I4:Inv (cH X xs fr scope cl G2.objs.size {s2 with heap:=G2} (upd H2 s2.heap.objs.size (.lst [])) fp) [] (List.replicate xs.length none++fS σ fr) (upd H2 s2.heap.objs.size (.lst [])) {s2 with heap:=fY,toks:=s2.toks+([]:List (Str×Value)).length}:=
  V1 (tk:=s2.toks+([]:List (Str×Value)).length) S I3 rfl f3 lt3 old EO
 have loop:=hl s2.heap.objs.size G2.objs.size {s2 with heap:=G2} _ {s2 with heap:=fY,toks:=s2.toks+([]:List (Str×Value)).length} hDn rfl I4 uy (λb hb=>(f3 b hb).1) λs6 Au H5 I6 qn=>by
   obtain⟨m,hnC,_⟩:=I6.loc;have I7:Inv X pins σ H5 s6:=I3.Fi (ch:=fp) I6.os I6.base I6.ay I6.bare λb hb=>⟨(f2 b hb).2.2.2.1,(f2 b hb).2.1,(f2 b hb).2.2.2.2.1,(f2 b hb).2.2.2.2.2⟩;refine hR _ _ s6 H5 m I7 hnC I6.free ?_ ?_ (λy c e z=>?_) (λp hp z=>?_) qn;·exact Jd I3.lt
   ·exact I3.sz
   ·obtain⟨v,q⟩:=I3.cell y c e;exact absurd q.lt (by rw[z];exact Wc _)
   ·exact absurd (Yo (I3.pin p hp).1) (by rw[z];exact Wc _)
 exact codeAny_compStart_list loop (T.self _ 0 _ _ _ uy loop)
theorem IJ{H2:Hp}{s2:Shared}{it:Addr}{fp:List Addr}{tn:Nat->Heap->Prop}{J:It}{Q:VK}{RR:Value->Addr->Result->Shared->Prop}{E:aU}
  (hc:X.calm=true)(S:ou X scope cl xs fr)(hg:∀C s H fp,PG (cH X xs fr scope cl C s H fp) tgt tg)
  (ht:∀C s H fp,rC (cH X xs fr scope cl C s H fp) ifs tt)(he:∀C s H fp,PE (cH X xs fr scope cl C s H fp) elt te)
  (I2:Inv X pins σ H2 s2)(T:Turn X.prog X.w X.K tgt J fp it tn)(eg:tn 0 s2.heap)(f2:∀b∈fp,gY X pins H2 b)
  (hw:∀D,H2 D=none->EN xs.length J tg tt te (fS σ fr) D H2 Q)
  (hR:∀D C s1 H1 m,Inv X pins σ H1 s1->s1.heap.Ns C m->H1 C=none->C≠X.env.locals->X.cQ.heap.objs.size<=C->(∀y c,X.env.cells.lookup y=some c->c≠C)->(∀p∈X.pn++pins,p.1≠C)->Q (.ref D) H1->RR (.ref D) C (.ok .next) s1):
  wpAny X.md X.A (newList []) (λacc dB=>wpAny X.md X.A (newFunctionEnv scope X.env.globals cl [] X.env.qual none .none (some X.env)) (λkJ gZ=>
   codeAny X.md X.A (.compStart (.ListComp elt [⟨tgt,iter,ifs,0⟩] scope pos) 0 (.ref it) acc {kJ with scope:=relabel scope X.env}) (RR acc kJ.locals) gZ) E dB) E s2:=by
 refine KC (rest:=[]) S I2 T eg f2 hR λD C s H3 dB hD e3 I4 uy uv fin=>?_;obtain⟨W,⟨m0,w0⟩,turn⟩:=hw D hD;rw[←e3] at w0;refine Sf (λk s'=>∃i ys H' os,os.length=xs.length/\Inv (cH X xs fr scope cl C s H3 fp) [] (os++fS σ fr) H' s'/\tn i s'.heap/\(∀b∈fp,H' b=none)/\W i k ys H') ?_ m0
  ⟨0,[],_,List.replicate xs.length none,Wx,I4,uy,uv,w0⟩
 rintro n s5 ⟨i,ys,H5,os,nN,I5,nL,rm,w5⟩;have kG:∀{H':Hp},(∀b∈fp,H' b=none)->∀b∈fp,gY (cH X xs fr scope cl C s H3 fp) [] H' b:=λ{H'} hn b hb=>
  ⟨hn b hb,(I5.ok.pH b hb).1,I5.ok.oZ b hb,.inl hb,(I5.ok.pH b hb).2,λp hp=>absurd (show p∈([]:aM) from hp) (by simp)⟩
 rcases turn i n ys H5 w5 with⟨stop,qn⟩|⟨go,N,hN,step⟩
 ·refine az (T.done (cH X xs fr scope cl C s H3 fp) rfl rfl rfl hc i [] s5 _ H5 _ I5 (kG rm) nL stop) λr s6 zq=>?_;obtain⟨hr,I6⟩:=zq;subst hr;exact fin _ _ _ I6 qn
 ·refine az (T.item (cH X xs fr scope cl C s H3 fp) rfl rfl rfl hc i [] s5 _ H5 _ I5 (kG rm) nL go) λr s6 zq=>?_;obtain⟨u,hr,h6⟩:=zq;subst hr;refine az h6 λ_ s7 zq=>?_;obtain⟨v,H7,I7,r7,y7,rD,Gy⟩:=zq;have Gz:=I7.pinned (kG Gy) (T.obj _ _ rD);refine wpAny_mono (hg _ _ _ _ _ s7 _ H7 v u _ Gz r7 (step v H7 y7 os nN)) (λ_ s8 zq=>?_) λ_ _ z=>False.elim z;obtain⟨σ8,H8,I8,⟨jt,FY,e8⟩,q8⟩:=zq;subst e8;have again:∀{nO:St} {H9:Hp} {s9:Shared} {nP:List V},nO.length=xs.length->Inv (cH X xs fr scope cl C s H3 fp) ([]++oQ fp s7.heap) (nO++fS σ fr) H9 s9->N nP H9->
    ∃m,m<n/\∃i ys H' os,os.length=xs.length/\Inv (cH X xs fr scope cl C s H3 fp) [] (os++fS σ fr) H' s9/\tn i s9.heap/\(∀b∈fp,H' b=none)/\W i m ys H':=λ{nO H9 s9 nP} l1 I9 n9=>by
   obtain⟨m',hm,w9⟩:=hN nP H9 n9;refine⟨m',hm,i+1,nP,H9,nO,l1,I9.tF,T.keep _ _ _ rD λb hb o e=>(I9.pin (b,o) (Yj _ (Yj _ (ot hb e)))).1,λb hb=>?_,w9⟩;obtain⟨o,e,d⟩:=T.obj _ _ rD b hb;exact(I9.pin (b,o) (Yj _ (Yj _ (ot hb e)))).2.1
  refine wpAny_mono (ht _ _ _ _ _ s8 _ H8 _ I8 q8) (λok s9 zq=>?_) λ_ _ z=>False.elim z;obtain⟨H9,I9,q9⟩:=zq;cases ok with
  |false=>
   rw[if_neg Yf] at q9⊢;exact again FY I9 q9
  |true=>
   rw[if_pos rfl];rw[if_pos rfl] at q9;refine wpAny_mono (he _ _ _ _ _ s9 _ H9 _ I9 q9) (λu1 GA zq=>?_) λ_ _ z=>False.elim z;obtain⟨y,pK,GB,r10,hD,hz,nQ⟩:=zq;refine wpAny_mono (yC (X:=cH X xs fr scope cl C s H3 fp) _ GA _ pK (.ref D) [y] _ [u1] (λ_ H'=>N (ys++[y]) H') GB rfl (.cons r10 .nil) ⟨_,ys,y,rfl,rfl,hD,hz,nQ⟩) (λ_ GC zq=>?_) λ_ _ z=>False.elim z;obtain⟨_,xg,Ay,_,q11⟩:=zq;exact again FY Ay q11
end
def jg(J:It)(tt:TT)(te:TE)(fv:St)(D:Addr)(H:Hp)(Q:VK):Prop:=
 ∃W:Nat->Nat->List V->Hp->Prop,(∃m,W 0 m [] (upd H D (.lst [])))/\∀i m ys H,W i m ys H->
  (J.stop i H/\Q (.ref D) H)\/(J.go i H/\∃N:List V->Hp->Prop,(∀fZ H',N fZ H'->∃m',m'<m/\W (i+1) m' fZ H')/\
   ∀v H',J.pI i H v H'->tt (some v::fv) H' λc H1=>if c=true then te (some v::fv) H1 λy H3=>H3 D=some (.lst ys)/\ys.length<sizeLine/\N (ys++[y]) (upd H3 D (.lst (ys++[y]))) else N ys H1)
section
variable {X:Cx}{elt iter:Expr}{x:Str}{px pos:Pos}{ifs:List Expr}{scope:Scope}{cl:List (Str×Addr)}{fr:List (Str×Nat)}{tt:TT}{te:TE}{pins:aM}{σ:St}
theorem JT{H2:Hp}{s2:Shared}{it:Addr}{fp:List Addr}{tn:Nat->Heap->Prop}{J:It}{Q:VK}{RR:Value->Addr->Result->Shared->Prop}{E:aU}
  (hc:X.calm=true)(S:vC X scope cl x fr)
  (ht:∀C s H fp,rC (tQ X x fr scope cl C s H fp) ifs tt)(he:∀C s H fp,PE (tQ X x fr scope cl C s H fp) elt te)
  (I2:Inv X pins σ H2 s2)(T:Turn X.prog X.w X.K (.Name x px) J fp it tn)(eg:tn 0 s2.heap)(f2:∀b∈fp,gY X pins H2 b)
  (hw:∀D,H2 D=none->jg J tt te (fS σ fr) D H2 Q)
  (hR:∀D C s1 H1 m,Inv X pins σ H1 s1->s1.heap.Ns C m->H1 C=none->C≠X.env.locals->X.cQ.heap.objs.size<=C->(∀y c,X.env.cells.lookup y=some c->c≠C)->(∀p∈X.pn++pins,p.1≠C)->Q (.ref D) H1->RR (.ref D) C (.ok .next) s1):
  wpAny X.md X.A (newList []) (λacc dB=>wpAny X.md X.A (newFunctionEnv scope X.env.globals cl [] X.env.qual none .none (some X.env)) (λkJ gZ=>
   codeAny X.md X.A (.compStart (.ListComp elt [⟨.Name x px,iter,ifs,0⟩] scope pos) 0 (.ref it) acc {kJ with scope:=relabel scope X.env}) (RR acc kJ.locals) gZ) E dB) E s2:=by
 refine IJ (xs:=[x]) hc ⟨S.t8,S.sub,S.kind,S.names,S.zG,S.has,S.cB,S.nd⟩ (λC s H fp=>oH (i:=0) S.nd rfl (.inl (lookup_relabel_local S.lx)) (.inr (lookup_relabel_local S.lx))) ht he I2 T eg f2 (λD hD=>?_) hR;obtain⟨W,h0,h⟩:=hw D hD;refine⟨W,h0,λi m ys H p=>?_⟩;rcases h i m ys H p with z|⟨z,N,hN,q⟩;·exact .inl z
 ·refine .inr ⟨z,N,hN,λv H' y os hl=>?_⟩;match os,hl with
  |[o],_=>exact⟨⟨[some v],rfl,rfl⟩,q v H' y⟩
def NX(wi:TI)(fr:List (Str×Nat))(tt:TT)(te:TE):TE:=λσ H Q=>wi σ H λJ H1=>∀D,H1 D=none->jg J tt te (fS σ fr) D H1 Q
theorem ku(hc:X.calm=true)(S:vC X scope cl x fr)(hi:PI X (.Name x px) iter wi)
  (ht:∀C s H fp,rC (tQ X x fr scope cl C s H fp) ifs tt)(he:∀C s H fp,PE (tQ X x fr scope cl C s H fp) elt te)
  (hs:∀x,foldedSetIterable iter X.env x=pure x:=by intro _;rfl):PE X (.ListComp elt [⟨.Name x px,iter,ifs,0⟩] scope pos) (NX wi fr tt te):=by
 intro pins s σ H Q I h;refine wpAny_comprehension_free rfl hs S.t8 S.kind S.names (az (hi pins s σ H _ I h) λv s1 h1=>az h1 λrg s2 h2=>?_);obtain⟨it,fp,tn,J,H2,e,I2,T,eg,f2,hw⟩:=h2;subst e;refine JT (RR:=λacc C=>compPost X.md X.A X.xe none (EP X pins σ Q) acc C) hc S ht he I2 T eg f2 hw ?_;intro D C s1 H1 m I1 hn f0 f1 f3 f4 f5 q;exact⟨m,hn,λh' rE=>⟨.ref D,H1,I1.turned (λb o hb e=>rE.extBut b o hb e) f0 f1 (.inr f3) f4 f5,rfl,q⟩⟩
theorem Dr(hc:X.calm=true)(hN:X.N.Nodup)(hiy:X.N[i]?=some y)(hy:Loc X.env.scope y)(S:vC X scope cl x fr)(hi:PI X (.Name x px) iter wi)
  (ht:∀C s H fp,rC (tQ X x fr scope cl C s H fp) ifs tt)(he:∀C s H fp,PE (tQ X x fr scope cl C s H fp) elt te)
  (hsw:swapsWith (.ListComp elt [⟨.Name x px,iter,ifs,0⟩] scope pos) (some (.Name y py)) Zdc.line X.env=pure true:=by with_unfolding_all rfl)
  (hf:X.fn y=true\/X.env.scope.names.lookup y=some .local:=by first|exact .inl rfl|exact .inr rfl|assumption)
  (hs:∀x,foldedSetIterable iter X.env x=pure x:=by intro _;rfl):PS X (.Assign [.Name y py] (.ListComp elt [⟨.Name x px,iter,ifs,0⟩] scope pos) Zdc) (qR (NX wi fr tt te) (ng i)):=by
 intro pins s σ H D I h;rw[exec_Assign_Name_used _ _ _ _ hsw];refine wpAny_bind (wpAny_standAt (wpAny_bind ?_));show wpAny _ X.A (do let _←comprehension (.ListComp elt [⟨.Name x px,iter,ifs,0⟩] scope pos) scope X.env _ (newList []) false (eval iter X.env) (some (assign (.Name y py) X.env))) _ _ s;refine wpAny_bind (wpAny_mono (wpAny_comprehension_free (use:=some (assign (.Name y py) X.env)) (Q:=λ_ s'=>SP X pins D .next s') rfl hs S.t8 S.kind S.names
  (az (hi pins s σ H _ I h) λv s1 h1=>az h1 λrg s2 h2=>?_)) (λ_ s' hq=>wpAny_pure (wpAny_pure hq)) λ_ _ e=>e)
 obtain⟨it,fp,tn,J,H2,e,I2,T,eg,f2,hw⟩:=h2;subst e;refine JT (Q:=λv H1=>ng i v σ H1 D.nx) (RR:=λacc C=>compPost X.md X.A X.xe (some (assign (.Name y py) X.env)) (λ_ s'=>SP X pins D .next s') acc C) hc S ht he I2 T eg f2 hw ?_;intro Dl C s1 H1 m I1 hn f0 f1 f3 f4 f5 q;show wpAny _ X.A (assign (.Name y py) X.env (.ref Dl)) _ _ s1;refine wpAny_assign_Name (JJ I1 hN hiy hy (v:=.ref Dl) rfl (λs3 I3 z=>?_) hf);obtain⟨a,sb,ha⟩:=z;have hCa:C≠a:=by
  rcases ha with z|z;·rw[z];exact f1
  ·exact λq=>f4 _ _ z q.symm
 refine⟨m,hn.sameBut sb hCa,λh' rE=>?_⟩;exact⟨_,H1,I3.turned (t':=s3.toks) (λb o hb e=>rE.extBut b o hb e) f0 f1 (.inr f3) f4 f5,q⟩
end
theorem DM{K:ag}{a:Addr}{xs:List V}{tt:TT}{te:TE}{fv:St}{D:Addr}{H:Hp}{Q:VK}(Pv:Nat->List V->Hp->Prop)(h0:Pv 0 [] (upd H D (.lst [])))(hl:∀i ys H,i<=xs.length->Pv i ys H->aj K H a xs)
  (hs:∀i v ys H,xs[i]?=some v->Pv i ys H->tt (some v::fv) H λc H1=>if c=true then te (some v::fv) H1 λy H3=>H3 D=some (.lst ys)/\ys.length<sizeLine/\Pv (i+1) (ys++[y]) (upd H3 D (.lst (ys++[y]))) else Pv (i+1) ys H1)
  (hd:∀ys H,Pv xs.length ys H->Q (.ref D) H):jg (iX K a) tt te fv D H Q:=by
 refine⟨λi m ys H=>m=xs.length-i/\i<=xs.length/\Pv i ys H,⟨xs.length,by simp,Yw _,h0⟩,?_⟩;rintro i m ys H ⟨rfl,hi,p⟩;have q:=hl i ys H hi p;by_cases bq:i<xs.length
 ·refine .inr ⟨⟨xs,xs[i],q,by simp[bq]⟩,Pv (i+1),λfZ H' p'=>⟨xs.length-(i+1),by omega,rfl,bq,p'⟩,λx H' y=>?_⟩;obtain⟨e,y⟩:=y
  grind
 ·have e:i=xs.length:=by omega
  subst e;exact .inl ⟨⟨xs,q,Ye _⟩,hd ys H p⟩
theorem D6{K:ag}{a:Addr}{xs:List V}{tt:TT}{te:TE}{fv:St}{D:Addr}{H:Hp}{Q:VK}(Pv:Nat->List V->Hp->Prop)(h0:Pv 0 [] (upd H D (.lst [])))(hl:∀i ys H,i<=xs.length->Pv i ys H->aE K H a xs)
  (hs:∀i v ys H,xs[i]?=some v->Pv i ys H->tt (some v::fv) H λc H1=>if c=true then te (some v::fv) H1 λy H3=>H3 D=some (.lst ys)/\ys.length<sizeLine/\Pv (i+1) (ys++[y]) (upd H3 D (.lst (ys++[y]))) else Pv (i+1) ys H1)
  (hd:∀ys H,Pv xs.length ys H->Q (.ref D) H):jg (uu K a) tt te fv D H Q:=by
 refine⟨λi m ys H=>m=xs.length-i/\i<=xs.length/\Pv i ys H,⟨xs.length,by simp,Yw _,h0⟩,?_⟩;rintro i m ys H ⟨rfl,hi,p⟩;have q:=hl i ys H hi p;by_cases bq:i<xs.length
 ·refine .inr ⟨⟨xs,xs[i],q,by simp[bq]⟩,Pv (i+1),λfZ H' p'=>⟨xs.length-(i+1),by omega,rfl,bq,p'⟩,λx H' y=>?_⟩;obtain⟨e,y⟩:=y
  grind
 ·have e:i=xs.length:=by omega
  subst e;exact .inl ⟨⟨xs,q,Ye _⟩,hd ys H p⟩
theorem Du{lo:Int}{n:Nat}{tt:TT}{te:TE}{fv:St}{D:Addr}{H:Hp}{Q:VK}(Pv:Nat->List V->Hp->Prop)(h0:Pv 0 [] (upd H D (.lst [])))
  (hs:∀i ys H,i<n->Pv i ys H->tt (some (.int (lo+i))::fv) H λc H1=>if c=true then te (some (.int (lo+i))::fv) H1 λy H3=>H3 D=some (.lst ys)/\ys.length<sizeLine/\Pv (i+1) (ys++[y]) (upd H3 D (.lst (ys++[y]))) else Pv (i+1) ys H1)
  (hd:∀ys H,Pv n ys H->Q (.ref D) H):jg (rh lo n) tt te fv D H Q:=by
 refine⟨λi m ys H=>m=n-i/\i<=n/\Pv i ys H,⟨n,by simp,Yw _,h0⟩,?_⟩;rintro i m ys H ⟨rfl,hi,p⟩;by_cases bq:i<n
 ·refine .inr ⟨bq,Pv (i+1),λfZ H' p'=>⟨n-(i+1),by omega,rfl,bq,p'⟩,λx H' y=>?_⟩;obtain⟨e,y⟩:=y
  grind
 ·have e:i=n:=by omega
  subst e;exact .inl ⟨Ye _,hd ys H p⟩
def Zdd(K:ag)(tl:TE):TI:=λσ H R=>tl σ H λx H1=>∃a,x=.ref a/\((∃xs,aj K H1 a xs)/\R (iX K a) H1\/(∃xs,aE K H1 a xs)/\R (uu K a) H1)
theorem ZaW(hl:PE X l tl):PI X tg l (Zdd X.K tl):=by
 intro pins s σ H R I h;refine az (hl pins s σ H _ I h) λv s1 zq=>?_;obtain⟨x,H1,I1,r1,q1⟩:=zq;obtain⟨a,e,q1⟩:=q1;subst e;cases r1;rcases q1 with⟨⟨xs,hq⟩,q⟩|⟨⟨xs,hq⟩,q⟩
 ·obtain⟨ah,rv,p,hz⟩:=I1.list hq;refine wpAny_pyIter_list p.isList ⟨s1.heap.objs.size,[s1.heap.objs.size],_,_,H1,rfl,I1.kept λb o e=>Yc _ e,JK a _,⟨_,Yn _ rfl,rfl,rfl⟩,λb hb=>?_,q⟩;have e:b=s1.heap.objs.size:=by simpa using hb
  subst e;exact I1.o_ (Ye _) (I1.ay.fresh (Ye _))
 ·obtain⟨ah,rv,p,hz⟩:=I1.tuple hq;refine wpAny_pyIter_tuple (show s1.heap.IsTuple a ah.toArray from p) ⟨s1.heap.objs.size,[s1.heap.objs.size],_,_,H1,rfl,I1.kept λb o e=>Yc _ e,IF a _,⟨_,Yn _ rfl,rfl,rfl⟩,λb hb=>?_,q⟩;have e:b=s1.heap.objs.size:=by simpa using hb
  subst e;exact I1.o_ (Ye _) (I1.ay.fresh (Ye _))
theorem CV:∀{xs:List V} {us:List Value},xs.length=us.length->(∀(i:Nat) (x:V) (u:Value),xs[i]?=some x->us[i]?=some u->RelV x u)->Vals xs us
 |[],[],_,_=>.nil
 |[],_::_,h,_=>by simp at h
 |_::_,[],h,_=>by simp at h
 |x::xs,u::us,h,k=>.cons (k 0 x u rfl rfl) (CV (by simpa using h) λi y w e1 e2=>k (i+1) y w (by simpa using e1) (by simpa using e2))
theorem IK:∀{bs:List Bool} {us:List Value},Vals (bs.map V.bl) us->us=bs.map Value.bool:=by
 intro bs;induction bs with
 |nil=>intro us r;cases r;rfl
 |cons b bs ih=>
  intro us r;rw[Wn] at r;cases r with
  |cons r t=>
   have e1:_=Value.bool b:=r;rw[e1,ih t];rfl
def aH(n:Nat):List Int:=(List.range n).map λi:Nat=>(i:Int)
theorem eZ(n:Nat):(aH n).length=n:=by simp[aH]
theorem jK(h:i<n):(aH n)[i]?=some (i:Int):=by
 unfold aH
 grind
theorem Xs(bs:List Bool):(List.range bs.length).any (λi=>bs.getD i false)=bs.any id:=by
 rw[Wm,Jr,Jr];constructor
 ·rintro⟨i,hi,hb⟩;rw[Wd] at hi;have e:bs.getD i false=bs[i]:=by rw[Yd,Yb hi];rfl
  rw[e] at hb;exact⟨bs[i],Wi hi,hb⟩
 ·rintro⟨b,hb,e⟩;obtain⟨i,hi,rfl⟩:=Wf.mp hb;refine⟨i,Wd.mpr hi,?_⟩
  grind
theorem Xt(bs:List Bool):(List.range bs.length).all (λi=>bs.getD i false)=bs.all id:=by
 rw[Wm,Wp,Wp];constructor
 ·intro h b hb;obtain⟨i,hi,rfl⟩:=Wf.mp hb;simp_all
 ·intro h i hi;rw[Wd] at hi;rw[Yd,Yb hi];exact h _ (Wi hi)
theorem Ut:∀{ns ms:List Int},ns.length=ms.length->(List.range ns.length).all (λj=>ns.getD j 0==ms.getD j 0)=decide (ns=ms):=by
 intro ns ms hl;rw[Wm,Wp,decide_eq_true_iff];constructor
 ·intro h;refine List.ext_getElem hl λi h1 h2=>?_;simp_all
 ·grind
section
variable {X:Cx}
def OL(K:ag):List V->Hp->VK->Prop:=λxs H Q=>∃(p:Addr) (bs:List Bool),xs=[.ref p]/\aj K H p (bs.map V.bl)/\Q (.bl (bs.any id)) H
def OM(K:ag):List V->Hp->VK->Prop:=λxs H Q=>∃(p:Addr) (bs:List Bool),xs=[.ref p]/\aj K H p (bs.map V.bl)/\Q (.bl (bs.all id)) H
theorem SY(hc:X.calm=true):cU X (.builtin "any") (OL X.K):=by
 rintro pins s σ H xs us Q I r ⟨p,bs,rfl,hq,q⟩;obtain⟨u,rfl,rx⟩:=vals1 r;cases rx;obtain⟨ah,r',pl,hz⟩:=I.list hq;have e:=IK r';subst e;have hl:=pl.isList;have bq:p<s.heap.objs.size:=by obtain⟨_,e,_⟩:=hl;exact Yo e
 refine call_any_walk (wpAny_pyIter_list hl ⟨s.heap.objs.size,_,_,_,_,_,λi=>bs.getD i false,rfl,Walks.list (show X.A.in1.handled=none from I.ok.hd hc) s.heap.objs.size p (Yy bq) (bs.map Value.bool).toArray,⟨⟨_,Yn _ rfl,rfl,rfl⟩,hl.push _⟩,?_,λh' tk hk=>?_⟩)
 ·intro i v s' Q' E' hP hQ;have jZ:(bs.map Value.bool)[i]?=some v:=by simpa using hP
  rw[Yg] at jZ;cases e:bs[i]? with
  |none=>grind
  |some b=>
   rw[e] at jZ;have ev:=Yu jZ;subst ev;refine wpAny_truthy_bool ?_
   grind
 ·refine⟨.bl (bs.any id),H,I.kept (λb o e=>hk b o (by simpa using Yy (Yo e)) (Yc _ e)),?_,q⟩;show Value.bool _=Value.bool _;have e:(bs.map Value.bool).toArray.size=bs.length:=by simp
  rw[e,Xs]
theorem S0(hc:X.calm=true):cU X (.builtin "all") (OM X.K):=by
 rintro pins s σ H xs us Q I r ⟨p,bs,rfl,hq,q⟩;obtain⟨u,rfl,rx⟩:=vals1 r;cases rx;obtain⟨ah,r',pl,hz⟩:=I.list hq;have e:=IK r';subst e;have hl:=pl.isList;have bq:p<s.heap.objs.size:=by obtain⟨_,e,_⟩:=hl;exact Yo e
 refine call_all_walk (wpAny_pyIter_list hl ⟨s.heap.objs.size,_,_,_,_,_,λi=>bs.getD i false,rfl,Walks.list (show X.A.in1.handled=none from I.ok.hd hc) s.heap.objs.size p (Yy bq) (bs.map Value.bool).toArray,⟨⟨_,Yn _ rfl,rfl,rfl⟩,hl.push _⟩,?_,λh' tk hk=>?_⟩)
 ·intro i v s' Q' E' hP hQ;have jZ:(bs.map Value.bool)[i]?=some v:=by simpa using hP
  rw[Yg] at jZ;cases e:bs[i]? with
  |none=>grind
  |some b=>
   rw[e] at jZ;have ev:=Yu jZ;subst ev;refine wpAny_truthy_bool ?_
   grind
 ·refine⟨.bl (bs.all id),H,I.kept (λb o e=>hk b o (by simpa using Yy (Yo e)) (Yc _ e)),?_,q⟩;show Value.bool _=Value.bool _;have e:(bs.map Value.bool).toArray.size=bs.length:=by simp
  rw[e,Xt]
inductive MY(K:ag)(xs:List V)(H:Hp)(Q:VK):Prop
 |mk (x:V) (t:Value) (c:String) (b:Bool) (aI:xs=[x,.ty c]) (aX:ir K H x t) (bu:kitOne K t (.type c)=some b) (bW:Q (.bl b) H):MY K xs H Q
def z4(K:ag):List V->Hp->VK->Prop:=λxs H Q=>MY K xs H Q
theorem Uu:cU X (.builtin "isinstance") (z4 X.K):=by
 rintro pins s σ H xs us Q I r ⟨x,t,c,b,rfl,ty,e,q⟩;obtain⟨u,w',rfl,rx,ry⟩:=vals2 r;cases ry;exact VU I rx ty e λtk=>⟨.bl b,H,I.tok tk,rfl,q⟩
theorem IL(hT:T="list"\/T="tuple")
  (ho:s.heap.get? l=some o)(hc:o.cls=.type T)(hd:o.data=.seq ah.toArray n)(hI:IntsAre ah ns)(f_:ah.length<64)(hsz:ah.toArray.size<=sizeLine)
  (h:∀(h1 h':Heap) (out:Array Value) (b_:List Int) (e:Nat),(∀b o,s.heap.get? b=some o->h1.get? b=some o)->(∀b o,h1.get? b=some o->h'.get? b=some o)->h'.get? h1.objs.size=some (seqObj "list" out e)->IntsAre out.toList b_->b_.Perm ns->b_.Pairwise (·<=·)->Q (.ref h1.objs.size) {s with heap:=h'}):
  wpAny (model prog w) A (call (.builtin "sorted") [.ref l]) Q E s:=by
 refine Calls.call_function_entry kind_sorted plain_sorted entry_sorted (args_sorted1 _) (wpAny_bind (wpAny_pure ?_));refine wpAny_bind (wpAny_collect_seq l hT ho hc hd (λh1 kp=>wpAny_bind (wpAny_newList ?_)) hsz);have e1:ah.toArray.toList=ah:=by simp
 rw[e1];have nK:(h1.push (seqObj "list" ah.toArray 0)).get? h1.objs.size=some (seqObj "list" ah.toArray 0):=Yn _ rfl;refine wpAny_bind (wpAny_holding (wpAny_call_entry slot_list_sort ⟨_,nK,rfl⟩ entry_list_sort (list_sort_tree nK hI f_ λout b_ a1 a2 a3=>⟨_,rfl,?_⟩) (args_list_sort _)));obtain⟨e,he⟩:=sortedHeap_at nK;exact wpAny_pure ⟨_,rfl,h h1 _ out b_ e kp (λb ob hb=>by
  have bq:=Yo hb;rw[sortedHeap_old (Yy bq) (by rw[size_push'];exact Wk bq),Jm _ _ _ (Yy bq)];exact hb) he a1 a2 a3⟩
def Et(K:ag):List V->Hp->VK->Prop:=λxs H Q=>∃(p:Addr) (ns:List Int),xs=[.ref p]/\(aj K H p (ns.map V.int)\/aE K H p (ns.map V.int))/\ns.length<64/\
  ∀(l:Addr) (b_:List Int),H l=none->b_.Perm ns->b_.Pairwise (·<=·)->Q (.ref l) (upd H l (.lst (b_.map V.int)))
theorem Iv:cU X (.builtin "sorted") (Et X.K):=by
 rintro pins s σ H xs us Q I r ⟨p,ns,rfl,hq,f_,q⟩;obtain⟨u,rfl,rx⟩:=vals1 r;cases rx;have fin:∀(h1 h':Heap) (out:Array Value) (b_:List Int) (e:Nat),(∀b o,s.heap.get? b=some o->h1.get? b=some o)->(∀b o,h1.get? b=some o->h'.get? b=some o)->h'.get? h1.objs.size=some (seqObj "list" out e)->IntsAre out.toList b_->b_.Perm ns->b_.Pairwise (·<=·)->
   EP X pins σ Q (.ref h1.objs.size) {s with heap:=h'}:=λh1 h' out b_ e kp xh he a1 a2 a3=>by
  have I1:=I.kept (t':=s.toks) kp;refine⟨.ref h1.objs.size,_,I1.laid (o:=.lst (b_.map V.int)) xh (Ye _) ⟨?_,out.toList,e,DL a1,by simpa[seqObj] using he⟩,rfl,q _ b_ (I1.ay.fresh (Ye _)) a2 a3⟩;rw[Ya,a2.length_eq];exact Jk (mK (by omega))
 rcases hq with hq|hq
 ·obtain⟨ah,r',pl,hz⟩:=I.list hq;obtain⟨o,n,ho,hc,_,hd⟩:=pl;have hl:=r'.length;rw[Ya] at hl;rw[Ya] at hz;exact IL (.inl rfl) ho hc hd (intsAre_of r') (by omega) (by rw[Yt];omega) fin
 ·obtain⟨ah,r',pl,hz⟩:=I.tuple hq;obtain⟨o,ho,hc,n,hd⟩:=pl;have hl:=r'.length;rw[Ya] at hl;rw[Ya] at hz;exact IL (.inr rfl) ho hc hd (intsAre_of r') (by omega) (by rw[Yt];omega) fin
def LK:List V->Hp->VK->Prop:=λxs H Q=>∃j:Int,xs=[.int j]/\∀p:Addr,H p=none->Q (.ref p) (upd H p (.kO 0 j))
def KD:List V->Hp->VK->Prop:=λxs H Q=>∃(p:Addr) (n:Nat),xs=[.ref p]/\H p=some (.kO 0 (n:Int))/\n<=1000/\∀l:Addr,H l=none->Q (.ref l) (upd H l (.lst ((aH n).map V.int)))
def z5(K:ag):List V->Hp->VK->Prop:=λxs H Q=>∃(p:Addr) (ys:List V),xs=[.ref p]/\(aj K H p ys\/aE K H p ys)/\Q (.int ys.length) H
theorem U_:cU X (.builtin "len") (z5 X.K):=Ik
theorem CW:cU X (.type "range") LK:=by
 rintro pins s σ H xs us Q I r ⟨j,rfl,q⟩;obtain⟨u,rfl,t,rfl⟩:=vals1 r;exact call_range_1 ⟨.ref s.heap.objs.size,_,I.laid (o:=.kO 0 j) (λb o e=>Yc _ e) (Ye _) ⟨_,_,_,Yn _ rfl⟩,rfl,q _ (I.ay.fresh (Ye _))⟩
theorem Ic(hc:X.calm=true):cU X (.type "list") KD:=by
 rintro pins s σ H xs us Q I r ⟨p,n,rfl,hp,hn,q⟩;obtain⟨u,rfl,rx⟩:=vals1 r;cases rx;obtain⟨t,u,v,ho⟩:=I.ay p _ hp;refine call_list_range (I.ok.hd hc) ho (small_one (by omega) (by omega) (by omega) (by omega)) (n:=n) (by rw[rangeSize_one];split<;>omega) (by omega) λh' tk Zde c' hk hS' ON=>⟨.ref s.heap.objs.size,_,I.laid (o:=.lst ((aH n).map V.int)) hk (Ye _) ⟨?_,Zde.toList,c',?_,by simpa using hS'⟩,rfl,q _ (I.ay.fresh (Ye _))⟩
 ·rw[Ya,eZ];exact Jk (mK hn)
 ·refine CV (by rw[Ya,eZ];simp[ON.1]) λi x u e1 e2=>?_;obtain⟨t',rfl⟩:=ON.2 i u (by simpa using e2);have hi:i<n:=by
   have:=(Yk.mp e1).1;rw[Ya,eZ] at this;exact this
  rw[Yg,jK hi] at e1;have e3:=Yu e1;subst e3;exact⟨t',by rw[show(0:Int)+(i:Int)*1=(i:Int) by omega]⟩
theorem LL{ns:List Int}{ah:List Value}(r:Vals (ns.map V.int) ah){j:Nat}(h:j<ah.length):∃t,ah[j]=.int (ns.getD j 0) t:=by
 have hl:=r.length;rw[Ya] at hl;have hj:j<ns.length:=by omega
 obtain⟨u,hu,t,rfl⟩:=r.get (by rw[Yg,Yb hj];rfl)
 grind
def OO(K:ag)(neg:Bool):R2:=λx y H Q=>∃(p q:Addr) (ns ms:List Int),x=.ref p/\y=.ref q/\aj K H p (ns.map V.int)/\aj K H q (ms.map V.int)/\Q (.bl (if neg=true then !decide (ns=ms) else decide (ns=ms))) H
theorem ZaX(hu:X.A.units<cLine):cD X (compareOp .Eq) (OO X.K false):=by
 rintro pins s σ H x y v u Q I rx ry ⟨p,q,ns,ms,rfl,rfl,h1,h2,k⟩;cases rx;cases ry;obtain⟨ah,r1,p1,z1⟩:=I.list h1;obtain⟨iu,r2,p2,z2⟩:=I.list h2;have l1:=r1.length;have l2:=r2.length;rw[Ya] at l1 l2;by_cases hl:ns.length=ms.length
 ·refine SeqAt.eq_listAt (e:=λj=>ns.getD j 0==ms.getD j 0) p1.isList p2.isList (by simp;omega) hu (λj h1 h2=>?_) (cy I k ?_)
  ·obtain⟨t,e1⟩:=LL r1 (by simpa using h1);obtain⟨t',e2⟩:=LL r2 (by simpa using h2);have rF:ah.toArray[j]=.int (ns.getD j 0) t:=by simpa using e1
   have e2':iu.toArray[j]=.int (ms.getD j 0) t':=by simpa using e2
   rw[rF,e2'];exact SeqAt.EqAt.int_int _ _ _ _
  ·rw[if_neg Yf,Yt,←l1,Ut hl]
 ·refine SeqAt.eq_list_lengthsAt p1.isList p2.isList (by simp;omega) hu (cy I k ?_)
  grind
theorem iP(M:St->Hp->Prop)(h1:∀nx:St->Hp->Prop,(∀σ H,M σ H->nx σ H)->t {D with nx:=nx} σ H)(h2:∀σ H,M σ H->u D σ H):wq t u D σ H:=h1 _ h2
theorem iR(hg:Gl X x)(hm:X.mg x=none)(hv:bootBuiltins x=some (.type T))(hn:x≠"__name__":=by decide)(hd:(x==("__debug__":Str))=false:=by decide):PE X (.Name x pos) (tC (.ty T)):=Zn hg hm hv rfl hn hd
end
def HasFn(P:Program)(w:World)(K:ag)(mg:aN)(base:Heap)(k:Nat)(x:Str)(ps:List Str)(sp:Sp):Prop:=
 ∃f fd,aG P w K mg base aK k f fd ps sp/\Binds K fd ps []/\keepIn K (.ref f)=true/\mg x=some (.ref f)
section
variable {P:Program}{w:World}{K:ag}{mg:aN}{base:Heap}{X:Cx}{k j:Nat}{sp:Sp}{x:Str}{ps:List Str}
theorem zH(h:HasFn X.prog X.w X.K X.mg X.base k x ps sp)(hr:bU j X.A)(hj:k<=j)(hg:Gl X x)(ha:PA X (e::es) t)
  (eA:(x==("__debug__":Str))=false:=by decide)(he:gJ X e es:=by rfl)(bG:hU X pos es:=by rfl):
  PE X (.Call (.Name x p) (e::es) [] pos) (zD sp [] E0 t):=by
 obtain⟨f,fd,F,b,kp,m⟩:=h;exact Zp F (hr.mono hj) hg m kp b .nil tV ha eA he bG
theorem cY(h:H p=none)(o:HO):au H (upd H p o):=λb u q=>by rw[aF (cN q h)];exact q
theorem au.ju(e:au H H')(h:aE K H a xs):aE K H' a xs:=by
 rcases h with(h|⟨o,h⟩)|h;·exact .inl (.inl (e _ _ h))
 ·exact .inl (.inr ⟨o,e _ _ h⟩)
 ·exact .inr h
theorem Xu(h:X.K=K):hX X (zW K):=h▸Es
theorem Zy(h:X.K=K):hX X (zX K):=h▸MT
theorem Zz(h:X.K=K):cU X (.builtin "isinstance") (z4 K):=h▸Uu
theorem Zdf(h:X.K=K):cU X (.builtin "len") (z5 K):=h▸U_
theorem lR(h:Q true H):zZ σ H Q:=h
theorem a_(h:n σ H):NR ⟨n,rt,bk,ct⟩ σ H:=h
theorem zh(M:St->Hp->Prop)(h1:∀nx:St->Hp->Prop,(∀σ H,M σ H->nx σ H)->FG c a b {D with nx:=nx} σ H)(h2:∀σ H,M σ H->u D σ H):wq (FG c a b) u D σ H:=h1 _ h2
theorem ZaY(x:Int)(h0:0<m)(h1:m<=2^62):-(2^64)<x % m/\x % m<2^64:=by
 have a:=W4 x (Int.ne_of_gt h0);have b:=Wo x h0;omega
theorem MZ{n:Nat}{i:Int}(h0:0<=i)(h1:i<n):iY n i=some i.toNat:=by
 unfold iY
 grind
theorem oR{ns:List Int}{i:Int}(h0:0<=i)(h1:i<ns.length):dy (ns.map V.int) i=some (.int (ns.getD i.toNat 0)):=by
 have e:i=((i.toNat:Nat):Int):=by omega
 rw[e];refine bY ?_
 grind
theorem mW{ns:List Int}{i:Nat}{y:V}(h:(ns.map V.int)[i]?=some y):∃z,y=.int z/\ns[i]?=some z:=by
 rw[Yg] at h;cases e:ns[i]? with
 |none=>grind
 |some z=>grind
theorem Xv(ns:List Int)(z:Int):ns.map V.int++[V.int z]=(ns++[z]).map V.int:=by simp
theorem KG(ns:List Int)(lo hi:Option Int):∃ms:List Int,iV (ns.map V.int) lo hi=ms.map V.int:=by
 refine⟨(ns.drop (HT.bH ns.length 0 lo)).take (HT.bH ns.length ns.length hi-HT.bH ns.length 0 lo),?_⟩;unfold iV;simp_all
end
theorem M0:bootBuiltins "abs"=some (.builtin "abs"):=by decide+kernel
theorem ZaZ:bootBuiltins "any"=some (.builtin "any"):=by decide+kernel
theorem M3:bootBuiltins "all"=some (.builtin "all"):=by decide+kernel
theorem zk:bootBuiltins "len"=some (.builtin "len"):=by decide+kernel
theorem Za0:bootBuiltins "min"=some (.builtin "min"):=by decide+kernel
theorem yD:bootBuiltins "sorted"=some (.builtin "sorted"):=by decide+kernel
theorem Td:bootBuiltins "isinstance"=some (.builtin "isinstance"):=by decide+kernel
theorem qh:bootBuiltins "list"=some (.type "list"):=by decide+kernel
theorem tG:bootBuiltins "tuple"=some (.type "tuple"):=by decide+kernel
theorem yJ:bootBuiltins "range"=some (.type "range"):=by decide+kernel
theorem yY:bootBuiltins "bool"=some (.type "bool"):=by decide+kernel
theorem vW:bootBuiltins "int"=some (.type "int"):=by decide+kernel
theorem tR:bootBuiltins "str"=some (.type "str"):=by decide+kernel
def Bd(d p:Int):Prop:=0<=d/\d<p
inductive KH(K:ag)(vs:List V)(H:Hp)(Q:VK):Prop
 |mk (a:Addr) (ns:List Int) (k:Int) (aI:vs=[.ref a,.int k]) (aX:aj K H a (ns.map V.int)) (bu:0<=k) (bW:∀c:Int,Q (.int c) H):KH K vs H Q
def ES(K:ag):Sp:=λvs H Q _=>KH K vs H Q
inductive JU(K:ag)(vs:List V)(H:Hp)(Q:VK):Prop
 |mk (c:Int) (a:Addr) (ps:List Int) (aI:vs=[.int c,.ref a]) (aX:aj K H a (ps.map V.int)) (bu:(∀p∈ps,0<p/\p<1073741824)) (bW:ps.length<=60) (dq:∀(l:Addr) (ds:List Int) (H':Hp),H l=none->au H H'->H' l=some (.lst (ds.map V.int))->Paired Bd ds ps->Q (.ref l) H'):JU K vs H Q
def yZ(K:ag):Sp:=λvs H Q _=>JU K vs H Q
theorem LM(ho:PE X o to)(hi:PE X i ti)(hs:qQ X t)(he:PE X e te)
  (h1:swapsWithSole [.Subscript o i tp] e pos.line X.env=pure false:=by rfl)(h2:swappedStores [.Subscript o i tp] e X.env=pure none:=by rfl)
  (h3:(assignEach [.Subscript o i tp] X.env).map (·.2)=[assign (.Subscript o i tp) X.env]:=by rfl)
  (ha:∀v,assign (.Subscript o i tp) X.env v=(do
   let ov←holding [v] (eval o X.env);let iv←holding [v,ov] (eval i X.env)
   standAt tp
   holding [v,ov,iv] (setItem ov iv v)
   release [v,ov,iv] []):=by intro _;rfl):PS X (.Assign [.Subscript o i tp] e pos) (qR te (OD to ti t)):=oP he (ZaJ ho hi hs ha) h1 h2 h3
def fM(h:Heap)(a C:Addr)(d:Option Addr)(vs:Array Value):Prop:=∃oe:Obj,h.get? a=some oe/\oe.cls=.ref C/\oe.dict=d/\oe.data=.fields vs/\1<vs.size
def xo(a C:Addr)(d:Option Addr):HO:=.ext λh=>∃vs,fM h a C d vs
def N0(vs:Array Value):Prop:=vs[1]?=some Value.none/\vs[2]?=some Value.none/\vs.size=6
def xn(a C:Addr)(d:Option Addr):HO:=.ext λh=>∃vs,fM h a C d vs/\N0 vs
theorem fM.keep{h1 h2:Heap}{a C:Addr}{d:Option Addr}{vs:Array Value}(x:fM h1 a C d vs)(k:∀o,h1.get? a=some o->h2.get? a=some o):fM h2 a C d vs:=by
 obtain⟨oe,e,r⟩:=x;exact⟨oe,k _ e,r⟩
theorem NY{P:Program}{w:World}{H:Hp}{h:Heap}{a C:Addr}{d:Option Addr}{vs:Array Value}(x:fM h a C d vs):cz P w H h a (xo a C d):=
 ⟨⟨vs,x⟩,let⟨oe,e,_⟩:=x;⟨oe,e⟩,λ_ _ ⟨ws,y⟩ k=>⟨ws,y.keep k⟩⟩
theorem Fo{P:Program}{w:World}{H:Hp}{h:Heap}{a C:Addr}{d:Option Addr}{vs:Array Value}(x:fM h a C d vs)(z:N0 vs):cz P w H h a (xn a C d):=
 ⟨⟨vs,x,z⟩,let⟨oe,e,_⟩:=x;⟨oe,e⟩,λ_ _ ⟨ws,y,q⟩ k=>⟨ws,y.keep k,q⟩⟩
theorem Za1{P:Program}{w:World}{H:Hp}{h:Heap}{a C:Addr}{d:Option Addr}(ok:cX P w H h)(e:H a=some (xo a C d)):∃vs,fM h a C d vs:=(ok a _ e).1
theorem zm{P:Program}{w:World}{H:Hp}{h:Heap}{a C:Addr}{d:Option Addr}(ok:cX P w H h)(e:H a=some (xn a C d)):∃vs,fM h a C d vs/\N0 vs:=(ok a _ e).1
def uz(lo:Nat)(H:Hp)(h:Heap)(vs:Array Value):Prop:=
 vs[1]?=some Value.none\/∃T oT ts,vs[1]?=some (Value.ref T)/\lo<=T/\H T=none/\h.get? T=some oT/\oT.data=.fields ts/\ts[3]?=some Value.none
def hZ(b:Bool)(P:Program)(w:World):jo:=λouter H s E e s'=>∃(a C d:Addr) (H':Hp) (vs:Array Value),e=.ref a/\s.heap.objs.size<=a/\s'.os=s.os/\AllBare s'.gens/\Un (cB outer) [] H H' s.heap s'.heap/\cX P w H' s'.heap/\
 H' a=some (xo a C (some d))/\fM s'.heap a C (some d) vs/\(uz s.heap.objs.size H' s'.heap vs/\(b=true->vs[2]?=some Value.none))/\E (.ref C) (some d) H'
abbrev kR:=hZ true
section
variable {M:Model}{A:Around}{Er:aU}{s:Shared}
theorem JV{base:Heap}{env:Env}{outer:List Env}{L e:Addr}{oe:Obj}{vs:Array Value}{head:Value}{b0:Bool}{Q:Unit->Shared->Prop}
  (fr:A.frames=some (env::outer))(jj:s.heap.FunFrames base (env::outer))(hL:env.frame=some L)(at_:s.heap.get? e=some oe)(dat:oe.data=.fields vs)(sz:1<vs.size)
  (k:∀h' T ts,(∀b o,b≠e->b∉cB (env::outer)->s.heap.get? b=some o->h'.get? b=some o)->(∀b o,b∈cB (env::outer)->s.heap.get? b=some o->∃sl,h'.get? b=some {o with slots:=sl})->
   h'.get? e=some {oe with data:=.fields (vs.setIfInBounds 1 (.ref T))}->s.heap.objs.size<=T->T≠e->h'.get? T=some {cls:=.type "traceback",dict:=none,data:=.fields ts}->ts[3]?=some Value.none->Q () {s with heap:=h'}):
  wpAny M A (do let fo←frameOf env;let pl←entryPlaceOf L b0;let en←EntryCells.newEntry head fo .none (rawInt L) .none pl;setField (.ref e) 1 en) (λ_ s2=>wpAny M A (setFlight (.ref e) none) Q Er s2) Er s:=by
 have out:e∉cB (env::outer):=λz=>by
  obtain⟨_,o,q,nf⟩:=jj.mem z;rw[at_] at q;cases q;exact nf vs dat
 refine wpAny_bind (wpAny_frameOf_fun fr jj hL λh1 so=>wpAny_bind (wpAny_entryPlaceOf λpl ip=>?_));unfold EntryCells.newEntry newFields;refine wpAny_bind (wpAny_newObj_type ?_ (ip.sizeOk5 _ _ _ _ _));generalize hts:([head,Value.ref L,Value.none,rawInt L,Value.none]++(if pl.isEmpty=true then List.replicate 6 Value.none else pl)).toArray=xk;have l3:3<xk.size:=by
  rw[←hts,Yt,Yl];simp only[Wb,PZ];omega
 have e1:h1.get? e=some oe:=(so.2.1 e out).trans at_;have lt:e<h1.objs.size:=Yo e1;have e2:=Yc {cls:=.type "traceback",dict:=none,data:=.fields xk} e1;refine wpAny_setField e2 dat sz ?_;have d3:=Obj.data_mapFields dat (·.setIfInBounds 1 (Value.ref h1.objs.size));have e3:=Ww (Obj.mapFields (·.setIfInBounds 1 (Value.ref h1.objs.size))) e2 (Obj.isFreed_of_fields d3);have t3:=(Wa (h1.push {cls:=.type "traceback",dict:=none,data:=.fields xk}) (Obj.mapFields (·.setIfInBounds 1 (Value.ref h1.objs.size))) (Yy lt)).trans (Yn h1 rfl);unfold setFlight;refine wpAny_bind (wpAny_field e3 d3 (x:=.ref h1.objs.size) (by simp[sz]) ?_);rw[if_pos (by simp)];refine wpAny_setField t3 rfl l3 (k _ h1.objs.size (xk.setIfInBounds 3 Value.none) ?_ ?_ ?_ (Gq so.1.symm) (Jd lt) ?_ (by simp[l3]))
 ·intro b o hb hf hg;have g1:h1.get? b=some o:=(so.2.1 b hf).trans hg;rw[Wa _ _ (Jd (Yo g1)),Wa _ _ (Ne.symm hb)];exact Yc _ g1
 ·intro b o hf hg;obtain⟨sl,g1⟩:=so.2.2 b o hg;have hb:b≠e:=λz=>out (z▸hf);refine⟨sl,?_⟩;rw[Wa _ _ (Jd (Yo g1)),Wa _ _ (Ne.symm hb)];exact Yc _ g1
 ·rw[Wa _ _ (Jd lt),e3];obtain⟨c,dd,da,sl⟩:=oe;cases dat;rfl
 ·exact Ww _ t3 (Obj.isFreed_of_fields (Obj.data_mapFields rfl _))
end
section
variable {P:Program}{w:World}{A:Around}{Er:aU}
theorem LN{b:Bool}{base:Heap}{env:Env}{outer:List Env}{L:Addr}{H1:Hp}{s1 s':Shared}{E:XK}{e:Value}{Q:Unit->Shared->Prop}
  (fr:A.frames=some (env::outer))(jj:s1.heap.FunFrames base (env::outer))(free:∀b∈cB (env::outer),H1 b=none)(hL:env.frame=some L)(cx:hZ b P w (env::outer) H1 s1 E e s')
  (k:∀s3,hZ b P w (env::outer) H1 s1 E e s3->Q () s3):
  wpAny (model P w) A (noteFrame e env) (λ_ s2=>wpAny (model P w) A (setFlight e none) Q Er s2) Er s':=by
 obtain⟨a,C,d,H',vs,rfl,lo,os,bare,un,ay,ha,xr,⟨fl,fz⟩,q⟩:=cx;obtain⟨oe,at_,cls,dic,dat,sz⟩:=xr;have nx:∀b:Addr,b∉([]:List Addr):=λb z=>absurd z (by simp);have fun2:s'.heap.FunFrames base (env::outer):=by
  have all:∀l:List Env,(∀b∈cB l,b∈cB (env::outer))->s1.heap.FunFrames base l->s'.heap.FunFrames base l:=by
   intro l;induction l with
   |nil=>exact λ_ _=>trivial
   |cons x r ih=>
    rintro hs ⟨kd,⟨L',o,f',n',g',nf⟩,rest⟩;have mem:L'∈cB (x::r):=by
     unfold cB;rw[Je,f'];exact Yh
    obtain⟨sl,g2⟩:=un.slot L' o g' (free L' (hs _ mem)) (hs _ mem) (nx _);refine⟨kd,⟨L',_,f',n',g2,nf⟩,ih (λb hb=>hs b ?_) rest⟩;unfold cB at hb⊢;rw[Je,f'];exact Yv _ hb
  exact all _ (λ_ z=>z) jj
 have OP:s1.heap.get? a=none:=Heap.get?_none_of_le lo;have bO:∀b∈cB (env::outer),∃o,s'.heap.get? b=some o/\∀ws,o.data≠.fields ws:=λb hb=>(fun2.mem hb).2;have P0:∀b∈cB (env::outer),H' b=none:=λb hb=>by
  obtain⟨_,o,g',_⟩:=jj.mem hb;exact un.free b o g' (free b hb) (nx _)
 have frS:∀b∈cB (env::outer),b<s1.heap.objs.size:=λb hb=>let⟨_,o,g',_⟩:=jj.mem hb;Yo g'
 --ZcR is wanted of any Ze5 end
 have fin:∀(h':Heap) (T:Addr) (ts:Array Value),(∀b o,b≠a->b∉cB (env::outer)->s1.heap.objs.size<=b\/H' b≠none\/s'.heap.get? b=some o->s'.heap.get? b=some o->(H' b≠none\/b<s1.heap.objs.size)->h'.get? b=some o)->
   (∀b o,b∈cB (env::outer)->s'.heap.get? b=some o->∃sl,h'.get? b=some {o with slots:=sl})->h'.get? a=some {oe with data:=.fields (vs.setIfInBounds 1 (.ref T))}->
   s'.heap.objs.size<=T->T≠a->h'.get? T=some {cls:=.type "traceback",dict:=none,data:=.fields ts}->ts[3]?=some Value.none->hZ b P w (env::outer) H1 s1 E (.ref a) {s' with heap:=h'}:=by
  intro h' T ts kp sl ea lT neT eT t3;have Az:∀b o,b≠a->b∉cB (env::outer)->s'.heap.get? b=some o->(H' b≠none\/b<s1.heap.objs.size)->h'.get? b=some o:=λb o h1 h2 h3 h4=>kp b o h1 h2 (.inr (.inr h3)) h3 h4;have szs:s1.heap.objs.size<=s'.heap.objs.size:=Yz lo (Jk (Yo at_));have nT:H' T=none:=ay.fresh lT;have P1:fM h' a C (some d) (vs.setIfInBounds 1 (.ref T)):=⟨_,ea,cls,dic,rfl,by rw[Ju];exact sz⟩;have FX:cX P w H' h':=by
   intro b o hb;by_cases e1:b=a
   ·subst e1;rw[ha] at hb;cases hb;exact NY P1
   ·have nf:b∉cB (env::outer):=λz=>by rw[P0 b z] at hb;cases hb
    have own:∀c,H' c=some (.own b)->c≠a:=λc hc z=>by rw[z,ha] at hc;cases hc
    refine(ay b o hb).gG (λc u hc g=>?_) (λc hc=>hc) (λc xs hc=>hc);rcases hc with rfl|hc;·exact Az _ u e1 nf g (.inl (by rw[hb];simp))
    ·exact Az c u (own c hc) (λz=>by rw[P0 c z] at hc;cases hc) g (.inl (by rw[hc];simp))
  refine⟨a,C,d,H',_,rfl,lo,os,bare,⟨λb o g' n' f' x'=>?_,λb o g' n' f' x'=>?_,un.free,λb o g' x'=>?_,un.fX,un.gH,un.gX⟩,FX,ha,P1,⟨.inr ⟨T,_,ts,by simp[sz],Yz szs lT,nT,eT,rfl,t3⟩,λz=>by rw[Ja (by decide)];exact fz z⟩,q⟩
  ·have g2:=un.keep b o g' n' f' x';exact Az b o (λz=>by rw[z,OP] at g';cases g') f' g2 (.inr (Yo g'))
  ·obtain⟨s0,g2⟩:=un.slot b o g' n' f' x';obtain⟨s2,g3⟩:=sl b _ f' g2;exact⟨s2,g3⟩
  ·obtain⟨o',g2⟩:=un.there b o g' x';have hb:b≠a:=λz=>by rw[z,OP] at g';cases g'
   by_cases f':b∈cB (env::outer)
   ·obtain⟨s2,g3⟩:=sl b _ f' g2;exact⟨_,g3⟩
   ·exact⟨o',Az b o' hb f' g2 (.inr (Yo g'))⟩
 have hE:(env.frame=some L):=hL;unfold noteFrame;simp only[hE];refine wpAny_bind ?_;rcases fl with z|⟨T0,oT,xk,z,lT,GD,g0,d0,t0⟩
 ·refine wpAny_field at_ dat z ?_;rw[if_neg (by decide)];refine JV fr fun2 hL at_ dat sz λh' T ts k1 k2 k3 k4 k5 k6 k7=>k _ (fin h' T ts (λb o h1 h2 _ h3 _=>k1 b o h1 h2 h3) k2 k3 k4 k5 k6 k7)
 ·refine wpAny_field at_ dat z ?_;rw[if_pos (by simp)];have AA:T0≠a:=λy=>by rw[y,ha] at GD;cases GD
  refine wpAny_bind (wpAny_field g0 d0 t0 ?_);rw[if_neg (by simp[rawInt])];refine wpAny_bind (wpAny_setField g0 d0 (Jo.mp t0).1 ?_);have aQ:∀b,b≠T0->(s'.heap.update T0 (Obj.mapFields (·.setIfInBounds 3 Value.none))).get? b=s'.heap.get? b:=λb hb=>Wa _ _ (Ne.symm hb);have fT:T0∉cB (env::outer):=λy=>by
   obtain⟨o,g',nf⟩:=bO T0 y;rw[g0] at g';cases g';exact nf _ d0
  have szu:(s'.heap.update T0 (Obj.mapFields (·.setIfInBounds 3 Value.none))).objs.size=s'.heap.objs.size:=Heap.size_after_update ..;refine JV (s:={s' with heap:=s'.heap.update T0 (Obj.mapFields (·.setIfInBounds 3 Value.none))}) fr (fun2.of_keeps λb o g' nf=>⟨o,(aQ b λy=>by rw[y,g0] at g';cases g';exact nf _ d0).trans g',rfl⟩) hL ((aQ a (Ne.symm AA)).trans at_) dat sz
   λh' T ts k1 k2 k3 k4 k5 k6 k7=>k _ (fin h' T ts (λb o h1 h2 _ h3 h4=>?_) (λb o h1 h2=>?_) k3 (by rw[←szu];exact k4) k5 k6 k7)
  ·have nb:b≠T0:=λy=>by
    subst y;rcases h4 with h4|h4;·exact h4 GD
    ·exact absurd lT (Nat.not_le.mpr h4)
   exact k1 b o h1 h2 ((aQ b nb).trans h3)
  ·exact k2 b o h1 ((aQ b λy=>fT (y▸h1)).trans h2)
end
theorem uz.mono{lo P2:Nat}{H:Hp}{h:Heap}{vs:Array Value}(f:uz lo H h vs)(l:P2<=lo):uz P2 H h vs:=by
 rcases f with z|⟨T,oT,ts,h1,h2,r⟩;·exact .inl z
 ·exact .inr ⟨T,oT,ts,h1,Yz l h2,r⟩
def qF(b:Bool)(X:Cx)(E:St->XK):Prop:=∀(pins:aM) (σ:St) (H:Hp) (s:Shared) (e:Value) (s':Shared),Inv X pins σ H s->hZ b X.prog X.w X.stack H s (E σ) e s'->X.xe e s'
abbrev zI:=qF true
theorem Inv.M4{b:Bool}{X:Cx}{pins:aM}{σ:St}{H1:Hp}{s1 s3:Shared}{E:XK}{e:Value}(I:Inv X pins σ H1 s1)(cx:hZ b X.prog X.w X.stack H1 s1 E e s3):
  ∃(a C d:Addr) (H':Hp) (vs:Array Value),e=.ref a/\s1.heap.objs.size<=a/\Inv X pins σ H' s3/\H' a=some (xo a C (some d))/\fM s3.heap a C (some d) vs/\(uz s1.heap.objs.size H' s3.heap vs/\(b=true->vs[2]?=some Value.none))/\E (.ref C) (some d) H':=by
 obtain⟨a,C,d,H',vs,rfl,lo,os,bare,un,ay,ha,xr,fl,q⟩:=cx;exact⟨a,C,d,H',vs,rfl,lo,I.Fi (ch:=[]) os un ay bare (λb z=>absurd z (by simp)),ha,xr,fl,q⟩
section
variable {P:Program}{w:World}{K:ag}{mg:aN}{base:Heap}{N:List Str}{qual:Str}{scope:Scope}{f:Addr}{cd:Value}{A:Around}{outer:List Env}{s:Shared}{H:Hp}{E:XK}
theorem zJ{b c:Bool}(z:(b||!c)=true:=by decide):qF b (ji (hZ c P w) P w K mg base N qual scope f cd A outer s H E) (λ_=>E):=by
 intro pins σ H1 s1 e s' I cx;show wpAny (model P w) _ (leaving _ e) _ _ s';unfold leaving;refine wpAny_bind (LN (base:=base) I.ok.frames I.stack I.yS rfl cx λs3 c3=>?_);obtain⟨a,C,d,H',vs,rfl,lo,J,ha,xr,fl,q⟩:=I.M4 c3;have sz:s.heap.objs.size<=s1.heap.objs.size:=I.sz;exact⟨a,C,d,H',vs,rfl,Yz sz lo,J.os,J.bare,J.base,J.ay,ha,xr,⟨fl.1.mono sz,λy=>fl.2 (by subst y;cases b<;>first|rfl|cases z)⟩,q⟩
theorem Zdg{b:Bool}:PassesOwn (model P w) (ji (hZ b P w) P w K mg base N qual scope f cd A outer s H E).A (ji (hZ b P w) P w K mg base N qual scope f cd A outer s H E).env (ji (hZ b P w) P w K mg base N qual scope f cd A outer s H E).xe:=
 λe s' h=>PassesOwn.leaving (Q₁:=λe rz=>hZ b P w outer H s E e rz) e s' h
end
def Za2(sp:Sp)(cW:List V)(E:St->XK)(t:TA):TE:=λσ H Q=>t σ H λvs H1=>sp (vs++cW) H1 Q (E σ)
def NZ(b:Bool)(P:Program)(w:World)(K:ag)(mg:aN)(base:Heap)(k:Nat)(x:Str)(ps:List Str)(sp:Sp):Prop:=
 ∃f fd,aG P w K mg base (hZ b P w) k f fd ps sp/\Binds K fd ps []/\keepIn K (.ref f)=true/\mg x=some (.ref f)
abbrev FZ:=NZ true
section
variable {X:Cx}{k j:Nat}{f C:Addr}{fd:FuncData}{ps:List Str}{sp:Sp}{cW:List V}{ds:List Value}{E:St->XK}{x m:Str}{p pos apos:Pos}{e o:Expr}{es:List Expr}{ta:TE}{t:TA}
theorem LO{b:Bool}{pins:aM}{σ:St}{H:Hp}{s:Shared}{Q:VK}{us:List Value}{vs:List V}(F:aG X.prog X.w X.K X.mg X.base (hZ b X.prog X.w) k f fd ps sp)(hr:bU k X.A)(hb:Binds X.K fd ps ds)(hd:Vals cW ds)(hx:qF b X E)
  (I:Inv X pins σ H s)(r:Vals vs us)(h:sp (vs++cW) H Q (E σ)):wpAny X.md X.A (call (.ref f) us) (EP X pins σ Q) X.xe s:=by
 have r2:=r.append hd;have hl:(us++ds).length=ps.length:=by rw[←r2.length];exact F.len _ _ _ _ h
 refine wpAny_call (codeAny_mono (F.run X.A X.stack s H ⟨us,[]⟩ (us++ds) (vs++cW) Q (E σ) hr I.zV (hb s us I.bL hl) r2 h) λr s' hq=>?_);cases r with
 |error e=>exact hx pins σ H s e s' I hq
 |ok fl=>cases fl<;>first|exact I.after hq|exact False.elim hq
theorem M5{b:Bool}(h:NZ b X.prog X.w X.K X.mg X.base k x ps sp)(hr:bU j X.A)(hj:k<=j)(hx:qF b X E)(hg:Gl X x)(ha:PA X (e::es) t)
  (eA:(x==("__debug__":Str))=false:=by decide)(he:gJ X e es:=by rfl)(bG:hU X pos es:=by rfl):
  PE X (.Call (.Name x p) (e::es) [] pos) (Za2 sp [] E t):=by
 obtain⟨f,fd,F,b,kp,hm⟩:=h;intro pins s σ H Q I h;exact wpAny_Call_Name_kw (mT I hg hm (callWith_K I.ok.mod.hJ kp (az (ha pos pins s σ H _ I h) λus s1 ⟨vs,H1,I1,r,q⟩=>⟨I1.bL,LO F (hr.mono hj) b .nil hx I1 r q⟩) he bG) eA)
def M6(C:Addr)(m:Str)(sp:Sp)(E:St->XK)(ta:TE)(t:TA):TE:=λσ H Q=>ta σ H λx H1=>∃a dx fs,x=.ref a/\H1 a=some (.ins C dx fs)/\fs.lookup m=none/\t σ H1 λvs H2=>sp (x::(vs++[])) H2 Q (E σ)
theorem Xw{b:Bool}{pl:Sem Bool}(he:PE X o ta)(c:fw X.K C)(hm:Meth X.K C m f)(F:aG X.prog X.w X.K X.mg X.base (hZ b X.prog X.w) k f fd ps sp)(hr:bU k X.A)(hb:Binds X.K fd ps [])(hx:qF b X E)(ha:PA X (e::es) t)
  (dm:gJ X e es:=by rfl)(bG:hU X pos es:=by rfl)
  (ht:eval (.Call (.Attribute o m apos) (e::es) [] pos) X.env=(do
   let ov←eval o X.env
   standAt apos.atName
   let(f,first)←holding [ov] (getMethod ov m pl)
   callWith pos f first (backTo pos (starEach (e::es) X.env)) (backToKw pos (keywordEach [] X.env))):=by rfl):
  PE X (.Call (.Attribute o m apos) (e::es) [] pos) (M6 C m sp E ta t):=by
 intro pins s σ H Q I h;refine methodCall_KW (az (he pins s σ H _ I h) λu s1 zq=>?_) ht;obtain⟨x,H1,I1,rx,a,dx,fs,ex,ea,l,q⟩:=zq;subst ex;obtain rfl:u=Value.ref a:=rx;exact Dq I1 ea c hm l (callWith_K I.ok.mod.hJ hm.kp (az (ha pos pins s1 σ H1 _ I1 q) λus s2 ⟨vs,H2,I2,r,q2⟩=>⟨I2.bL,LO (vs:=.ref a::vs) F hr hb .nil hx I2 (.cons rfl r) q2⟩) dm bG)
end
section
variable {P:Program}{w:World}{K:ag}{mg:aN}{base:Heap}
theorem aL.AB{b:Bool}{x qual:Str}{st:Stmt}{f:Addr}{fd:FuncData}{N ps:List Str}{k:Nat}{sp:Sp}(F:aL K x qual st f fd)(S:aS N ps (aJ st))(len:∀vs H Q E,sp vs H Q E->vs.length=ps.length)
  (ni:∀(bh:Value) (A:Around) (outer:List Env) (s:Shared) (H:Hp) (vs:List V) (Q:VK) (E:XK),bU k (A.deeper (envOfC qual (aJ st) s.heap.objs.size f bh))->sp vs H Q E->
   ∃t,eN (ji (hZ b P w) P w K mg base N qual (aJ st) f bh A outer s H E) (fQ st) t/\t {nx:=λ_ H'=>Q .aA H',rt:=Q} (start N vs) H):aG P w K mg base (hZ b P w) (k+1) f fd ps sp:=by
 obtain⟨oc,od,kV,doc,pm,an,bh,ct,hV,rfl,lk,eU⟩:=F.ex;exact Fn lk eU S len λA outer s H vs Q E hr jY=>ni bh A outer s H vs Q E hr jY
end
structure nC(K:ag)(C f:Addr):Prop where
 nE:∃(nm q:Str) (N:Addr) (bs bm:List Value) (sn:List Str) (sub:List Value) (ab:Bool) (col:Option Bool) (dd:Option Addr) (k0 k1 k2 k3 k5:Option Value),
  K.lookup C=some (excClassObj nm q C N bs bm true sn sub ab col dd k0 k1 k2 k3 k5 "ValueError.__new__")
 j9:PySem.W.mroIn K C (.type "ValueError")=some true
 xm:PySem.W.mroIn K C (.type "BaseException")=some true
 jr:PySem.W.mroIn K C (.type "AttributeError")=some false
 rG:PySem.W.mroIn K C (.type "NameError")=some false
 init:PySem.W.findIn K (.ref C) "__init__"=some (some (.ref f))
 fn:isFn K (.ref f)=true
 kp:keepIn K (.ref C)=true
theorem vL{K:ag}{C:Addr}{nm q:Str}{N:Addr}{bs bm:List Value}{hd:Bool}{sn:List Str}{sub:List Value}{ab:Bool}{col:Option Bool}{dd:Option Addr}{k0 k1 k2 k3 k5:Option Value}{nid:String}{v:Value}{b:Bool}
  (l:K.lookup C=some (excClassObj nm q C N bs bm hd sn sub ab col dd k0 k1 k2 k3 k5 nid))(h:PySem.W.mroIn K C v=some b):(Value.ref C::bm).contains v=b:=by
 unfold PySem.W.mroIn PySem.W.clsIn at h
 grind
section
variable {prog:Program}{w:World}{A:Around}{E:aU}{h:Heap}{g:Array GenState}{d:Drawn}{t:Nat}{os:OsState}
variable {nm q:Str}{C N:Addr}{bs bm:List Value}{z6:Bool}{sn:List Str}{sub:List Value}{ab:Bool}{col:Option Bool}{dd:Option Addr}{k0 k1 k2 k3 k5:Option Value}
local macro_rules|`(tactic|walk_at "vlu")=>`(tactic|exact excBase_ValueError)
theorem V2{M:Model}{rest:List Value}{Q:Unit->Shared->Prop}(kc:h.get? C=some (excClassObj nm q C N bs bm z6 sn sub ab col dd k0 k1 k2 k3 k5 "ValueError.__new__"))(j9:(Value.ref C::bm).contains (.type "ValueError")=true)
  (z:Q () ⟨h,g,d,t,os⟩):wpAny M A (checkBuiltinCall "ValueError.__new__" ⟨.ref C::rest,[]⟩) Q E ⟨h,g,d,t,os⟩:=by
 have G:=excBase_ValueError;simp only[checkBuiltinCall,G.newKind,G.newSplit,G.newRow];repeat (first|refine wpAny_loadPart_at kc ?_|(refine wpAny_isSubtype_exc kc ?_;rw[j9])|refine wpAny_staticBase_exc kc ?_|refine wpAny_madeBy_exc kc ?_|simp only[bne_self_eq_false,if_false]|wp_step)
 exact z
theorem Xx{R:Result->Shared->Prop}{rest:List Value}(kc:h.get? C=some (excClassObj nm q C N bs bm z6 sn sub ab col dd k0 k1 k2 k3 k5 "ValueError.__new__"))(j9:(Value.ref C::bm).contains (.type "ValueError")=true)
  (jr:(Value.ref C::bm).contains (.type "AttributeError")=false)(rG:(Value.ref C::bm).contains (.type "NameError")=false)
  (z:R (.ok (.ret (.ref (h.objs.size+1)))) ⟨(h.push {cls:=.type "tuple",data:=.seq rest.toArray}).push {cls:=.ref C,data:=.fields #[.ref h.objs.size,.none,.none,.none,.bool false,.none]},g,d,t,os⟩)(lim:rest.length<=sizeLine):
  codeAny (model prog w) A (.builtin "ValueError.__new__" ⟨.ref C::rest,[]⟩) R ⟨h,g,d,t,os⟩:=by
 have G:=excBase_ValueError;have ends:=G.ends;refine codeAny_builtinAt G.entry ?_;refine PySem.wpAt_bind ?_;refine PySem.wpAt_bind (PySem.wpAt_stack λp below=>PySem.wpAt_of_wpAny ?_)
 wp_walk
 refine PySem.wpAt_of_wpAny ?_;rw[G.owner];repeat (first|with_reducible refine wpAny_madeHere_exc G.canon kc ?_|with_reducible refine wpAny_loadPart_at kc ?_|(with_reducible refine wpAny_isSubtype_exc kc ?_;first|rw[j9]|rw[jr]|rw[rG])|wp_step)
 simp_all
theorem Xy{rest:List Value}{fI:Addr}{Q:Fin->Shared->Prop}(kc:h.get? C=some (excClassObj nm q C N bs bm z6 sn sub ab col dd k0 k1 k2 k3 k5 "ValueError.__new__"))(j9:(Value.ref C::bm).contains (.type "ValueError")=true)
  (jr:(Value.ref C::bm).contains (.type "AttributeError")=false)(rG:(Value.ref C::bm).contains (.type "NameError")=false)
  (li:PySem.W.Looks (model prog w) h (typeLookup (.ref C) "__init__") (some (.ref fI)))(lt:PySem.W.Looks (model prog w) h (typeOf (.ref fI)) (.type "function"))
  (z:wpAny (model prog w) A (call (.ref fI) (.ref (h.objs.size+1)::rest)) (λr s'=>r=.none/\Q (.done (.ret (.ref (h.objs.size+1)))) s') E
   ⟨(h.push {cls:=.type "tuple",data:=.seq rest.toArray}).push {cls:=.ref C,data:=.fields #[.ref h.objs.size,.none,.none,.none,.bool false,.none]},g,d,t,os⟩)(lim:rest.length<=sizeLine):
  wpAny (model prog w) A (Builtin.«type.__call__» ⟨.ref C::rest,[]⟩) Q E ⟨h,g,d,t,os⟩:=by
 have G:=excBase_ValueError;repeat (first|with_reducible refine wpAny_loadPart_at kc ?_|with_reducible refine wpAny_madeBy_exc kc ?_|wp_step)
 refine codeAny_call_builtin_code (Code.quiet_builtin _ G.quiet) (V2 kc j9 (Xx kc j9 jr rG ?_ lim));show wpAny _ _ _ _ _ _;have up:∀b o,h.get? b=some o->((h.push {cls:=.type "tuple",data:=.seq rest.toArray}).push {cls:=.ref C,data:=.fields #[.ref h.objs.size,.none,.none,.none,.bool false,.none]}).get? b=some o:=
  λb o e=>Yc _ (Yc _ e)
 have kc1:=up _ _ kc;have Zcf:(Value.ref C::bm).contains (.ref C)=true:=by simp
 unfold isInstance;repeat (first|with_reducible refine wpAny_loadPart_at here ?_|(with_reducible refine wpAny_isSubtype_exc kc1 ?_;rw[Zcf])|wp_step)
 refine(li.keeps up) _ _ _ _ (λ_ _ e=>e) ?_;refine wpAny_holding (wpAny_bind ?_);unfold bindSpecial;refine wpAny_bind ((lt.keeps up) _ _ _ _ (λ_ _ e=>e) ?_);rw[if_pos (by decide)];refine wpAny_pure (wpAny_bind (wpAny_mono z (λr s' hr=>?_) λ_ _ x=>x));obtain⟨rfl,hQ⟩:=hr
 wp_walk
 exact hQ
theorem Xz{rest:List Value}{fI:Addr}{Q:aU}(kc:h.get? C=some (excClassObj nm q C N bs bm z6 sn sub ab col dd k0 k1 k2 k3 k5 "ValueError.__new__"))(j9:(Value.ref C::bm).contains (.type "ValueError")=true)
  (jr:(Value.ref C::bm).contains (.type "AttributeError")=false)(rG:(Value.ref C::bm).contains (.type "NameError")=false)
  (li:PySem.W.Looks (model prog w) h (typeLookup (.ref C) "__init__") (some (.ref fI)))(lt:PySem.W.Looks (model prog w) h (typeOf (.ref fI)) (.type "function"))
  (z:wpAny (model prog w) (A.under (.builtin "type.__call__" ⟨.ref C::rest,[]⟩)) (call (.ref fI) (.ref (h.objs.size+1)::rest)) (λr s'=>r=.none/\Q (.ref (h.objs.size+1)) s') E
   ⟨(h.push {cls:=.type "tuple",data:=.seq rest.toArray}).push {cls:=.ref C,data:=.fields #[.ref h.objs.size,.none,.none,.none,.bool false,.none]},g,d,t,os⟩)(lim:rest.length<=sizeLine):
  wpAny (model prog w) A (call (.ref C) rest) Q E ⟨h,g,d,t,os⟩:=by
 have f1:=tc_lookup;have f2:=tc_bind (.ref C);refine wpAny_call (codeAny_of_tree ?_);repeat (any_goals (first|assumption|with_reducible refine wpAny_loadPart_at kc ?_|wp_step))
 exact⟨rfl,codeAny_call_builtin_at (Code.quiet_builtin _ (by decide+kernel)) entry_typeCall (wpAny_check_type_call_sub kc (Xy kc j9 jr rG li lt z lim))⟩
end
end L2
namespace L2
open PySem PySem.Spec PyProof.Rows
open PySem.W (Looks InstAt looks_findIn looks_typeIn looks_clsIn looks_mroIn looks_find findObj findIn mroIn clsIn)
abbrev kK:List Value:=[.type "ValueError",.type "Exception",.type "BaseException",.type "object"]
structure cZ(K:ag)(C:Addr):Prop where
 nE:∃(nm q:Str) (N:Addr) (bs:List Value) (cs:List Addr) (sn:List Str) (sub:List Value) (ab:Bool) (col:Option Bool) (dd:Option Addr) (k0 k1 k2 k3 k5:Option Value),
  K.lookup C=some (excClassObj nm q C N bs (cs.map Value.ref++kK) true sn sub ab col dd k0 k1 k2 k3 k5 "ValueError.__new__")
 ga:findIn K (.ref C) "__getattribute__"=some (some (.builtin "BaseException.__getattribute__"))
 gh:findIn K (.ref C) "__getattr__"=some none
 sa:findIn K (.ref C) "__setattr__"=some (some (.builtin "object.__setattr__"))
 cl:findIn K (.ref C) "__class__"=some (some (.builtin "object.__class__"))
 cg:specialIn K (.builtin "object.__class__") "__get__"=some (some (.builtin "getset_descriptor.__get__"))
 ct:takesIn K (.builtin "object.__class__")=some true
theorem N1(C:Addr)(cs:List Addr)(v:Value)(h:kK.contains v=true):(Value.ref C::(cs.map Value.ref++kK)).contains v=true:=by
 grind
theorem cZ.mro{K:ag}{C:Addr}(x:cZ K C)(v:Value)(h:kK.contains v=true):mroIn K C v=some true:=by
 obtain⟨nm,q,N,bs,cs,sn,sub,ab,col,dd,k0,k1,k2,k3,k5,l⟩:=x.nE;unfold PySem.W.mroIn PySem.W.clsIn
 grind
theorem cZ.hd{K:ag}{C:Addr}(x:cZ K C):hasDictIn K C=true:=by
 obtain⟨nm,q,N,bs,cs,sn,sub,ab,col,dd,k0,k1,k2,k3,k5,l⟩:=x.nE;unfold hasDictIn PySem.W.clsIn;rw[l];rfl
theorem fM.inst{h:Heap}{a C d:Addr}{vs:Array Value}{od:Obj}(x:fM h a C (some d) vs)(e:h.get? d=some od):∃ox,InstAt h a ox C (some od):=by
 obtain⟨oe,e1,e2,e3,e4,_⟩:=x;refine⟨oe,e1,e2,?_,?_⟩
 ·unfold notCls;rw[e4]
 ·rw[e3];exact e
theorem fM.Zcg{h:Heap}{a C:Addr}{vs:Array Value}(x:fM h a C none vs):∃ox,InstAt h a ox C none:=by
 obtain⟨oe,e1,e2,e3,e4,_⟩:=x;refine⟨oe,e1,e2,?_,?_⟩
 ·unfold notCls;rw[e4]
 ·grind
section
variable {prog:Program}{w:World}{A:Around}{E:aU}{s:Shared}{K:ag}{x C:Addr}{ox:Obj}{od:Option Obj}{name:Str}
theorem Za3{tk:Tok}{R:Result->Shared->Prop}(KX:K.In s.heap)(I:InstAt s.heap x ox C od)(X:cZ K C)
  (k:wpAny (model prog w) A.in1 (Builtin.«object.__getattribute__» ⟨[.ref x,.str name tk],[]⟩) (λfin s'=>match fin with|.done f=>R (.ok f) s'|.again c'=>c'.quiet=true/\codeAny (model prog w) A c' R s') (λe s'=>R (.error e) s') s):
  codeAny (model prog w) A (.call (.builtin "BaseException.__getattribute__") ⟨[.ref x,.str name tk],[]⟩) R s:=by
 have G:=PySem.F.attr_ValueError;exact codeAny_call_builtin G.ga.plain PySem.F.entry_bexc_ga (check_slot (i:="BaseException.__getattribute__") (owner:="BaseException") (n:="__getattribute__") (by decide+kernel) (by decide+kernel) ((I.type).andThen (looks_mroIn KX (X.mro _ (by decide)))) (PySem.F.args_bexc_ga _ _) k)
theorem Za4{tk:Tok}{fill expr:Bool}{Q:aU}(KX:K.In s.heap)(I:InstAt s.heap x ox C od)(X:cZ K C)
  (k:codeAny (model prog w) A (.call (.builtin "BaseException.__getattribute__") ⟨[.ref x,.str name tk],[]⟩) (λr s'=>match r with|.ok (.ret v)=>handedIn v=true/\Q v s'|_=>False) s):
  wpAny (model prog w) A (getAttrBy (.ref x) (.str name tk) fill expr) Q E s:=by
 refine wpAny_holding (wpAny_bind ((I.type).here (wpAny_bind ((looks_findIn KX X.ga).here ?_))));show wpAny _ _ (if(onTheHeap (Value.ref C)&&Value.builtin "BaseException.__getattribute__"==Value.builtin "object.__getattribute__")=true then _ else getAttrByItsOwn (.ref x) (.str name tk) (.ref C) (.builtin "BaseException.__getattribute__") fill expr) _ _ _;refine wpAny_bind ((looks_findIn KX X.gh).here (wpAny_bind (wpAny_attempt (wpAny_holding ?_))));unfold callGetattribute;rw[if_neg (by cases expr<;>exact Yf)];refine wpAny_bind (wpAny_pure (wpAny_call (codeAny_mono k λr s' z=>?_)));cases r with
 |error e=>grind
 |ok f=>
  cases f with
  |ret v=>
   obtain⟨z1,z2⟩:=z;show wpAny _ _ (handedOut v) _ _ _;rw[PySem.W.handedOut_of z1];exact wpAny_pure z2
  |next=>grind
  |brk=>grind
  |cont=>grind
theorem Zdh{expr:Bool}{v:Value}{Q:aU}(KX:K.In s.heap)(I:InstAt s.heap x ox C od)(X:cZ K C)(hf:findObj K C od name=some (.value v))(hh:handedIn v=true)(q:Q v {s with toks:=s.toks+1}):
  wpAny (model prog w) A (getAttr (.ref x) name expr) Q E s:=by
 exact wpAny_bind (wpAny_mkText (Za4 KX I X (Za3 KX I X (wpAny_bind (wpAny_pure (wpAny_bind (wpAny_pure (wpAny_bind ((I.type).at (wpAny_bind ((looks_find KX I hf).at (wpAny_pure (And.intro hh q)))))))))))))
theorem IM(self:Value):∀cs:List Addr,refuseLoop self "__setattr__" (cs.map Value.ref++kK)=pure ()
 |[]=>PySem.F.store_ValueError.passes self
 |c::r=>by
  show refuseLoop self "__setattr__" (.ref c::(r.map Value.ref++kK))=pure ();rw[refuseLoop_ref];exact IM self r
theorem OQ{v:Value}{Q:Unit->Shared->Prop}(KX:K.In s.heap)(I:InstAt s.heap x ox C od)(X:cZ K C)(na:findIn K (.ref C) name=some none)
  (k:wpAny (model prog w) A.in1 (Builtin.ObjectAttr.storeInOwnDict (.ref x) (.ref C) (.str name s.toks) name v false) (λfin s'=>fin=PySem.Fin.done (.ret .none)/\Q () s') (λ_ _=>False) {s with toks:=s.toks+1}):
  wpAny (model prog w) A (setAttr (.ref x) name v) Q E s:=by
 have SF:=PySem.F.store_object;refine set_plain KX I X.sa ?_;have sub:Looks (model prog w) s.heap (isInstance (.ref x) (.type "object")) true:=I.type.andThen (looks_mroIn KX (X.mro _ (by decide)));refine codeAny_call_builtin SF.slot.plain SF.entry (@check_slot (model prog w) _ _ {s with toks:=s.toks+1} "object.__setattr__" "object" "__setattr__" (.ref x) [.str name s.toks,v] [] _ SF.kind SF.split sub (SF.args (.ref x) (.str name s.toks) v) ?_);obtain⟨nm,q,N,bs,cs,sn,sb,ab,col,dd,k0,k1,k2,k3,k5,l⟩:=X.nE;have hm:Looks (model prog w) s.heap (mroOf (.ref C)) (.ref C::(cs.map Value.ref++kK)):=(looks_clsIn KX (by unfold PySem.W.clsIn;rw[l])).andThen .now;rw[osa_eq,refuse_eq];refine wpAny_bind (wpAny_bind (I.type.here (s:={s with toks:=s.toks+1}) (wpAny_bind (hm.here (s:={s with toks:=s.toks+1}) ?_))));rw[refuseLoop_ref,IM];refine wpAny_pure (wpAny_bind (I.type.here (s:={s with toks:=s.toks+1}) (wpAny_bind ((looks_findIn KX na).here (s:={s with toks:=s.toks+1}) (wpAny_bind (wpAny_pure ?_))))));refine wpAny_mono k (λfin s' z=>?_) λ_ _ z=>z.elim;obtain⟨rfl,z⟩:=z;exact z
end
def xq(d:Addr)(fs:List (Str×V)):HO:=.ext λh=>∃mA,h.Ns1 d mA/\(∀f,dP (fs.lookup f) (mA f))/\PySem.Within mA (fs.map (·.1))
theorem N3{P:Program}{w:World}{H:Hp}{h:Heap}{d:Addr}{fs:List (Str×V)}{mA:aN}(n:h.Ns1 d mA)(r:∀f,dP (fs.lookup f) (mA f))(wi:PySem.Within mA (fs.map (·.1))):cz P w H h d (xq d fs):=
 ⟨⟨mA,n,r,wi⟩,let⟨o,_,_,e,_⟩:=n;⟨o,e⟩,λ_ _ ⟨m,y,q⟩ k=>⟨m,y.at k,q⟩⟩
theorem M7{P:Program}{w:World}{H:Hp}{h:Heap}{d:Addr}{fs:List (Str×V)}(ok:cX P w H h)(e:H d=some (xq d fs)):∃mA,h.Ns1 d mA/\(∀f,dP (fs.lookup f) (mA f))/\PySem.Within mA (fs.map (·.1)):=(ok d _ e).1
theorem LP{f:Str}{y:V}{u:Value}{fs:List (Str×V)}{mA:aN}(ry:RelV y u)(r:∀g,dP (fs.lookup g) (mA g)):∀g,dP ((cw f y fs).lookup g) (if g=f then some u else mA g):=λg=>by
 rw[CS];by_cases q:g=f;·rw[if_pos q,if_pos q];exact ry
 ·grind
theorem IP{f:Str}{y:V}{u:Value}{fs:List (Str×V)}{mA:aN}(wi:PySem.Within mA (fs.map (·.1))):PySem.Within (λg=>if g=f then some u else mA g) ((cw f y fs).map (·.1)):=λg hg=>by
 by_cases q:g=f;·rw[q];exact(vB f y fs).1
 ·refine(vB f y fs).2 g (wi g λz=>hg ?_)
  grind
section
variable {prog:Program}{w:World}{A:Around}{E:aU}{s:Shared}{K:ag}{x C:Addr}{name:Str}{nV v:Value}{b:Bool}{tk:Tok}
theorem V3{ox:Obj}{d:Addr}{mA:aN}{ns:List Str}{Q:PySem.Fin->Shared->Prop}(KX:K.In s.heap)(X:cZ K C)(hx:s.heap.get? x=some ox)(hc:ox.cls=.ref C)(hd:ox.dict=some d)(n:s.heap.Ns1 d mA)(wi:PySem.Within mA ns)(sz:ns.length<sizeLine)
  (k:∀h' xt,h'.Ns1 d (λy=>if y=name then some v else mA y)->Heap.SameBut d s.heap h'->Q (.done (.ret .none)) {s with heap:=h',toks:=xt}):
  wpAny (model prog w) A (Builtin.ObjectAttr.storeInOwnDict (.ref x) (.ref C) (.str name tk) name v b) Q E s:=by
 obtain⟨oc,odi,P4,hV⟩:=ox;subst hc hd;obtain⟨cd,eU,hh⟩:=any_some X.hd;refine wpAny_bind (wpAny_pure (wpAny_bind (wpAny_bind (wpAny_loadPart hx (wpAny_bind ((looks_clsIn KX eU).here ?_))))));rw[hh];refine wpAny_pure (wpAny_bind (wpAny_pure (wpAny_bind (wpAny_nsSet1 n λh' n2 s2=>?_))));obtain⟨oD,PH,PK,wV,wW,wX⟩:=n2.count (PySem.Within.cons name v wi);exact wpAny_bind (wpAny_lookBehind wV (by rw[wW];exact pastItsLine_dict (Yz wX (by rw[Wb];omega))) (wpAny_pure (k _ _ n2 s2)))
theorem V4{ox:Obj}{vs:Array Value}{Q:PySem.Fin->Shared->Prop}(KX:K.In s.heap)(X:cZ K C)(hx:s.heap.get? x=some ox)(hc:ox.cls=.ref C)(hd:ox.dict=none)(hf:ox.data=.fields vs)
  (k:∀h' xt,h'.Ns1 s.heap.objs.size (λy=>if y=name then some v else none)->h'.get? x=some {ox with dict:=some s.heap.objs.size}->(∀c o,c≠x->s.heap.get? c=some o->h'.get? c=some o)->Q (.done (.ret .none)) {s with heap:=h',toks:=xt}):
  wpAny (model prog w) A (Builtin.ObjectAttr.storeInOwnDict (.ref x) (.ref C) (.str name tk) name v b) Q E s:=by
 obtain⟨oc,odi,P4,hV⟩:=ox;subst hc hd hf;obtain⟨cd,eU,hh⟩:=any_some X.hd;refine wpAny_bind (wpAny_pure (wpAny_bind (wpAny_bind (wpAny_loadPart hx (wpAny_bind ((looks_clsIn KX eU).here ?_))))));rw[hh];have xs:=Yy (Yo hx);have P5:(s.heap.push {cls:=.type "dict",data:=.dict #[]}).get? x=some ⟨.ref C,none,.fields vs,hV⟩:=Yc _ hx;refine wpAny_bind (wpAny_alloc' (wpAny_bind (wpAny_update' P5 (wpAny_pure ?_))));have gd:((s.heap.push {cls:=.type "dict",data:=.dict #[]}).update x λo=>{o with dict:=some s.heap.objs.size}).get? s.heap.objs.size=some {cls:=.type "dict",data:=.dict #[]}:=
  (P6 _ _ _ _ xs.symm).trans (Heap.get?_push_at rfl rfl)
 refine wpAny_bind (wpAny_pure (wpAny_bind (wpAny_nsSet1 (Heap.Ns1.of_empty ⟨_,#[],_,gd,rfl,λe he=>absurd he (by simp),λ_=>rfl⟩) λh' n2 s2=>?_)));obtain⟨oD,PH,PK,wV,wW,wX⟩:=n2.count (PySem.Within.cons name v PySem.Within.nil);refine wpAny_bind (wpAny_lookBehind wV (by rw[wW];exact pastItsLine_dict (Yz wX (by rw[Wb,PZ,sizeLine_eq];omega))) (wpAny_pure (k _ _ n2 ?_ λc o hc hg=>?_)));·exact(s2.2 x xs).trans (Ww _ P5 rfl)
 ·exact(s2.2 c (Yy (Yo hg))).trans ((P6 _ _ _ _ hc).trans (Yc _ hg))
end
def N4(K:ag)(ta tv:TE)(f:Str):TS:=λ D σ H=>tv σ H λ y H1=>ta σ H1 λ x H2=>∃ a C,x=.ref a/\cZ K C/\cu K C f /\
  ((H2 a=some (xn a C none)/\∀ d,H2 d=none->d≠a->D.nx σ (upd (upd H2 d (xq d [(f,y)])) a (xn a C (some d)))) \/
   ∃ d fs,H2 a=some (xn a C (some d))/\H2 d=some (xq d fs)/\d≠a/\fs.length < 1000/\D.nx σ (upd H2 d (xq d (cw f y fs))))
def N5(K:ag)(ta:TE)(f:Str):TE:=λσ H Q=>ta σ H λx H1=>∃a C d fs v,x=.ref a/\H1 a=some (xo a C (some d))/\H1 d=some (xq d fs)/\cZ K C/\cu K C f/\fs.lookup f=some v/\Q v H1
section
variable {X:Cx}{o e value:Expr}{f:Str}{pos pos':Pos}{ta tv:TE}
theorem LQ(ha:PE X o ta)(hv:PE X value tv)(hs:swapsWith value (some (.Attribute o f pos')) pos.line X.env=pure false:=by rfl):PS X (.Assign [.Attribute o f pos'] value pos) (N4 X.K ta tv f):=by
 intro pins s σ H D I h;refine plainObj_wpAny_Assign_Attribute (az (hv pins s σ H _ I h) λu s1 zq=>?_) hs;obtain⟨y,H1,I1,ry,q⟩:=zq;refine az (ha pins s1 σ H1 _ I1 q) λov s2 zq=>?_;obtain⟨x,H2,I2,rx,a,C,ex,xa,na,q2⟩:=zq;subst ex;obtain rfl:ov=Value.ref a:=rx;rcases q2 with⟨ea,q2⟩|⟨d,fs,ea,ed,nd,lim,q2⟩
 ·obtain⟨vs,xr,v1⟩:=zm I2.ay ea;obtain⟨ox,J⟩:=xr.Zcg;obtain⟨oe,e1,e2,e3,e4,e5⟩:=xr;refine OQ I2.bL J xa na (V4 (s:={s2 with toks:=s2.toks+1}) I2.bL xa e1 e2 e3 e4 λh' tk n2 ex kp=>⟨rfl,?_⟩);have dn:H2 s2.heap.objs.size=none:=I2.ay.fresh (Ye _);have ne:s2.heap.objs.size≠a:=Jd (Yo e1);refine⟨σ,_,?_,q2 s2.heap.objs.size dn ne⟩;have hx':fM h' a C (some s2.heap.objs.size) vs:=⟨_,ex,e2,rfl,e4,e5⟩;refine I2.un (h':=h') (t':=tk) ⟨λb ob hb n _ _=>?_,λb ob hb n fr _=>?_,λb ob hb n _=>?_,λb ob hb _=>?_,λb xs hb=>?_,λb ob u hb=>?_,λb ps hb=>?_⟩ λb ob hb=>?_;·exact kp b ob (λz=>by rw[z,ea] at n;cases n) hb
  ·exact⟨ob.slots,kp b ob (λz=>by rw[z,ea] at n;cases n) hb⟩
  ·rw[aF (λz=>by rw[z,ea] at n;cases n),aF (Yy (Yo hb))];exact n
  ·by_cases z:b=a;·exact⟨_,z▸ex⟩
   ·exact⟨ob,kp b ob z hb⟩
  ·rw[aF (λz=>by rw[z,ea] at hb;cases hb),aF (λz=>by rw[z,dn] at hb;cases hb)];exact hb
  ·rw[aF (λz=>by rw[z,ea] at hb;cases hb),aF (λz=>by rw[z,dn] at hb;cases hb)];exact hb
  ·exact⟨#[],by rw[aF (λz=>by rw[z,ea] at hb;cases hb),aF (λz=>by rw[z,dn] at hb;cases hb),hb];simp⟩
  ·by_cases z:b=a
   ·subst z;rw[aW] at hb;cases hb;exact(λH0=>Fo hx' v1) _
   ·rw[aF z] at hb;by_cases z2:b=s2.heap.objs.size
    ·subst z2;rw[aW] at hb;cases hb;exact(λH0=>N3 n2 (LP (fs:=[]) (mA:=λ_=>none) ry λg=>trivial) (IP (y:=y) (fs:=[]) (mA:=λ_=>none) λg hg=>absurd rfl hg)) _
    ·rw[aF z2] at hb;have AD:∀c t,H2 c=some t->t=.own b\/(∃xs,t=.tup xs)->c≠a/\c≠s2.heap.objs.size:=λc t hc ht=>by
      refine⟨λy=>?_,λy=>by rw[y,dn] at hc;cases hc⟩;rw[y,ea] at hc;cases hc;rcases ht with ht|⟨xs,ht⟩<;>cases ht
     refine(I2.ay b ob hb).gG (λc u hc hg=>?_) (λc hc=>?_) λc xs hc=>?_;·grind
     ·rw[aF (AD c _ hc (.inl rfl)).1,aF (AD c _ hc (.inl rfl)).2];exact hc
     ·rw[aF (AD c _ hc (.inr ⟨_,rfl⟩)).1,aF (AD c _ hc (.inr ⟨_,rfl⟩)).2];exact hc
 ·obtain⟨vs,xr,v1⟩:=zm I2.ay ea;obtain⟨mA,n1,rl,wi⟩:=M7 I2.ay ed;obtain⟨od,_,_,kT,_⟩:=id n1;obtain⟨ox,J⟩:=xr.inst kT;obtain⟨oe,e1,e2,e3,e4,e5⟩:=xr;refine OQ I2.bL J xa na (V3 (s:={s2 with toks:=s2.toks+1}) I2.bL xa e1 e2 e3 n1 wi (by rw[Ya,sizeLine_eq];omega) λh' tk n2 sb=>⟨rfl,σ,_,?_,q2⟩);have hd:∃o,h'.get? d=some o:=let⟨o,_,_,e',_⟩:=n2;⟨o,e'⟩;exact I2.write (x:=d) (e:=d) (t':=tk) (by rw[ed];exact True.intro) (.inl rfl) (λb q hb z=>(sb.2 b hb).trans z) hd (N3 n2 (LP ry rl) (IP wi))
theorem ZA(he:PE X e ta)(hb:attributeBase e f X.env (eval e X.env)=eval e X.env:=by rfl):PE X (.Attribute e f pos) (N5 X.K ta f):=by
 intro pins s σ H Q I h;refine LD hb (az (he pins s σ H _ I h) λu s1 zq=>?_);obtain⟨x,H1,I1,rx,a,C,d,fs,v,ex,ea,ed,xa,na,l,q⟩:=zq;subst ex;obtain rfl:u=Value.ref a:=rx;obtain⟨vs,xr⟩:=Za1 I1.ay ea;obtain⟨mA,n1,rl,wi⟩:=M7 I1.ay ed;obtain⟨od,kT,lk⟩:=JM n1;obtain⟨ox,J⟩:=xr.inst kT;have r:=rl f;rw[l] at r;obtain⟨u,hu,ru⟩:=r.some_of;exact Zdh I1.bL J xa (findObj_own xa.hd na rfl (by rw[lk,hu])) (JN ru) ⟨v,H1,I1.tok _,ru,q⟩
end
structure zK(K:ag)(C:Addr)(m:Str)(f:Addr):Prop where
 ga:specialIn K (.ref C) "__getattribute__"=some (some (.builtin "type.__getattribute__"))
 rd:PySem.W.readsIn K C (.type "type")=true
 at_:findCls K (.ref C) (.type "type") m=some (.val (.ref f))
 kp:keepIn K (.ref f)=true
section
variable {X:Cx}{CX:jo}{k:Nat}{f C:Addr}{fd:FuncData}{ps:List Str}{sp:Sp}{cW:List V}{ds:List Value}{E:XK}{x m:Str}{p pos apos:Pos}{e:Expr}{es:List Expr}{t:TA}
theorem KI{pl:Sem Bool}(cf:zK X.K C m f)(F:aG X.prog X.w X.K X.mg X.base CX k f fd ps sp)(hr:bU k X.A)(hg:Gl X x)(hm:X.mg x=some (.ref C))(hb:Binds X.K fd ps ds)(hd:Vals cW ds)(hx:Passes CX X E)(ha:PA X (e::es) t)
  (eA:(x==("__debug__":Str))=false:=by decide)(dm:gJ X e es:=by rfl)(bG:hU X pos es:=by rfl)
  (ht:eval (.Call (.Attribute (.Name x p) m apos) (e::es) [] pos) X.env=(do
   let ov←eval (.Name x p) X.env
   standAt apos.atName
   let(f,first)←holding [ov] (getMethod ov m pl)
   callWith pos f first (backTo pos (starEach (e::es) X.env)) (backToKw pos (keywordEach [] X.env))):=by rfl):
  PE X (.Call (.Attribute (.Name x p) m apos) (e::es) [] pos) (zD sp cW E t):=by
 intro pins s σ H Q I h;exact methodCall_KW (mT I hg hm (PySem.W.method_cls I.bL cf.ga (PySem.W.cls_value I.bL cf.rd cf.at_ rfl (callWith_K I.ok.mod.hJ cf.kp (az (ha pos pins _ σ H _ (I.tok (s.toks+1)) h) λus s2 ⟨vs,H2,I2,r,q2⟩=>⟨I2.bL,zg F hr hb hd hx I2 r q2⟩) dm bG))) eA) ht
end
def ET(K:ag):List V->Hp->VK->Prop:=λxs H Q=>∃(a C:Addr) (y:V),xs=[.ref a,y]/\cZ K C/\H a=some (xn a C none)/\Q .aA H
section
variable {M:Model}{A:Around}{E:aU}{s:Shared}{K:ag}{a C:Addr}
theorem Va{oe:Obj}{rest:List Value}{Q:Unit->Shared->Prop}(KX:K.In s.heap)(X:cZ K C)(e1:s.heap.get? a=some oe)(e2:oe.cls=.ref C)(z:Q () s):wpAny M A (checkBuiltinCall "ValueError.__init__" ⟨.ref a::rest,[]⟩) Q E s:=by
 obtain⟨nm,q,N,bs,cs,sn,sb,ab,col,dd,k0,k1,k2,k3,k5,l⟩:=X.nE;have kc:=KX _ _ l;have j9:=N1 C cs (.type "ValueError") (by decide);have G:=excBase_ValueError;have star:=G.noStar;obtain⟨h,g,d,t,os⟩:=s;simp only[checkBuiltinCall,G.initKind,G.initSplit,G.initRow];repeat (first|(with_reducible refine wpAny_loadPart_at e1 ?_;rw[e2])|with_reducible refine wpAny_loadPart_at kc ?_|(with_reducible refine wpAny_isSubtype_exc kc ?_;rw[j9])|wp_step)
 refine wpAny_onRaise ?_;rw[show ∀(u v:String) (n:Nat),Bind.check ⟨.positional,"*","ValueError",.self,[⟨"args",.varPos,false⟩]⟩ u v n (List.map (λx=>x.fst) ({pos:=Value.ref a::rest}:Args).kw)=pure () from λu v n=>check_star_args _ _ _ _ _ _];exact wpAny_pure z
end
section
variable {X:Cx}{x:Str}{p pos apos:Pos}{e:Expr}{es:List Expr}{t:TA}
theorem XA{pins:aM}{s:Shared}{σ:St}{H:Hp}{xs:List V}{us:List Value}{Q:VK}(I:Inv X pins σ H s)(r:Vals xs us)(h:ET X.K xs H Q):wpAny X.md X.A (call (.builtin "ValueError.__init__") us) (EP X pins σ Q) X.xe s:=by
 obtain⟨a,C,y,rfl,xa,ea,q⟩:=h;obtain⟨u1,u2,rfl,r1,r2⟩:=vals2 r;obtain rfl:u1=Value.ref a:=r1;obtain⟨vs,xr,v1⟩:=zm I.ay ea;obtain⟨oe,e1,e2,e3,e4,e5⟩:=id xr;have G:=excBase_ValueError;refine wpAny_call (codeAny_call_builtin G.init.plain G.initEntry (Va I.bL xa e1 e2 ?_));unfold Builtin.«BaseException.__init__»;show wpAny _ _ (do let tu←newTuple [u2];Builtin.BaseException.bexcPut (.ref a) 0 tu;ret .none) _ _ _;refine wpAny_bind ?_;unfold newTuple;refine wpAny_newObj_type (wpAny_bind ?_);have ep:=Yc {cls:=.type "tuple",dict:=none,data:=.seq [u2].toArray} e1;have v0:vs[0]?=some vs[0]:=Wu (by omega);unfold Builtin.BaseException.bexcPut;refine wpAny_bind (wpAny_field ep e4 v0 (wpAny_bind (wpAny_setField ep e4 (by omega) ?_)));have fin:EP X pins σ Q Value.none {s with heap:=(s.heap.push {cls:=.type "tuple",dict:=none,data:=.seq [u2].toArray}).update a (Obj.mapFields (·.setIfInBounds 0 (Value.ref s.heap.objs.size)))}:=by
  have d3:=Obj.data_mapFields e4 (·.setIfInBounds 0 (Value.ref s.heap.objs.size));have g3:=Ww (Obj.mapFields (·.setIfInBounds 0 (Value.ref s.heap.objs.size))) ep (Obj.isFreed_of_fields d3);have J:=I.write (x:=a) (e:=a) (o:=xn a C none) (t':=s.toks) (h':=(s.heap.push {cls:=.type "tuple",dict:=none,data:=.seq [u2].toArray}).update a (Obj.mapFields (·.setIfInBounds 0 (Value.ref s.heap.objs.size)))) (by rw[ea];exact True.intro) (.inl rfl)
   (λb o hb g=>by rw[Wa _ _ (Ne.symm hb)];exact Yc _ g) ⟨_,g3⟩
   (Fo (vs:=vs.setIfInBounds 0 (Value.ref s.heap.objs.size)) ⟨_,g3,by rw[Obj.cls_mapFields];exact e2,by obtain⟨c,dd,da,sl⟩:=oe;cases e4;exact e3,d3,by rw[Ju];exact e5⟩ ⟨by rw[Ja (by decide)];exact v1.1,by rw[Ja (by decide)];exact v1.2.1,by rw[Ju];exact v1.2.2⟩)
  have same:upd H a (xn a C none)=H:=by
   funext b
   by_cases z:b=a;·rw[z,aW,ea]
   ·rw[aF z]
  rw[same] at J;exact⟨.aA,H,J,rfl,q⟩
 generalize vs[0]=old;cases old<;>first|exact wpAny_pure (wpAny_pure fin)|exact wpAny_letGo (wpAny_pure fin)|exact wpAny_bind (wpAny_letGo (wpAny_pure (wpAny_pure fin)))
theorem ZC{K:ag}:findCls K (.type "ValueError") (.type "type") "__init__"=some (.val (.builtin "ValueError.__init__")):=by kernel_rfl
theorem N6{K:ag}:findIn K (.type "type") "__getattribute__"=some (some (.builtin "type.__getattribute__")):=by kernel_rfl
theorem Za5{K:ag}:subIn K (.type "type") (.type "type")=some true:=by kernel_rfl
theorem N7:typeOf (.type "ValueError")=pure (.type "type"):=by kernel_rfl
theorem Zch:opaqueClassAbove (.type "ValueError")=pure none:=by kernel_rfl
theorem ZD:bootBuiltins "ValueError"=some (.type "ValueError"):=by decide+kernel
theorem V5{prog:Program}{w:World}{A:Around}{E:aU}{s:Shared}{K:ag}{pl:Sem Bool}{Q:Value×List Value->Shared->Prop}(KX:K.In s.heap)(z:Q (.builtin "ValueError.__init__",[]) {s with toks:=s.toks+1}):
  wpAny (model prog w) A (getMethod (.type "ValueError") "__init__" pl) Q E s:=by
 have L1:Looks (model prog w) s.heap (specialOf (.type "ValueError") "__getattribute__") (some (.builtin "type.__getattribute__")):=(Looks.of_pure N7).andThen (looks_findIn KX N6);unfold getMethod;refine wpAny_bind (L1.here ?_);show wpAny _ _ (if(Manifest.canonical "type.__getattribute__" !="object.__getattribute__")=true then _ else _) _ _ _;rw[if_pos PySem.W.canon_tga];refine wpAny_bind (PySem.W.cls_open KX (Looks.of_pure Zch) (Looks.of_pure N7) N6 (hook:=none) (Looks.of_pure rfl) Za5 ZC ?_);exact wpAny_pure (PySem.W.handed_on rfl (wpAny_pure z))
theorem XD{pl:Sem Bool}(hg:Gl X "ValueError")(hm:X.mg "ValueError"=none)(ha:PA X (e::es) t)
  (dm:gJ X e es:=by rfl)(bG:hU X pos es:=by rfl)
  (ht:eval (.Call (.Attribute (.Name "ValueError" p) "__init__" apos) (e::es) [] pos) X.env=(do
   let ov←eval (.Name "ValueError" p) X.env
   standAt apos.atName
   let(f,first)←holding [ov] (getMethod ov "__init__" pl)
   callWith pos f first (backTo pos (starEach (e::es) X.env)) (backToKw pos (keywordEach [] X.env))):=by rfl):
  PE X (.Call (.Attribute (.Name "ValueError" p) "__init__" apos) (e::es) [] pos) (lY (ET X.K) t):=by
 intro pins s σ H Q I h;refine methodCall_KW (pl:=pl) (vT I hg hm ZD ?_) ht;refine V5 I.bL ?_;exact PyProof.Rows.callWith_builtin1 (az (ha pos pins _ σ H _ (I.tok _) h) λus s1 ⟨vs,H1,I1,r1,q1⟩=>XA I1 r1 q1) dm bG
end
def Za6(C:Addr)(sp:Sp)(cW:List V)(E:St->XK)(t:TA):TS:=λ_ σ H=>t σ H λvs H1=>vs.length<=1000/\∀a,H1 a=none->
 sp (.ref a::(vs++cW)) (upd H1 a (xn a C none)) (λv H2=>v=.aA/\∃d,H2 a=some (xn a C (some d))/\E σ (.ref C) (some d) (upd H2 a (xo a C (some d)))) E0
section
variable {X:Cx}{k:Nat}{f C:Addr}{fd:FuncData}{ps:List Str}{sp:Sp}{cW:List V}{ds:List Value}{E:St->XK}{x:Str}{p pos cF:Pos}{e:Expr}{es:List Expr}{t:TA}
theorem KJ(M:nC X.K C f)(F:aG X.prog X.w X.K X.mg X.base aK k f fd ps sp)(hr:bU (k+1) X.A)(hc:X.calm=true)(hg:Gl X x)(hm:X.mg x=some (.ref C))(hb:Binds X.K fd ps ds)(hd:Vals cW ds)(hx:zI X E)(ha:PA X (e::es) t)
  (eA:(x==("__debug__":Str))=false:=by decide)(he:gJ X e es:=by rfl)(bG:hU X cF es:=by rfl):
  PS X (.Raise (some (.Call (.Name x p) (e::es) [] cF)) none pos) (Za6 C sp cW E t):=by
 intro pins s σ H D I h;rw[arm_exec_Raise];refine wpAny_bind (wpAny_standAt ?_);show wpAny _ X.A (raiseStmt X.env (some (do let v←eval (.Call (.Name x p) (e::es) [] cF) X.env;standAt pos;pure v)) none) _ _ s;unfold raiseStmt;refine wpAny_bind (wpAny_bind ?_);refine wpAny_Call_Name_kw (mT I hg hm ?_ eA);refine callWith_K (h₀:=X.base) I.ok.mod.hJ M.kp (az (ha cF pins s σ H _ I h) λus s1 ⟨vs,H1,I1,r,lim,q⟩=>⟨I1.bL,?_⟩) he bG;obtain⟨nm,qn,N,bs,bm,sn,sub,ab,col,dd,k0,k1,k2,k3,k5,lk⟩:=M.nE;have kc:=I1.bL _ _ lk;have fr:H1 (s1.heap.objs.size+1)=none:=I1.ay.fresh (J1 _);have hq:=q (s1.heap.objs.size+1) fr;have r2:Vals (V.ref (s1.heap.objs.size+1)::(vs++cW)) (Value.ref (s1.heap.objs.size+1)::(us++ds)):=.cons rfl (r.append hd);have hl:((Value.ref (s1.heap.objs.size+1)::us)++ds).length=ps.length:=by
  have z:=r2.length;rw[F.len _ _ _ _ hq] at z;exact z.symm
 have here:((s1.heap.push {cls:=.type "tuple",data:=.seq us.toArray}).push {cls:=.ref C,data:=.fields #[.ref s1.heap.objs.size,.none,.none,.none,.bool false,.none]}).get? (s1.heap.objs.size+1)=
   some {cls:=.ref C,data:=.fields #[.ref s1.heap.objs.size,.none,.none,.none,.bool false,.none]}:=by heap_get
 have up:∀b o,s1.heap.get? b=some o->((s1.heap.push {cls:=.type "tuple",data:=.seq us.toArray}).push {cls:=.ref C,data:=.fields #[.ref s1.heap.objs.size,.none,.none,.none,.bool false,.none]}).get? b=some o:=
  λb o z=>Yc _ (Yc _ z)
 have new:cz X.prog X.w (upd H1 (s1.heap.objs.size+1) (xn (s1.heap.objs.size+1) C none)) _ (s1.heap.objs.size+1) (xn (s1.heap.objs.size+1) C none):=Fo (vs:=#[.ref s1.heap.objs.size,.none,.none,.none,.bool false,.none]) ⟨_,here,rfl,rfl,rfl,by show 1<6;decide⟩ ⟨rfl,rfl,rfl⟩;have I2:=I1.laid (a:=s1.heap.objs.size+1) (o:=xn (s1.heap.objs.size+1) C none) (t':=s1.toks) up (J1 _) new;have L1:=looks_findIn (M:=model X.prog X.w) I1.bL M.init;have L2:=looks_typeIn (M:=model X.prog X.w) I1.bL (beq_iff_eq.mp M.fn);have ul:us.length<=sizeLine:=by
  rw[←r.length,sizeLine_eq];omega
 obtain⟨h1,g1,d1,t1,o1⟩:=s1;refine Xz kc (vL lk M.j9) (vL lk M.jr) (vL lk M.rG) L1 L2 (wpAny_call (codeAny_mono (F.run _ X.stack _ _ ⟨Value.ref (h1.objs.size+1)::us,[]⟩ (Value.ref (h1.objs.size+1)::(us++ds)) _ _ E0 (hr.make C us [])
  (I2.zV.make C us []) (hb _ (Value.ref (h1.objs.size+1)::us) I2.bL hl) r2 hq) λr s' jq=>?_)) ul
 cases r with
 |error _=>exact False.elim jq
 |ok fl=>
  cases fl with
  |next=>exact False.elim jq
  |brk=>exact False.elim jq
  |cont=>exact False.elim jq
  |ret u=>
   obtain⟨v,H',Aw,bare,un,ay,rv,rfl,d,ea,iU⟩:=jq;obtain rfl:u=Value.none:=rv;refine⟨rfl,wpAny_bind (wpAny_standAt (wpAny_pure ?_))⟩;obtain⟨ws,xr,w1,w2,_⟩:=zm ay ea;obtain⟨oe,e1,e2,e3,e4,e5⟩:=id xr;have I3:Inv X pins σ H' s':=I2.Fi (ch:=[]) Aw un ay bare λb z=>absurd z (by simp);have P7:=I3.bL _ _ lk;have xm:=vL lk M.xm;obtain⟨oc,od,P4,hV⟩:=oe;dsimp only at e2 e3 e4;subst e2 e3 e4;have xe:X.xe (.ref (h1.objs.size+1)) s':=by
    refine hx pins σ H1 ⟨h1,g1,d1,t1,o1⟩ _ s' I1 ⟨h1.objs.size+1,C,d,upd H' (h1.objs.size+1) (xo (h1.objs.size+1) C (some d)),ws,rfl,J1 _,Aw,bare,?_,?_,aW,xr,⟨.inl w1,λ_=>w2⟩,iU⟩
    ·have rH:Un (cB X.stack) [] H1 H' h1 s'.heap:=(Un.laid up (J1 _) fr).trans un;have old:∀b o,h1.get? b=some o->b≠h1.objs.size+1:=λb o hb=>Yy (Wk (Yo hb));have tk:∀b u,H1 b=some u->b≠h1.objs.size+1:=λb u hb z=>by rw[z,fr] at hb;cases hb
     exact⟨rH.keep,rH.slot,λb o hb n x'=>by rw[aF (old b o hb)];exact rH.free b o hb n x',rH.there,λb xs hb=>by rw[aF (tk b _ hb)];exact rH.fX b xs hb,
      λb o u hb=>by rw[aF (tk b _ hb)];exact rH.gH b o u hb,λb ps hb=>by rw[aF (tk b _ hb)];exact rH.gX b ps hb⟩
    ·intro b o hb;by_cases z:b=h1.objs.size+1
     ·subst z;rw[aW] at hb;cases hb;exact NY xr
     ·rw[aF z] at hb;have nz:∀c u,H' c=some u->(u=.own b\/∃xs,u=.tup xs)->c≠h1.objs.size+1:=λc u hc hu y=>by
       rw[y,ea] at hc;cases hc;rcases hu with hu|⟨xs,hu⟩<;>cases hu
      exact(ay b o hb).gG (λ_ _ _ g=>g) (λc hc=>by rw[aF (nz c _ hc (.inl rfl))];exact hc) λc xs hc=>by rw[aF (nz c _ hc (.inr ⟨_,rfl⟩))];exact hc
   have hh:=I.ok.hd hc;obtain⟨h',g',d',t',o'⟩:=s';repeat (first|with_reducible refine wpAny_loadPart_at e1 ?_|with_reducible refine wpAny_loadPart_at P7 ?_|(with_reducible refine wpAny_isSubtype_exc P7 ?_;rw[xm])|with_reducible refine wpAny_field e1 rfl w1 ?_|wp_step)
   exact wpAny_raiseNew_none hh xe
end
abbrev Cx.hand(X:Cx)(a:Addr):Cx:={X with A:=X.A.mark (some (.ref a)),calm:=false}
theorem Cx.Ok.hand{X:Cx}(ok:X.Ok)(a:Addr):(X.hand a).Ok:=
 ⟨ok.mod,ok.kind,ok.glob,ok.blt,ok.above,ok.inj,ok.has,ok.rf,λz=>absurd (show false=true from z) Yf,ok.frames,ok.um,ok.pH,ok.bs,ok.kP,ok.qN,ok.oZ,ok.iS,ok.nI⟩
section
variable {X:Cx}{pins:aM}{σ:St}{H:Hp}{s:Shared}
theorem Inv.hand(I:Inv X pins σ H s)(a:Addr):Inv (X.hand a) pins σ H s:=⟨I.ok.hand a,I.os,I.bare,I.base,I.loc,I.cell,I.free,I.gw,I.pin,I.ay,I.len⟩
theorem Inv.Za7{a:Addr}(ok:X.Ok)(I:Inv (X.hand a).jX pins σ H s):Inv X pins σ H s:=⟨ok,I.os,I.bare,I.base,I.loc,I.cell,I.free,I.gw,I.pin,I.ay,I.len⟩
theorem Inv.vX{pn:aM}{xe:aU}{pl:aM}(ok:X.Ok)(I:Inv {X with pn:=X.pn++pn,xe:=xe} pl σ H s):Inv X pn σ H s:=
 ⟨ok,I.os,I.bare,I.base,I.loc,I.cell,I.free,I.gw,λp hp=>I.pin p (Ym _ hp),I.ay,I.len⟩
theorem Inv.Za8{xe:aU}(I:Inv X pins σ H s):Inv {X with pn:=X.pn++pins,xe:=xe} [] σ H s:=
 ⟨⟨I.ok.mod,I.ok.kind,I.ok.glob,I.ok.blt,I.ok.above,I.ok.inj,I.ok.has,I.ok.rf,I.ok.hd,I.ok.frames,I.ok.um,I.ok.pH,I.ok.bs,I.ok.kP,I.ok.qN,I.ok.oZ,I.ok.iS,I.ok.nI⟩,
  I.os,I.bare,I.base,I.loc,I.cell,I.free,I.gw,λp hp=>I.pin p (by rw[We] at hp;exact hp),I.ay,I.len⟩
theorem Inv.gone{n:Str}{i:Nat}{h':Heap}{v:Option Value}{m:aN}{t':Nat}(I:Inv X pins σ H s)(hN:X.N.Nodup)(hi:X.N[i]?=some n)(hn:s.heap.Ns X.env.locals m)
  (lk:∀(i:Nat) (x:Str) (v:V),X.N[i]?=some x->σ[i]?=some (some v)->rb X.env.scope x->∃u,RelV v u/\Look X.env s.heap m x u)
  (n2:h'.Ns X.env.locals (λx=>if x=n then v else m x))(sb:Heap.SameBut X.env.locals s.heap h'):Inv X pins (σ.set i none) H {s with heap:=h',toks:=t'}:=by
 have old:∀b o,X.cQ.heap.get? b=some o->b≠X.env.locals:=λb o hb z=>absurd (Yo (z▸hb)) (Nat.not_lt.mpr I.ok.above);have kp:∀b o,b≠X.env.locals->s.heap.get? b=some o->h'.get? b=some o:=λb o hb hg=>(sb.2 b hb).trans hg;have uj:∀b u,H b=some u->b≠X.env.locals:=λb u hb z=>by rw[z,I.free] at hb;cases hb
 refine⟨I.ok,I.os,I.bare,⟨λb o e n' f x=>kp b o (old b o e) (I.base.keep b o e n' f x),λb o e n' f x=>?_,I.base.free,λb o e x=>?_,I.base.fX,I.base.gH,I.base.gX⟩,⟨_,n2,λj x w e1 e2 e3=>?_⟩,λx c e=>?_,I.free,I.gw,λp hp=>?_,λb u hb=>?_,?_⟩
 ·obtain⟨sl,g⟩:=I.base.slot b o e n' f x;exact⟨sl,kp b _ (old b o e) g⟩
 ·obtain⟨o',g⟩:=I.base.there b o e x;exact⟨o',kp b o' (old b o e) g⟩
 ·by_cases z:i=j
  ·subst z;have bad:(σ.set i none)[i]?=some (some w):=e2;rw[List.getElem?_set_self'] at bad;cases q:σ[i]? with
   |none=>rw[q] at bad;cases bad
   |some y=>rw[q] at bad;cases bad
  ·rw[J7 z] at e2;obtain⟨u,r,l⟩:=lk j x w e1 e2 e3;refine⟨u,r,?_⟩;have ne:x≠n:=λy=>z (D1 hN hi (y▸e1));rcases l with⟨k1,k2⟩|⟨k1,c,k2,⟨o,k3,k4⟩⟩
   ·refine .inl ⟨k1,?_⟩;show(if x=n then v else m x)=some u;rw[if_neg ne];exact k2
   ·exact .inr ⟨k1,c,k2,o,kp c o (I.nJ x c k2) k3,k4⟩
 ·obtain⟨w,o,k3,k4⟩:=I.cell x c e;exact⟨w,o,kp c o (I.nJ x c e) k3,k4⟩
 ·obtain⟨k1,k2,k3,k4⟩:=I.pin p hp;exact⟨kp p.1 p.2 k3 k1,k2,k3,k4⟩
 ·refine(I.ay b u hb).gG (λc o hc hg=>kp c o ?_ hg) (λ_ q=>q) λ_ _ q=>q;rcases hc with rfl|hc;·exact uj _ _ hb
  ·exact uj _ _ hc
 ·rw[W3];exact I.len
end
section
variable {M:Model}{A:Around}{E:aU}{s:Shared}{K:ag}{a C B:Addr}{d:Option Addr}{vs:Array Value}
theorem DN{Q:Bool->Shared->Prop}{b:Bool}(KX:K.In s.heap)(XB:cZ K B)(XC:cZ K C)(xr:fM s.heap a C d vs)(mt:mroIn K C (.ref B)=some b)(z:Q b s):wpAny M A (excMatches (.ref a) (.ref B)) Q E s:=by
 obtain⟨nm,q,N,bs,cs,sn,sb,ab,col,dd,k0,k1,k2,k3,k5,l⟩:=XB.nE;obtain⟨nm',q',N',bs',cs',sn',sb',ab',Ze6,i4,l0,l1,l2,l3,l5,l'⟩:=XC.nE;have kb:=KX _ _ l;have kc:=KX _ _ l';obtain⟨oe,e1,e2,_⟩:=xr;have xm:=N1 B cs (.type "BaseException") (by decide);have isC:=vL l' mt;have f:=tc_notTuple;unfold excMatches;repeat (first|(with_reducible refine wpAny_loadPart_at e1 ?_;rw[e2])|with_reducible refine wpAny_loadPart_at kb ?_|(with_reducible refine wpAny_isSubtype_exc kb ?_;rw[xm])|(with_reducible refine wpAny_isSubtype_exc kc ?_;rw[isC])|wp_step)
 cases b<;>(wp_walk;exact z)
theorem LR{Q:Unit->Shared->Prop}{lo:Nat}{H:Hp}(xr:fM s.heap a C d vs)(fl:uz lo H s.heap vs)(z:Q () s):wpAny M A (setFlight (.ref a) none) Q E s:=by
 obtain⟨oe,e1,e2,e3,e4,e5⟩:=xr;rcases fl with y|⟨T,oT,ts,y,_,_,g0,d0,t0⟩
 ·refine wpAny_bind (wpAny_field e1 e4 y ?_);exact wpAny_pure z
 ·refine wpAny_bind (wpAny_field e1 e4 y ?_);refine wpAny_setField g0 d0 (Jo.mp t0).1 ?_;have same:=Heap.update_setField_same s.heap T oT ts 3 Value.none g0 d0 t0;simp_all
end
section
variable {X:Cx}{B:Addr}{i:Nat}{n x:Str}{body ZeY:List Stmt}{b0:Stmt}{px hp pos:Pos}{tb:(St->XK)->TS}{th:TS}
end
def Zdi(K:ag)(te:TE):TE:=λσ H Q=>te σ H λx H1=>(∃y:Str,x=.str y/\y.length<=sizeLine/\Q (.str y) H1)\/(∃i:Int,x=.int i/\i.natAbs.log2<1920/\Q (.str (toString i)) H1)\/
 ∃(a:Addr) (ns:List Int),x=.ref a/\aE K H1 a (ns.map V.int)/\(∀n∈ns,n.natAbs.log2<1920)/\(PyData.tuple (ns.map PyData.int)).shown.length<=sizeLine/\Q (.str (PyData.tuple (ns.map PyData.int)).shown) H1
theorem Vb{h:Heap}{ns:List Int}:∀{us:List Value},Vals (ns.map V.int) us->∃as,ReadsAll h us (ns.map PyData.int) as:=by
 induction ns with
 |nil=>intro us r;cases r;exact⟨[],.nil⟩
 |cons n r ih=>
  intro us q;cases q with
  |cons q1 q2=>
   obtain⟨t,rfl⟩:=q1;obtain⟨as,z⟩:=ih q2;exact⟨_,.cons (.int n t) z⟩
theorem V6{ns:List Int}(h:∀n∈ns,n.natAbs.log2<1920):PyData.showableAll (ns.map PyData.int)=true:=by
 induction ns with
 |nil=>rfl
 |cons n r ih=>
  show(decide (n.natAbs.log2<1920)&&PyData.showableAll (r.map PyData.int))=true
  grind
theorem Uv(ns:List Int):PyData.hasDictAll (ns.map PyData.int)=false:=by
 induction ns with
 |nil=>rfl
 |cons n r ih=>exact ih
theorem Vc(ns:List Int):PyData.depthAll (ns.map PyData.int)=0:=by
 induction ns with
 |nil=>rfl
 |cons n r ih=>
  show max (PyData.int n).depth (PyData.depthAll (r.map PyData.int))=0;rw[ih];rfl
section
variable {X:Cx}{e:Expr}{te:TE}{pos:Pos}
theorem vY{j:Nat}(hr:bU j X.A)(he:PE X e te):PE X (.FormattedValue e (-1) none pos) (Zdi X.K te):=by
 intro pins s σ H Q I h;refine wpAny_FormattedValue_plain (az (he pins s σ H _ I h) λu s1 zq=>?_);obtain⟨x,H1,I1,rx,q⟩:=zq;rcases q with⟨y,rfl,ly,q⟩|⟨i,rfl,li,q⟩|⟨a,ns,rfl,hq,sm,sz,q⟩
 ·obtain⟨t,rfl⟩:=rx;exact wpAny_formatField_str ⟨.str y,H1,I1,⟨t,rfl⟩,q⟩ ⟨.str y,H1,I1.tok _,⟨_,rfl⟩,q⟩ ly
 ·obtain⟨t,rfl⟩:=rx;exact wpAny_formatField_int li ⟨.str (toString i),H1,I1.tok _,⟨_,rfl⟩,q⟩
 ·obtain rfl:u=Value.ref a:=rx;obtain⟨ah,r,⟨o,g,oc,n,od⟩,hz⟩:=I1.tuple hq;obtain⟨as,ra⟩:=Vb (h:=s1.heap) r;refine formatField_of_reads (prog:=X.prog) (w:=X.w) (.tuple g oc od (by rw[List.toList_toArray];exact ra)) (show PyData.showableAll _=true from V6 sm) (λz=>?_) hr.gd ?_ (λ_ _ z=>z) (λh' u tk kp=>⟨.str (PyData.tuple (ns.map PyData.int)).shown,H1,I1.kept (t':=tk) kp,⟨u,rfl⟩,q⟩) sz
  ·have z':PyData.hasDictAll (ns.map PyData.int)=true:=z;rw[Uv] at z';cases z'
  ·show X.A.units+(PyData.depthAll (ns.map PyData.int)+1+2)<cLine;rw[Vc];have:=hr.un;omega
end
abbrev TJ:=Str->St->Hp->(Str->Hp->Prop)->Prop
def PJ(X:Cx)(es:List Expr)(t:TJ):Prop:=
 ∀(pins:aM) (s:Shared) (σ:St) (H:Hp) (acc:Str) (R:Str->Hp->Prop) (Q:Str->Shared->Prop),Inv X pins σ H s->t acc σ H R->(∀y s' H',Inv X pins σ H' s'->R y H'->Q y s')->PySem.Joins X.md X.A X.xe (evalEach es X.env) acc Q s
def Zdj:TJ:=λacc _ H R=>R acc H
def Zci(te:TE)(tr:TJ):TJ:=λacc σ H R=>te σ H λx H1=>∃y,x=.str y/\(acc++y).length<=sizeLine/\tr (acc++y) σ H1 R
def Zcj(t:TJ):TE:=λσ H Q=>t Str.empty σ H λy H1=>y.length<=sizeLine/\Q (.str y) H1
section
variable {X:Cx}{e e2:Expr}{es:List Expr}{te:TE}{t:TJ}{pos:Pos}
theorem Za9:PJ X [] Zdj:=λ_ s _ H acc _ _ I h k=>k acc s H I h
theorem Eu(he:PE X e te)(hr:PJ X es t):PJ X (e::es) (Zci te t):=by
 intro pins s σ H acc R Q I h k;refine az (he pins s σ H _ I h) λu s1 zq=>?_;obtain⟨x,H1,I1,rx,y,ex,l,q⟩:=zq;subst ex;obtain⟨tk,rfl⟩:=rx;exact⟨y,tk,rfl,l,hr pins s1 σ H1 (acc++y) R Q I1 q k⟩
theorem ZE(h:PJ X (e::e2::es) t):PE X (.JoinedStr (e::e2::es) pos) (Zcj t):=by
 intro pins s σ H Q I hq;refine wpAny_JoinedStr (h pins s σ H Str.empty _ _ I hq λy s1 H1 I1 ⟨l,q⟩=>⟨l,.str y,H1,I1.tok _,⟨_,rfl⟩,q⟩)
end
end L2
namespace L2
open PySem PySem.Spec PyProof.Rows
structure Bl(mg:aN):Prop where
 zL:mg "len"=none
 Zck:mg "abs"=none
 qu:mg "list"=none
 kz:mg "range"=none
 tL:mg "tuple"=none
 Zcl:mg "any"=none
 N8:mg "all"=none
 TX:mg "isinstance"=none
 zo:mg "bool"=none
 wc:mg "int"=none
 tY:mg "str"=none
 yK:mg "sorted"=none
 Zcm:mg "min"=none
 Zcn:mg "max"=none
 ZeZ:mg "sum"=none
 ZeT:mg "dict"=none
 ZeI:mg "reversed"=none
 TY:mg "ValueError"=none
theorem Zdk{X:Cx}{K:ag}(hc:X.calm=true)(h:X.K=K):cU X (.builtin "any") (OL K):=h▸SY hc
theorem OR{X:Cx}{K:ag}(hc:X.calm=true)(h:X.K=K):cU X (.builtin "all") (OM K):=h▸S0 hc
theorem sortedK{X:Cx}{K:ag}(h:X.K=K):cU X (.builtin "sorted") (Et K):=h▸Iv
theorem kU{X:Cx}{K:ag}(h:X.K=K):cD X (compareOp .In) (w8 K false):=h▸VX
theorem tS{X:Cx}{K:ag}(h:X.K=K):cD X (compareOp .NotIn) (w8 K true):=h▸TR
theorem LS{X:Cx}{K:ag}(h:X.K=K):hX X (Gr K):=h▸ZaQ
structure t_(K:ag)(x qual:Str)(st:Stmt)(f:Addr)(fd:FuncData):Prop where
 ex:∃(oc:Value) (od:Option Addr) (dV kV doc pm:Value) (an:Option Addr) (bh ct:Value) (hV:Array (Option Value)),
  fd=fnOf x qual (iO st) (fQ st) (aJ st) dV kV doc pm an bh ct/\K.lookup f=some ⟨oc,od,.func fd,hV⟩/\codeIn K bh qual=true
 kp:keepIn K (.ref f)=true
section
variable {P:Program}{w:World}{K:ag}{mg:aN}{base:Heap}
theorem t_.ok{x qual:Str}{st:Stmt}{f:Addr}{fd:FuncData}{N ps:List Str}{k:Nat}{sp:Sp}(F:t_ K x qual st f fd)(S:aS N ps (aJ st))(len:∀vs H Q E,sp vs H Q E->vs.length=ps.length)
  (ni:∀(bh:Value) (A:Around) (outer:List Env) (s:Shared) (H:Hp) (vs:List V) (Q:VK) (E:XK),bU k (A.deeper (envOfC qual (aJ st) s.heap.objs.size f bh))->sp vs H Q E->
   ∃t,eN (ji aK P w K mg base N qual (aJ st) f bh A outer s H E).jX (fQ st) t/\t {nx:=λ_ H'=>Q .aA H',rt:=Q} (start N vs) H):aG P w K mg base aK (k+1) f fd ps sp:=by
 obtain⟨oc,od,dV,kV,doc,pm,an,bh,ct,hV,rfl,lk,eU⟩:=F.ex;refine Fn lk eU S len λA outer s H vs Q E hr jY=>?_;obtain⟨t,h,q⟩:=ni bh A outer s H vs Q E hr jY;exact⟨t,h.jX,q⟩
end
theorem M8{K:ag}:kitOne K (.type "int") (.type "int")=some true:=by kernel_rfl
theorem EU{K:ag}:kitOne K (.type "int") (.type "bool")=some false:=by kernel_rfl
theorem M9{K:ag}:kitOne K (.type "bool") (.type "bool")=some true:=by kernel_rfl
theorem Za_{K:ag}:kitOne K (.type "str") (.type "bool")=some false:=by kernel_rfl
theorem Zba{K:ag}:kitOne K (.type "str") (.type "int")=some false:=by kernel_rfl
theorem EV{K:ag}:kitOne K (.type "str") (.type "str")=some true:=by kernel_rfl
theorem Zbb{K:ag}:kitOne K (.type "list") (.type "bool")=some false:=by kernel_rfl
theorem Zbc{K:ag}:kitOne K (.type "list") (.type "int")=some false:=by kernel_rfl
theorem Zbd{K:ag}:kitOne K (.type "list") (.type "str")=some false:=by kernel_rfl
theorem M_{K:ag}:kitOne K (.type "list") (.type "list")=some true:=by kernel_rfl
theorem Zbe{K:ag}:kitOne K (.type "list") (.type "tuple")=some false:=by kernel_rfl
theorem Zbf{K:ag}:kitOne K (.type "tuple") (.type "bool")=some false:=by kernel_rfl
theorem Zbg{K:ag}:kitOne K (.type "tuple") (.type "int")=some false:=by kernel_rfl
theorem Zbh{K:ag}:kitOne K (.type "tuple") (.type "str")=some false:=by kernel_rfl
theorem Zbi{K:ag}:kitOne K (.type "tuple") (.type "list")=some false:=by kernel_rfl
theorem Zbj{K:ag}:kitOne K (.type "tuple") (.type "tuple")=some true:=by kernel_rfl
theorem V7(ns:List Int)(o:Option Int):(ns++o.toList).map V.int=ns.map V.int++o.toList.map V.int:=by simp
inductive Dt where
 |aA|bl (b:Bool)|int (i:Int)|str (x:Str)|lst (ds:List Dt)|tup (ds:List Dt)
def At(H:Hp):Nat->V->Dt->Prop
 |_,v,.aA=>v=.aA
 |_,v,.bl b=>v=.bl b
 |_,v,.int i=>v=.int i
 |_,v,.str x=>v=.str x
 |0,_,.lst _=>False
 |0,_,.tup _=>False
 |m+1,v,.lst ds=>∃a xs,v=.ref a/\H a=some (.lst xs)/\ds.length<=1000/\Paired (At H m) xs ds
 |m+1,v,.tup ds=>∃a xs,v=.ref a/\H a=some (.tup xs)/\ds.length<=1000/\Paired (At H m) xs ds
theorem At.same(g:au H H'):∀{m:Nat} {v:V} {d:Dt},At H m v d->At H' m v d
 |_,_,.aA,h=>by unfold At at h⊢;exact h
 |_,_,.bl _,h=>by unfold At at h⊢;exact h
 |_,_,.int _,h=>by unfold At at h⊢;exact h
 |_,_,.str _,h=>by unfold At at h⊢;exact h
 |0,_,.lst _,h=>by unfold At at h;exact h.elim
 |0,_,.tup _,h=>by unfold At at h;exact h.elim
 |m+1,_,.lst _,h=>by
  obtain⟨a,xs,e,h1,h2,h3⟩:=h;exact⟨a,xs,e,g _ _ h1,h2,L2.Paired.bp h3 λ_ _ z=>At.same g z⟩
 |m+1,_,.tup _,h=>by
  obtain⟨a,xs,e,h1,h2,h3⟩:=h;exact⟨a,xs,e,g _ _ h1,h2,L2.Paired.bp h3 λ_ _ z=>At.same g z⟩
section
variable {H:Hp}{m:Nat}
theorem Na(i:Int):At H m (.int i) (.int i):=by unfold At;rfl
theorem Nb(x:Str):At H m (.str x) (.str x):=by unfold At;rfl
end
theorem jI:∀{xs:List α} {ys:List β} {i:Nat} {x:α},Paired F xs ys->xs[i]?=some x->∃y,ys[i]?=some y/\F x y:=by
 intro xs ys i x h;induction h generalizing i with
 |nil=>intro e;simp at e
 |cons r t ih=>
  intro e;cases i with
  |zero=>
   have e:=Yu (show some _=some _ by simpa using e);subst e;exact⟨_,rfl,r⟩
  |succ i=>
   obtain⟨y,h1,h2⟩:=ih (i:=i) (by simpa using e);exact⟨y,by simpa using h1,h2⟩
theorem de:∀{xs:List α} {ys:List β},Paired F xs ys->xs.length=ys.length:=by
 intro xs ys h;induction h with
 |nil=>rfl
 |cons _ _ ih=>rw[Wb,Wb,ih]
theorem KL{α:Type}{xs:List α}{i:Nat}{x:α}(h:xs[i]?=some x):dy xs (0+(i:Int))=some x:=by
 rw[show(0:Int)+(i:Int)=(i:Int) from by omega];exact bY h
def XP(H:Hp)(C:Addr)(wd:Str)(E:XK):Prop:=∀(a d:Addr) (H':Hp),H a=none->H d=none->au H H'->H' a=some (xo a C (some d))->H' d=some (xq d [("word",.str wd)])->E (.ref C) (some d) H'
theorem XP.same(x:XP H C wd E)(g:au H H1):XP H1 C wd E:=λa d H' h1 h2 g' h3 h4=>x a d H' (g.free h1) (g.free h2) (g.trans g') h3 h4
theorem nC.of{K:ag}{C f:Addr}(x:cZ K C)(init:PySem.W.findIn K (.ref C) "__init__"=some (some (.ref f)))(fn:isFn K (.ref f)=true)(kp:keepIn K (.ref C)=true):nC K C f:=by
 obtain⟨nm,q,N,bs,cs,sn,sub,ab,col,dd,k0,k1,k2,k3,k5,l⟩:=id x.nE;have no:∀n:String,kK.contains (.type n)=false->PySem.W.mroIn K C (.type n)=some false:=λn hn=>by
  unfold PySem.W.mroIn PySem.W.clsIn
  grind
 exact⟨⟨nm,q,N,bs,_,sn,sub,ab,col,dd,k0,k1,k2,k3,k5,l⟩,x.mro _ (by decide),x.mro _ (by decide),no _ (by decide),no _ (by decide),init,fn,kp⟩
def ZF:List V->Hp->VK->Prop:=λxs H Q=>∃(p:Addr) (n:Nat),xs=[.ref p]/\H p=some (.kO 0 (n:Int))/\n<=1000/\∀l:Addr,H l=none->Q (.ref l) (upd H l (.tup ((aH n).map V.int)))
section
variable {prog:Program}{w:World}{A:Around}{E:aU}{s:Shared}
theorem Uw{Q:List Value->Shared->Prop}{r:Addr}{n:Nat}{t u v:Tok}(hh:A.handled=none)(hr:IsRange s.heap r 0 (n:Int) 1 t u v)(hn:n<=1000)
  (k:∀h' tk (acc:Array Value),(∀b o,s.heap.get? b=some o->h'.get? b=some o)->ItemsOf (λi v=>∃t,v=.int (0+i*1) t) acc n->Q acc.toList {s with heap:=h',toks:=tk}):
  wpAny (model prog w) A (collect (.ref r)) Q E s:=by
 refine wpAny_bind (wpAny_runValue (codeAny_builtin PySem.F.entry_proto_collect (wpAny_bind (wpAny_newObj_type (wpAny_pure ⟨plainId_quiet PySem.F.plain_list_iadd _,codeAny_builtin PySem.F.entry_list_iadd ?_⟩)))));have N9:∀s':Shared,(∃(h':Heap) (tk:Nat) (acc:Array Value) (c:Nat),s'={s with heap:=h',toks:=tk}/\(∀b o,b≠s.heap.objs.size->(s.heap.push {cls:=.type "list",data:=.seq ([]:List Value).toArray}).get? b=some o->h'.get? b=some o)/\
   h'.get? s.heap.objs.size=some {cls:=.type "list",dict:=none,data:=.seq acc c,slots:=#[]}/\ItemsOf (λi v=>∃t,v=.int (0+i*1) t) acc n)->
   wpAny (model prog w) A (match Value.ref s.heap.objs.size with
    |Value.ref a=>do
     match(←load a).data with
      |Data.seq xs _=>pure xs.toList
      |_=>unsupported "internal:collect"
    |_=>unsupported "internal:collect") Q E s':=by
  rintro s' ⟨h',tk,acc,c,rfl,kp,here,ah⟩;exact wpAny_bind (wpAny_load here (wpAny_pure (k h' tk acc (λb o hb=>kp b o (Yy (Yo hb)) (Yc _ hb)) ah)))
 refine wpAny_mono (wpAny_extend_range (s:={s with heap:=s.heap.push {cls:=.type "list",data:=.seq ([]:List Value).toArray}})
  (R:=λr s'=>r=.ok (.ret (.ref s.heap.objs.size))/\∃(h':Heap) (tk:Nat) (acc:Array Value) (c:Nat),s'={s with heap:=h',toks:=tk}/\(∀b o,b≠s.heap.objs.size->(s.heap.push {cls:=.type "list",data:=.seq ([]:List Value).toArray}).get? b=some o->h'.get? b=some o)/\
   h'.get? s.heap.objs.size=some {cls:=.type "list",dict:=none,data:=.seq acc c,slots:=#[]}/\ItemsOf (λi v=>∃t,v=.int (0+i*1) t) acc n)
  hh (Yc _ hr) (small_one (by omega) (by omega) (by omega) (by omega)) (by rw[rangeSize_one];split<;>omega) (by omega) _ _ 0 (Yn _ rfl) λh' tk acc c kp here ah=>⟨rfl,h',tk,acc,c,rfl,kp,here,ah⟩) (λfin s' z=>?_) λe s' z=>?_
 ·cases fin with
  |done f=>obtain⟨q,x⟩:=z;cases q;exact N9 _ x
  |again c'=>exact⟨z.1,codeAny_mono z.2 λr rz hr=>by obtain⟨rfl,hz⟩:=hr;exact N9 rz hz⟩
 ·cases z.1
theorem ZG(r:Addr)(n:Nat)(t u v:Tok)(hn:n<=1000):
  Meets (Builtin.«tuple.__new__» ⟨[.type "tuple",.ref r],[]⟩) (λA R s=>A.handled=none/\IsRange s.heap r 0 (n:Int) 1 t u v/\∀(h':Heap) (tk:Nat) (acc:Array Value),(∀b o,s.heap.get? b=some o->h'.get? b=some o)->ItemsOf (λi v=>∃t,v=.int (0+i*1) t) acc n->
   R (.ok (.ret (.ref h'.objs.size))) {s with heap:=h'.push {cls:=.type "tuple",data:=.seq acc},toks:=tk}):=
 .of_wp λprog w A R s h=>by
  obtain⟨hp,g,d,tk,os⟩:=s;obtain⟨hh,ht,q⟩:=h;have sub:=sub_tuple_self;have ini:=init_tuple_lookup;have mh:=madeHere_tuple;have GF:A.in1.handled=none:=hh
  wp_walk using PySem.AutoSeq1.wpAny_loadPart' ht,wpAny_typeOf ty,Uw (A:=A.in1) GF ht hn
  intro h' xt acc kp ah;show wpAny _ _ (Builtin.Tuple.tupleExact acc.toList.toArray>>=λv=>ret v) _ _ _;unfold Builtin.Tuple.tupleExact;have lz:acc.toList.toArray.size<=sizeLine:=by
   have e:=ah.1;rw[sizeLine_eq];simp;omega
  refine wpAny_bind (wpAny_newObj_type (wpAny_pure ⟨_,rfl,?_⟩) lz);have e:acc.toList.toArray=acc:=by simp
  rw[e];exact q h' xt acc kp ah
end
theorem H_(hc:X.calm=true):cU X (.type "tuple") ZF:=by
 intro pins s σ H xs us Q I r h;obtain⟨p,n,rfl,hp,hn,q⟩:=h;obtain⟨u,rfl,rx⟩:=vals1 r;cases rx;obtain⟨t,u,v,ho⟩:=I.ay p _ hp;refine callType_new PySem.F.called_tuple (by decide) (PySem.F.typeCall_tuple_1 _) (PySem.F.newCall_tuple_1 _) (λobj=>PySem.F.args_object_init_2 obj _) PySem.F.entry_tuple_new (ZG p n t u v hn) ⟨I.ok.hd hc,ho,λh' tk acc kp ah=>⟨⟨_,Yn _ rfl,rfl⟩,?_⟩⟩;have I1:=I.kept (t':=tk) kp;have vs:Vals ((aH n).map V.int) acc.toList:=by
  refine CV (by rw[Ya,eZ];simp[ah.1]) λi x u e1 e2=>?_;obtain⟨t',rfl⟩:=ah.2 i u (by simpa using e2);have hi:i<n:=by
   have:=(Yk.mp e1).1;rw[Ya,eZ] at this;exact this
  rw[Yg,jK hi] at e1;have e3:=Yu e1;subst e3;exact⟨t',by rw[show(0:Int)+(i:Int)*1=(i:Int) by omega]⟩
 have I2:Inv X pins σ (upd H h'.objs.size (.tup ((aH n).map V.int))) {s with heap:=h'.push {cls:=.type "tuple",data:=.seq acc},toks:=tk}:=
  I1.laid (t':=tk) (λb o e=>Yc _ e) (Ye _) (show cz X.prog X.w _ _ _ (.tup _) from⟨by rw[Ya,eZ];exact Jk (mK hn),acc.toList,vs,by simpa using lN.new h' acc⟩)
 exact⟨.ref h'.objs.size,_,I2,rfl,q _ (I1.ay.fresh (Ye _))⟩
inductive LU(K:ag)(vs:List V)(H:Hp)(Q:VK):Prop
 |mk (a C:Addr) (wd y:Str) (aI:vs=[.ref a,.str wd,.str y]) (aX:H a=some (xn a C none)) (bu:cZ K C) (bW:cu K C "word") (dq:wd.length<=100) (gK:y.length<=1000000) (kW:∀d,H d=none->d≠a->Q .aA (upd (upd H d (xq d [("word",.str wd)])) a (xn a C (some d)))):LU K vs H Q
def Fp(K:ag):Sp:=λvs H Q _=>LU K vs H Q
def N_(wd:Str)(c:Addr):Sp:=λvs H Q _=>∃(a:Addr) (y:Str),vs=[.ref a,.str y]/\H a=some (xn a c none)/\y.length<=1000000/\
 ∀d,H d=none->d≠a->Q .aA (upd (upd H d (xq d [("word",.str wd)])) a (xn a c (some d)))
abbrev uA:List Str:=["self","why"]
def EW(P:Program)(w:World)(K:ag)(mg:aN)(base:Heap)(x wd:Str)(c:Addr):Prop:=
 ∃fi fd,nC K c fi/\aG P w K mg base aK 2 fi fd uA (N_ wd c)/\Binds K fd uA []/\mg x=some (.ref c)/\cZ K c/\cu K c "word"
abbrev TF:=St->Hp->(Hp->Prop)->Prop
def Zdl:TF:=λ_ H R=>R H
def Zco(te:TE)(tr:TF):TF:=λσ H R=>te σ H λx H1=>∃y:Str,x=.str y/\y.length<=4000/\tr σ H1 R
def PF(X:Cx)(es:List Expr)(t:TF):Prop:=
 ∀(pins:aM) (s:Shared) (σ:St) (H:Hp) (acc:Str) (R:Hp->Prop) (Q:Str->Shared->Prop),Inv X pins σ H s->acc.length+4000*es.length<=sizeLine->t σ H R->
  (∀z s' H',Inv X pins σ H' s'->z.length<=acc.length+4000*es.length->R H'->Q z s')->PySem.Joins X.md X.A X.xe (evalEach es X.env) acc Q s
def tJF(n:Nat)(t:TF):TE:=λσ H Q=>t σ H λH1=>∀z:Str,z.length<=4000*n->Q (.str z) H1
section
variable {X:Cx}{e e2:Expr}{es:List Expr}{te:TE}{t:TF}{pos:Pos}
theorem Zbk:PF X [] Zdl:=λ_ s _ H acc _ _ I _ h k=>k acc s H I (by simp) h
theorem vM(he:PE X e te)(hr:PF X es t):PF X (e::es) (Zco te t):=by
 intro pins s σ H acc R Q I lim h k;refine az (he pins s σ H _ I h) λu s1 zq=>?_;obtain⟨x,H1,I1,rx,y,ex,l,q⟩:=zq;subst ex;obtain⟨tk,rfl⟩:=rx;rw[Wb] at lim;have e1:(acc++y).length=acc.length+y.length:=strLen_append ..;refine⟨y,tk,rfl,by omega,hr pins s1 σ H1 (acc++y) R Q I1 (by omega) q λz s' H' I' lz r=>k z s' H' I' ?_ r⟩
 grind
theorem XE{n:Nat}(h:PF X (e::e2::es) t)(hn:(e::e2::es).length=n:=by rfl)(sm:n<=100:=by decide):PE X (.JoinedStr (e::e2::es) pos) (tJF n t):=by
 subst hn;intro pins s σ H Q I hq;have lim:Str.empty.length+4000*(e::e2::es).length<=sizeLine:=by
  have e0:Str.empty.length=0:=rfl;rw[sizeLine_eq];omega
 refine wpAny_JoinedStr (h pins s σ H Str.empty _ _ I lim hq λy s1 H1 I1 l q=>?_);have e0:Str.empty.length=0:=rfl;exact⟨by omega,.str y,H1,I1.tok _,⟨_,rfl⟩,q y (by omega)⟩
end
def tW(te:TE)(R:St->Hp->VK):TE:=λσ H Q=>te σ H (R σ H)/\∀v H1,R σ H v H1->Q v H1
theorem PE.weak{X:Cx}{e:Expr}{te:TE}(h:PE X e te)(R:St->Hp->VK):PE X e (tW te R):=λpins s σ H Q I ⟨q,k⟩=>az (h pins s σ H (R σ H) I q) λ_ _ ⟨v,H1,I1,r,z⟩=>⟨v,H1,I1,r,k v H1 z⟩
def ZH(c:Addr)(wd:Str)(E:St->XK)(te:TE):TS:=λ_ σ H=>te σ H λv H1=>∃y:Str,v=.str y/\y.length<=1000000/\XP H1 c wd (E σ)
theorem V8{X:Cx}{j:Nat}{x wd:Str}{c:Addr}{E:St->XK}{e:Expr}{te:TE}{p pos cF:Pos}(h:EW X.prog X.w X.K X.mg X.base x wd c)(hr:bU j X.A)(hj:3<=j)(hc:X.calm=true)(hg:Gl X x)(hx:zI X E)(he:PE X e te)
  (eA:(x==("__debug__":Str))=false:=by decide)(dm:starEach [e] X.env=[(false,eval e X.env)]:=by rfl):
  PS X (.Raise (some (.Call (.Name x p) [e] [] cF)) none pos) (ZH c wd E te):=by
 obtain⟨fi,fd,xc,F,b,m,xa,na⟩:=h;intro pins s σ H D I q;refine KJ xc F (hr.mono hj) hc hg m b .nil hx (aa (he.weak λσ _ v H1=>∃y:Str,v=.str y/\y.length<=1000000/\XP H1 c wd (E σ)) ai dm) eA dm rfl pins s σ H D I ⟨q,?_⟩;rintro v H1 ⟨y,rfl,ly,xp⟩;refine⟨by show 1<=1000;omega,λa ha=>⟨a,y,rfl,aW,ly,λd hd nd=>⟨rfl,d,aW,?_⟩⟩⟩;have rJ:H1 d=none:=by rw[aF nd] at hd;exact hd
 refine xp a d _ ha rJ (λb o e=>?_) aW ?_
 ·have n1:b≠a:=cN e ha;rw[aF n1,aF n1,aF (cN e rJ),aF n1];exact e
 ·rw[aF nd,aF nd,aW]
theorem yL{X:Cx}{K:ag}{e:Expr}{ta:TE}{f:Str}{pos:Pos}(h:X.K=K)(he:PE X e ta)(hb:attributeBase e f X.env (eval e X.env)=eval e X.env:=by rfl):PE X (.Attribute e f pos) (N5 K ta f):=h▸ZA he hb
end L2
namespace L2
open PySem PySem.Spec PyProof.Rows
open PySem.W (Looks InstAt looks_findIn looks_typeIn looks_clsIn looks_mroIn looks_find findObj findIn mroIn clsIn)
def P8(K:ag)(B1 B2:Addr)(i:Nat)(xu xv:TS)(D:Ends):St->XK:=λ σ c o H=>∃ C d,c=.ref C/\o=some d/\cZ K C /\
  ((mroIn K C (.ref B1)=some true/\∀ a,H a=some (xo a C (some d))->xu { nx:=λ aB H'=>D.nx (aB.set i none) H',rt:=D.rt,bk:=λ aB H'=>D.bk (aB.set i none) H',ct:=λ aB H'=>D.ct (aB.set i none) H' } (σ.set i (some (.ref a))) H) \/
   (mroIn K C (.ref B1)=some false/\mroIn K C (.ref B2)=some true/\∀ a,H a=some (xo a C (some d))->xv { nx:=λ aB H'=>D.nx (aB.set i none) H',rt:=D.rt,bk:=λ aB H'=>D.bk (aB.set i none) H',ct:=λ aB H'=>D.ct (aB.set i none) H' } (σ.set i (some (.ref a))) H))
section
variable {X:Cx}{B1 B2:Addr}{i:Nat}{n x1 x2:Str}{body EX EY:List Stmt}{b1 b2:Stmt}{P9 P_ kX dt pos:Pos}{tb:(St->XK)->TS}{xu xv:TS}
theorem ZI{b:Bool}(fr:X.stack=X.env::X.outer/\X.env.frame=some X.env.locals)(hN:X.N.Nodup)(hi:X.N[i]?=some n)(hl:X.env.scope.names.lookup n=some .local)(Qa:Gl X x1)(AE:X.mg x1=some (.ref B1))(Qb:cZ X.K B1)(xw:Gl X x2)(GG:X.mg x2=some (.ref B2))(XB2:cZ X.K B2)
  (hb:∀pn xe E,qF b {X with pn:=pn,xe:=xe} E->PassesOwn X.md X.A X.env xe->eN {X with pn:=pn,xe:=xe} body (tb E))
  (GF:∀a,eN (X.hand a).jX (b1::EX) xu)(hh2:∀a,eN (X.hand a).jX (b2::EY) xv)(OS:(x1==("__debug__":Str))=false:=by decide)(Zdm:(x2==("__debug__":Str))=false:=by decide):
  PS X (.Try body [.ExceptHandler (some (.Name x1 P9)) (some n) (b1::EX) kX,.ExceptHandler (some (.Name x2 P_)) (some n) (b2::EY) dt] [] [] pos) (λD σ H=>tb (P8 X.K B1 B2 i xu xv D) D σ H):=by
 intro pins s σ H D I h;refine wpAny_bind (wpAny_standAt (wpAny_tryStmt_except ?_));let hs:List ExceptHandler:=[.ExceptHandler (some (.Name x1 P9)) (some n) (b1::EX) kX,.ExceptHandler (some (.Name x2 P_)) (some n) (b2::EY) dt];let xe:Value->Shared->Prop:=λe s1=>wpAny X.md X.A (noteFrame e X.env) (λ_ s2=>wpAny X.md X.A (setFlight e none) (λ_ s3=>wpAny X.md X.A (handleBy e X.env hs) (SP X pins D) X.xe s3) X.xe s2) X.xe s1;have fin:∀{a:Addr} {p:Pos} {rK:St} {H5:Hp} {s5:Shared},Inv (X.hand a).jX pins rK H5 s5->∀Q:Unit->Shared->Prop,(∀s6,Inv X pins (rK.set i none) H5 s6->Q () s6)->wpAny X.md X.A (do bindName X.env n .none;unbindBehindTheSuite X.env n p) Q X.xe s5:=by
  intro a p rK H5 s5 J5 Q k;have J6:=Inv.Za7 I.ok J5;obtain⟨m,hn,lk⟩:=J6.loc;refine wpAny_nameGoes_keeps (show X.env.kindOf n=some .local from hl) hn (by rw[I.ok.kind];rfl) λh' v n2 sb=>k _ (J6.gone hN hi hn lk n2 sb)
 have px':qF b {X with pn:=X.pn++pins,xe:=xe} (P8 X.K B1 B2 i xu xv D):=by
  intro Fh aB H1 s1 e s' I' cx;have st:X.A.frames=some (X.env::X.outer):=by rw[←fr.1];exact I.ok.frames
  have f1:s1.heap.FunFrames X.base (X.env::X.outer):=by rw[←fr.1];exact I'.stack
  have f2:∀b∈cB (X.env::X.outer),H1 b=none:=by rw[←fr.1];exact I'.yS
  refine LN st f1 f2 fr.2 (by rw[←fr.1];exact cx) λs3 c3=>?_;rw[←fr.1] at c3;obtain⟨a,C,d,H',vs,rfl,lo,J,ea,xr,⟨fl,_⟩,C',d',ec,ed,XC,q⟩:=I'.M4 c3;cases ec;cases ed;have J2:=J.vX I.ok;have ends:∀(f:Flow) (p:Pos) (s5:Shared),SP (X.hand a).jX pins {nx:=λaB H'=>D.nx (aB.set i none) H',rt:=D.rt,bk:=λaB H'=>D.bk (aB.set i none) H',ct:=λaB H'=>D.ct (aB.set i none) H'} f s5->wpAny X.md X.A (do bindName X.env n .none;unbindBehindTheSuite X.env n p) (λ_ dB=>SP X pins D f dB) X.xe s5:=by
   intro f p s5 z;cases f with
   |next=>
    obtain⟨rK,H5,J5,z⟩:=z;exact fin J5 _ λs6 J6=>⟨_,_,J6,z⟩
   |brk=>
    obtain⟨rK,H5,J5,z⟩:=z;exact fin J5 _ λs6 J6=>⟨_,_,J6,z⟩
   |cont=>
    obtain⟨rK,H5,J5,z⟩:=z;exact fin J5 _ λs6 J6=>⟨_,_,J6,z⟩
   |ret u=>
    obtain⟨v,rK,H5,J5,rv,z⟩:=z;exact fin J5 _ λs6 J6=>⟨_,_,_,J6,rv,z⟩
  rcases q with⟨mt,q⟩|⟨mf,mt,q⟩
  ·refine wpAny_handleBy_cons (codeAny_handlers_test (mT (J2.hand a) Qa AE ?_ OS)) (by intro z;cases z);refine DN J2.bL Qb XC xr mt ?_;exact codeAny_handlers_suite_as (LR xr fl (vG (v:=.ref a) J2 hN hi (.inl hl) rfl (λs4 J4=>wpAny_mono (GF a pins s4 _ _ _ ((J4.hand a).iU _) (q a ea)) (λf s5 z=>ends f _ s5 z) λ_ _ z=>False.elim z) (.inr hl)))
  ·refine wpAny_handleBy_cons (codeAny_handlers_test (mT (J2.hand a) Qa AE ?_ OS)) (by intro z;cases z);refine DN J2.bL Qb XC xr mf ?_;refine wpAny_handleBy_cons (codeAny_handlers_test (mT (J2.hand a) xw GG ?_ Zdm)) (by intro z;cases z);refine DN J2.bL XB2 XC xr mt ?_;exact codeAny_handlers_suite_as (LR xr fl (vG (v:=.ref a) J2 hN hi (.inl hl) rfl (λs4 J4=>wpAny_mono (hh2 a pins s4 _ _ _ ((J4.hand a).iU _) (q a ea)) (λf s5 z=>ends f _ s5 z) λ_ _ z=>False.elim z) (.inr hl)))
 refine wpAny_mono (hb _ xe _ px' (PassesOwn.looking (K:=λe s2=>wpAny X.md X.A (setFlight e none) (λ_ s3=>wpAny X.md X.A (handleBy e X.env hs) (SP X pins D) X.xe s3) X.xe s2)) [] s σ H D I.Za8 h) (λf s1 z=>?_) λ_ _ z=>z;cases f with
 |next=>
  obtain⟨aB,H',J,q⟩:=z;exact wpAny_pure ⟨aB,H',J.vX I.ok,q⟩
 |brk=>
  obtain⟨aB,H',J,q⟩:=z;exact⟨aB,H',J.vX I.ok,q⟩
 |cont=>
  obtain⟨aB,H',J,q⟩:=z;exact⟨aB,H',J.vX I.ok,q⟩
 |ret u=>
  obtain⟨v,aB,H',J,rv,q⟩:=z;exact⟨v,aB,H',J.vX I.ok,rv,q⟩
end
theorem Zbl{X:Cx}{k j:Nat}{m:Str}{C:Addr}{ps:List Str}{sp:Sp}{E:St->XK}{pos apos:Pos}{o e:Expr}{es:List Expr}{t:TA}{ta:TE}{pl:Sem Bool}(h:∃f fd,fw X.K C/\Meth X.K C m f/\aG X.prog X.w X.K X.mg X.base (kR X.prog X.w) k f fd ps sp/\Binds X.K fd ps [])(hr:bU j X.A)(hj:k<=j)(hx:zI X E)(ho:PE X o ta)(ha:PA X (e::es) t)
  (dm:gJ X e es:=by rfl)(bG:hU X pos es:=by rfl)
  (ht:eval (.Call (.Attribute o m apos) (e::es) [] pos) X.env=(do
   let ov←eval o X.env
   standAt apos.atName
   let(f,first)←holding [ov] (getMethod ov m pl)
   callWith pos f first (backTo pos (starEach (e::es) X.env)) (backToKw pos (keywordEach [] X.env))):=by rfl):
  PE X (.Call (.Attribute o m apos) (e::es) [] pos) (M6 C m sp E ta t):=by
 obtain⟨f,fd,c,hm,F,b⟩:=h;exact Xw ho c hm F (hr.mono hj) b hx ha dm bG ht
end L2
namespace GH
open L2
theorem IQ(n:Nat):(aH n).Nodup:=by
 exact List.Pairwise.map _ (λa b h e=>h (by omega)) List.nodup_range
section
variable {t:List Int}{n:Nat}
end
end GH
namespace L2
open PySem PySem.Spec PyProof.Rows
def Row(K:ag)(H:Hp)(p:Addr)(ns:List Int):Prop:=aj K H p (ns.map V.int)\/aE K H p (ns.map V.int)
theorem Row.same{K:ag}{H H':Hp}{p:Addr}{ns:List Int}(e:au H H')(h:Row K H p ns):Row K H' p ns:=by
 rcases h with h|h;·exact .inl (e.seq h)
 ·exact .inr (e.ju h)
def full(ns:List Int):Bool:=decide (ns.Perm (aH ns.length))
theorem oA(h:full ns=true):ns.Perm (aH ns.length):=of_decide_eq_true h
theorem oM(h:ns.Perm (aH n)):full ns=true:=decide_eq_true (by rw[h.length_eq,eZ];exact h)
theorem Ux(n:Nat):(aH n).Pairwise (·<=·):=by
 unfold aH;rw[Wr];exact List.pairwise_lt_range.imp λh=>by omega
theorem IS:∀{as bs:List Int},as.Perm bs->as.Pairwise (·<=·)->bs.Pairwise (·<=·)->as=bs
 |[],bs,p,_,_=>by
  simp_all
 |a::as,[],p,_,_=>by
  simp_all
 |a::as,b::bs,p,h1,h2=>by
  rw[List.pairwise_cons] at h1 h2;have e:a=b:=by
   have ha:=p.subset Yh;have hb:=p.symm.subset Yh
   grind
  subst e;rw[IS (List.Perm.cons_inv p) h1.2 h2.2]
theorem Uy(p:b_.Perm ns)(h:b_.Pairwise (·<=·)):decide (b_=aH ns.length)=full ns:=by
 unfold full;rw[Wm,decide_eq_true_iff,decide_eq_true_iff];constructor;·grind
 ·intro q;exact IS (p.trans q) h (Ux _)
def Oa(K:ag)(neg:Bool)(tr:TE):TE:=lW (OO K neg) (lY (Et K) (jQ tr kH)) (lY KD (jQ (lY LK (jQ (lY (z5 K) (jQ tr kH)) kH)) kH))
theorem XF{K:ag}{i:Nat}{neg:Bool}{σ:St}{H:Hp}{p:Addr}{ns:List Int}{Q:VK}(hi:σ[i]?=some (some (.ref p)))(hR:Row K H p ns)(f_:ns.length<64)(q:∀H',au H H'->Q (.bl (if neg=true then !full ns else full ns)) H'):
   (Oa K neg (nA i)) σ H Q:=by
 refine⟨_,hi,p,ns,rfl,hR,f_,λl b_ hl pm so=>?_⟩;have g1:au H (upd H l (.lst (b_.map V.int))):=cY hl _;refine⟨_,hi,p,ns.map V.int,rfl,Row.same g1 hR,_,rfl,λr hr=>⟨r,(ns.map V.int).length,rfl,aW,by rw[Ya];omega,λu hu=>?_⟩⟩;have g3:=(g1.trans (cY hr (.kO 0 (((ns.map V.int).length:Nat):Int)))).trans (cY hu (.lst ((aH (ns.map V.int).length).map V.int)));refine⟨l,u,b_,aH (ns.map V.int).length,rfl,rfl,aj.of ?_,aj.of aW,?_⟩
 ·rw[aF (cN ((cY hr _) _ _ aW) hu)];exact(cY hr _) _ _ aW
 ·rw[Ya,Uy pm so]
  grind
theorem any_false(n:Nat):(List.replicate n false).any id=false:=by
 induction n with
 |zero=>rfl
 |succ n ih=>grind
section
open PySem.AutoSeq1 (wpAny_loadPart')
open PySem.MeetsSeq PySem.SeqAt
theorem Te(l:Addr)(items:Array Value)(n:Nat)(dd:Option Addr)(sl:Array (Option Value))(x:Value)(e:Value->Bool)(j:Nat)(hj:j<items.size)
  (hit:e items[j]=true)(wZ:∀m (hm:m<items.size),m<j->e items[m]=false):
  Meets (Builtin.«tuple.index» ⟨[.ref l,x],[]⟩)
   (λA R s=>s.heap.get? l=some {cls:=.type "tuple",dict:=dd,data:=.seq items n,slots:=sl}/\(∀y,y∈items->EqAt A.in1 s y x (e y))/\R (.ok (.ret (.int j s.toks))) {s with toks:=s.toks+1}):=
 .of_wp λprog w A R s h=>by
  obtain⟨hp,g,d,tk,os⟩:=s;obtain⟨hl,he,h⟩:=h
  wp_walk using wpAny_loadPart' hl
  show wpAny _ _ (forIn (m:=Sem) [:min items.size items.size] (none,()) _) _ _ _;rw[Std.Legacy.Range.forIn_eq_forIn_range'];refine wpAny_forIn_list _ (λrest b s'=>s'=⟨hp,g,d,tk,os⟩/\∃i,i<=j/\rest=List.range' i (items.size-i)) _ ?_ ?_ _ _ ⟨rfl,0,Yw _,by simp⟩
  ·rintro k rest b s' ⟨rfl,i,hi,hr⟩;have bq:i<items.size:=by omega
   obtain⟨rfl,we⟩:k=i/\rest=List.range' (i+1) (items.size-(i+1)):=by
    have e:items.size-i=(items.size-(i+1))+1:=by omega
    rw[e,List.range'_succ] at hr;injection hr with h1 h2;exact⟨h1,h2⟩
   rw[Wu bq];refine wpAny_bind (he _ (Array.getElem_mem bq) prog w _ _ ?_);rcases Nat.lt_or_ge k j with hk|hk
   ·rw[wZ k bq hk]
    wp_walk
    exact⟨rfl,k+1,by omega,we⟩
   ·obtain rfl:k=j:=by omega
    rw[hit]
    wp_walk
    exact⟨_,rfl,h⟩
  ·grind
end
def Zbm(to:TE)(t:TA):TE:=λσ H Q=>to σ H λx H1=>∃(p:Addr) (ns:List Int),x=.ref p/\H1 p=some (.tup (ns.map V.int))/\t σ H1 λvs H2=>∃(z:Int) (j:Nat),vs=[.int z]/\H2 p=some (.tup (ns.map V.int))/\ns[j]?=some z/\(∀m,m<j->ns[m]?≠some z)/\Q (.int (j:Int)) H2
theorem Tf:∀{ns:List Int} {us:List Value} {j:Nat} (h:j<us.length),Vals (ns.map V.int) us->∃n t,ns[j]?=some n/\us[j]=.int n t:=by
 intro ns;induction ns with
 |nil=>intro us j h r;cases r;simp at h
 |cons n ns ih=>
  intro us j h r;rw[Wn] at r;cases r with
  |cons r t=>
   cases j with
   |zero=>
    obtain⟨t',rfl⟩:=r;exact⟨n,t',rfl,rfl⟩
   |succ j=>
    obtain⟨n',t',e1,e2⟩:=ih (j:=j) (by simpa using h) t;exact⟨n',t',by simpa using e1,by simpa using e2⟩
theorem V9(ns:List Int):(ns.map V.int).all ij=true:=by
 induction ns with
 |nil=>rfl
 |cons n ns ih=>rw[Wn,Jf,ih];rfl
theorem Uz(ho:PE X o to)(ha:PA X [e] t)
  (qD:attributeBase o "index" X.env (eval o X.env)=eval o X.env:=by rfl)
  (FR:((backTo cF (starEach [e] X.env)).all (λx=>!x.1)&&(backToKw cF (keywordEach [] X.env)).all (λx=>x.1.isSome)
   &&decide ([e].length+([]:List Keyword).length+(if([]:List Keyword).isEmpty then 0 else 1)<30))=true:=by rfl)
  (qE:(apos.endLine==cF.line)=true:=by rfl)(hs:starEach [e] X.env=(false,eval e X.env)::starEach [] X.env:=by rfl):
  PE X (.Call (.Attribute o "index" apos) [e] [] cF) (Zbm to t):=by
 intro pins s σ H Q I h;refine wpAny_Call_method_late qD FR qE rfl (az (ho pins s σ H _ I h) λv s1 zq=>?_);obtain⟨x,H1,I1,r1,p,ns,ex,hp,q1⟩:=zq;subst ex;obtain rfl:v=Value.ref p:=r1;obtain⟨_,_,_,ob,g,oc,_,_,od⟩:=(show cz X.prog X.w H1 s1.heap p (.tup (ns.map V.int)) from I1.ay p _ hp);refine⟨"tuple","tuple.index",F.plainAttrs_tuple,F.slot_tuple_index,F.type_tuple_index,⟨ob,g,oc⟩,λa ea=>by cases ea;exact⟨ob,g,od⟩,?_⟩;have hA:=ha cF pins s1 σ H1 _ I1 q1;rw[hs] at hA⊢;refine Calls.callWith_builtin rfl (Calls.evalArgs_plain ?_);refine az hA λus s2 zq=>?_;obtain⟨vs,H2,I2,r2,z,j,ev,dt,hj,wZ,q2⟩:=zq;subst ev;obtain⟨u,rfl,ru⟩:=r2.one;obtain⟨tz,rfl⟩:=ru;obtain⟨_,ah,rv,⟨cls,dd,data,sl⟩,g2,Qc,n2,Qd,_⟩:=(show cz X.prog X.w H2 s2.heap p (.tup (ns.map V.int)) from I2.ay p _ dt);simp only at Qc Qd;subst Qc Qd;have hlen:ah.length=ns.length:=by have:=rv.length;rw[Ya] at this;omega
 have Qe:j<ah.length:=by rw[hlen];exact(Yk.mp hj).1
 have ix:∀m (hm:m<ah.length),gL (.int z) ah[m]=decide (ns[m]?=some z):=λm hm=>by
  obtain⟨n',t',e1,e2⟩:=Tf hm rv;rw[e1,e2];show(n'==z)=decide (some n'=some z)
  grind
 refine call_meets F.slot_tuple_index ⟨_,g2,rfl⟩ F.entry_tuple_index (F.args_tuple_index_2 _ _) (Te p ah.toArray n2 dd sl (.int z tz) (gL (.int z)) j (by rw[Yt];exact Qe) ?_ ?_) ⟨g2,?_,?_⟩;·rw[List.getElem_toArray,ix j Qe];exact decide_eq_true hj
 ·intro m hm bq;rw[List.getElem_toArray,ix m (by simpa using hm)];exact decide_eq_false (wZ m bq)
 ·intro y hy;exact vH (x:=.int z) ⟨tz,rfl⟩ rfl rv (V9 ns) y (by simpa using hy)
 ·exact⟨.int _,H2,I2.tok _,⟨_,rfl⟩,q2⟩
section
variable {κ:Type}[DecidableEq κ]
def bg(kvs:List (κ×V))(k:κ):Option V:=(kvs.find? λkv=>decide (kv.1=k)).map (·.2)
def putK(kvs:List (κ×V))(k:κ)(v:V):List (κ×V):=
 if(kvs.any λkv=>decide (kv.1=k))=true then kvs.map (λkv=>if kv.1=k then(kv.1,v) else kv) else kvs++[(k,v)]
def fU(kvs:List (κ×V))(k:κ):List (κ×V):=kvs.filter λkv=>decide (kv.1≠k)
theorem iN{p:κ×V}{r:List (κ×V)}{k:κ}(e:p.1=k):bg (p::r) k=some p.2:=by simp[bg,GI,e]
theorem jL{p:κ×V}{r:List (κ×V)}{k:κ}(e:¬p.1=k):bg (p::r) k=bg r k:=by simp[bg,GI,e]
theorem yM(k:κ):∀kvs:List (κ×V),(kvs.any λkv=>decide (kv.1=k))=(bg kvs k).isSome
 |[]=>rfl
 |p::r=>by
  rw[Jv];by_cases e:p.1=k;·simp only[iN e,decide_eq_true e,Bool.true_or,Option.isSome_some]
  ·rw[jL e,decide_eq_false e,Bool.false_or];exact yM k r
theorem CY(kvs:List (κ×V))(k:κ)(v:V):(putK kvs k v).length<=kvs.length+1:=by
 unfold putK
 grind
theorem mN{kvs:List (κ×V)}{k:κ}(v:V)(h:bg kvs k=none):putK kvs k v=kvs++[(k,v)]:=by
 unfold putK;rw[yM,h];rfl
theorem dP.sX(r:dP o u):o.isSome=u.isSome:=by
 cases o with
 |none=>cases u with
  |none=>rfl
  |some _=>exact(show False from r).elim
 |some _=>cases u with
  |none=>exact(show False from r).elim
  |some _=>rfl
theorem dP.getD(r:dP o u)(rd:RelV d d'):RelV (o.getD d) (u.getD d'):=by
 cases o with
 |none=>cases u with
  |none=>exact rd
  |some _=>exact(show False from r).elim
 |some _=>cases u with
  |none=>exact(show False from r).elim
  |some _=>exact r
theorem KV.val{kvs:List (κ×V)}{vs:List (κ×Value)}(r:KV kvs vs)(k:κ):dP (bg kvs k) (valueAt vs k):=by
 unfold KV at r;induction r with
 |nil=>exact True.intro
 |@cons p q ps qs h t ih=>
  obtain⟨h1,h2⟩:=h;by_cases e:p.1=k
  ·have e':q.1=k:=h1.symm.trans e;have b:valueAt (q::qs) k=some q.2:=by simp[valueAt,GI,e']
   rw[iN e,b];exact h2
  ·have e':¬q.1=k:=λz=>e (h1.trans z);have b:valueAt (q::qs) k=valueAt qs k:=by simp[valueAt,GI,e']
   rw[jL e,b];exact ih
theorem KV.any(r:KV kvs vs)(k:κ):(kvs.any λkv=>decide (kv.1=k))=vs.any λkv=>decide (kv.1=k):=by
 induction r with
 |nil=>rfl
 |cons h t ih=>grind
theorem KV.F0(r:KV kvs vs)(k:κ)(ry:RelV y u):
  KV (kvs.map λkv=>if kv.1=k then(kv.1,y) else kv) (vs.map λkv=>if kv.1=k then(kv.1,u) else kv):=by
 induction r with
 |nil=>exact .nil
 |@cons p q ps qs h t ih=>
  refine .cons ?_ ih
  grind
theorem KV.put(r:KV kvs vs)(k:κ)(ry:RelV y u):KV (putK kvs k y) (stored vs k u):=by
 unfold putK stored;rw[r.any k];by_cases e:(vs.any λkv=>decide (kv.1=k))=true;·rw[if_pos e,if_pos e];exact r.F0 k ry
 ·rw[if_neg e,if_neg e];exact Paired.snoc r ⟨rfl,ry⟩
theorem KV.drop(r:KV kvs vs)(k:κ):KV (fU kvs k) (without vs k):=by
 unfold fU without;induction r with
 |nil=>exact .nil
 |@cons p q ps qs h t ih=>
  obtain⟨h1,h2⟩:=h;rw[Wz,Wz];by_cases e:p.1=k;·grind
  ·have e':¬q.1=k:=λz=>e (h1.trans z);have a:decide (p.1≠k)=true:=by simp[e]
   have b:decide (q.1≠k)=true:=by simp[e']
   rw[if_pos a,if_pos b];exact .cons ⟨h1,h2⟩ ih
theorem KV.keys{kvs:List (κ×V)}{vs:List (κ×Value)}(r:KV kvs vs):kvs.map (·.1)=vs.map (·.1):=by
 induction r with
 |nil=>rfl
 |cons h t ih=>grind
theorem KV.length(r:KV kvs vs):kvs.length=vs.length:=Paired.length r
theorem KN(kvs:List (κ×V))(k:κ):(fU kvs k).length<=kvs.length:=Wl _ _
end
theorem nj(r:RelV (kV k) u):(dE P w).is k u=true:=by
 cases k with
 |inl i=>obtain⟨t,e⟩:=(show ∃t,u=Value.int i t from r);subst e;exact Up P w i t
 |inr x=>obtain⟨t,e⟩:=(show ∃t,u=Value.str x t from r);subst e;exact Uq P w x t
theorem JW:∀{ks:List Key} {us:List Value},Vals (ks.map kV) us->ItemsAre (dE P w) ks us
 |[],_,r=>by rw[List.map_nil] at r;cases r;exact .nil
 |k::ks,_,r=>by
  cases r with
  |cons h t=>exact .cons (nj h) (JW t)
abbrev KT(H:Hp):List (List Key×V)->List (List Key×Addr×Value)->Prop:=Paired λp q=>p.1=q.1/\H q.2.1=some (.tup (p.1.map kV))/\RelV p.2 q.2.2
theorem KT.val{H:Hp}{kvs:List (List Key×V)}{xs:List (List Key×Addr×Value)}(r:KT H kvs xs)(k:List Key):dP (bg kvs k) ((atKey xs k).map (·.2)):=by
 induction r with
 |nil=>exact True.intro
 |@cons p q ps qs h t ih=>
  obtain⟨h1,_,h2⟩:=h;by_cases e:p.1=k
  ·have e':q.1=k:=h1.symm.trans e;have b:atKey (q::qs) k=some q.2:=by simp[atKey,e']
   rw[iN e,b];exact h2
  ·have e':¬q.1=k:=λz=>e (h1.trans z);have b:atKey (q::qs) k=atKey qs k:=by simp[atKey,e']
   rw[jL e,b];exact ih
theorem KT.F0(r:KT H kvs xs)(k:List Key)(ry:RelV y u):
  KT H (kvs.map λkv=>if kv.1=k then(kv.1,y) else kv) (xs.map (putAt k u)):=by
 induction r with
 |nil=>exact .nil
 |@cons p q ps qs h t ih=>
  refine .cons ?_ ih;unfold putAt
  grind
theorem KT.put(r:KT H kvs xs)(k:List Key)(hb:H b=some (.tup (k.map kV)))(ry:RelV y u):
  KT H (putK kvs k y) (storedH xs k b u):=by
 have e:(kvs.any λkv=>decide (kv.1=k))=(atKey xs k).isSome:=by
  rw[yM,(r.val k).sX,Qf]
 unfold putK storedH;rw[e];by_cases q:(atKey xs k).isSome=true;·rw[if_pos q,if_pos q];exact r.F0 k ry
 ·rw[if_neg q,if_neg q];exact Paired.snoc r ⟨rfl,hb,ry⟩
theorem KT.keeps(r:KT H kvs xs)(ht:∀b ys,H b=some (.tup ys)->H' b=some (.tup ys)):KT H' kvs xs:=
 Paired.bp r λ_ _ z=>⟨z.1,ht _ _ z.2.1,z.2.2⟩
section
variable {P:Program}{w:World}{H:Hp}{h:Heap}{a:Addr}
theorem Ob(ok:cX P w H h)(e:Rd H a u):cz P w H h a u:=e.ok ok
theorem oW(ok:cX P w H h)(e:Rd H a (.dK kvs)):kvs.length<=sizeLine/\(a==sysModules)=false/\∃vs,KV kvs vs/\h.DictOf (dE P w) a vs:=
 show cz P w H h a (.dK kvs) from Ob ok e
theorem oX(ok:cX P w H h)(e:H a=some (.dK kvs)):kvs.length<=sizeLine/\(a==sysModules)=false/\∃vs,KV kvs vs/\h.DictOf (dE P w) a vs:=oW ok (.inl e)
theorem qv(ok:cX P w H h)(e:H a=some (.tup (ks.map kV))):(tupleKind (dE P w)).is h ks a:=by
 obtain⟨_,ah,r,o,h1,h2,n,h3,_⟩:=(show cz P w H h a (.tup (ks.map kV)) from ok a _ e);exact⟨o,ah.toArray,n,h1,h2,h3,by simpa using JW r⟩
theorem qG(ok:cX P w H h)(e:Rd H a (.dT kvs)):kvs.length<=sizeLine/\(a==sysModules)=false/\
  ∃xs,KT H kvs xs/\h.DictOfH (tupleKind (dE P w)) a xs:=by
 obtain⟨z,y,xs,r,o,es,ep,h1,h2,h3,h4,h5⟩:=(show cz P w H h a (.dT kvs) from Ob ok e);refine⟨z,y,xs,r,o,es,ep,h1,h2,h3,h4,λx hx=>?_,h5⟩;have all:∀{l:List (List Key×V)} {m:List (List Key×Addr×Value)},KT H l m->∀x∈m,(tupleKind (dE P w)).is h x.1 x.2.1:=by
  intro l m q;induction q with
  |nil=>grind
  |@cons p q ps qs hq t ih=>
   intro x hx;rcases Yp.mp hx with e|hx
   ·subst e;exact qv ok (by rw[←hq.1];exact hq.2.1)
   ·exact ih x hx
 grind
theorem Oc(ok:cX P w H h)(e:H a=some (.dT kvs)):kvs.length<=sizeLine/\(a==sysModules)=false/\
  ∃xs,KT H kvs xs/\h.DictOfH (tupleKind (dE P w)) a xs:=qG ok (.inl e)
end
def eM(H:Hp)(a:Addr)(y:V)(r:Option V):Prop:=
 (∃kvs k,Rd H a (.dK kvs)/\y=kV k/\r=bg kvs k)\/∃kvs k b,Rd H a (.dT kvs)/\y=.ref b/\H b=some (.tup (k.map kV))/\r=bg kvs k
def qU(H:Hp)(a:Addr)(y v:V)(H':Hp):Prop:=
 (∃kvs k,H a=some (.dK kvs)/\y=kV k/\kvs.length<sizeLine/\H'=upd H a (.dK (putK kvs k v)))\/
 ∃kvs k b,H a=some (.dT kvs)/\y=.ref b/\H b=some (.tup (k.map kV))/\kvs.length<sizeLine/\H'=upd H a (.dT (putK kvs k v))
theorem eM.k{H:Hp}{a:Addr}{kvs:List (Key×V)}{k:Key}(e:H a=some (.dK kvs)):eM H a (kV k) (bg kvs k):=.inl ⟨kvs,k,.inl e,rfl,rfl⟩
theorem eM.t{H:Hp}{a b:Addr}{kvs:List (List Key×V)}{k:List Key}(e:H a=some (.dT kvs))(eb:H b=some (.tup (k.map kV))):eM H a (.ref b) (bg kvs k):=.inr ⟨kvs,k,b,.inl e,rfl,eb,rfl⟩
theorem qU.k{H:Hp}{a:Addr}{kvs:List (Key×V)}{k:Key}{v:V}(e:H a=some (.dK kvs))(hl:kvs.length<sizeLine):qU H a (kV k) v (upd H a (.dK (putK kvs k v))):=.inl ⟨kvs,k,e,rfl,hl,rfl⟩
theorem qU.t{H:Hp}{a b:Addr}{kvs:List (List Key×V)}{k:List Key}{v:V}(e:H a=some (.dT kvs))(eb:H b=some (.tup (k.map kV)))(hl:kvs.length<sizeLine):
  qU H a (.ref b) v (upd H a (.dT (putK kvs k v))):=.inr ⟨kvs,k,b,e,rfl,eb,hl,rfl⟩
section
variable {X:Cx}{pins:aM}{σ:St}{H:Hp}{s:Shared}{a:Addr}{y v:V}{u r:Value}{o:Option V}{A:Around}{E:aU}
theorem Inv.big(I:Inv X pins σ H s):sysModules<s.heap.objs.size:=by
 exact Nat.lt_trans (by decide) ((I.mod.glob.keeps I.bk).lt)
theorem V_(hu:A.units+1<cLine)(I:Inv X pins σ H s)(g:eM H a y (some v))(ry:RelV y u)(h:∀w' s',Inv X pins σ H s'->RelV v w'->Q w' s'):
  wpAny X.md A (getItem (.ref a) u) Q E s:=by
 rcases g with⟨kvs,k,e,ey,l⟩|⟨kvs,k,b,e,ey,eb,l⟩
 ·subst ey;obtain⟨z,hd,vs,rel,dd⟩:=oW I.ay e;obtain⟨w',hw,iF⟩:=dP.some_of (v:=v) (o:=valueAt vs k) (by rw[l];exact rel.val k);exact wpAny_getItem_of (nj ry) dd.mapOf hw (h w' _ (I.tok _) iF)
 ·subst ey;cases(show u=Value.ref b from ry);obtain⟨z,hd,xs,rel,dd⟩:=qG I.ay e;obtain⟨w',hw,iF⟩:=dP.some_of (v:=v) (o:=(atKey xs k).map (·.2)) (by rw[l];exact rel.val k);obtain⟨p,hp,dt⟩:=Option.map_eq_some_iff.mp hw;refine wpAny_getItem_heap (tupleKind_room_in1 hu) (qv I.ay eb) dd hp ?_;rw[dt];exact h w' _ (I.tok _) iF
theorem Zdn(hu:A.units+1<cLine)(I:Inv X pins σ H s)(g:eM H a y o)(ry:RelV y u)(h:∀s',Inv X pins σ H s'->Q (.bool o.isSome) s'):
  wpAny X.md A (compareOp .In u (.ref a)) Q E s:=by
 rcases g with⟨kvs,k,e,ey,l⟩|⟨kvs,k,b,e,ey,eb,l⟩
 ·subst ey;obtain⟨z,hd,vs,rel,dd⟩:=oW I.ay e;refine wpAny_in_of (nj ry) hd dd.mapOf ?_;rw[←(rel.val k).sX,←l];exact h _ (I.tok _)
 ·subst ey;cases(show u=Value.ref b from ry);obtain⟨z,hd,xs,rel,dd⟩:=qG I.ay e;refine wpAny_in_heap (tupleKind_room_in1 hu) (qv I.ay eb) hd dd ?_;have q:=(rel.val k).sX;rw[Qf] at q;rw[←q,←l];exact h _ (I.tok _)
theorem ZJ(hu:A.units+1<cLine)(I:Inv X pins σ H s)(g:eM H a y o)(ry:RelV y u)(h:∀s',Inv X pins σ H s'->Q (.bool (!o.isSome)) s'):
  wpAny X.md A (compareOp .NotIn u (.ref a)) Q E s:=by
 rcases g with⟨kvs,k,e,ey,l⟩|⟨kvs,k,b,e,ey,eb,l⟩
 ·subst ey;obtain⟨z,hd,vs,rel,dd⟩:=oW I.ay e;refine wpAny_notIn_of (nj ry) hd dd.mapOf ?_;rw[←(rel.val k).sX,←l];exact h _ (I.tok _)
 ·subst ey;cases(show u=Value.ref b from ry);obtain⟨z,hd,xs,rel,dd⟩:=qG I.ay e;refine wpAny_notIn_heap (tupleKind_room_in1 hu) (qv I.ay eb) hd dd ?_;have q:=(rel.val k).sX;rw[Qf] at q;rw[←q,←l];exact h _ (I.tok _)
theorem tM(I:Inv X pins σ H s)(mu:wO (H a))(hs:Heap.SameBut a s.heap h')(he:∃q,h'.get? a=some q)(new:cz X.prog X.w (upd H a ob) h' a ob):
  Inv X pins σ (upd H a ob) {s with heap:=h',toks:=t'}:=
 I.write (x:=a) (e:=a) mu (.inl rfl) (λb q hb z=>(hs.2 b hb).trans z) he new
theorem zp(z:kvs.length<=sizeLine)(hd:(a==sysModules)=false)(rel:KV kvs vs)(dd:h'.DictOf (dE P w) a vs):
  cz P w H' h' a (.dK kvs):=⟨z,hd,vs,rel,dd⟩
theorem JX(hu:A.units+1<cLine)(I:Inv X pins σ H s)(g:qU H a y v H')(ry:RelV y u)(rv:RelV v r)(h:∀s',Inv X pins σ H' s'->Q () s'):
  wpAny X.md A (setItem (.ref a) u r) Q E s:=by
 rcases g with⟨kvs,k,e,ey,l,eH⟩|⟨kvs,k,b,e,ey,eb,l,eH⟩
 ·subst ey eH;obtain⟨z,hd,vs,rel,dd⟩:=oX I.ay e;have hz:vs.length<=sizeLine:=by rw[←rel.length];exact z
  have hl:(putK kvs k v).length<=sizeLine:=by have:=CY kvs k v;omega
  refine wpAny_setItem_pairs (hsz:=hz) (nj ry) dd λh' i4 hs=>h _ ?_;have he:∃q,h'.get? a=some q:=let⟨q,_,_,hq,_⟩:=i4;⟨q,hq⟩;exact tM I (by rw[e];exact True.intro) hs he (zp hl hd (rel.put k rv) i4)
 ·subst ey eH;cases(show u=Value.ref b from ry);obtain⟨z,hd,xs,rel,dd⟩:=Oc I.ay e;have hz:xs.length<=sizeLine:=by rw[←Paired.length rel];exact z
  have hl:(putK kvs k v).length<=sizeLine:=by have:=CY kvs k v;omega
  refine wpAny_setItem_heap (hsz:=hz) (tupleKind_room_in1 hu) (qv I.ay eb) dd λh' i4 hs=>h _ ?_;obtain⟨q,es,ep,hq,h2,h3,h4,_,h5⟩:=i4;refine tM I (by rw[e];exact True.intro) hs ⟨q,hq⟩ ⟨hl,hd,_,(rel.put k eb rv).keeps λc ys ec=>?_,q,es,ep,hq,h2,h3,h4,h5⟩;rw[aF (NP ec e (λz=>nomatch z))];exact ec
end
section
variable {X:Cx}{pins:aM}{σ:St}{H:Hp}{s:Shared}{a:Addr}{kvs:List (Key×V)}{k:Key}{u:Value}{A:Around}{E:aU}
theorem WA(I:Inv X pins σ H s)(e:H a=some (.dK kvs))(ry:RelV (kV k) u)(l:(bg kvs k).isSome=true)(h:∀s',Inv X pins σ (upd H a (.dK (fU kvs k))) s'->Q () s'):
  wpAny X.md A (delItem (.ref a) u) Q E s:=by
 obtain⟨z,hd,vs,rel,dd⟩:=oX I.ay e;refine wpAny_delItem_slot dd.typeIs (by decide) slot_dict_delitem
  (call_meetsIn slot_dict_delitem dd.typeIs PySem.F.entry_dict_delitem (PySem.F.args_dict_delitem_2 _ _) (meets_dict_delitem_pairs (dE X.prog X.w) a (nj ry)) ⟨vs,dd,by rw[←rel.length];exact z,by rw[←(rel.val k).sX];exact l,λh' i4 hs=>h _ ?_⟩)
 have he:∃q,h'.get? a=some q:=let⟨q,_,_,hq,_⟩:=i4;⟨q,hq⟩;exact tM I (by rw[e];exact True.intro) hs he (zp (Yz (KN kvs k) z) hd (rel.drop k) i4)
theorem Zcp(I:Inv X pins σ H s)(e:H a=some (.dK kvs))(ry:RelV (kV k) u)(l:bg kvs k=some v)(hm:more=[]\/∃x,more=[x])
  (h:∀w' s',Inv X pins σ (upd H a (.dK (fU kvs k))) s'->RelV v w'->Q w' s'):wpAny X.md A (call (.builtin "dict.pop") (.ref a::u::more)) Q E s:=by
 obtain⟨z,hd,vs,rel,dd⟩:=oX I.ay e;obtain⟨w',hw,iF⟩:=dP.some_of (v:=v) (o:=valueAt vs k) (by rw[←l];exact rel.val k);have hp:(keyPart u).isSome=true:=by
  cases k with
  |inl i=>obtain⟨t,q⟩:=(show ∃t,u=Value.int i t from ry);subst q;rfl
  |inr x=>obtain⟨t,q⟩:=(show ∃t,u=Value.str x t from ry);subst q;rfl
 have ha:argsOk "dict.pop" ⟨.ref a::u::more,[]⟩:=by
  rcases hm with q|⟨x,q⟩;·subst q;exact PySem.F.args_dict_pop_2 _ _
  ·subst q;exact PySem.F.args_dict_pop_3 _ _ _
 refine call_meetsIn slot_dict_pop dd.typeIs PySem.F.entry_dict_pop ha (meets_dict_pop_there (dE X.prog X.w) a (nj ry) more hm hp)
  ⟨vs,w',dd,by rw[←rel.length];exact z,hw,λh' i4 hs=>h w' _ ?_ iF⟩
 have he:∃q,h'.get? a=some q:=let⟨q,_,_,hq,_⟩:=i4;⟨q,hq⟩;exact tM I (by rw[e];exact True.intro) hs he (zp (Yz (KN kvs k) z) hd (rel.drop k) i4)
theorem Zcq(I:Inv X pins σ H s)(e:Rd H a (.dK kvs))(h:∀t s',Inv X pins σ H s'->Q (.int kvs.length t) s'):wpAny X.md A (call (.builtin "len") [.ref a]) Q E s:=by
 obtain⟨z,hd,vs,rel,dd⟩:=oW I.ay e;refine call_len_dict hd dd (by rw[←rel.length];rw[sizeLine_eq] at z;omega) ?_;rw[←rel.length];exact h _ _ (I.tok _)
end
def OT(i:Expr):Prop:=∀ov iv,subscripted i false ov iv=operate [ov,iv] (getItem ov iv)
theorem ZK{prog:Program}{w:World}{A:Around}{E:aU}{s:Shared}{env:Env}{value slice:Expr}{pos:Pos}{T id:String}{Q:aU}
  (hl:typeLookup (.type T) "__getitem__"=pure (some (.builtin id)))(hs:OT slice)
  (h:wpAny (model prog w) A (eval value env) (λo bo=>wpAny (model prog w) A (eval slice env) (λi dQ=>dQ.TypeIs o T/\wpAny (model prog w) A (getItem o i) Q E dQ) E bo) E s):
  wpAny (model prog w) A (eval (.Subscript value slice pos) env) Q E s:=by
 refine Subscript_ (wpAny_mono h (λo bo fY=>wpAny_mono fY (λi dQ nB=>?_) λ_ _ x=>x) λ_ _ x=>x);obtain⟨hT,nB⟩:=nB;refine wpAny_bind (wpAny_bind (wpAny_specialOf hT hl ?_));have fin:wpAny (model prog w) A (subscripted slice false o i) (λr dB=>wpAny (model prog w) A (letTemporaryGo value o r>>=λ_=>pure r) Q E dB) E dQ:=by
  rw[hs o i];exact wpAny_operating (wpAny_mono nB (λr dB t9=>wpAny_bind (wpAny_letTemporaryGo (wpAny_pure t9))) λ_ _ x=>x)
 first
  |exact wpAny_pure (wpAny_bind fin)
  |exact wpAny_bind (wpAny_pure (wpAny_bind fin))
  |exact wpAny_bind fin
theorem UA(I:Inv X pins σ H s)(g:eM H a y o):s.TypeIs (.ref a) "dict":=by
 rcases g with⟨kvs,k,e,_,_⟩|⟨kvs,k,b,e,_,_,_⟩
 ·obtain⟨_,_,vs,_,dd⟩:=oW I.ay e;exact dd.typeIs
 ·obtain⟨_,_,xs,_,dd⟩:=qG I.ay e;exact dd.typeIs
inductive LV(Q:VK)(x:V)(y:V)(H2:Hp):Prop
 |mk (a v) (aI:x=.ref a) (aX:eM H2 a y (some v)) (bu:Q v H2):LV Q x y H2
def Zcr(td ty:TE):TE:=λσ H Q=>td σ H λx H1=>ty σ H1 λy H2=>LV Q x y H2
inductive Nc(Q:VK)(y:V)(x:V)(H2:Hp):Prop
 |mk (a o) (aI:x=.ref a) (aX:eM H2 a y o) (bu:Q (.bl o.isSome) H2):Nc Q y x H2
def Zdo(ty td:TE):TE:=λσ H Q=>ty σ H λy H1=>td σ H1 λx H2=>Nc Q y x H2
inductive JY(Q:VK)(y:V)(x:V)(H2:Hp):Prop
 |mk (a o) (aI:x=.ref a) (aX:eM H2 a y o) (bu:Q (.bl (!o.isSome)) H2):JY Q y x H2
def ZL(ty td:TE):TE:=λσ H Q=>ty σ H λy H1=>td σ H1 λx H2=>JY Q y x H2
section
variable {X:Cx}{o i e value:Expr}{pos pos' zU:Pos}{td ty tv:TE}
theorem d_(hu:X.A.units+1<cLine)(ho:PE X o td)(hi:PE X i ty)(hs:OT i):PE X (.Subscript o i pos) (Zcr td ty):=by
 intro pins s σ H Q I h;refine ZK PySem.F.slot_dict_getitem.lookup hs (az (ho pins s σ H _ I h) λu s1 zq=>?_);obtain⟨x,H1,I1,rx,q1⟩:=zq;refine az (hi pins s1 σ H1 _ I1 q1) λiv s2 zq=>?_;obtain⟨y,H2,I2,ry,a,v,ex,g,q2⟩:=zq;subst ex;obtain rfl:u=Value.ref a:=rx;exact⟨UA I2 g,V_ hu I2 g ry λw' s3 I3 iF=>⟨v,H2,I3,iF,q2⟩⟩
theorem zr(hu:X.A.units+1<cLine)(hi:PE X i ty)(ho:PE X o td):PC X .In i o (Zdo ty td):=by
 intro pins s σ H Q I h;refine az (hi pins s σ H _ I h) λiv s1 zq=>?_;obtain⟨y,H1,I1,ry,q1⟩:=zq;refine az (ho pins s1 σ H1 _ I1 q1) λu s2 zq=>?_;obtain⟨x,H2,I2,rx,a,ov,ex,g,q2⟩:=zq;subst ex;obtain rfl:u=Value.ref a:=rx;exact Zdn hu I2 g ry λs3 I3=>⟨.bl ov.isSome,H2,I3,rfl,q2⟩
theorem yE(hu:X.A.units+1<cLine)(hi:PE X i ty)(ho:PE X o td):PC X .NotIn i o (ZL ty td):=by
 intro pins s σ H Q I h;refine az (hi pins s σ H _ I h) λiv s1 zq=>?_;obtain⟨y,H1,I1,ry,q1⟩:=zq;refine az (ho pins s1 σ H1 _ I1 q1) λu s2 zq=>?_;obtain⟨x,H2,I2,rx,a,ov,ex,g,q2⟩:=zq;subst ex;obtain rfl:u=Value.ref a:=rx;exact ZJ hu I2 g ry λs3 I3=>⟨.bl (!ov.isSome),H2,I3,rfl,q2⟩
end
theorem KO(h:Heap)(hb:sysModules<h.objs.size):cz P w H (h.push {cls:=.type "dict",data:=.dict #[]}) h.objs.size (.dK []):=
 ⟨Yw _,beq_eq_false_iff_ne.mpr (Ne.symm (Yy hb)),[],.nil,Heap.DictOf.new h⟩
theorem XG(h:Heap)(hb:sysModules<h.objs.size):cz P w H (h.push {cls:=.type "dict",data:=.dict #[]}) h.objs.size (.dT []):=
 ⟨Yw _,beq_eq_false_iff_ne.mpr (Ne.symm (Yy hb)),[],.nil,_,#[],0,Yn _ rfl,⟨rfl,rfl,rfl⟩,rfl,rfl,W9⟩
def Zbn:TE:=λ_ H Q=>∀p,H p=none->Q (.ref p) (upd H p (.dK []))
def Zbo:TE:=λ_ H Q=>∀p,H p=none->Q (.ref p) (upd H p (.dT []))
section
variable {X:Cx}{pos:Pos}
theorem XH:PE X (.Dict [] [] pos) Zbn:=λpins s σ H Q I h=>
 wpAny_Dict_empty ⟨.ref s.heap.objs.size,_,I.laid (a:=s.heap.objs.size) (o:=.dK []) (t':=s.toks) (λ_ _ q=>Yc _ q) (Ye _) (KO s.heap I.big),rfl,h _ (I.ay.fresh (Ye _))⟩
theorem XI:PE X (.Dict [] [] pos) Zbo:=λpins s σ H Q I h=>
 wpAny_Dict_empty ⟨.ref s.heap.objs.size,_,I.laid (a:=s.heap.objs.size) (o:=.dT []) (t':=s.toks) (λ_ _ q=>Yc _ q) (Ye _) (XG s.heap I.big),rfl,h _ (I.ay.fresh (Ye _))⟩
end
def EZ:List (TE×TE)->St->Hp->(List (V×V)->Hp->Prop)->Prop
 |[],_,H,Q=>Q [] H
 |(tk,tv)::r,σ,H,Q=>tk σ H λx H1=>tv σ H1 λy H2=>EZ r σ H2 λps H3=>Q ((x,y)::ps) H3
abbrev VV:List (V×V)->List (Value×Value)->Prop:=Paired λp q=>RelV p.1 q.1/\RelV p.2 q.2
def AF(X:Cx)(pos:Pos)(keys:List (Option Expr))(values:List Expr)(rL:List (TE×TE)):Prop:=
 ∀(pins:aM) (s:Shared) (σ:St) (H:Hp) (Q:List (V×V)->Hp->Prop),Inv X pins σ H s->EZ rL σ H Q->
  wpAny X.md X.A (evalPairs (pairTrees keys values X.env pos)) (λvs s'=>∃ps H',Inv X pins σ H' s'/\VV ps vs/\Q ps H') X.xe s
theorem LW:AF X pos [] [] []:=λpins s σ H Q I h=>pairTrees_nil_walk ⟨[],H,I,.nil,h⟩
theorem oC(hk:PE X k tk)(hv:PE X v tv)(hr:AF X pos ks vs rL):
  AF X pos (some k::ks) (v::vs) ((tk,tv)::rL):=λpins s σ H Q I h=>
 pairTrees_cons_walk (az (hk pins s σ H _ I h) λu s1 ⟨x,H1,I1,rx,q1⟩=>az (hv pins s1 σ H1 _ I1 q1) λw2 s2 ⟨y,H2,I2,ry,q2⟩=>
  az (hr pins s2 σ H2 _ I2 q2) λws s3 ⟨ps,H3,I3,rel,q3⟩=>⟨(x,y)::ps,H3,I3,.cons ⟨rx,ry⟩ rel,q3⟩)
def qw(kvs more:List (Key×V)):List (Key×V):=more.foldl (λacc kv=>putK acc kv.1 kv.2) kvs
theorem KV.merge:∀{more:List (Key×V)} {rs:List (Key×Value)} {kvs:List (Key×V)} {vs:List (Key×Value)},KV more rs->KV kvs vs->KV (qw kvs more) (merged vs rs):=by
 intro more rs kvs vs r;induction r generalizing kvs vs with
 |nil=>intro q;exact q
 |@cons p q ps qs h t ih=>
  intro r0;have e:KV (putK kvs p.1 p.2) (stored vs q.1 q.2):=by
   have:=r0.put p.1 h.2
   grind
  exact ih e
theorem Ie:∀(more kvs:List (Key×V)),(qw kvs more).length<=kvs.length+more.length
 |[],kvs=>by show kvs.length<=kvs.length+0;omega
 |p::r,kvs=>by
  have h1:=Ie r (putK kvs p.1 p.2);have h2:=CY kvs p.1 p.2;show(qw (putK kvs p.1 p.2) r).length<=_
  grind
theorem IT:∀{kvs:List (Key×V)} {ws:List (Value×Value)},VV (kvs.map λkv=>(kV kv.1,kv.2)) ws->∃rs,Carries (dE P w) ws rs/\KV kvs rs
 |[],_,r=>by rw[List.map_nil] at r;cases r;exact⟨[],True.intro,.nil⟩
 |p::kvs,_,r=>by
  cases r with
  |@cons a b as bs h t=>
   obtain⟨rs,c,q⟩:=IT t;obtain⟨b1,b2⟩:=b;exact⟨(p.1,b2)::rs,⟨nj h.1,rfl,c⟩,.cons ⟨rfl,h.2⟩ q⟩
def Zcs(rL:List (TE×TE)):TE:=λσ H Q=>∀p,H p=none->EZ rL σ (upd H p (.dK [])) λps H2=>H2 p=some (.dK [])/\∃kvs:List (Key×V),ps=kvs.map (λkv=>(kV kv.1,kv.2))/\kvs.length<=15/\Q (.ref p) (upd H2 p (.dK (qw [] kvs)))
theorem LX(h:AF X pos keys values rL)(FU:keys.all (·.isSome)=true)(hl:keys.length=values.length)(h0:keys≠[])
  (h15:keys.length<=15):PE X (.Dict keys values pos) (Zcs rL):=by
 intro pins s σ H Q I q;refine wpAny_Dict_walk (knd:=dE X.prog X.w) FU hl h0 h15 (az (h pins _ σ _ _ (I.laid (λ_ _ q=>Yc _ q) (Ye _) (KO s.heap I.big)) (q _ (I.ay.fresh (Ye s.heap.objs.size)))) λws s2 ⟨ps,H2,I2,rel,e,kvs,ep,lk,q2⟩=>?_);subst ep;obtain⟨rs,c,rk⟩:=IT rel;obtain⟨z,hd,vs0,r0,dd⟩:=oX I2.ay e;cases r0;refine⟨rs,c,dd,λh' i4 hs=>⟨.ref s.heap.objs.size,_,?_,rfl,q2⟩⟩;have hz:(qw [] kvs).length<=sizeLine:=by
  have h1:=Ie kvs [];rw[PZ] at h1;rw[sizeLine_eq];omega
 exact tM I2 (by rw[e];exact True.intro) hs (let⟨q,_,_,hq,_⟩:=i4;⟨q,hq⟩) (zp hz hd (rk.merge .nil) i4)
structure M1(X:Cx)(o:Expr)(m:Str)(apos:Pos)(e:Expr)(cF:Pos):Prop where
 base:attributeBase o m X.env (eval o X.env)=eval o X.env
 j_:((backTo cF (starEach [e] X.env)).all (λx=>!x.1)&&(backToKw cF (keywordEach [] X.env)).all (λx=>x.1.isSome)
  &&decide (([e]:List Expr).length+([]:List Keyword).length+(if([]:List Keyword).isEmpty then 0 else 1)<30))=true
 line:(apos.endLine==cF.line)=true
 trees:backTo cF (starEach [e] X.env)=[(false,eval e X.env)]
def GJ(H:Hp)(a:Addr):Prop:=(∃kvs,Rd H a (.dK kvs))\/∃kvs,Rd H a (.dT kvs)
theorem E1(I:Inv X pins σ H s)(d:GJ H a):
  s.TypeIs (.ref a) "dict"/\(∀b,Value.ref a=.ref b->∃ob,s.heap.get? b=some ob/\ob.dict=none)/\(a==sysModules)=false:=by
 rcases d with⟨kvs,e⟩|⟨kvs,e⟩
 ·obtain⟨_,hd,vs,_,dd⟩:=oW I.ay e;refine⟨dd.typeIs,λb q=>?_,hd⟩;cases q;obtain⟨ob,_,_,h1,h2,_⟩:=dd;exact⟨ob,h1,h2.2.1⟩
 ·obtain⟨_,hd,xs,_,dd⟩:=qG I.ay e;refine⟨dd.typeIs,λb q=>?_,hd⟩;cases q;obtain⟨ob,_,_,h1,h2,_⟩:=dd;exact⟨ob,h1,h2.2.1⟩
section
variable {X:Cx}{pins:aM}{σ:St}{H:Hp}{s:Shared}{a:Addr}{y d:V}{u r:Value}{o:Option V}{A:Around}{E:aU}
theorem Zbp(hu:A.units+1<cLine)(I:Inv X pins σ H s)(g:eM H a y o)(ry:RelV y u)(h:∀w' s',Inv X pins σ H s'->RelV (o.getD .aA) w'->Q w' s'):
  wpAny X.md A (call (.builtin "dict.get") [.ref a,u]) Q E s:=by
 rcases g with⟨kvs,k,e,ey,l⟩|⟨kvs,k,b,e,ey,eb,l⟩
 ·subst ey;obtain⟨z,hd,vs,rel,dd⟩:=oW I.ay e;refine call_meetsIn slot_dict_get dd.typeIs entry_dict_get (PySem.F.args_dict_get_2 _ _) (meets_dict_get (dE X.prog X.w) a (nj ry) hd) ⟨_,dd.mapOf,h _ _ (I.tok _) ?_⟩;rw[l];exact(rel.val k).getD rfl
 ·subst ey;cases(show u=Value.ref b from ry);obtain⟨z,hd,xs,rel,dd⟩:=qG I.ay e;refine call_meetsIn slot_dict_get dd.typeIs entry_dict_get (PySem.F.args_dict_get_2 _ _) (meetsH_dict_get (tupleKind (dE X.prog X.w)) a b hd) ⟨tupleKind_room_in1 hu,k,xs,qv I.ay eb,dd,h _ _ (I.tok _) ?_⟩;rw[l];exact(rel.val k).getD rfl
end
def Zbq(td ty:TE):TE:=λσ H Q=>td σ H λx H1=>∃a,x=.ref a/\GJ H1 a/\ty σ H1 λy H2=>∃o,eM H2 a y o/\Q (o.getD .aA) H2
section
variable {X:Cx}{o e f:Expr}{apos cF:Pos}{td ty tx:TE}
theorem XJ(hu:X.A.units+1<cLine)(ho:PE X o td)(he:PE X e ty)(m:M1 X o "get" apos e cF):PE X (.Call (.Attribute o "get" apos) [e] [] cF) (Zbq td ty):=by
 intro pins s σ H Q I h;refine wpAny_Call_method m.base m.j_ m.line plainAttrs_dict slot_dict_get PySem.F.type_dict_get (az (ho pins s σ H _ I h) λu s1 zq=>?_);obtain⟨x,H1,I1,rx,a,ex,d,q1⟩:=zq;subst ex;obtain rfl:u=Value.ref a:=rx;obtain⟨t1,t2,_⟩:=E1 I1 d;refine⟨t1,t2,?_⟩;rw[m.trees];exact Calls.callWith_builtin rfl (Calls.evalArgs_plain (Calls.spliced_cons (az (he pins s1 σ H1 _ I1 q1) λiv s2 ⟨y,H2,I2,ry,ov,g,q2⟩=>Calls.spliced_nil (Zbp hu I2 g ry λw' s3 I3 iF=>⟨_,H2,I3,iF,q2⟩))))
end
section
variable {X:Cx}{pins:aM}{σ:St}{H:Hp}{s:Shared}{a:Addr}{kvs:List (Key×V)}{A:Around}{E:aU}
end
section
variable {X:Cx}{pins:aM}{σ:St}{H:Hp}{s:Shared}{a:Addr}{y:V}{u:Value}{A:Around}{E:aU}
end
def tZ(P:Program)(w:World)(K:ag)(mg:aN)(base:Heap)(k:Nat)(x:Str)(C:Addr)(ps:List Str)(sp:Sp):Prop:=
 ∃f fd,Mk K C f/\aG P w K mg base aK k f fd ps sp/\Binds K fd ps []/\mg x=some (.ref C)
def cv(P:Program)(w:World)(K:ag)(mg:aN)(base:Heap)(k:Nat)(m:Str)(C:Addr)(ps:List Str)(sp:Sp):Prop:=
 ∃f fd,fw K C/\Meth K C m f/\aG P w K mg base aK k f fd ps sp/\Binds K fd ps []
def Nd(P:Program)(w:World)(K:ag)(mg:aN)(base:Heap)(k:Nat)(m:Str)(C:Addr)(ps:List Str)(sp:Sp):Prop:=
 ∃f fd,fw K C/\Meth K C m f/\aG P w K mg base (kR P w) k f fd ps sp/\Binds K fd ps []
section
variable {X:Cx}{k j:Nat}{x m:Str}{C:Addr}{ps:List Str}{sp:Sp}{p pos apos:Pos}{o e:Expr}{es:List Expr}{t:TA}{ta:TE}
theorem Fq(h:tZ X.prog X.w X.K X.mg X.base k x C ps sp)(hr:bU j X.A)(hj:k+1<=j)(hg:Gl X x)(ha:PA X (e::es) t)(eA:(x==("__debug__":Str))=false:=by decide)
  (he:gJ X e es:=by rfl)(bG:hU X pos es:=by rfl):PE X (.Call (.Name x p) (e::es) [] pos) (NV C sp [] E0 t):=by
 obtain⟨f,fd,M,F,b,hm⟩:=h;exact Zr M F (hr.mono hj) hg hm b .nil tV ha eA he bG
theorem cI(h:cv X.prog X.w X.K X.mg X.base k m C ps sp)(hr:bU j X.A)(hj:k<=j)(ho:PE X o ta)(ha:PA X (e::es) t)
  (dm:gJ X e es:=by rfl)(bG:hU X pos es:=by rfl)
  (ht:eval (.Call (.Attribute o m apos) (e::es) [] pos) X.env=(do
   let ov←eval o X.env
   standAt apos.atName
   let(f,first)←holding [ov] (getMethod ov m pl)
   callWith pos f first (backTo pos (starEach (e::es) X.env)) (backToKw pos (keywordEach [] X.env))):=by rfl):
  PE X (.Call (.Attribute o m apos) (e::es) [] pos) (zE C m sp [] E0 ta t):=by
 obtain⟨f,fd,c,hm,F,b⟩:=h;exact Zq ho c hm F (hr.mono hj) b .nil tV ha dm bG ht
end
theorem vN{X:Cx}{K:ag}{e:Expr}{ta:TE}{f:Str}{pos:Pos}(h:X.K=K)(he:PE X e ta)(hb:attributeBase e f X.env (eval e X.env)=eval e X.env):PE X (.Attribute e f pos) (FP K ta f):=h▸ZaN he hb
section
open PySem.AutoSeq1 (wpAny_loadPart')
end
theorem yr(p:Nat->Bool)(n:Nat):(List.range (n+1)).filter p=(List.range n).filter p++(if p n=true then[n] else[]):=by
 rw[Jw,Wg]
 grind
theorem mD{α β:Type}{F:α->β->Prop}:∀{xs:List α} {ys:List β} {x:α} {y:β},Paired F xs ys->F x y->Paired F (xs++[x]) (ys++[y]):=by
 intro xs ys x y h f;induction h with
 |nil=>exact .cons f .nil
 |cons r t ih=>exact .cons r ih
theorem Iw:∀{xs:List α} {ys:List β},Paired F xs ys->xs.length=ys.length:=by
 intro xs ys h;induction h with
 |nil=>rfl
 |cons _ _ ih=>rw[Wb,Wb,ih]
theorem Ig:∀{xs:List V} {ys:List β},Paired (λx y=>x=f y) xs ys->xs=ys.map f:=by
 intro xs ys h;induction h with
 |nil=>rfl
 |cons r t ih=>rw[Wn,←r,←ih]
theorem Dv(n:Nat):(List.range n).filter (λ_=>true)=List.range n:=by simp
theorem Tg(xs:List α)(f:Nat->β)(g:α->β)(h:∀(i:Nat) (v:α),xs[i]?=some v->f i=g v):(List.range xs.length).map f=xs.map g:=by
 refine Ws λi=>?_;rw[Yg,Yg];cases e:xs[i]? with
 |none=>rw[Y1 (by rw[W0];exact List.getElem?_eq_none_iff.mp e)];rfl
 |some v=>rw[Js (Yk.mp e).1];exact congrArg some (h i v e)
def aC(D:Addr)(H H':Hp):Prop:=∀b o,H b=some o->b≠D->H' b=some o
theorem aC.of(g:au H H'):aC D H H':=λb o e _=>g b o e
theorem aC.put(g:aC D H H'):aC D H (upd H' D o):=λb u e n=>by rw[aF n];exact g b u e n
def zM(tt:TT)(te:TE)(fv:St)(D:Addr)(H:Hp)(v:V)(b:Bool)(Pe:V->Hp->Prop):Prop:=
 ∀H1,au H H1->(∃ys,H1 D=some (.lst ys))->∀(Kt:VK) (Kf:Hp->Prop),(∀y H3,b=true->au H1 H3->Pe y H3->Kt y H3)->(∀H3,b=false->au H1 H3->Kf H3)->tt (some v::fv) H1 λc H2=>if c=true then te (some v::fv) H2 Kt else Kf H2
theorem sS{K:ag}{a:Addr}{xs:List V}{tt:TT}{te:TE}{fv:St}{D:Addr}{H:Hp}{Q:VK}(hs:aj K H a xs)(hn:xs.length<=1000)(hD:H D=none)(p:Nat->Bool)(Pe:Nat->V->Hp->Prop)(mono:∀i y H1 H2,aC D H1 H2->Pe i y H1->Pe i y H2)
  (turn:∀(i:Nat) (v:V),xs[i]?=some v->zM tt te fv D H v (p i) (Pe i))(fin:∀ys H',au H H'->H' D=some (.lst ys)->Paired (λy i=>Pe i y H') ys ((List.range xs.length).filter p)->Q (.ref D) H'):jg (iX K a) tt te fv D H Q:=by
 refine DM (λi ys H1=>i<=xs.length/\au H H1/\H1 D=some (.lst ys)/\Paired (λy j=>Pe j y H1) ys ((List.range i).filter p)) ⟨Yw _,cY hD _,aW,.nil⟩ (λi ys H1 _ ⟨_,g,_,_⟩=>g.seq hs) ?_ ?_
 ·rintro i v ys H1 hi ⟨_,g,h1,pr⟩;have dZ:=(Yk.mp hi).1;have ll:=Iw pr;have fl:=Wl p (List.range i);rw[W0] at fl;refine turn i v hi H1 g ⟨_,h1⟩ _ _ (λy H3 pi g3 py=>⟨g3 _ _ h1,by rw[sizeLine_eq];omega,dZ,?_,aW,?_⟩) (λH3 pi g3=>⟨dZ,g.trans g3,g3 _ _ h1,?_⟩)
  ·intro b o e;rw[aF (cN e hD)];exact g3 _ _ (g _ _ e)
  ·rw[yr,if_pos pi];exact mD (Paired.bp pr λz j q=>mono _ _ _ _ (aC.put (aC.of g3)) q) (mono _ _ _ _ (aC.put (aC.of (au.refl _))) py)
  ·rw[yr,if_neg (by rw[pi];exact Yf),We];exact Paired.bp pr λz j q=>mono _ _ _ _ (aC.of g3) q
 ·grind
theorem Vd{K:ag}{a:Addr}{xs:List V}{tt:TT}{te:TE}{fv:St}{D:Addr}{H:Hp}{Q:VK}(hs:aj K H a xs)(hn:xs.length<=1000)(hD:H D=none)(p:Nat->Bool)(f:Nat->V)
  (turn:∀(i:Nat) (v:V),xs[i]?=some v->zM tt te fv D H v (p i) (λy _=>y=f i))(fin:∀H',au H H'->H' D=some (.lst (((List.range xs.length).filter p).map f))->Q (.ref D) H'):jg (iX K a) tt te fv D H Q:=
 sS hs hn hD p (λi y _=>y=f i) (λ_ _ _ _ _ e=>e) turn λys H' g h1 pr=>fin H' g (by rw[←Ig pr];exact h1)
theorem Ve{K:ag}{a:Addr}{xs:List V}{te:TE}{fv:St}{D:Addr}{H:Hp}{Q:VK}(hs:aj K H a xs)(hn:xs.length<=1000)(hD:H D=none)(f:V->V)
  (turn:∀(i:Nat) (v:V),xs[i]?=some v->∀H1,au H H1->∀Kt:VK,(∀H3,au H1 H3->Kt (f v) H3)->te (some v::fv) H1 Kt)(fin:∀H',au H H'->H' D=some (.lst (xs.map f))->Q (.ref D) H'):jg (iX K a) zZ te fv D H Q:=by
 refine Vd hs hn hD (λ_=>true) (λi=>f (xs.getD i .aA)) (λi v hi H1 g _ Kt Kf kt _=>lR (dk ?_)) λH' g h1=>fin H' g ?_;·grind
 ·rw[h1,Dv,Tg xs (λi=>f (xs.getD i .aA)) f λi v hi=>by rw[Yd,hi];rfl]
theorem WB{K:ag}{a:Addr}{xs:List V}{tt:TT}{te:TE}{fv:St}{D:Addr}{H:Hp}{Q:VK}(hs:aE K H a xs)(hn:xs.length<=1000)(hD:H D=none)(p:Nat->Bool)(Pe:Nat->V->Hp->Prop)(mono:∀i y H1 H2,aC D H1 H2->Pe i y H1->Pe i y H2)
  (turn:∀(i:Nat) (v:V),xs[i]?=some v->zM tt te fv D H v (p i) (Pe i))(fin:∀ys H',au H H'->H' D=some (.lst ys)->Paired (λy i=>Pe i y H') ys ((List.range xs.length).filter p)->Q (.ref D) H'):jg (uu K a) tt te fv D H Q:=by
 refine D6 (λi ys H1=>i<=xs.length/\au H H1/\H1 D=some (.lst ys)/\Paired (λy j=>Pe j y H1) ys ((List.range i).filter p)) ⟨Yw _,cY hD _,aW,.nil⟩ (λi ys H1 _ ⟨_,g,_,_⟩=>g.ju hs) ?_ ?_
 ·rintro i v ys H1 hi ⟨_,g,h1,pr⟩;have dZ:=(Yk.mp hi).1;have ll:=Iw pr;have fl:=Wl p (List.range i);rw[W0] at fl;refine turn i v hi H1 g ⟨_,h1⟩ _ _ (λy H3 pi g3 py=>⟨g3 _ _ h1,by rw[sizeLine_eq];omega,dZ,?_,aW,?_⟩) (λH3 pi g3=>⟨dZ,g.trans g3,g3 _ _ h1,?_⟩)
  ·intro b o e;rw[aF (cN e hD)];exact g3 _ _ (g _ _ e)
  ·rw[yr,if_pos pi];exact mD (Paired.bp pr λz j q=>mono _ _ _ _ (aC.put (aC.of g3)) q) (mono _ _ _ _ (aC.put (aC.of (au.refl _))) py)
  ·rw[yr,if_neg (by rw[pi];exact Yf),We];exact Paired.bp pr λz j q=>mono _ _ _ _ (aC.of g3) q
 ·grind
theorem WC{K:ag}{a:Addr}{xs:List V}{tt:TT}{te:TE}{fv:St}{D:Addr}{H:Hp}{Q:VK}(hs:aE K H a xs)(hn:xs.length<=1000)(hD:H D=none)(p:Nat->Bool)(f:Nat->V)
  (turn:∀(i:Nat) (v:V),xs[i]?=some v->zM tt te fv D H v (p i) (λy _=>y=f i))(fin:∀H',au H H'->H' D=some (.lst (((List.range xs.length).filter p).map f))->Q (.ref D) H'):jg (uu K a) tt te fv D H Q:=
 WB hs hn hD p (λi y _=>y=f i) (λ_ _ _ _ _ e=>e) turn λys H' g h1 pr=>fin H' g (by rw[←Ig pr];exact h1)
abbrev Nw(H:Hp)(o:HO)(Q:VK):Prop:=∀(p:Addr) (H':Hp),H p=none->au H H'->H' p=some o->Q (.ref p) H'
theorem Nw.at(h:Nw H o Q):∀p,H p=none->Q (.ref p) (upd H p o):=λp np=>h p _ np (cY np o) aW
def Od(t:TA):TE:=λσ H Q=>t σ H λxs H1=>xs.length<=sizeLine/\Nw H1 (.tup xs) Q
def Zct(t:TA):TE:=λσ H Q=>t σ H λxs H1=>xs.length<=sizeLine/\Nw H1 (.lst xs) Q
section
variable {X:Cx}{es:List Expr}{t:TA}{pos:Pos}{K:ag}
theorem e_{x1}(h:PA X es t):PE X (.Tuple es x1 pos) (Od t):=by
 intro pins s σ H Q I hq;refine wpAny_Tuple_spliced (az (h pos pins s σ H _ I hq) λus s1 ⟨xs,H1,I1,r,z,q⟩=>⟨by rw[←r.length];exact z,⟨.ref s1.heap.objs.size,upd H1 s1.heap.objs.size (.tup xs),I1.laid (λb u e=>Yc _ e) (Ye _) ?_,rfl,q.at _ (I1.ay.fresh (Ye _))⟩⟩);exact⟨z,us,r,⟨_,Yn _ rfl,rfl,_,rfl,rfl⟩⟩
theorem dM(h:PA X es t):PE X (.List es pos) (Zct t):=by
 intro pins s σ H Q I hq;refine wpAny_List_spliced (az (h pos pins s σ H _ I hq) λus s1 ⟨xs,H1,I1,r,z,q⟩=>⟨by rw[←r.length];exact z,⟨.ref s1.heap.objs.size,upd H1 s1.heap.objs.size (.lst xs),I1.laid (λb u e=>Yc _ e) (Ye _) ?_,rfl,q.at _ (I1.ay.fresh (Ye _))⟩⟩);exact⟨z,us,0,r,Yn _ rfl⟩
theorem cU.mono(h:cU X f r)(m:∀xs H Q,r' xs H Q->r xs H Q):cU X f r':=λpins s σ H xs us Q I v q=>h pins s σ H xs us Q I v (m xs H Q q)
theorem cD.mono(h:cD X f r)(m:∀x y H Q,r' x y H Q->r x y H Q):cD X f r':=λpins s σ H x y v u Q I rx ry q=>h pins s σ H x y v u Q I rx ry (m x y H Q q)
theorem pJ.mono(h:pJ X r)(m:∀x lo hi H Q,r' x lo hi H Q->r x lo hi H Q):pJ X r':=λpins s σ H x v vl vu lo hi sl Q I rx hs pl pu q=>h pins s σ H x v vl vu lo hi sl Q I rx hs pl pu (m x lo hi H Q q)
inductive IU(xs:List V)(H:Hp)(Q:VK):Prop
 |mk (j:Int) (aI:xs=[.int j]) (aX:Nw H (.kO 0 j) Q):IU xs H Q
def XM:List V->Hp->VK->Prop:=λxs H Q=>IU xs H Q
theorem Il:cU X (.type "range") XM:=CW.mono λ_ _ _ zq=>by obtain⟨j,e,q⟩:=zq;exact⟨j,e,q.at⟩
inductive Iy(xs:List V)(H:Hp)(Q:VK):Prop
 |mk (p:Addr) (n:Nat) (aI:xs=[.ref p]) (aX:H p=some (.kO 0 (n:Int))) (bu:n<=1000) (bW:Nw H (.lst ((aH n).map V.int)) Q):Iy xs H Q
def WD:List V->Hp->VK->Prop:=λxs H Q=>Iy xs H Q
theorem S1(hc:X.calm=true):cU X (.type "list") WD:=(Ic hc).mono λ_ _ _ zq=>by obtain⟨p,n,e,h,l,q⟩:=zq;exact⟨p,n,e,h,l,q.at⟩
inductive IV(xs:List V)(H:Hp)(Q:VK):Prop
 |mk (p:Addr) (n:Nat) (aI:xs=[.ref p]) (aX:H p=some (.kO 0 (n:Int))) (bu:n<=1000) (bW:Nw H (.tup ((aH n).map V.int)) Q):IV xs H Q
def XN:List V->Hp->VK->Prop:=λxs H Q=>IV xs H Q
theorem SJ(hc:X.calm=true):cU X (.type "tuple") XN:=(H_ hc).mono λ_ _ _ zq=>by obtain⟨p,n,e,h,l,q⟩:=zq;exact⟨p,n,e,h,l,q.at⟩
def XO(K:ag):List V->Hp->VK->Prop:=λxs H Q=>∃p ys,xs=[.ref p]/\(aj K H p ys\/aE K H p ys)/\Nw H (.lst ys) Q
theorem Th(h:X.K=K):cU X (.type "list") (XO K):=h▸TV.mono λ_ _ _ zq=>by obtain⟨p,ys,e,s,q⟩:=zq;exact⟨p,ys,e,s,q.at⟩
def XQ(K:ag):List V->Hp->VK->Prop:=λxs H Q=>∃(p:Addr) (ns:List Int),xs=[.ref p]/\(aj K H p (ns.map V.int)\/aE K H p (ns.map V.int))/\ns.length<64/\
  ∀b_:List Int,b_.Perm ns->b_.Pairwise (·<=·)->Nw H (.lst (b_.map V.int)) Q
theorem XR(h:X.K=K):cU X (.builtin "sorted") (XQ K):=h▸Iv.mono λ_ _ _ zq=>by obtain⟨p,ns,e,s,l,q⟩:=zq;exact⟨p,ns,e,s,l,λa b_ na pm so=>(q b_ pm so).at a na⟩
inductive LY(K:ag)(x:V)(lo:Option Int)(hi:Option Int)(H:Hp)(Q:VK):Prop
 |mk (a xs) (aI:x=.ref a) (aX:aj K H a xs) (bu:Nw H (.lst (iV xs lo hi)) Q):LY K x lo hi H Q
def Zcu(K:ag):V->Option Int->Option Int->Hp->VK->Prop:=λx lo hi H Q=>LY K x lo hi H Q
theorem D7(h:X.K=K):pJ X (Zcu K):=h▸Zu.mono λ_ _ _ _ _ zq=>by obtain⟨a,xs,e,s,q⟩:=zq;exact⟨a,xs,e,s,q.at⟩
def Zcv:R2:=λx y H Q=>∃l b xs zs,x=.ref l/\y=.ref b/\H l=some (.lst xs)/\H b=some (.lst zs)/\xs.length+zs.length<=sizeLine/\Nw H (.lst (xs++zs)) Q
theorem LZ:cD X (binaryOp .Add) Zcv:=ZaV.mono λ_ _ _ _ zq=>by obtain⟨l,b,xs,zs,e1,e2,h1,h2,z,q⟩:=zq;exact⟨l,b,xs,zs,e1,e2,h1,h2,z,q.at⟩
def ZM:TE:=λ_ H Q=>Nw H (.dK []) Q
theorem sY:PE X (.Dict [] [] pos) ZM:=λpins s σ H Q I q=>XH pins s σ H Q I q.at
def ZN:TE:=λ_ H Q=>Nw H (.dT []) Q
theorem JZ:PE X (.Dict [] [] pos) ZN:=λpins s σ H Q I q=>XI pins s σ H Q I q.at
end
abbrev Ch(H:Hp)(a:Addr)(o:HO)(R:Hp->Prop):Prop:=∀H',aC a H H'->H' a=some o->R H'
theorem Ch.at(h:Ch H a o R):R (upd H a o):=h _ (aC.put (aC.of (au.refl _))) aW
section
variable {X:Cx}
theorem nM.mono{id:String}{r r':V->List V->Hp->VK->Prop}(h:nM X id r)(m:∀x xs H Q,r' x xs H Q->r x xs H Q):nM X id r':=λpins s σ H x xs v us Q I rx rv q=>h pins s σ H x xs v us Q I rx rv (m x xs H Q q)
inductive IW(x:V)(vs:List V)(H:Hp)(Q:VK):Prop
 |mk (l xs y) (aI:x=.ref l) (aX:vs=[y]) (bu:H l=some (.lst xs)) (bW:xs.length<sizeLine) (dq:Ch H l (.lst (xs++[y])) (Q .aA)):IW x vs H Q
def XS:V->List V->Hp->VK->Prop:=λx vs H Q=>IW x vs H Q
theorem sT:nM X "list.append" XS:=yC.mono λ_ _ _ _ zq=>by obtain⟨l,xs,y,e1,e2,h,z,q⟩:=zq;exact⟨l,xs,y,e1,e2,h,z,q.at⟩
def XT:V->List V->Hp->VK->Prop:=λx vs H Q=>∃l b xs zs,x=.ref l/\vs=[.ref b]/\H l=some (.lst xs)/\H b=some (.lst zs)/\xs.length+zs.length<=sizeLine/\Ch H l (.lst (xs++zs)) (Q .aA)
theorem Vf:nM X "list.extend" XT:=VY.mono λ_ _ _ _ zq=>by obtain⟨l,b,xs,zs,e1,e2,h1,h2,z,q⟩:=zq;exact⟨l,b,xs,zs,e1,e2,h1,h2,z,q.at⟩
def ZO:V->List V->Hp->VK->Prop:=λx vs H Q=>∃l xs,x=.ref l/\vs=[]/\H l=some (.lst xs)/\Ch H l (.lst []) (Q .aA)
theorem WE:nM X "list.clear" ZO:=Xq.mono λ_ _ _ _ zq=>by obtain⟨l,xs,e1,e2,h,q⟩:=zq;exact⟨l,xs,e1,e2,h,q.at⟩
theorem qQ.mono(h:qQ X t)(m:∀o i v H Q,t' o i v H Q->t o i v H Q):qQ X t':=by
 intro pins s σ H o i x ov iv v Q I r1 r2 r3 q;exact h pins s σ H o i x ov iv v Q I r1 r2 r3 (m _ _ _ _ _ q)
def Zbr:V->V->V->Hp->(Hp->Prop)->Prop:=λo i v H Q=>∃p xs k j,o=.ref p/\i=.int k/\H p=some (.lst xs)/\iY xs.length k=some j/\Ch H p (.lst (xs.set j v)) Q
theorem J_:qQ X Zbr:=set_list.mono λ_ _ _ _ _ zq=>by obtain⟨p,xs,k,j,e1,e2,h,z,q⟩:=zq;exact⟨p,xs,k,j,e1,e2,h,z,q.at⟩
variable {o i value:Expr}{td ty tv ta:TE}{pos pos':Pos}{f:Str}
inductive KP(D:Ends)(σ:St)(v:V)(x:V)(y:V)(H3:Hp):Prop
 |mk (a kvs k) (aI:x=.ref a) (aX:H3 a=some (.dK kvs)) (bu:y=kV k) (bW:kvs.length<sizeLine) (dq:Ch H3 a (.dK (putK kvs k v)) (D.nx σ)):KP D σ v x y H3
def Zbs(td ty tv:TE):TS:=λD σ H=>tv σ H λv H1=>td σ H1 λx H2=>ty σ H2 λy H3=>KP D σ v x y H3
inductive Ka(D:Ends)(σ:St)(v:V)(x:V)(y:V)(H3:Hp):Prop
 |mk (a b kvs k) (aI:x=.ref a) (aX:H3 a=some (.dT kvs)) (bu:y=.ref b) (bW:H3 b=some (.tup (k.map kV))) (dq:kvs.length<sizeLine) (gK:Ch H3 a (.dT (putK kvs k v)) (D.nx σ)):Ka D σ v x y H3
def ZP(td ty tv:TE):TS:=λD σ H=>tv σ H λv H1=>td σ H1 λx H2=>ty σ H2 λy H3=>Ka D σ v x y H3
theorem oE(hu:X.A.units+1<cLine)(ho:PE X o td)(hi:PE X i ty)(hv:PE X value tv)(hs:swapsWith value (some (.Subscript o i pos')) pos.line X.env=pure false:=by rfl):
  PS X (.Assign [.Subscript o i pos'] value pos) (Zbs td ty tv):=by
 intro pins s σ H D I h;refine wpAny_Assign_Subscript (az (hv pins s σ H _ I h) λr s1 zq=>?_) hs;obtain⟨v,H1,I1,rv,q1⟩:=zq;refine az (ho pins s1 σ H1 _ I1 q1) λu s2 zq=>?_;obtain⟨x,H2,I2,rx,q2⟩:=zq;refine az (hi pins s2 σ H2 _ I2 q2) λiv s3 zq=>?_;obtain⟨y,H3,I3,ry,a,kvs,k,ex,ha,ey,l,q3⟩:=zq;subst ex;subst ey;obtain rfl:u=Value.ref a:=rx;exact JX hu I3 (qU.k ha l) ry rv λs4 I4=>⟨σ,_,I4,q3.at⟩
theorem Kb(hu:X.A.units+1<cLine)(ho:PE X o td)(hi:PE X i ty)(hv:PE X value tv)(hs:swapsWith value (some (.Subscript o i pos')) pos.line X.env=pure false:=by rfl):
  PS X (.Assign [.Subscript o i pos'] value pos) (ZP td ty tv):=by
 intro pins s σ H D I h;refine wpAny_Assign_Subscript (az (hv pins s σ H _ I h) λr s1 zq=>?_) hs;obtain⟨v,H1,I1,rv,q1⟩:=zq;refine az (ho pins s1 σ H1 _ I1 q1) λu s2 zq=>?_;obtain⟨x,H2,I2,rx,q2⟩:=zq;refine az (hi pins s2 σ H2 _ I2 q2) λiv s3 zq=>?_;obtain⟨y,H3,I3,ry,a,b,kvs,k,ex,ha,ey,hb,l,q3⟩:=zq;subst ex;subst ey;obtain rfl:u=Value.ref a:=rx;exact JX hu I3 (qU.t ha hb l) ry rv λs4 I4=>⟨σ,_,I4,q3.at⟩
def Zcw(K:ag)(ta tv:TE)(f:Str):TS:=λD σ H=>tv σ H λy H1=>ta σ H1 λx H2=>∃a C dx fs,x=.ref a/\H2 a=some (.ins C dx fs)/\fw K C/\cu K C f/\fs.length<1000/\Ch H2 a (.ins C dx (cw f y fs)) (D.nx σ)
theorem fR{K:ag}(hK:X.K=K)(ha:PE X o ta)(hv:PE X value tv)(hs:swapsWith value (some (.Attribute o f pos')) pos.line X.env=pure false:=by rfl):PS X (.Assign [.Attribute o f pos'] value pos) (Zcw K ta tv f):=by
 subst hK;intro pins s σ H D I h;refine plainObj_wpAny_Assign_Attribute (az (hv pins s σ H _ I h) λu s1 zq=>?_) hs;obtain⟨y,H1,I1,ry,q⟩:=zq;refine az (ha pins s1 σ H1 _ I1 q) λov s2 zq=>?_;obtain⟨x,H2,I2,rx,a,C,dx,fs,ex,ea,c,n,l,q2⟩:=zq;subst ex;obtain rfl:ov=Value.ref a:=rx;exact IH I2 ea c n l ry λs3 I3=>⟨σ,_,I3,q2.at⟩
end
def xx(x:Str):It:=⟨λi _=>i<x.length,λi H v H'=>H'=H/\∃c,x.cps[i]?=some c/\v=.str ⟨#[c]⟩,λi _=>x.length<=i⟩
theorem S2{P:Program}{w:World}{K:ag}{tg:Expr}(it:Addr)(x:Str)(t:Tok):Turn P w K tg (xx x) [it] it (λi h=>h.IsStrIter it "str_ascii_iterator" x t i) where
 mem:=by simp
 obj:=λi h st b hb=>by
  have e:b=it:=by simpa using hb
  obtain⟨o,e,c,d⟩:=st
  grind
 keep:=λi h h' st k=>let⟨o,e,r⟩:=st;⟨o,k it (by simp) o e,r⟩
 item:=by
  intro X hP hw hK hc i pins s σ H E I hf st hg;obtain⟨f0,f1,f2,f3,f4,f5⟩:=hf it (by simp);have hx:=Wu hg;refine wpAny_pyNext_ascii_item st hx λh' aR sb=>?_;obtain⟨o,e,c,d⟩:=id aR;exact⟨_,rfl,qC e c d (by decide) ⟨.str ⟨#[x.cps[i]]⟩,H,(I.turned (λb o hb e=>(sb.2 b hb).trans e) f0 f1 f3 f4 f5),⟨_,rfl⟩,⟨rfl,_,hx,rfl⟩,aR,λb hb=>(hf b hb).1⟩⟩
 done:=by
  intro X hP hw hK hc i pins s σ H E I hf st hg;obtain⟨f0,f1,f2,f3,f4,f5⟩:=hf it (by simp);exact wpAny_pyNext_ascii_end (I.ok.hd hc) st (Jz hg) λh' eb=>⟨rfl,I.turned (λb o hb e=>eb b o hb e) f0 f1 f3 f4 f5⟩
 self:=λ_ _ _ _ _ st h=>wpAny_pyIter_striter_ascii st h
theorem Ti{P:Program}{w:World}{K:ag}{tg:Expr}(it:Addr)(x:Str)(t:Tok):Turn P w K tg (xx x) [it] it (λi h=>h.IsStrIter it "str_iterator" x t i) where
 mem:=by simp
 obj:=λi h st b hb=>by
  have e:b=it:=by simpa using hb
  obtain⟨o,e,c,d⟩:=st
  grind
 keep:=λi h h' st k=>let⟨o,e,r⟩:=st;⟨o,k it (by simp) o e,r⟩
 item:=by
  intro X hP hw hK hc i pins s σ H E I hf st hg;obtain⟨f0,f1,f2,f3,f4,f5⟩:=hf it (by simp);have hx:=Wu hg;refine wpAny_pyNext_wide_item st hx λh' aR sb=>?_;obtain⟨o,e,c,d⟩:=id aR;exact⟨_,rfl,qC e c d (by decide) ⟨.str ⟨#[x.cps[i]]⟩,H,(I.turned (λb o hb e=>(sb.2 b hb).trans e) f0 f1 f3 f4 f5),⟨_,rfl⟩,⟨rfl,_,hx,rfl⟩,aR,λb hb=>(hf b hb).1⟩⟩
 done:=by
  intro X hP hw hK hc i pins s σ H E I hf st hg;obtain⟨f0,f1,f2,f3,f4,f5⟩:=hf it (by simp);exact wpAny_pyNext_wide_end (I.ok.hd hc) st (Jz hg) λh' eb=>⟨rfl,I.turned (λb o hb e=>eb b o hb e) f0 f1 f3 f4 f5⟩
 self:=λ_ _ _ _ _ st h=>wpAny_pyIter_striter_wide st h
inductive Nf(R:It->Hp->Prop)(v:V)(H1:Hp):Prop
 |mk (x) (aI:v=.str x) (aX:R (xx x) H1):Nf R v H1
def Zdp(te:TE):TI:=λσ H R=>te σ H λv H1=>Nf R v H1
theorem Zbt{X:Cx}{tg l:Expr}{tl:TE}(hl:PE X l tl):PI X tg l (Zdp tl):=by
 intro pins s σ H R I h;refine az (hl pins s σ H _ I h) λv s1 zq=>?_;obtain⟨x,H1,I1,r1,q1⟩:=zq;obtain⟨z,e,q⟩:=q1;subst e;obtain⟨t,rfl⟩:=r1;have fin:∀b∈[s1.heap.objs.size],gY X pins H1 b:=λb hb=>by
  have e:b=s1.heap.objs.size:=by simpa using hb
  subst e;exact I1.o_ (Ye _) (I1.ay.fresh (Ye _))
 cases ha:z.cps.all (·<128) with
 |true=>exact wpAny_pyIter_ascii ha ⟨s1.heap.objs.size,[s1.heap.objs.size],_,_,H1,rfl,I1.kept λb o e=>Yc _ e,S2 _ z t,⟨_,Yn _ rfl,rfl,rfl⟩,fin,q⟩
 |false=>exact wpAny_pyIter_wide ha ⟨s1.heap.objs.size,[s1.heap.objs.size],_,_,H1,rfl,I1.kept λb o e=>Yc _ e,Ti _ z t,⟨_,Yn _ rfl,rfl,rfl⟩,fin,q⟩
abbrev sg(c:Nat):V:=.str ⟨#[c]⟩
theorem XU(Pv:Nat->List V->Hp->Prop)(h0:Pv 0 [] (upd H D (.lst [])))
  (hs:∀(i c:Nat) (ys:List V) (H:Hp),x.cps[i]?=some c->Pv i ys H->tt (some (sg c)::fv) H λb H1=>if b=true then te (some (sg c)::fv) H1 λy H3=>H3 D=some (.lst ys)/\ys.length<sizeLine/\Pv (i+1) (ys++[y]) (upd H3 D (.lst (ys++[y]))) else Pv (i+1) ys H1)
  (hd:∀ys H,Pv x.length ys H->Q (.ref D) H):jg (xx x) tt te fv D H Q:=by
 refine⟨λi m ys H=>m=x.length-i/\i<=x.length/\Pv i ys H,⟨x.length,by simp,Yw _,h0⟩,?_⟩;rintro i m ys H ⟨rfl,hi,p⟩;by_cases bq:i<x.length
 ·refine .inr ⟨bq,Pv (i+1),λfZ H' p'=>⟨x.length-(i+1),by omega,rfl,bq,p'⟩,λv H' y=>?_⟩;obtain⟨e,c,hc,rfl⟩:=y
  grind
 ·have e:i=x.length:=by omega
  subst e;exact .inl ⟨Ye _,hd ys H p⟩
theorem WG(hn:x.length<=100000)(hD:H D=none)(f:Nat->V)
  (turn:∀(i c:Nat),x.cps[i]?=some c->∀H1,au H H1->∀Kt:VK,(∀H3,au H1 H3->Kt (f c) H3)->te (some (sg c)::fv) H1 Kt)(fin:∀H',au H H'->H' D=some (.lst (x.cps.toList.map f))->Q (.ref D) H'):jg (xx x) zZ te fv D H Q:=by
 refine XU (λi ys H1=>i<=x.length/\au H H1/\H1 D=some (.lst ys)/\ys=(x.cps.toList.take i).map f) ⟨Yw _,cY hD _,aW,rfl⟩ ?_ ?_
 ·rintro i c ys H1 hi ⟨_,g,h1,e⟩;have dZ:i<x.length:=(Jo.mp hi).1;refine lR (dk (turn i c hi H1 g _ λH3 g3=>⟨g3 _ _ h1,?_,dZ,?_,aW,?_⟩))
  ·rw[e,Ya,Wh,sizeLine_eq];omega
  ·intro b o q;rw[aF (cN q hD)];exact g3 _ _ (g _ _ q)
  ·have eV:x.cps.toList[i]?=some c:=by rw[J3];exact hi
   rw[e,Y6,eV,Yq];rfl
 ·rintro ys H1 ⟨_,g,h1,e⟩;refine fin H1 g ?_;rw[h1,e,J0 (by show x.cps.toList.length<=x.cps.size;simp)]
end L2
namespace L2
open PySem PySem.W PySem.Spec PyProof.Rows
def Zbu:List V->Hp->VK->Prop:=λxs H Q=>∃(p:Addr) (kvs:List (Key×V)),xs=[.ref p]/\H p=some (.dK kvs)/\Nw H (.lst (kvs.map λkv=>kV kv.1)) Q
theorem DO:∀{ks:List Key} {us:List Value},us.length=ks.length->(∀(j:Nat) (v:Value),us[j]?=some v->∃k,ks[j]?=some k/\(dE P w).is k v=true)->Vals (ks.map kV) us
 |[],[],_,_=>.nil
 |k::ks,u::us,hl,h=>by
  obtain⟨k',e,hk⟩:=h 0 u rfl;have e':k=k':=by simpa using e
  subst e';refine .cons ?_ (DO (by simpa using hl) λj v hj=>by simpa using h (j+1) v (by simpa using hj));rcases kr (show qB k u=true from hk) with⟨i,t,rfl,rfl⟩|⟨x,t,rfl,rfl⟩;·exact⟨t,rfl⟩
  ·exact⟨t,rfl⟩
 |[],_::_,hl,_=>by simp at hl
 |_::_,[],hl,_=>by simp at hl
theorem UB(hc:X.calm=true):cU X (.type "list") Zbu:=by
 rintro pins s σ H xs us Q I r ⟨p,kvs,rfl,hp,q⟩;obtain⟨u,rfl,ru⟩:=vals1 r;obtain rfl:u=Value.ref p:=ru;obtain⟨lim,F1,vs,kv,dd⟩:=oX I.ay hp;obtain⟨ep,da⟩:=dd.dictAt;have kl:=kv.length;refine kdl_call (kdl_dict F1) (I.ok.hd hc) da (by omega) λh' tk acc c kp hD it=>?_;have vals:Vals (kvs.map λkv=>kV kv.1) acc.toList:=by
  have e:(kvs.map λkv=>kV kv.1)=(vs.map (·.1)).map kV:=by rw[←kv.keys,Y8];rfl
  rw[e];refine DO (P:=X.prog) (w:=X.w) (by rw[Wj,Ya];exact it.1) λj v hj=>?_;obtain⟨k,x,hx,hk⟩:=it.2 j v (by rw[←J3];exact hj)
  grind
 exact⟨.ref s.heap.objs.size,_,(I.laid (o:=.lst (kvs.map λkv=>kV kv.1)) kp (Ye _) ⟨by rw[Ya];exact lim,acc.toList,c,vals,by rw[Array.toArray_toList];exact hD⟩),rfl,q.at _ (I.ay.fresh (Ye _))⟩
end L2
namespace L2
open PySem PySem.Spec PyProof.Rows
abbrev zN(D:List (Str×Str)):List (Str×PyData):=D.map λp=>(p.1,PyData.str p.2)
def ua(K:ag)(a:Addr)(D:List (Str×Str)):Prop:=KTD.tabLook KTD.flatLooks (λb=>K.lookup b) a (zN D)=true
theorem vD(f:δ->ε)(k:Str):∀D:List (Str×δ),KTD.datumAt k (D.map λp=>(p.1,f p.2))=(KTD.datumAt k D).map f
 |[]=>rfl
 |p::D=>by
  rw[Wn];unfold KTD.datumAt;by_cases e:k=p.1;·simp[e]
  ·simp only[e];exact vD f k D
theorem ua.here{K:ag}{a:Addr}{D:List (Str×Str)}{h:Heap}(t:ua K a D)(hJ:K.In h):KTD.Here h h a ((zN D).map λp=>(p.1,KTD.Dat.flat p.2)):=
 ⟨KTD.TabOf.text (KTD.tab_of_look (λ_ _=>KTD.flat_of_looks) (λa o e=>hJ a o e) t),λ_ _ e=>e⟩
def kL(D:List (Str×Str))(z:Str):Bool:=(KTD.datumAt z D).isSome
theorem keys_has(D:List (Str×Str))(z:Str):KTD.inKeys z ((zN D).map λp=>(p.1,KTD.Dat.flat p.2))=kL D z:=by
 rw[←KTD.isSome_datumAt,vD KTD.Dat.flat,vD PyData.str];unfold kL
 grind
def Zbv(K:ag)(neg:Bool):R2:=λx y H Q=>∃(z:Str) (a:Addr) (D:List (Str×Str)),x=.str z/\y=.ref a/\ua K a D/\Q (.bl (if neg=true then !kL D z else kL D z)) H
theorem Zbw{X:Cx}{K:ag}(hK:X.K=K):cD X (compareOp .In) (Zbv K false):=by
 subst hK;rintro pins s σ H x y v u Q I rx ry ⟨z,a,D,rfl,rfl,t,q⟩;obtain⟨tk,rfl⟩:=rx;obtain rfl:u=Value.ref a:=ry;refine KTD.in_text (t.here I.bL) ?_;rw[keys_has];exact⟨.bl (kL D z),H,I.tok _,rfl,q⟩
def Zbx(K:ag):R2:=λx y H Q=>∃(a:Addr) (z r:Str) (D:List (Str×Str)),x=.ref a/\y=.str z/\ua K a D/\KTD.datumAt z D=some r/\Q (.str r) H
theorem ZQ{X:Cx}{K:ag}(hK:X.K=K):hX X (Zbx K):=by
 subst hK;intro value slice pins s σ H x y v u Q I rx ry h hs;obtain⟨a,z,r,D,rfl,rfl,t,e,q⟩:=h;obtain⟨tk,rfl⟩:=ry;obtain rfl:v=Value.ref a:=rx;have T:=t.here I.bL;refine tail_any T.typeIs slot_dict_getitem.lookup ?_ hs;unfold getItem;try with_reducible refine wpAny_holding ?_
 refine wpAny_bind (wpAny_sequenceKey T.typeIs (by decide) ?_);refine wpAny_bind (wpAny_callSpecial?_slot T.typeIs slot_dict_getitem
  (wpAny_call_entry slot_dict_getitem T.typeIs entry_dict_getitem ?_ (args_dict_getitem _ _)))
 show wpAny _ _ (dictGet a (.str z tk)>>=_) _ _ s;have ed:KTD.datumAt z ((zN D).map λp=>(p.1,KTD.Dat.flat p.2))=some (.flat (.str r)):=by rw[vD KTD.Dat.flat,vD PyData.str,e];rfl
 refine wpAny_bind (KTD.dictGet_text T (λd v ha hv=>wpAny_pure ⟨v,rfl,wpAny_pure ?_⟩) λhn=>by rw[ed] at hn;cases hn);rw[ed] at ha;cases ha;cases hv s.heap with
 |str x t'=>exact⟨.str r,H,I.tok _,⟨t',rfl⟩,q⟩
theorem vZ(h:cv X.prog X.w X.K X.mg X.base k m C ps sp)(hr:bU j X.A)(hj:k<=j)(ho:PE X o ta)
  (ht:eval (.Call (.Attribute o m apos) [] [] pos) X.env=(do
   let ov←eval o X.env
   standAt apos.atName
   let(f,first)←holding [ov] (getMethod ov m pl)
   callWith pos f first (backTo pos (starEach [] X.env)) (backToKw pos (keywordEach [] X.env))):=by rfl):
  PE X (.Call (.Attribute o m apos) [] [] pos) (zE C m sp [] E0 ta kH):=by
 obtain⟨f,fd,c,hm,F,b⟩:=h;exact Xm ho c hm F (hr.mono hj) b .nil tV ht
def z7(K:ag)(neg:Bool):R2:=λx y H Q=>∃(p q:Addr) (xs:List V),x=.ref p/\y=.ref q/\aj K H p xs/\aj K H q []/\Q (.bl (if neg=true then !xs.isEmpty else xs.isEmpty)) H
theorem Ng(hu:X.A.units<cLine):cD X (compareOp .Eq) (z7 X.K false):=by
 rintro pins s σ H x y v u Q I rx ry ⟨p,q,xs,rfl,rfl,h1,h2,k⟩;cases rx;cases ry;obtain⟨ah,r1,p1,z1⟩:=I.list h1;obtain⟨iu,r2,p2,z2⟩:=I.list h2;cases r2;have l1:=r1.length;cases xs with
 |nil=>
  cases r1;exact SeqAt.eq_listAt (e:=λ_=>true) p1.isList p2.isList rfl hu (λj h1 _=>absurd h1 (by simp)) (cy I k (by simp))
 |cons a r=>exact SeqAt.eq_list_lengthsAt p1.isList p2.isList (by simp;intro z;subst z;simp at l1) hu (cy I k (by simp))
theorem E2(hu:X.A.units<cLine):cD X (compareOp .NotEq) (z7 X.K true):=by
 rintro pins s σ H x y v u Q I rx ry ⟨p,q,xs,rfl,rfl,h1,h2,k⟩;cases rx;cases ry;obtain⟨ah,r1,p1,z1⟩:=I.list h1;obtain⟨iu,r2,p2,z2⟩:=I.list h2;cases r2;have l1:=r1.length;cases xs with
 |nil=>
  cases r1;exact SeqAt.RcNeAt.lists (e:=λ_=>true) p1.isList p2.isList rfl hu (λj h1 _=>absurd h1 (by simp)) _ _ _ _ (cy I k (by simp))
 |cons a r=>exact SeqAt.RcNeAt.lists_lengths p1.isList p2.isList (by simp;intro z;subst z;simp at l1) hu _ _ _ _ (cy I k (by simp))
theorem Vg:cU X (.builtin "len") (λxs H Q=>∃p kvs,xs=[.ref p]/\H p=some (.dK kvs)/\Q (.int (kvs.length:Int)) H):=by
 rintro pins s σ H xs us Q I r ⟨p,kvs,rfl,hp,q⟩;obtain⟨u,rfl,ru⟩:=vals1 r;obtain rfl:u=Value.ref p:=ru;exact Zcq I (.inl hp) λt s' I'=>⟨.int (kvs.length:Int),H,I',⟨t,rfl⟩,q⟩
theorem aC.trans(g:aC D H H')(g':aC D H' GK):aC D H GK:=λb o e n=>g' b o (g b o e n) n
def Out(fp:List Addr)(H H':Hp):Prop:=∀b o,H b=some o->b∉fp->H' b=some o
theorem Out.of(g:au H H'):Out fp H H':=λb o e _=>g b o e
theorem Out.trans(g:Out fp H H')(g':Out fp H' GK):Out fp H GK:=λb o e n=>g' b o (g b o e n) n
theorem Out.bar(g:aC a H H')(m:a∈fp):Out fp H H':=λb o e n=>g b o e λz=>n (by rw[z];exact m)
theorem setC(h:u D (σ.set i (some v)) H):wq (qR (tC v) (ng i)) u D σ H:=h
theorem bZ(h:te σ H λx H1=>u D (σ.set i (some x)) H1):wq (qR te (ng i)) u D σ H:=h
theorem fK(h:H a=some (.dK kvs))(e:bg kvs (.inr z)=o):eM H a (.str z) o:=.inl ⟨kvs,.inr z,.inl h,rfl,e.symm⟩
section
variable {X:Cx}{elt iter tgt:Expr}{xs:List Str}{pos:Pos}{ifs:List Expr}{scope:Scope}{cl:List (Str×Addr)}{fr:List (Str×Nat)}{tg:TG}{tt:TT}{te:TE}{pins:aM}{σ:St}
def Zby(n:Nat)(wi:TI)(fr:List (Str×Nat))(tg:TG)(tt:TT)(te:TE):TE:=λσ H Q=>wi σ H λJ H1=>∀D,H1 D=none->EN n J tg tt te (fS σ fr) D H1 Q
theorem XW(hc:X.calm=true)(S:ou X scope cl xs fr)(hg:∀C s H fp,PG (cH X xs fr scope cl C s H fp) tgt tg)(hi:PI X tgt iter wi)
  (ht:∀C s H fp,rC (cH X xs fr scope cl C s H fp) ifs tt)(he:∀C s H fp,PE (cH X xs fr scope cl C s H fp) elt te)
  (hs:∀x,foldedSetIterable iter X.env x=pure x:=by intro _;rfl):PE X (.ListComp elt [⟨tgt,iter,ifs,0⟩] scope pos) (Zby xs.length wi fr tg tt te):=by
 intro pins s σ H Q I h;refine wpAny_comprehension_free rfl hs S.t8 S.kind S.names (az (hi pins s σ H _ I h) λv s1 h1=>az h1 λrg s2 h2=>?_);obtain⟨it,fp,tn,J,H2,e,I2,T,eg,f2,hw⟩:=h2;subst e;refine IJ (RR:=λacc C=>compPost X.md X.A X.xe none (EP X pins σ Q) acc C) hc S hg ht he I2 T eg f2 hw ?_;intro D C s1 H1 m I1 hn f0 f1 f3 f4 f5 q;exact⟨m,hn,λh' rE=>⟨.ref D,H1,I1.turned (λb o hb e=>rE.extBut b o hb e) f0 f1 (.inr f3) f4 f5,rfl,q⟩⟩
end
theorem Vh{K:ag}{a:Addr}{xs:List V}{n:Nat}{tg:TG}{tt:TT}{te:TE}{fv:St}{D:Addr}{H:Hp}{Q:VK}(Pv:Nat->List V->Hp->Prop)(h0:Pv 0 [] (upd H D (.lst [])))(hl:∀i ys H,i<=xs.length->Pv i ys H->aj K H a xs)
  (hs:∀i v ys H,xs[i]?=some v->Pv i ys H->∀os:St,os.length=n->tg v (os++fv) H λdh H2=>(∃jt:St,jt.length=n/\dh=jt++fv)/\tt dh H2 λc H1=>if c=true then te dh H1 λy H3=>H3 D=some (.lst ys)/\ys.length<sizeLine/\Pv (i+1) (ys++[y]) (upd H3 D (.lst (ys++[y]))) else Pv (i+1) ys H1)
  (hd:∀ys H,Pv xs.length ys H->Q (.ref D) H):EN n (iX K a) tg tt te fv D H Q:=by
 refine⟨λi m ys H=>m=xs.length-i/\i<=xs.length/\Pv i ys H,⟨xs.length,by simp,Yw _,h0⟩,?_⟩;rintro i m ys H ⟨rfl,hi,p⟩;have q:=hl i ys H hi p;by_cases bq:i<xs.length
 ·refine .inr ⟨⟨xs,xs[i],q,by simp[bq]⟩,Pv (i+1),λfZ H' p'=>⟨xs.length-(i+1),by omega,rfl,bq,p'⟩,λx H' y=>?_⟩;obtain⟨e,y⟩:=y
  grind
 ·have e:i=xs.length:=by omega
  subst e;exact .inl ⟨⟨xs,q,Ye _⟩,hd ys H p⟩
abbrev pL(elt t1 i1 t2 i2:Expr)(scope:Scope)(pos:Pos):Expr:=.ListComp elt [⟨t1,i1,[],0⟩,⟨t2,i2,[],0⟩] scope pos
section
variable {prog:Program}{w:World}{A:Around}{R:Result->Shared->Prop}{s:Shared}{elt t1 i1 t2 i2:Expr}{scope:Scope}{pos:Pos}{it acc:Value}{env:Env}
theorem WH(I:Nat->Shared->Prop)
  (turn:∀n s,I n s->wpAny (model prog w) A (pyNext it) (λr bo=>match r with
   |none=>R (.ok .next) bo
   |some v=>wpAny (model prog w) A (letOwnedTupleGo t2 it v) (λ_ cQ=>wpAny (model prog w) A (assign t2 env v) (λ_ dQ=>
     wpAny (model prog w) A (eval elt env) (λx gZ=>
       wpAny (model prog w) A (call (.builtin "list.append") [acc,x]) (λ_ kI=>∃m,m<n/\I m kI) (notedBy (model prog w) A env λe s'=>R (.error e) s') gZ) (notedBy (model prog w) A env λe s'=>R (.error e) s') dQ) (notedBy (model prog w) A env λe s'=>R (.error e) s') cQ) (notedBy (model prog w) A env λe s'=>R (.error e) s') bo) (notedBy (model prog w) A env λe s'=>R (.error e) s') s)
  (n:Nat)(h:I n s):codeAny (model prog w) A (.compLoop (pL elt t1 i1 t2 i2 scope pos) 1 it acc env) R s:=by
 refine codeAny_loop rfl I (λn s hI=>wpAny_noted (wpAny_bind (wpAny_standAt (wpAny_bind (wpAny_mono (turn n s hI) (λr bo fY=>?_) λ_ _ h'=>h'))))) n h;cases r with
 |none=>exact wpAny_pure fY
 |some v=>
  exact wpAny_bind (wpAny_mono fY (λ_ cQ h₀=>wpAny_bind (wpAny_mono h₀ (λ_ dQ nB=>wpAny_bind (wpAny_tests_nil (wpAny_bind (wpAny_bind (wpAny_mono nB (λx gZ wx=>wpAny_bind (wpAny_mono wx (λ_ kI wy=>wpAny_pure (wpAny_pure ⟨rfl,wy⟩)) λ_ _ h'=>h')) λ_ _ h'=>h'))))) λ_ _ h'=>h')) λ_ _ h'=>h')
theorem WI(hs:∀x,foldedSetIterable i2 env x=pure x)(I:Nat->Shared->Prop)
  (turn:∀n s,I n s->wpAny (model prog w) A (pyNext it) (λr bo=>match r with
   |none=>R (.ok .next) bo
   |some v=>wpAny (model prog w) A (letOwnedTupleGo t1 it v) (λ_ cQ=>wpAny (model prog w) A (assign t1 env v) (λ_ dQ=>
     wpAny (model prog w) A (eval i2 env) (λx dB=>wpAny (model prog w) A (pyIter x) (λAG gZ=>
      codeAny (model prog w) A (.compStart (pL elt t1 i1 t2 i2 scope pos) 1 AG acc env) (λr kI=>match r with|.ok _=>∃m,m<n/\I m kI|.error _=>False) gZ)
      (notedBy (model prog w) A env λe s'=>R (.error e) s') dB) (notedBy (model prog w) A env λe s'=>R (.error e) s') dQ) (notedBy (model prog w) A env λe s'=>R (.error e) s') cQ) (notedBy (model prog w) A env λe s'=>R (.error e) s') bo) (notedBy (model prog w) A env λe s'=>R (.error e) s') s)
  (n:Nat)(h:I n s):codeAny (model prog w) A (.compLoop (pL elt t1 i1 t2 i2 scope pos) 0 it acc env) R s:=by
 refine codeAny_loop rfl I (λn s hI=>wpAny_noted (wpAny_bind (wpAny_standAt (wpAny_bind (wpAny_mono (turn n s hI) (λr bo fY=>?_) λ_ _ h'=>h'))))) n h;cases r with
 |none=>exact wpAny_pure fY
 |some v=>
  refine wpAny_bind (wpAny_mono fY (λ_ cQ h₀=>wpAny_bind (wpAny_mono h₀ (λ_ dQ nB=>wpAny_bind (wpAny_tests_nil (wpAny_bind (wpAny_mono nB (λx dB t9=>wpAny_bind (wpAny_standAt ?_)) λ_ _ h'=>h')))) λ_ _ h'=>h')) λ_ _ h'=>h');rw[hs];refine wpAny_bind (wpAny_pure (wpAny_bind (wpAny_holding (wpAny_mono t9 (λAG gZ wx=>wpAny_bind (wpAny_runOwn (codeAny_mono wx λr kI wy=>?_))) λ_ _ h'=>h'))));cases r with
  |error e=>grind
  |ok f=>exact wpAny_pure ⟨rfl,wy⟩
theorem TZ
  (h0:codeAny (model prog w) A (.compLoop (pL elt t1 i1 t2 i2 scope pos) 1 it acc env) R s)
  (h:wpAny (model prog w) A (pyIter it) (λGL s'=>codeAny (model prog w) A (.compLoop (pL elt t1 i1 t2 i2 scope pos) 1 GL acc env) R s') (notedBy (model prog w) A env λx s'=>R (.error x) s') s):
  codeAny (model prog w) A (.compStart (pL elt t1 i1 t2 i2 scope pos) 1 it acc env) R s:=by
 refine codeAny_of_tree (wpAny_notedAt (wpAny_bind (wpAny_askSetting (wpAny_ite ?_))));split
 ·first
   |exact wpAny_bind (wpAny_pure (wpAny_pure (And.intro rfl h0)))
   |exact wpAny_pure (And.intro rfl h0)
 ·first
   |exact wpAny_bind (wpAny_rule (wpAny_bind (wpAny_standAt (wpAny_bind (wpAny_mono h (λGL s' h'=>wpAny_pure (And.intro rfl h')) λ_ _ x=>x)))))
   |(refine wpAny_bind (wpAny_rule ?_);show wpAny _ _ (standAt i2.pos>>=_) _ _ s;exact wpAny_bind (wpAny_standAt (wpAny_bind (wpAny_mono h (λGL s' h'=>wpAny_pure (And.intro rfl h')) λ_ _ x=>x))))
end
def E3(n:Nat)(J:It)(jv:TG)(jw:TI)(kY:TG)(te:TE)(fv:St)(D:Addr)(H:Hp)(Q:VK):Prop:=
 ∃W:Nat->Nat->List V->Hp->Prop,(∃m,W 0 m [] (upd H D (.lst [])))/\∀i m ys H,W i m ys H->
  (J.stop i H/\Q (.ref D) H)\/(J.go i H/\∃N:List V->Hp->Prop,(∀fZ H',N fZ H'->∃m',m'<m/\W (i+1) m' fZ H')/\
   ∀v H',J.pI i H v H'->∀os:St,os.length=n->jv v (os++fv) H' λdh H2=>(∃jt:St,jt.length=n/\dh=jt++fv)/\jw dh H2 λJ2 H3=>
    ∃W2:Nat->Nat->List V->St->Hp->Prop,(∃m2,W2 0 m2 ys dh H3)/\∀i2 m2 fN cC H4,W2 i2 m2 fN cC H4->
     (J2.stop i2 H4/\(∃uB:St,uB.length=n/\cC=uB++fv)/\N fN H4)\/(J2.go i2 H4/\∃N2:List V->St->Hp->Prop,(∀fZ aB H',N2 fZ aB H'->∃m',m'<m2/\W2 (i2+1) m' fZ aB H')/\
      ∀v2 H5,J2.pI i2 H4 v2 H5->kY v2 cC H5 λxy H6=>te xy H6 λy H7=>H7 D=some (.lst fN)/\fN.length<sizeLine/\N2 (fN++[y]) xy (upd H7 D (.lst (fN++[y])))))
section
variable {X:Cx}{elt t1 i1 t2 i2:Expr}{xs:List Str}{pos:Pos}{scope:Scope}{cl:List (Str×Addr)}{fr:List (Str×Nat)}{jv kY:TG}{jw:TI}{te:TE}{pins:aM}{σ:St}
theorem Vi{H2:Hp}{s2:Shared}{it:Addr}{fp:List Addr}{tn:Nat->Heap->Prop}{J:It}{Q:VK}{RR:Value->Addr->Result->Shared->Prop}{E:aU}
  (hc:X.calm=true)(S:ou X scope cl xs fr)(hg:∀C s H fp,PG (cH X xs fr scope cl C s H fp) t1 jv)(GN:∀C s H fp,PI (cH X xs fr scope cl C s H fp) t2 i2 jw)(xw:∀C s H fp,PG (cH X xs fr scope cl C s H fp) t2 kY)(he:∀C s H fp,PE (cH X xs fr scope cl C s H fp) elt te)
  (lX:∀C x,foldedSetIterable i2 (compEnvC scope cl C X.env) x=pure x)
  (I2:Inv X pins σ H2 s2)(T:Turn X.prog X.w X.K t1 J fp it tn)(eg:tn 0 s2.heap)(f2:∀b∈fp,gY X pins H2 b)
  (hw:∀D,H2 D=none->E3 xs.length J jv jw kY te (fS σ fr) D H2 Q)
  (hR:∀D C s1 H1 m,Inv X pins σ H1 s1->s1.heap.Ns C m->H1 C=none->C≠X.env.locals->X.cQ.heap.objs.size<=C->(∀y c,X.env.cells.lookup y=some c->c≠C)->(∀p∈X.pn++pins,p.1≠C)->Q (.ref D) H1->RR (.ref D) C (.ok .next) s1):
  wpAny X.md X.A (newList []) (λacc dB=>wpAny X.md X.A (newFunctionEnv scope X.env.globals cl [] X.env.qual none .none (some X.env)) (λkJ gZ=>
   codeAny X.md X.A (.compStart (pL elt t1 i1 t2 i2 scope pos) 0 (.ref it) acc {kJ with scope:=relabel scope X.env}) (RR acc kJ.locals) gZ) E dB) E s2:=by
 refine KC (tgt:=t1) (iter:=i1) (ifs:=[]) (rest:=[⟨t2,i2,[],0⟩]) S I2 T eg f2 hR λD C s H3 dB hD e3 I4 uy uv fin=>?_;obtain⟨W,⟨m0,w0⟩,turn⟩:=hw D hD;rw[←e3] at w0;refine WI (lX _) (λk s'=>∃i ys H' os,os.length=xs.length/\Inv (cH X xs fr scope cl C s H3 fp) [] (os++fS σ fr) H' s'/\tn i s'.heap/\(∀b∈fp,H' b=none)/\W i k ys H') ?_ m0
  ⟨0,[],_,List.replicate xs.length none,Wx,I4,uy,uv,w0⟩
 rintro n s5 ⟨i,ys,H5,os,nN,I5,nL,rm,w5⟩;have kG:∀{H':Hp},(∀b∈fp,H' b=none)->∀b∈fp,gY (cH X xs fr scope cl C s H3 fp) [] H' b:=λ{H'} hn b hb=>
  ⟨hn b hb,(I5.ok.pH b hb).1,I5.ok.oZ b hb,.inl hb,(I5.ok.pH b hb).2,λp hp=>absurd (show p∈([]:aM) from hp) (by simp)⟩
 rcases turn i n ys H5 w5 with⟨stop,qn⟩|⟨go,N,hN,step⟩
 ·refine az (T.done (cH X xs fr scope cl C s H3 fp) rfl rfl rfl hc i [] s5 _ H5 _ I5 (kG rm) nL stop) λr s6 zq=>?_;obtain⟨hr,I6⟩:=zq;subst hr;exact fin _ _ _ I6 qn
 ·refine az (T.item (cH X xs fr scope cl C s H3 fp) rfl rfl rfl hc i [] s5 _ H5 _ I5 (kG rm) nL go) λr s6 zq=>?_;obtain⟨u,hr,h6⟩:=zq;subst hr;refine az h6 λ_ s7 zq=>?_;obtain⟨v,H7,I7,r7,y7,rD,Gy⟩:=zq;have Gz:=I7.pinned (kG Gy) (T.obj _ _ rD);refine wpAny_mono (hg _ _ _ _ _ s7 _ H7 v u _ Gz r7 (step v H7 y7 os nN)) (λ_ s8 zq=>?_) λ_ _ z=>False.elim z;obtain⟨σ8,H8,I8,⟨jt,FY,e8⟩,q8⟩:=zq;subst e8;have again:∀{nO:St} {H9:Hp} {s9:Shared} {nP:List V},nO.length=xs.length->Inv (cH X xs fr scope cl C s H3 fp) ([]++oQ fp s7.heap) (nO++fS σ fr) H9 s9->N nP H9->
    ∃m,m<n/\∃i ys H' os,os.length=xs.length/\Inv (cH X xs fr scope cl C s H3 fp) [] (os++fS σ fr) H' s9/\tn i s9.heap/\(∀b∈fp,H' b=none)/\W i m ys H':=λ{nO H9 s9 nP} l1 I9 n9=>by
   obtain⟨m',hm,w9⟩:=hN nP H9 n9;refine⟨m',hm,i+1,nP,H9,nO,l1,I9.tF,T.keep _ _ _ rD λb hb o e=>(I9.pin (b,o) (Yj _ (Yj _ (ot hb e)))).1,λb hb=>?_,w9⟩;obtain⟨o,e,d⟩:=T.obj _ _ rD b hb;exact(I9.pin (b,o) (Yj _ (Yj _ (ot hb e)))).2.1
  refine wpAny_mono (GN _ _ _ _ _ s8 _ H8 _ I8 q8) (λx s9 h9=>wpAny_mono h9 (λrg GA h10=>?_) λ_ _ z=>False.elim z) λ_ _ z=>False.elim z;obtain⟨AG,GO,tn2,J2,pK,rM,GB,T2,OU,GP,W2,⟨m2,w2⟩,Zcx⟩:=h10;subst rM;have Fs:∀{H':Hp},(∀b∈GO,H' b=none)->∀b∈GO,gY (cH X xs fr scope cl C s H3 fp) ([]++oQ fp s7.heap) H' b:=λhn b hb=>⟨hn b hb,(GP b hb).2⟩;have Oe:codeAny X.md X.A (.compLoop (pL elt t1 i1 t2 i2 scope pos) 1 (.ref AG) (.ref D) (compEnvC scope cl C X.env)) (λr kI=>match r with|.ok _=>∃m,m<n/\∃i ys H' os,os.length=xs.length/\Inv (cH X xs fr scope cl C s H3 fp) [] (os++fS σ fr) H' kI/\tn i kI.heap/\(∀b∈fp,H' b=none)/\W i m ys H'|.error _=>False) GA:=by
   refine WH (λk s'=>∃j zs aB H',Inv (cH X xs fr scope cl C s H3 fp) ([]++oQ fp s7.heap) aB H' s'/\tn2 j s'.heap/\(∀b∈GO,H' b=none)/\W2 j k zs aB H') ?_ m2 ⟨0,ys,_,pK,GB,OU,λb hb=>(GP b hb).1,w2⟩;rintro k GC ⟨j,zs,Zdq,xg,Ay,OV,OW,w11⟩;rcases Zcx j k zs Zdq xg w11 with⟨stop,⟨uB,Zdr,e3⟩,qn⟩|⟨go,N2,hN2,Zcy⟩
   ·refine az (T2.done (cH X xs fr scope cl C s H3 fp) rfl rfl rfl hc j _ GC _ xg _ Ay (Fs OW) OV stop) λr s12 zq=>?_;obtain⟨hr,I12⟩:=zq;subst hr;subst e3;exact again Zdr I12 qn
   ·refine az (T2.item (cH X xs fr scope cl C s H3 fp) rfl rfl rfl hc j _ GC _ xg _ Ay (Fs OW) OV go) λr s12 zq=>?_;obtain⟨u2,hr,AH⟩:=zq;subst hr;refine az AH λ_ s13 zq=>?_;obtain⟨v2,AI,I13,r13,y13,F2,Zds⟩:=zq;have Zdt:=I13.pinned (Fs Zds) (T2.obj _ _ F2);refine wpAny_mono (xw _ _ _ _ _ s13 _ AI v2 u2 _ Zdt r13 (Zcy v2 AI y13)) (λ_ s14 zq=>?_) λ_ _ z=>False.elim z;obtain⟨Zdu,pM,I14,q14⟩:=zq;refine wpAny_mono (he _ _ _ _ _ s14 _ pM _ I14 q14) (λu1 s15 zq=>?_) λ_ _ z=>False.elim z;obtain⟨y,GQ,I15,r15,hD,hz,kZ⟩:=zq;refine wpAny_mono (yC (X:=cH X xs fr scope cl C s H3 fp) _ s15 _ GQ (.ref D) [y] _ [u1] (λ_ H'=>N2 (zs++[y]) Zdu H') I15 rfl (.cons r15 .nil) ⟨_,zs,y,rfl,rfl,hD,hz,kZ⟩) (λ_ s16 zq=>?_) λ_ _ z=>False.elim z;obtain⟨_,Qg,GR,_,q16⟩:=zq;obtain⟨m',hm,w16⟩:=hN2 _ _ _ q16;refine⟨m',hm,j+1,_,_,Qg,GR.tF,T2.keep _ _ _ F2 λb hb o e=>(GR.pin (b,o) (Yj _ (Yj _ (ot hb e)))).1,λb hb=>?_,w16⟩;obtain⟨o,e,d⟩:=T2.obj _ _ F2 b hb;exact(GR.pin (b,o) (Yj _ (Yj _ (ot hb e)))).2.1
  exact TZ Oe (T2.self _ 0 _ _ _ OU Oe)
def Zbz(n:Nat)(wi:TI)(fr:List (Str×Nat))(jv:TG)(jw:TI)(kY:TG)(te:TE):TE:=λσ H Q=>wi σ H λJ H1=>∀D,H1 D=none->E3 n J jv jw kY te (fS σ fr) D H1 Q
theorem XX(hc:X.calm=true)(S:ou X scope cl xs fr)(hg:∀C s H fp,PG (cH X xs fr scope cl C s H fp) t1 jv)(hi:PI X t1 i1 wi)(GN:∀C s H fp,PI (cH X xs fr scope cl C s H fp) t2 i2 jw)(xw:∀C s H fp,PG (cH X xs fr scope cl C s H fp) t2 kY)
  (he:∀C s H fp,PE (cH X xs fr scope cl C s H fp) elt te)(hs:∀x,foldedSetIterable i1 X.env x=pure x:=by intro _;rfl)(lX:∀C x,foldedSetIterable i2 (compEnvC scope cl C X.env) x=pure x:=by intro _ _;rfl):
  PE X (.ListComp elt [⟨t1,i1,[],0⟩,⟨t2,i2,[],0⟩] scope pos) (Zbz xs.length wi fr jv jw kY te):=by
 intro pins s σ H Q I h;refine wpAny_comprehension_free rfl hs S.t8 S.kind S.names (az (hi pins s σ H _ I h) λv s1 h1=>az h1 λrg s2 h2=>?_);obtain⟨it,fp,tn,J,H2,e,I2,T,eg,f2,hw⟩:=h2;subst e;refine Vi (RR:=λacc C=>compPost X.md X.A X.xe none (EP X pins σ Q) acc C) hc S hg GN xw he lX I2 T eg f2 hw ?_;intro D C s1 H1 m I1 hn f0 f1 f3 f4 f5 q;exact⟨m,hn,λh' rE=>⟨.ref D,H1,I1.turned (λb o hb e=>rE.extBut b o hb e) f0 f1 (.inr f3) f4 f5,rfl,q⟩⟩
end
theorem gW{X:Cx}{K:ag}{tg l:Expr}{tl:TE}(h:X.K=K)(hl:PE X l tl):PI X tg l (NT K tl):=h▸Lx hl
theorem mY{X:Cx}{K:ag}{pos:Pos}{es:List Expr}{k:Nat}{t:lV}{n:Nat}(h:X.K=K)(hc:X.calm=true)(hg:wU X es t)
  (hn:(assignEach es X.env).length=n:=by rfl)(dm:(assignEach es X.env).findIdx? (·.1)=none:=by rfl):PG X (.Tuple es k pos) (OC K n t):=h▸ZaI hc hg hn dm
theorem ZR{K:ag}{a:Addr}{xs:List V}{n:Nat}{jv:TG}{jw:TI}{kY:TG}{te:TE}{fv:St}{D:Addr}{H:Hp}{Q:VK}(Pv:Nat->List V->Hp->Prop)(h0:Pv 0 [] (upd H D (.lst [])))(hl:∀i ys H,i<=xs.length->Pv i ys H->aj K H a xs)
  (hs:∀i v ys H,xs[i]?=some v->Pv i ys H->∀os:St,os.length=n->jv v (os++fv) H λdh H2=>(∃jt:St,jt.length=n/\dh=jt++fv)/\jw dh H2 λJ2 H3=>∃(b:Addr) (zs:List V) (Pw:Nat->List V->St->Hp->Prop),J2=iX K b/\Pw 0 ys dh H3/\
   (∀k ys σ H,k<=zs.length->Pw k ys σ H->aj K H b zs)/\
   (∀k v2 ys σ H,zs[k]?=some v2->Pw k ys σ H->kY v2 σ H λxy H6=>te xy H6 λy H7=>H7 D=some (.lst ys)/\ys.length<sizeLine/\Pw (k+1) (ys++[y]) xy (upd H7 D (.lst (ys++[y]))))/\
   ∀ys σ H,Pw zs.length ys σ H->(∃uB:St,uB.length=n/\σ=uB++fv)/\Pv (i+1) ys H)
  (hd:∀ys H,Pv xs.length ys H->Q (.ref D) H)(Zcz:∀σ H (R R':It->Hp->Prop),(∀J H,R J H->R' J H)->jw σ H R->jw σ H R')(ZcA:∀v σ H (R R':St->Hp->Prop),(∀σ H,R σ H->R' σ H)->jv v σ H R->jv v σ H R'):E3 n (iX K a) jv jw kY te fv D H Q:=by
 refine⟨λi m ys H=>m=xs.length-i/\i<=xs.length/\Pv i ys H,⟨xs.length,by simp,Yw _,h0⟩,?_⟩;rintro i m ys H ⟨rfl,hi,p⟩;have q:=hl i ys H hi p;by_cases bq:i<xs.length
 ·refine .inr ⟨⟨xs,xs[i],q,by simp[bq]⟩,Pv (i+1),λfZ H' p'=>⟨xs.length-(i+1),by omega,rfl,bq,p'⟩,λx H' y os nN=>?_⟩;obtain⟨e,y⟩:=y;subst e;refine ZcA _ _ _ _ _ (λdh H2 ⟨h1,h2⟩=>⟨h1,Zcz _ _ _ _ (λJ2 H3 h3=>?_) h2⟩) (hs i x ys _ (y xs q) p os nN);obtain⟨b,zs,Pw,rfl,w0,wl,ws,wd⟩:=h3;refine⟨λk m2 fN cC H4=>m2=zs.length-k/\k<=zs.length/\Pw k fN cC H4,⟨zs.length,by simp,Yw _,w0⟩,?_⟩;rintro k m2 fN cC H4 ⟨rfl,hk,w⟩;have q2:=wl k fN cC H4 hk w;by_cases Qh:k<zs.length
  ·refine .inr ⟨⟨zs,zs[k],q2,by simp[Qh]⟩,Pw (k+1),λfZ aB H' p'=>⟨zs.length-(k+1),by omega,rfl,Qh,p'⟩,λv2 H5 y2=>?_⟩;obtain⟨e2,y2⟩:=y2;subst e2;exact ws k v2 fN cC _ (y2 zs q2) w
  ·have e:k=zs.length:=by omega
   subst e;exact .inl ⟨⟨zs,q2,Ye _⟩,(wd fN cC H4 w).1,(wd fN cC H4 w).2⟩
 ·have e:i=xs.length:=by omega
  subst e;exact .inl ⟨⟨xs,q,Ye _⟩,hd ys H p⟩
section
variable {prog:Program}{w:World}{κ:Type}[DecidableEq κ]{knd:PySem.KeyKind prog w κ}{A:Around}{E:aU}{s:Shared}
end
section
variable {X:Cx}{pins:aM}{σ:St}{H:Hp}{s:Shared}{a:Addr}{kvs:List (Key×V)}{k:Key}{z:V}{u r:Value}{A:Around}{E:aU}
end
def ZS(td ty:TE):TE:=λσ H Q=>td σ H λx H1=>∃a,x=.ref a/\GJ H1 a/\ty σ H1 λy H2=>∃kvs k v,H2 a=some (.dK kvs)/\y=kV k/\bg kvs k=some v/\Ch H2 a (.dK (fU kvs k)) (Q v)
section
variable {X:Cx}{o e f:Expr}{apos cF:Pos}{td ty tx:TE}
theorem Kc(ho:PE X o td)(he:PE X e ty)(m:M1 X o "pop" apos e cF):PE X (.Call (.Attribute o "pop" apos) [e] [] cF) (ZS td ty):=by
 intro pins s σ H Q I h;refine wpAny_Call_method m.base m.j_ m.line plainAttrs_dict slot_dict_pop PySem.F.type_dict_pop (az (ho pins s σ H _ I h) λu s1 zq=>?_);obtain⟨x,H1,I1,rx,a,ex,d,q1⟩:=zq;subst ex;obtain rfl:u=Value.ref a:=rx;obtain⟨t1,t2,_⟩:=E1 I1 d;refine⟨t1,t2,?_⟩;rw[m.trees];refine Calls.callWith_builtin rfl (Calls.evalArgs_plain (Calls.spliced_cons (az (he pins s1 σ H1 _ I1 q1) λiv s2 ⟨y,H2,I2,ry,kvs,k,v,ea,ey,l,q2⟩=>Calls.spliced_nil ?_)));subst ey;exact Zcp I2 ea ry l (.inl rfl) λw' s3 I3 iF=>⟨v,_,I3,iF,q2.at⟩
end
end L2
namespace L2
open PySem PySem.W PySem.Calls PySem.Spec PyProof.Rows
def dR{α:Type}(n:Nat)(P:α->Prop):KasT α->Prop
 |.ret a=>P a
 |.ask i j k=>i<n/\j<n/\∀b,dR n P (k b)
theorem dR.bind{α β:Type}{n:Nat}{P:α->Prop}{Q:β->Prop}{f:α->KasT β}(hf:∀a,P a->dR n Q (f a)):∀{t:KasT α},dR n P t->dR n Q (t.bind f)
 |.ret a,h=>hf a h
 |.ask _ _ _,h=>⟨h.1,h.2.1,λb=>dR.bind hf (h.2.2 b)⟩
def Good(n:Nat)(p:Array Nat):Prop:=0<n/\p.Perm (List.range n).toArray
theorem Good.get(g:Good n p)(m:Nat):p.getD m 0<n:=by
 by_cases h:m<p.size
 ·have e:p.getD m 0=p[m]:=by rw[Y9,Wu h];rfl
  rw[e];have:=g.2.mem_iff.mp (Array.getElem_mem h);simpa using this
 ·have e:p.getD m 0=0:=by rw[Y9,Jz (by omega)];rfl
  rw[e];exact g.1
theorem Good.rev(g:Good n p)(i j:Nat):Good n (kas_rev p i j):=⟨g.1,(mirror_perm p i j _).trans g.2⟩
theorem D8(g:Good n p):∀f m,dR n (λ_=>True) (kas_asc p f m)
 |0,_=>trivial
 |f+1,m=>⟨g.get m,g.get (m-1),λb=>by
  cases b with
  |true=>(dsimp only;rw[if_pos rfl]);exact trivial
  |false=>(dsimp only;rw[if_neg Yf]);exact D8 g f (m+1)⟩
theorem yF:∀f (p:Array Nat) m q,Good n p->dR n (λr=>Good n r.1) (kas_desc f p m q)
 |0,_,_,_,g=>g
 |f+1,p,m,q,g=>⟨g.get m,g.get (m-1),λb=>by
  cases b with
  |true=>
   split;·exact yF f _ _ _ (g.rev _ _)
   ·exact yF f _ _ _ g
  |false=>
   refine⟨g.get (m-1),g.get m,λd=>?_⟩;cases d with
   |true=>(dsimp only;rw[if_pos rfl]);exact g
   |false=>(dsimp only;rw[if_neg Yf]);exact yF f _ _ _ g⟩
theorem IX{n m k:Nat}{p:Array Nat}(g:Good n p):dR n (λr=>Good n r.2) (kas_tail3 m k p):=by
 refine dR.bind (λa _=>?_) (D8 (g.rev 0 m) _ _);exact g.rev 0 m
theorem Ih{n m k:Nat}{p:Array Nat}(g:Good n p):dR n (λr=>Good n r.2) (kas_descPart m k p):=by
 refine dR.bind (λr hr=>?_) (yF _ p _ _ g);split;·exact IX (Good.rev hr _ _)
 ·exact IX hr
theorem IY{n k:Nat}{p:Array Nat}(g:Good n p):dR n (λr=>Good n r.2) (kas_count k p):=by
 refine dR.bind (λm _=>?_) (D8 g _ _);split;·exact g
 ·split
  ·refine⟨g.get _,g.get _,λb=>?_⟩;cases b with
   |true=>(dsimp only;rw[if_pos rfl]);exact g
   |false=>(dsimp only;rw[if_neg Yf]);exact Ih (g.rev _ _)
  ·exact Ih g
theorem Dw(g:Good n p):∀f l r,dR n (λ_=>True) (kas_place p k f l r)
 |0,_,_=>trivial
 |f+1,l,r=>by
  unfold kas_place;split;·exact trivial
  ·refine⟨g.get _,g.get _,λb=>?_⟩;cases b with
   |true=>(dsimp only;rw[if_pos rfl]);exact Dw g f _ _
   |false=>(dsimp only;rw[if_neg Yf]);exact Dw g f _ _
theorem KQ{n:Nat}:∀f (p:Array Nat) k,Good n p->dR n (Good n) (kas_bin f p k)
 |0,_,_,g=>g
 |f+1,p,k,g=>dR.bind (λl _=>KQ f _ _ ⟨g.1,(bubble_perm p k _).trans g.2⟩) (Dw g _ _ _)
theorem WJ{n:Nat}(h:0<n):dR n (Good n) (kas_sort n):=by
 refine dR.bind (λr hr=>?_) (IY ⟨h,Array.Perm.refl _⟩);split;·exact KQ _ _ _ hr
 ·exact hr
theorem range_getD(vs:List α)(d:α):(List.range vs.length).map (λi=>vs.getD i d)=vs:=by
 refine Ws λi=>?_
 grind
section
variable {prog:Program}{w:World}{A:Around}{E:aU}{s:Shared}
end
def zt(h:Heap)(vs:List Value):Prop:=∀v∈vs,∃(a:Addr) (o:Obj) (n:Nat) (x y:Int) (t u:Tok),v=.ref a/\h.get? a=some o/\o.cls=.type "tuple"/\o.data=.seq #[.int x t,.int y u] n
theorem zt.Qi:∀{vs:List Value},zt h vs->∃fs:List Value,KatTups h vs fs/\fs.length=vs.length/\∀v∈fs,∃x t,v=Value.int x t
 |[],_=>⟨[],KatTups.nil,rfl,λ_ h=>by cases h⟩
 |v::vs,hv=>by
  obtain⟨a,o,n,x,y,t,u,rfl,h1,h2,h3⟩:=hv v Yh;obtain⟨fs,k1,k2,k3⟩:=zt.Qi λz hz=>hv z (Yv _ hz);refine⟨.int x t::fs,KatTups.cons h1 h2 h3 rfl k1,by rw[Wb,Wb,k2],λv hv=>?_⟩
  grind
section
variable {prog:Program}{w:World}{A:Around}{E:aU}{s:Shared}
end
section
variable {prog:Program}{w:World}{A:Around}{E:aU}{s:Shared}
end
theorem Kd:∀{as:List Addr} {us:List Value},Vals (as.map V.ref) us->us=as.map Value.ref
 |[],_,.nil=>rfl
 |a::as,u::us,.cons r t=>by
  rw[r,Kd t,Wn]
theorem Ke:∀as:List Addr,Vals (as.map V.ref) (as.map Value.ref)
 |[]=>.nil
 |_::as=>.cons rfl (Ke as)
def Run{α:Type}(lt:Nat->Nat->Bool):KasT α->α
 |.ret a=>a
 |.ask i j k=>Run lt (k (lt i j))
theorem Run.bind:∀t:KasT α,Run lt (t.bind f)=Run lt (f (Run lt t))
 |.ret _=>rfl
 |.ask i j k=>Run.bind (k (lt i j))
theorem dR.run(hc:∀i j (C:Bool->Shared->Prop),i<n->j<n->C (lt i j) s->cmp i j C s):∀{t:KasT α},dR n P t->G (Run lt t) s->t.kasWp cmp G s
 |.ret _,_,hG=>hG
 |.ask i j k,h,hG=>hc i j _ h.1 h.2.1 (dR.run hc (h.2.2 _) hG)
structure du(n:Nat)(lt:Nat->Nat->Bool):Prop where
 trans:∀i j k,i<n->j<n->k<n->lt i j=true->lt j k=true->lt i k=true
 AJ:∀i j,i<n->j<n->i≠j->lt i j=false->lt j i=true
 Zdv:∀i j,i<n->j<n->lt i j=true->lt j i=false
def Sd(lt:Nat->Nat->Bool)(p:Array Nat)(m:Nat):Prop:=∀i j,i<j->j<m->lt (p.getD i 0) (p.getD j 0)=true
def Ds(lt:Nat->Nat->Bool)(p:Array Nat)(m:Nat):Prop:=∀i j,i<j->j<m->lt (p.getD j 0) (p.getD i 0)=true
theorem Good.size(g:Good n p):p.size=n:=by
 have:=g.2.size_eq
 grind
theorem Good.ne(g:Good n p)(hi:i<n)(hj:j<n)(ne:i≠j):p.getD i 0≠p.getD j 0:=by
 have nd:p.toList.Nodup:=by
  have:=(Jp.mp g.2).nodup_iff.mpr (by simpa using List.nodup_range);exact this
 have sz:=g.size;have e:∀k (hk:k<n),p.getD k 0=p.toList[k]'(by rw[Wj];omega):=λk hk=>by
  simp_all
 have pw:=Wv.mp nd;rw[e i hi,e j hj];intro z;rcases Nat.lt_or_gt_of_ne ne with q|q;·exact pw _ _ _ _ q z
 ·exact pw _ _ _ _ q z.symm
section
variable {n:Nat}{lt:Nat->Nat->Bool}
theorem L0(L:du n lt)(g:Good n p)(h1:1<=m)(sd:Sd lt p m)(h:lt (p.getD (m-1) 0) (p.getD m 0)=true):Sd lt p (m+1):=by
 intro i j jx hj;by_cases e:j=m
 ·subst e;by_cases e2:i=j-1;·rw[e2];exact h
  ·exact L.trans _ _ _ (g.get _) (g.get _) (g.get _) (sd i (j-1) (by omega) (by omega)) h
 ·exact sd i j jx (by omega)
theorem ZT(L:du n lt)(g:Good n p)(h1:1<=m)(ds:Ds lt p m)(h:lt (p.getD m 0) (p.getD (m-1) 0)=true):Ds lt p (m+1):=by
 intro i j jx hj;by_cases e:j=m
 ·subst e;by_cases e2:i=j-1;·rw[e2];exact h
  ·exact L.trans _ _ _ (g.get _) (g.get _) (g.get _) h (ds i (j-1) (by omega) (by omega))
 ·exact ds i j jx (by omega)
theorem y6(L:du n lt)(g:Good n p):∀f m,1<=m->m+f<=n->Sd lt p m->Sd lt p (Run lt (kas_asc p f m))/\m<=Run lt (kas_asc p f m)/\Run lt (kas_asc p f m)<=m+f
 |0,m,_,_,sd=>⟨sd,Ye _,Ye _⟩
 |f+1,m,h1,h2,sd=>by
  have e:Run lt (kas_asc p (f+1) m)=Run lt (if lt (p.getD m 0) (p.getD (m-1) 0)=true then KasT.ret m else kas_asc p f (m+1)):=rfl;rw[e];by_cases c:lt (p.getD m 0) (p.getD (m-1) 0)=true
  ·rw[if_pos c];exact⟨sd,Ye _,by show m<=_;omega⟩
  ·rw[if_neg c];have c':lt (p.getD m 0) (p.getD (m-1) 0)=false:=by cases z:lt (p.getD m 0) (p.getD (m-1) 0) with|true=>exact absurd z c|false=>rfl
   obtain⟨a,b,d⟩:=y6 L g f (m+1) (by omega) (by omega) (L0 L g h1 sd (L.AJ _ _ (g.get _) (g.get _) (g.ne (by omega) (by omega) (by omega)) c'))
   grind
theorem KR(L:du n lt)(g:Good n p):∀f m,1<=m->m+f<=n->Ds lt p m->∃m',Run lt (kas_desc f p m 0)=(p,m',0)/\Ds lt p m'/\m<=m'/\m'<=m+f
 |0,m,_,_,ds=>⟨m,rfl,ds,Ye _,Ye _⟩
 |f+1,m,h1,h2,ds=>by
  have e:Run lt (kas_desc (f+1) p m 0)=Run lt (if lt (p.getD m 0) (p.getD (m-1) 0)=true then(if 0>0 then kas_desc f (kas_rev p (m-(0+1)) m) (m+1) 0 else kas_desc f p (m+1) 0) else KasT.ask (p.getD (m-1) 0) (p.getD m 0) λd=>if d=true then KasT.ret (p,m,0) else kas_desc f p (m+1) (0+1)):=rfl;rw[e];by_cases c:lt (p.getD m 0) (p.getD (m-1) 0)=true
  ·rw[if_pos c,if_neg (by omega)];obtain⟨m',a,b,d,d'⟩:=KR L g f (m+1) (by omega) (by omega) (ZT L g h1 ds c)
   grind
  ·rw[if_neg c];have c':lt (p.getD m 0) (p.getD (m-1) 0)=false:=by cases z:lt (p.getD m 0) (p.getD (m-1) 0) with|true=>exact absurd z c|false=>rfl
   have e2:Run lt (KasT.ask (p.getD (m-1) 0) (p.getD m 0) λd=>if d=true then KasT.ret (p,m,0) else kas_desc f p (m+1) (0+1))=Run lt (if lt (p.getD (m-1) 0) (p.getD m 0)=true then KasT.ret (p,m,0) else kas_desc f p (m+1) (0+1)):=rfl;rw[e2,if_pos (L.AJ _ _ (g.get m) (g.get (m-1)) (g.ne (by omega) (by omega) (by omega)) c')];exact⟨m,rfl,ds,Ye _,by omega⟩
theorem L3(hm:m<=p.size)(hi:i<m):(kas_rev p 0 m).getD i 0=p.getD (m-1-i) 0:=by
 unfold kas_rev;rw[Y9,getElem?_mirror_all hm,if_pos ⟨Yw _,hi⟩,←Y9]
 congr 1
 omega
theorem WK(L:du n lt)(g:Good n p)(h1:1<=m)(hm:m<=n)(ds:Ds lt p m):Good n (Run lt (kas_tail3 m n p)).2/\Sd lt (Run lt (kas_tail3 m n p)).2 (Run lt (kas_tail3 m n p)).1/\m<=(Run lt (kas_tail3 m n p)).1/\(Run lt (kas_tail3 m n p)).1<=n:=by
 have sd:Sd lt (kas_rev p 0 m) m:=λi j jx hj=>by
  rw[L3 (by rw[g.size];exact hm) (by omega),L3 (by rw[g.size];exact hm) hj];exact ds _ _ (by omega) (by omega)
 have e:Run lt (kas_tail3 m n p)=(Run lt (kas_asc (kas_rev p 0 m) (n-m) m),kas_rev p 0 m):=by
  unfold kas_tail3;rw[Run.bind];rfl
 obtain⟨a,b,c⟩:=y6 L (g.rev 0 m) (n-m) m h1 (by omega) sd;rw[e];exact⟨g.rev 0 m,a,b,by show Run lt _<=n;omega⟩
theorem WL(L:du n lt)(g:Good n p):Good n (Run lt (kas_count n p)).2/\Sd lt (Run lt (kas_count n p)).2 (Run lt (kas_count n p)).1/\1<=(Run lt (kas_count n p)).1/\(Run lt (kas_count n p)).1<=n:=by
 have n0:=g.1;obtain⟨sd,h1,h2⟩:=y6 L g (n-1) 1 (Ye _) (by omega) (λi j jx hj=>by omega);have e:Run lt (kas_count n p)=Run lt (if(Run lt (kas_asc p (n-1) 1)==n)=true then KasT.ret (Run lt (kas_asc p (n-1) 1),p) else if Run lt (kas_asc p (n-1) 1)>1 then KasT.ask (p.getD 0 0) (p.getD (Run lt (kas_asc p (n-1) 1)-1) 0) λc=>if c=true then KasT.ret (Run lt (kas_asc p (n-1) 1),p) else kas_descPart (Run lt (kas_asc p (n-1) 1)) n (kas_rev p 0 (Run lt (kas_asc p (n-1) 1))) else kas_descPart (Run lt (kas_asc p (n-1) 1)) n p):=by
  unfold kas_count;rw[Run.bind]
 rw[e];generalize er:Run lt (kas_asc p (n-1) 1)=r at sd h1 h2;by_cases c1:(r==n)=true
 ·rw[if_pos c1];exact⟨g,sd,h1,by show r<=n;omega⟩
 ·rw[if_neg c1];have rn:r≠n:=λz=>c1 (beq_iff_eq.mpr z);by_cases c2:r>1
  ·rw[if_pos c2];have e2:Run lt (KasT.ask (p.getD 0 0) (p.getD (r-1) 0) λc=>if c=true then KasT.ret (r,p) else kas_descPart r n (kas_rev p 0 r))=Run lt (if lt (p.getD 0 0) (p.getD (r-1) 0)=true then KasT.ret (r,p) else kas_descPart r n (kas_rev p 0 r)):=rfl;rw[e2,if_pos (sd 0 (r-1) (by omega) (by omega))];exact⟨g,sd,h1,by show r<=n;omega⟩
  ·rw[if_neg c2];have r1:r=1:=by omega
   subst r1;have hd:lt (p.getD 1 0) (p.getD 0 0)=true:=by
    have:n-1=(n-2)+1:=by omega
    rw[this] at er;have e3:Run lt (kas_asc p (n-2+1) 1)=Run lt (if lt (p.getD 1 0) (p.getD (1-1) 0)=true then KasT.ret 1 else kas_asc p (n-2) (1+1)):=rfl;rw[e3] at er;by_cases c:lt (p.getD 1 0) (p.getD (1-1) 0)=true;·exact c
    ·rw[if_neg c] at er;have c':lt (p.getD 1 0) (p.getD (1-1) 0)=false:=by cases z:lt (p.getD 1 0) (p.getD (1-1) 0) with|true=>exact absurd z c|false=>rfl
     have sd2:Sd lt p 2:=L0 L g (m:=1) (Ye _) (λi j jx hj=>by omega) (L.AJ _ _ (g.get _) (g.get _) (g.ne (by omega) (by omega) (by omega)) c');obtain⟨_,b,_⟩:=y6 L g (n-2) 2 (by omega) (by omega) sd2;rw[show 1+1=2 from rfl] at er;omega
   have ds2:Ds lt p 2:=λi j jx hj=>by
    obtain rfl:j=1:=by omega
    obtain rfl:i=0:=by omega
    exact hd
   obtain⟨m',a,b,c,d⟩:=KR L g (n-(1+1)) (1+1) (by omega) (by omega) ds2;have e4:Run lt (kas_descPart 1 n p)=Run lt (kas_tail3 m' n p):=by
    unfold kas_descPart;rw[Run.bind,a];dsimp only;rw[if_neg (by omega)]
   rw[e4];obtain⟨x1,x2,x3,x4⟩:=WK L g (m:=m') (by omega) (by omega) b;exact⟨x1,x2,by omega,x4⟩
theorem L4(L:du n lt)(g:Good n p)(sd:Sd lt p n):∀f m,1<=m->m+f<=n->Run lt (kas_asc p f m)=m+f
 |0,_,_,_=>rfl
 |f+1,m,h1,h2=>by
  have e:Run lt (kas_asc p (f+1) m)=Run lt (if lt (p.getD m 0) (p.getD (m-1) 0)=true then KasT.ret m else kas_asc p f (m+1)):=rfl;rw[e,if_neg (by rw[L.Zdv _ _ (g.get _) (g.get _) (sd (m-1) m (by omega) (by omega))];exact Yf),L4 L g sd f (m+1) (by omega) (by omega)];omega
theorem WM(L:du n lt)(g:Good n p)(sd:Sd lt p n):Run lt (kas_count n p)=(n,p):=by
 have n0:=g.1;unfold kas_count;rw[Run.bind,(L4 L g sd (n-1) 1 (Ye _) (by omega)),if_pos (beq_iff_eq.mpr (by omega))];show(1+(n-1),p)=(n,p)
 grind
theorem DP(L:du n lt)(g:Good n p)(hk:k<n)(sd:Sd lt p k):∀f l r,l<=r->r<=k->r-l<=f->(∀i,i<l->lt (p.getD i 0) (p.getD k 0)=true)->(∀i,r<=i->i<k->lt (p.getD k 0) (p.getD i 0)=true)->
  Run lt (kas_place p k f l r)<=k/\(∀i,i<Run lt (kas_place p k f l r)->lt (p.getD i 0) (p.getD k 0)=true)/\∀i,Run lt (kas_place p k f l r)<=i->i<k->lt (p.getD k 0) (p.getD i 0)=true
 |0,l,r,h1,h2,h3,hl,hr=>⟨by show l<=k;omega,hl,λi (hi:l<=i) xA=>hr i (by omega) xA⟩
 |f+1,l,r,h1,h2,h3,hl,hr=>by
  rw[kas_place];by_cases c:l≥r
  ·rw[if_pos c];exact⟨by show l<=k;omega,hl,λi (hi:l<=i) xA=>hr i (by omega) xA⟩
  ·rw[if_neg c];have m1:l<=(l+r)/2:=by omega
   have m2:(l+r)/2<r:=by omega
   generalize(l+r)/2=m at m1 m2;have e2:Run lt (KasT.ask (p.getD k 0) (p.getD m 0) λc=>if c=true then kas_place p k f l m else kas_place p k f (m+1) r)=Run lt (if lt (p.getD k 0) (p.getD m 0)=true then kas_place p k f l m else kas_place p k f (m+1) r):=rfl;rw[e2];by_cases c2:lt (p.getD k 0) (p.getD m 0)=true
   ·rw[if_pos c2];refine DP L g hk sd f l m m1 (by omega) (by omega) hl λi hi xA=>?_;by_cases e:i=m;·rw[e];exact c2
    ·exact L.trans _ _ _ (g.get _) (g.get _) (g.get _) c2 (sd m i (by omega) xA)
   ·rw[if_neg c2];have c':lt (p.getD k 0) (p.getD m 0)=false:=by cases z:lt (p.getD k 0) (p.getD m 0) with|true=>exact absurd z c2|false=>rfl
    have t:=L.AJ _ _ (g.get k) (g.get m) (g.ne hk (by omega) (by omega)) c';refine DP L g hk sd f (m+1) r (by omega) h2 (by omega) (λi hi=>?_) hr;by_cases e:i=m;·rw[e];exact t
    ·exact L.trans _ _ _ (g.get _) (g.get _) (g.get _) (sd i m (by omega) (by omega)) t
theorem L5(L:du n lt):∀f (p:Array Nat) k,Good n p->k+f=n->Sd lt p k->Good n (Run lt (kas_bin f p k))/\Sd lt (Run lt (kas_bin f p k)) n
 |0,p,k,g,e,sd=>by
  have e':k=n:=by omega
  refine⟨g,?_⟩;rw[←e'];exact sd
 |f+1,p,k,g,e,sd=>by
  have hk:k<n:=by omega
  obtain⟨a,b,c⟩:=DP L g hk sd k 0 k (Yw _) (Ye _) (by omega) (λi hi=>absurd hi (Wy _)) (λi h1 h2=>by omega);have e2:Run lt (kas_bin (f+1) p k)=Run lt (kas_bin f (bubble p k (k-Run lt (kas_place p k k 0 k))) (k+1)):=by
   rw[kas_bin,Run.bind]
  rw[e2];generalize Run lt (kas_place p k k 0 k)=l at a b c;have gb:Good n (bubble p k (k-l)):=⟨g.1,(bubble_perm p k _).trans g.2⟩;have sz:=g.size;have get:∀i,(bubble p k (k-l)).getD i 0=if i=l then p.getD k 0 else if l<i/\i<=k then p.getD (i-1) 0 else p.getD i 0:=λi=>by
   have h:=getElem?_bubble (xs:=p) (src:=k) (by omega) (k-l) (by omega) i;rw[show k-(k-l)=l by omega] at h;rw[Y9,h];by_cases z:i=l;·rw[if_pos z,if_pos z,←Y9]
   ·rw[if_neg z,if_neg z];by_cases z2:l<i/\i<=k;·rw[if_pos z2,if_pos z2,←Y9]
    ·rw[if_neg z2,if_neg z2,←Y9]
  refine L5 L f _ (k+1) gb (by omega) λi j jx hj=>?_;rw[get i,get j];by_cases i1:i=l
  ·rw[if_pos i1,if_neg (by omega),if_pos (by omega)];exact c (j-1) (by omega) (by omega)
  ·rw[if_neg i1];by_cases i2:l<i/\i<=k
   ·rw[if_pos i2,if_neg (by omega),if_pos (by omega)];exact sd (i-1) (j-1) (by omega) (by omega)
   ·rw[if_neg i2];have il:i<l:=by omega
    by_cases j1:j=l;·rw[if_pos j1];exact b i il
    ·rw[if_neg j1];by_cases j2:l<j/\j<=k
     ·rw[if_pos j2];exact sd i (j-1) (by omega) (by omega)
     ·rw[if_neg j2];exact sd i j jx (by omega)
theorem XY(L:du n lt)(h:0<n):Good n (Run lt (kas_sort n))/\Sd lt (Run lt (kas_sort n)) n:=by
 obtain⟨a,b,c,d⟩:=WL L ⟨h,Array.Perm.refl _⟩;have e:Run lt (kas_sort n)=Run lt (if(Run lt (kas_count n (List.toArray (List.range n)))).1<n then kas_bin (n-max (Run lt (kas_count n (List.toArray (List.range n)))).1 1) (Run lt (kas_count n (List.toArray (List.range n)))).2 (max (Run lt (kas_count n (List.toArray (List.range n)))).1 1) else KasT.ret (Run lt (kas_count n (List.toArray (List.range n)))).2):=by
  unfold kas_sort;rw[Run.bind]
 rw[e];generalize Run lt (kas_count n (List.toArray (List.range n)))=r at a b c d;have mx:max r.1 1=r.1:=by omega
 by_cases z:r.1<n
 ·rw[if_pos z,mx];exact L5 L _ _ _ a (by omega) b
 ·rw[if_neg z];have:r.1=n:=by omega
  refine⟨a,?_⟩;rw[this] at b;exact b
end
def ik(p q:Int×Int):Prop:=p.1<q.1\/(p.1=q.1/\p.2<q.2)
def ltB(p q:Int×Int):Bool:=if p.1=q.1 then decide (p.2<q.2) else decide (p.1<q.1)
theorem ltB_iff:ltB p q=true↔ik p q:=by
 unfold ltB ik
 grind
def jy(ps:List (Int×Int))(i j:Nat):Bool:=ltB (ps.getD i (0,0)) (ps.getD j (0,0))
theorem ZbA(nd:ps.Nodup):du ps.length (jy ps):=by
 have fl:∀{p q:Int×Int},ltB p q=false->¬ik p q:=λ{p q} h z=>by rw[ltB_iff.mpr z] at h;cases h
 refine⟨λi j k _ _ _ h1 h2=>?_,λi j hi hj ne h=>?_,λi j _ _ h=>?_⟩
 ·have a:=ltB_iff.mp h1;have b:=ltB_iff.mp h2;refine ltB_iff.mpr ?_;unfold ik at*;omega
 ·refine ltB_iff.mpr ?_;have a:=fl h;have e:ps.getD i (0,0)≠ps.getD j (0,0):=by
   rw[Yd,Yd,Yb hi,Yb hj];have pw:=Wv.mp nd
   grind
  have e':¬((ps.getD i (0,0)).1=(ps.getD j (0,0)).1/\(ps.getD i (0,0)).2=(ps.getD j (0,0)).2):=λz=>e (Prod.ext z.1 z.2);unfold ik at*;omega
 ·cases z:jy ps j i with
  |false=>rfl
  |true=>
   have a:=ltB_iff.mp h;have b:=ltB_iff.mp z;unfold ik at a b;omega
def qH(h:Heap)(vs:List Value)(ps:List (Int×Int)):Prop:=Paired (λv (p:Int×Int)=>∃(a:Addr) (o:Obj) (n:Nat) (t u:Tok),v=.ref a/\h.get? a=some o/\o.cls=.type "tuple"/\o.data=.seq #[.int p.1 t,.int p.2 u] n) vs ps
theorem qH.fX(q:qH h vs ps):zt h vs:=by
 intro v hv;induction q with
 |nil=>cases hv
 |cons f _ ih=>grind
theorem CZ{α β:Type}{F:α->β->Prop}{xs:List α}{ys:List β}(h:Paired F xs ys){i:Nat}(hi:i<xs.length)(x:α)(y:β):F (xs.getD i x) (ys.getD i y):=by
 obtain⟨b,e,f⟩:=jI h (Yb hi)
 grind
section
variable {prog:Program}{w:World}{A:Around}{E:aU}{s:Shared}
theorem XZ{vs:List Value}{ps:List (Int×Int)}(tv:qH s.heap vs ps){i j:Nat}{C:Bool->Shared->Prop}(hi:i<vs.length)(hj:j<vs.length)(hC:C (jy ps i j) s):kas_ask prog w A (tuples' true) vs i j C s:=by
 unfold kas_ask;obtain⟨a,o,n,t,u,e1,h1,h2,h3⟩:=CZ tv hi Value.none (0,0);obtain⟨a',o',n',t',u',rF,k9,ke,Qj⟩:=CZ tv hj Value.none (0,0);unfold jy at hC;rw[e1,rF];generalize ps.getD i (0,0)=p at hC h3;generalize ps.getD j (0,0)=q at hC Qj;refine kat_lt h1 h3 k9 Qj ?_;unfold ltB at hC;refine kat_cons (SeqAt.EqAt.int_int p.1 t q.1 t' prog w _ _ (kat_go (λb1=>kat_yes (kat_cons (SeqAt.EqAt.int_int p.2 u q.2 u' prog w _ _ (kat_go (λb2=>kat_yes (kat_nil ?_)) λb2=>kat_no ?_)))) λb1=>kat_no ?_));·grind
 ·rw[if_pos (beq_iff_eq.mp b1)] at hC;exact kat_one _ _ (lt_int hC)
 ·rw[if_neg (λz=>by rw[beq_iff_eq.mpr z] at b1;cases b1)] at hC;show wpAny _ _ (oneLt' true _ _) _ _ _;exact kat_lt_int hC
theorem ZbB
  (hQ:∀aR:SortSt,arrOf aR=(List.toArray (List.range 64)).map (kas_item it)->failedOf aR=none->Q () aR s)
  (h:(kas_count 64 (List.toArray (List.range 64))).kasWp (kas_cmp prog w A κ it) (λr s'=>r=(64,List.toArray (List.range 64))/\s'=s) s):kasC (model prog w) A E sortRuns' Q (kas_st κ it (List.toArray (List.range 64))) s:=by
 have OX:(List.toArray (List.range 64)).size=64:=rfl;have szA:(arrOf (kas_st κ it (List.toArray (List.range 64)))).size=64:=(Array.size_map (f:=kas_item it)).trans OX;have mr:minRun' 64 64 0=32:=by decide+kernel
 rw[sortRuns'_eq];refine kasC_bind (kasC_get ?_);(try dsimp only);simp only[szA,mr];refine kasC_bind (kasC_range ?_);show kasC _ _ _ (forIn (0::1::List.range' 2 62) _ _) _ _ _;refine kasC_cons ?_;(try dsimp only);rw[if_neg (show ¬(0:Nat)≥64 by omega)];simp only[Nat.sub_zero];refine kasC_bind (kas_count_ (show 1<=64 by omega) (Gq OX.symm) (λm p' s' _ _ _ hg=>?_) h);obtain⟨e,rfl⟩:=hg;cases e;(try dsimp only);rw[if_neg (show ¬(64:Nat)<32 by omega)];refine kasC_bind (kasC_get ?_);rw[show(pendingOf (kas_st κ it (List.toArray (List.range 64)))).back?=none from rfl];(try dsimp only);refine kasC_bind (kasC_modify (kasC_pure ?_));show kasC _ _ _ (forIn (1::List.range' 2 62) _ _) _ _ _;refine kasC_cons ?_;(try dsimp only);rw[if_pos (show(0:Nat)+64≥64 by omega)];refine kasC_pure ?_;(try dsimp only);refine kasC_bind (kasC_range ?_);show kasC _ _ _ (forIn (0::1::List.range' 2 62) _ _) _ _ _;refine kasC_cons ?_;refine kasC_bind (kasC_get ?_);(try dsimp only);rw[if_pos (show(pendingOf (setPending (kas_st κ it (List.toArray (List.range 64))) ((pendingOf (kas_st κ it (List.toArray (List.range 64)))).push (0,64,0)))).size<=1 from Ye 1)];refine kasC_pure ?_;(try dsimp only);exact kasC_pure (hQ _ rfl rfl)
theorem Tj{R:Array Nat->Prop}{a:Addr}{vs:List Value}{n:Nat}{P:PySem.Fin->Shared->Prop}(ho:s.heap.get? a=some (seqObj "list" vs.toArray n))(f_:vs.length<=64)
  (hk:2<=vs.length->∀h':Heap,(∀b o,b≠a->s.heap.get? b=some o->h'.get? b=some o)->∃κ:SortKind,(∀(Q:SortKind->Shared->Prop),Q κ {s with heap:=h'}->wpAny (model prog w) A (keyKind' vs.toArray) Q E {s with heap:=h'})/\
   ∀Q':SortSt->Shared->Prop,(∀(p:Array Nat) (aR:SortSt),p.size=vs.length->arrOf aR=p.map (kas_item (vs.toArray.zip vs.toArray))->failedOf aR=none->Good vs.length p->R p->Q' aR {s with heap:=h'})->wpAny (model prog w) A (sortRuns'.run (SortSt.mk' κ (vs.toArray.zip vs.toArray) #[] 7 none)) (λr s'=>Q' r.2 s') E {s with heap:=h'})
  (h:∀out:List Value,out.Perm vs->(2<=vs.length->∃p:Array Nat,Good vs.length p/\R p/\out=p.toList.map λi=>vs.getD i Value.none)->P (.done (.ret .none)) {s with heap:=sortedHeap s.heap a vs out.toArray}):
  wpAny (model prog w) A (Builtin.«list.sort» ⟨[.ref a],[]⟩) P E s:=by
 rw[list_sort_plain];have ha:a<s.heap.objs.size:=Yo ho;refine wpAny_bind (listItems_at ho rfl ?_);refine wpAny_bind (listUpdate_at ho rfl ?_);obtain⟨e1,AK⟩:∃e1,(s.heap.update a (Obj.mapSeq λ_=>#[])).get? a=some (seqObj "list" #[] e1):=⟨_,get?_update_seq ho (λ_=>#[])⟩;refine wpAny_bind (seqEpoch_at AK rfl ?_);refine wpAny_bind (wpAny_newTuple ?_);refine wpAny_bind (wpAny_newList ?_);refine wpAny_holding ?_;have AL:(((s.heap.update a (Obj.mapSeq λ_=>#[])).push (seqObj "tuple" vs.toArray 0)).push (seqObj "list" #[] 0)).get? a=some (seqObj "list" #[] e1):=by
  rw[Jm _ _ _ (by rw[size_push',Heap.size_update];exact Yy (Wk ha)),Jm _ _ _ (by rw[Heap.size_update];exact Yy ha)];exact AK
 have keep:∀b o,b≠a->s.heap.get? b=some o->(((s.heap.update a (Obj.mapSeq λ_=>#[])).push (seqObj "tuple" vs.toArray 0)).push (seqObj "list" #[] 0)).get? b=some o:=λb o nb e=>
  Yc _ (Yc _ (by rw[P6 _ _ _ _ nb];exact e))
 dsimp only;have hsz:vs.toArray.size=vs.length:=by simp
 by_cases h2:vs.toArray.size<2
 ·rw[if_pos h2,if_pos h2];refine wpAny_bind (wpAny_pure ?_);rw[StateT.run_pure];refine wpAny_bind (wpAny_pure ?_);dsimp only;refine wpAny_bind (seqEpoch_at AL rfl ?_);refine wpAny_bind (listUpdate_at AL rfl ?_ (hsz2:=by rw[Array.size_map];show(pairsOf vs).size<=_;rw[pairsOf_size,sizeLine_eq];omega));simp only[bne_self_eq_false,Bool.false_eq_true,if_false];have e:(arrOf (SortSt.mk' general' (vs.toArray.zip vs.toArray) #[] 7 none)).map (·.2)=vs.toArray:=by
   grind
  have:=h vs (List.Perm.refl _) (λz=>by omega);rw[←e] at this;exact wpAny_pure this
 ·rw[if_neg h2,if_neg h2];have ke:2<=vs.length:=by omega
  obtain⟨κ,kk,cmp⟩:=hk ke _ keep;refine wpAny_bind (kk _ ?_);refine wpAny_bind (wpAny_mono (cmp (λaR s'=>s'={s with heap:=((s.heap.update a (Obj.mapSeq λ_=>#[])).push (seqObj "tuple" vs.toArray 0)).push (seqObj "list" #[] 0)}/\∃p:Array Nat,p.size=vs.length/\arrOf aR=p.map (kas_item (vs.toArray.zip vs.toArray))/\failedOf aR=none/\R p/\Good vs.length p) λp aR a1 a2 a3 a4 a5=>⟨rfl,p,a1,a2,a3,a5,a4⟩) ?_ λ_ _ e=>e);rintro⟨⟨⟩,aR⟩ s' ⟨rfl,p,hp,har,hf,ep,g⟩;dsimp only;have OY:=kat_snds rfl har;have perm:(p.toList.map λi=>vs.getD i Value.none).Perm vs:=by
   have e1:p.toList.Perm (List.range vs.length):=by
    have:=Jp.mp g.2;simpa using this
   have e2:=e1.map λi=>vs.getD i Value.none;rw[range_getD] at e2;exact e2
  refine wpAny_bind (seqEpoch_at AL rfl ?_);refine wpAny_bind (listUpdate_at AL rfl ?_ (hsz2:=by rw[OY,Yt,perm.length_eq,sizeLine_eq];omega));rw[hf];simp only[bne_self_eq_false,Bool.false_eq_true,if_false];have:=h _ perm (λ_=>⟨p,g,ep,rfl⟩);rw[←OY] at this;exact wpAny_pure this
theorem X0(h:ps.Pairwise ik):Sd (jy ps) (List.toArray (List.range ps.length)) ps.length:=λi j jx hj=>by
 have e:∀k,k<ps.length->(List.toArray (List.range ps.length)).getD k 0=k:=λk hk=>by
  simp_all
 rw[e i (by omega),e j hj];refine ltB_iff.mpr ?_;rw[Yd,Yd,Yb (by omega),Yb hj];exact Wv.mp h i j (by omega) hj jx
theorem ZcB{κ:SortKind}{ah:List Value}{ps:List (Int×Int)}{Q':SortSt->Shared->Prop}(GS:ah.length=64)(lp:ah.length=ps.length)(L:du ah.length (jy ps))(pw:ps.Pairwise ik)(ask:∀i j (C:Bool->Shared->Prop),i<ah.length->j<ah.length->C (jy ps i j) s->kas_ask prog w A κ ah i j C s)
  (GU:∀(p:Array Nat) (aR:SortSt),p.size=ah.length->arrOf aR=p.map (kas_item (ah.toArray.zip ah.toArray))->failedOf aR=none->Good ah.length p->Sd (jy ps) p ah.length->Q' aR s):wpAny (model prog w) A (sortRuns'.run (SortSt.mk' κ (ah.toArray.zip ah.toArray) #[] 7 none)) (λr s'=>Q' r.2 s') E s:=by
 have gR:Good ah.length (List.toArray (List.range ah.length)):=⟨by omega,Array.Perm.refl _⟩;have Qk:Sd (jy ps) (List.toArray (List.range ah.length)) ah.length:=by rw[lp];exact X0 pw
 rw[kat_ask_eq (vs:=ah) rfl] at ask;have sz0:(ah.toArray.zip ah.toArray).size=ah.length:=by simp
 have AM:SortSt.mk' κ (ah.toArray.zip ah.toArray) #[] 7 none=kas_st κ (ah.toArray.zip ah.toArray) (List.toArray (List.range ah.length)):=by
  unfold kas_st;rw[←sz0,kas_range]
 rw[AM];have wp:=dR.run (G:=λr s'=>r=(ah.length,List.toArray (List.range ah.length))/\s'=s) ask (IY gR) ⟨(WM L gR Qk),rfl⟩;have Ql:=λaR a b=>GU _ aR (by simp) a b gR Qk;rw[GS] at wp Ql⊢;exact ZbB (Q:=λ_ aR s'=>Q' aR s') Ql wp
theorem T3(ho:s.heap.get? l=some o)(hc:o.cls=.type "list")(hd:o.data=.seq ah.toArray n)(tv:qH s.heap ah ps)(nd:ps.Nodup)(f_:ah.length<64\/(ah.length=64/\ps.Pairwise ik))(hsz:ah.toArray.size<=sizeLine)
  (h:∀(h1 h':Heap) (out:List Value) (e:Nat),(∀b o,s.heap.get? b=some o->h1.get? b=some o)->(∀b o,h1.get? b=some o->h'.get? b=some o)->h'.get? h1.objs.size=some (seqObj "list" out.toArray e)->out.Perm ah->(2<=ah.length->∃p:Array Nat,Good ah.length p/\Sd (jy ps) p ah.length/\out=p.toList.map λi=>ah.getD i Value.none)->Q (.ref h1.objs.size) {s with heap:=h'}):
  wpAny (model prog w) A (call (.builtin "sorted") [.ref l]) Q E s:=by
 refine Calls.call_function_entry kind_sorted plain_sorted entry_sorted (args_sorted1 _) ?_;unfold Builtin.«sorted»;refine wpAny_bind (m:=checkCount "sorted" 1 1 _) (wpAny_pure ?_);refine wpAny_bind (wpAny_collect_seq l (.inl rfl) ho hc hd (λh1 kp=>?_) hsz);refine wpAny_bind (wpAny_newList ?_);have e1:ah.toArray.toList=ah:=by simp
 rw[e1];have nK:(h1.push (seqObj "list" ah.toArray 0)).get? h1.objs.size=some (seqObj "list" ah.toArray 0):=Yn _ rfl;refine wpAny_bind (wpAny_holding (wpAny_call_entry slot_list_sort ⟨_,nK,rfl⟩ entry_list_sort (Tj (R:=λp=>Sd (jy ps) p ah.length) nK (by omega) (λh2 h' kp'=>?_) λout pm eo=>⟨_,rfl,?_⟩) (args_list_sort _)))
 ·have GV:qH h' ah ps:=L2.Paired.bp tv λv p ⟨a,o,n,t,u,e,q1,q2,q3⟩=>by
   have Qm:=kp _ _ q1;exact⟨a,o,n,t,u,e,kp' _ _ (Yy (Yo Qm)) (Yc _ Qm),q2,q3⟩
  obtain⟨fs,k1,k2,k3⟩:=GV.fX.Qi;have lp:=de GV;have ask:∀(B:Around) i j (C:Bool->Shared->Prop),i<ah.length->j<ah.length->C (jy ps i j) {s with heap:=h'}->kas_ask prog w B (tuples' true) ah i j C {s with heap:=h'}:=λB i j C hi hj hC=>XZ (s:={s with heap:=h'}) GV hi hj hC;have L:=ZbA nd;rw[←lp] at L;refine⟨tuples' true,λQ hQ=>?_,λQ' GU=>?_⟩
  rotate_left
  ·rcases f_ with lt|⟨GS,pw⟩
   ·obtain⟨g,sd⟩:=XY L (by omega);refine kat_run (ks:=ah) (vs:=ah) (G:=λp s'=>s'={s with heap:=h'}/\p=Run (jy ps) (kas_sort ah.length)) rfl h2 lt (λp aR s' a1 a2 a3 a4=>?_) (dR.run (ask _) (WJ (by omega)) ⟨rfl,rfl⟩)
    grind
   ·exact ZcB (s:={s with heap:=h'}) GS lp L pw (ask _) GU
  refine kat_kind (s:={s with heap:=h'}) (T:=.type "int") k1 (by omega) (λv hv=>?_) (by decide) hQ;obtain⟨x,t,rfl⟩:=k3 v hv;exact .now
 ·obtain⟨e,he⟩:=sortedHeap_at (out:=out.toArray) nK;exact wpAny_pure ⟨_,rfl,h h1 _ out e kp (λb ob hb=>by
   have bq:=Yo hb;rw[sortedHeap_old (Yy bq) (by rw[size_push'];exact Wk bq),Jm _ _ _ (Yy bq)];exact hb) he pm eo⟩
end
def X1(K:ag):List V->Hp->VK->Prop:=λxs H Q=>∃(p:Addr) (as:List Addr) (bA:List (Int×Int)),xs=[.ref p]/\aj K H p (as.map V.ref)/\Paired (λa (p:Int×Int)=>H a=some (.tup [.int p.1,.int p.2])) as bA/\bA.Nodup/\(as.length<64\/(as.length=64/\bA.Pairwise ik))/\
 ∀(jz:List Addr) (kM:List (Int×Int)),Paired (λa (p:Int×Int)=>H a=some (.tup [.int p.1,.int p.2])) jz kM->kM.Perm bA->kM.Pairwise ik->Nw H (.lst (jz.map V.ref)) Q
theorem Iz:∀{zs:List γ},(∀z∈zs,F (f z) (g z))->Paired F (zs.map f) (zs.map g)
 |[],_=>.nil
 |z::zs,h=>.cons (h z Yh) (Iz λz hz=>h z (Yv _ hz))
theorem X2{X:Cx}{K:ag}(hK:X.K=K):cU X (.builtin "sorted") (X1 K):=by
 subst hK;intro pins s σ H xs us Q I r h;obtain⟨p,as,bA,rfl,hq,ht,nd,f_,q⟩:=h;obtain⟨u,rfl,rx⟩:=vals1 r;cases rx;obtain⟨ah,r',pl,hz⟩:=I.list hq;obtain⟨o,n,ho,hc,_,hd⟩:=pl;have ei:=Kd r';subst ei;rw[Ya] at hz;have lp:=de ht;have tq:qH s.heap (as.map Value.ref) bA:=by
  have aux:∀{as:List Addr} {bA:List (Int×Int)},Paired (λa (p:Int×Int)=>H a=some (.tup [.int p.1,.int p.2])) as bA->qH s.heap (as.map Value.ref) bA:=λ{as bA} h=>by
   induction h with
   |nil=>exact .nil
   |cons h1 _ ih=>
    refine .cons ?_ ih;obtain⟨iu,r2,⟨o2,g1,g2,n2,g3⟩,_⟩:=I.tuple (aE.of h1);obtain⟨u1,u2,rfl,⟨t1,rfl⟩,⟨t2,rfl⟩⟩:=vals2 r2
    grind
  exact aux ht
 refine T3 (ps:=bA) ho hc hd tq nd (by rw[Ya];exact f_) (by rw[Yt,Ya];exact hz) λh1 h' out e kp xh he pm eo=>?_;have I1:Inv X pins σ H {s with heap:=h1}:=I.kept (t':=s.toks) kp;obtain⟨jz,kM,Zdw,pa,pr,pw⟩:∃(jz:List Addr) (kM:List (Int×Int)),out=jz.map Value.ref/\Paired (λa (p:Int×Int)=>H a=some (.tup [.int p.1,.int p.2])) jz kM/\kM.Perm bA/\kM.Pairwise ik:=by
  by_cases z:2<=(as.map Value.ref).length
  ·have eo:=eo z;rw[Ya] at eo z;obtain⟨P,g,sd,eo⟩:=eo;rw[lp] at g sd;have e1:P.toList.Perm (List.range bA.length):=by
    have:=Jp.mp g.2;simpa using this
   have fC:∀i∈P.toList,i<bA.length:=λi hi=>Wd.mp (e1.subset hi);refine⟨P.toList.map λi=>as.getD i 0,P.toList.map λi=>bA.getD i (0,0),?_,Iz λi hi=>CZ ht (by rw[lp];exact fC i hi) 0 (0,0),?_,?_⟩
   ·rw[eo,Y8];refine Wt λi hi=>?_;have:=fC i hi;show(as.map Value.ref).getD i Value.none=Value.ref (as.getD i 0);rw[Yd,Yg,Yb (by omega),Yd,Yb (by omega)];rfl
   ·have:=e1.map λi=>bA.getD i (0,0);rw[range_getD] at this;exact this
   ·rw[Wr,Wv];intro i j hi hj jx;have sz:=g.size;have gi:P.toList[i]=P.getD i 0:=by
     rw[Wj] at hi;simp_all
    have gj:P.toList[j]=P.getD j 0:=by
     rw[Wj] at hj;simp_all
    rw[gi,gj];rw[Wj] at hj;exact ltB_iff.mp (sd i j jx (by omega))
  ·rw[Ya] at z;have eq:out=as.map Value.ref:=by
    match as,out,z,pm with
    |[],out,_,pm=>exact List.Perm.eq_nil pm
    |[a],out,_,pm=>exact List.Perm.eq_singleton pm
    |_::_::_,_,z,_=>exact absurd (by simp) z
   refine⟨as,bA,eq,ht,List.Perm.refl _,?_⟩;match bA,lp with
   |[],_=>exact .nil
   |[a],_=>exact List.pairwise_singleton _ _
   |_::_::_,lp=>exact absurd lp (by simp;omega)
 refine⟨.ref h1.objs.size,_,I1.laid (t':=s.toks) (o:=.lst (jz.map V.ref)) xh (Ye _) ⟨?_,out,e,by rw[Zdw];exact Ke jz,by simpa[seqObj] using he⟩,rfl,(q jz kM pa pr pw).at _ (I1.ay.fresh (Ye _))⟩;rw[Ya,de pa,pr.length_eq];exact Jk (mK (by omega))
end L2
namespace L2
open PySem PySem.Spec PyProof.Rows
theorem qx{X:Cx}{K:ag}{ex:Expr}{T:String}{r:V->List V->Hp->VK->Prop}{to:TE}{t:TA}(h:X.K=K)(p:PE X ex (Gu X.K T r to t)):PE X ex (Gu K T r to t):=h▸p
theorem ZU{X:Cx}{K:ag}{ex:Expr}{T:String}{r:V->List V->Hp->VK->Prop}{to:TE}(h:X.K=K)(p:PE X ex (FQ X.K T r to)):PE X ex (FQ K T r to):=h▸p
theorem DQ{X:Cx}{K:ag}{a:Expr}{ta:TE}(h:X.K=K)(p:PT X a (λσ H Q=>ta σ H λx H'=>∃k,zT X.K x H' k/\Q k H')):PT X a (λσ H Q=>ta σ H λx H'=>∃k,zT K x H' k/\Q k H'):=h▸p
theorem vO{X:Cx}{K:ag}{f:Value->Value->Sem Value}{b:Bool}(h:X.K=K)(p:cD X f (z7 X.K b)):cD X f (z7 K b):=h▸p
def nu(H0:Hp)(d:Addr):Prop:=(∀xs,H0 d≠some (.tup xs))/\(∀o u,H0 d≠some (.bN o u))/\∀ps,H0 d≠some (.pG ps)
section
variable {X:Cx}{pins:aM}{σ:St}{H:Hp}{s:Shared}{d:Addr}{kvs:List (Key×V)}
theorem Inv.Of(I:Inv X pins σ H s)(e:H d=some (.dK kvs)):nu X.jT d:=
 ⟨(λxs z=>by have:=I.base.fX d xs z;rw[e] at this;cases this),(λo u z=>by have:=I.base.gH d o u z;rw[e] at this;cases this),(λps z=>by obtain⟨m,h⟩:=I.base.gX d ps z;rw[e] at h;cases h)⟩
theorem Inv.swap(I:Inv X pins σ H s)(e:H d=some o)(nf:nu X.jT d)(no:∀a,o≠.own a)(nt:∀xs,o≠.tup xs)(ok:cz X.prog X.w H s.heap d o'):Inv X pins σ (upd H d o') s:=by
 have gG:∀{a:Addr} {o1:HO},cz X.prog X.w H s.heap a o1->cz X.prog X.w (upd H d o') s.heap a o1:=λ{a o1} x=>x.gG (λ_ _ _ z=>z)
  (λb z=>by rw[aF (λq=>no a (Yu (e.symm.trans (by rw[←q];exact z))))];exact z)
  (λb xs z=>by rw[aF (λq=>nt xs (Yu (e.symm.trans (by rw[←q];exact z))))];exact z)
 have ne:∀{b:Addr},H b=none->b≠d:=λ{b} hb z=>by rw[z,e] at hb;cases hb
 refine⟨I.ok,I.os,I.bare,⟨I.base.keep,I.base.slot,λb ob q n hx=>?_,I.base.there,λb xs q=>?_,λb ob u q=>?_,λb ps q=>?_⟩,I.loc,I.cell,?_,λx c ec=>?_,λp hp=>?_,λa o1 e1=>?_,I.len⟩
 ·have h:=I.base.free b ob q n hx;rw[aF (ne h)];exact h
 ·rw[aF (λz=>nf.1 xs (by rw[←z];exact q))];exact I.base.fX b xs q
 ·rw[aF (λz=>nf.2.1 ob u (by rw[←z];exact q))];exact I.base.gH b ob u q
 ·rw[aF (λz=>nf.2.2 ps (by rw[←z];exact q))];exact I.base.gX b ps q
 ·rw[aF (ne I.free)];exact I.free
 ·rw[aF (ne (I.gw x c ec))];exact I.gw x c ec
 ·obtain⟨p1,p2,p3⟩:=I.pin p hp;exact⟨p1,by rw[aF (ne p2)];exact p2,p3⟩
 ·by_cases z:a=d
  ·subst z;rw[aW] at e1
   grind
  ·rw[aF z] at e1;exact gG (I.ay a o1 e1)
end
theorem ZcC(h:(dE P w).is k u=true):RelV (kV k) u:=by
 rcases kr h with⟨i,t,rfl,rfl⟩|⟨x,t,rfl,rfl⟩;·exact⟨t,rfl⟩
 ·exact⟨t,rfl⟩
theorem Nh:∀{kvs:List (Key×V)} {vs:List (Key×Value)} {i:Nat} {k:Key} {y:V},KV kvs vs->kvs[i]?=some (k,y)->∃v,vs[i]?=some (k,v)/\RelV y v:=λ{kvs vs i k y} r h=>by
 obtain⟨q,e,h1,h2⟩:=jI (F:=λ(p:Key×V) (q:Key×Value)=>p.1=q.1/\RelV p.2 q.2) r h
 grind
theorem zu(I:Inv X pins σ H s)(e:H d=some (.bN od (.dK kvs)))(i6:od.data=.dict es ep):∃vs,KV kvs vs/\s.heap.DictAt (dE X.prog X.w) d vs ep:=by
 obtain⟨g,_,_,vs,rel,o,Ao,Ap,h1,h2,h3,h4⟩:=(show cz X.prog X.w H s.heap d (.bN od (.dK kvs)) from I.ay d _ e);rw[g] at h1;cases h1;rw[i6] at h3;cases h3;exact⟨vs,rel,od,es,g,h2,i6,h4⟩
theorem Inv.z8(I:Inv X pins σ H s)(nf:nu X.jT d)(e:H d=some (.bN od (.dK kvs))):Inv X pins σ (upd H d (.dK kvs)) s:=
 I.swap e nf (λa z=>by cases z) (λxs z=>by cases z) (show cz X.prog X.w H s.heap d (.bN od (.dK kvs)) from I.ay d _ e).2
def GW(d:Addr)(od:Obj)(kvs:List (Key×V)):It:=⟨λi H=>H d=some (.bN od (.dK kvs))/\i<kvs.length,λi H v H'=>H'=H/\∃k y,kvs[i]?=some (k,y)/\v=kV k,λi H=>H d=some (.bN od (.dK kvs))/\kvs.length<=i⟩
theorem WN{P:Program}{w:World}{K:ag}{tg:Expr}(it d:Addr)(od:Obj)(es:Array DictEntry)(ep:Nat)(i6:od.data=.dict es ep)(kvs:List (Key×V)):Turn P w K tg (GW d od kvs) [it] it (λi h=>h.IsKeyIter it d i kvs.length ep) where
 mem:=by simp
 obj:=λi h st b hb=>by
  have e:b=it:=by simpa using hb
  obtain⟨o,e,c,dd⟩:=st
  grind
 keep:=λi h h' st k=>let⟨o,e,r⟩:=st;⟨o,k it (by simp) o e,r⟩
 item:=by
  intro X hP hw hK hc i pins s σ H E I hf st hg;subst hP hw hK;obtain⟨f0,f1,f2,f3,f4,f5⟩:=hf it (by simp);obtain⟨hz,bq⟩:=hg;obtain⟨vs,rel,da⟩:=zu I hz i6;have ll:=rel.length;obtain⟨k,y,hk⟩:∃k y,kvs[i]?=some (k,y):=⟨kvs[i].1,kvs[i].2,Yb bq⟩;obtain⟨v,hv,ry⟩:=Nh rel hk;rw[ll] at st;refine wpAny_pyNext_dict_item st da hv λkey h' FO aR sb=>?_;obtain⟨o,e,c,dd⟩:=id aR;exact⟨_,rfl,qC e c dd (by decide) ⟨kV k,H,(I.turned (λb o hb e=>sb.extBut b o hb e) f0 f1 f3 f4 f5),ZcC FO,⟨rfl,k,y,hk,rfl⟩,by rw[ll];exact aR,λb hb=>(hf b hb).1⟩⟩
 done:=by
  intro X hP hw hK hc i pins s σ H E I hf st hg;subst hP hw hK;obtain⟨f0,f1,f2,f3,f4,f5⟩:=hf it (by simp);obtain⟨hz,hle⟩:=hg;obtain⟨vs,rel,da⟩:=zu I hz i6;have ll:=rel.length;rw[ll] at st;exact wpAny_pyNext_dict_end (I.ok.hd hc) st da (Y1 (by omega)) λh' eb=>⟨rfl,I.turned (λb o hb e=>eb b o hb e) f0 f1 f3 f4 f5⟩
 self:=λA i s Q E st h=>wpAny_pyIter_keyiter st h
def Ft(H0:Hp)(td:TE):TI:=λσ H R=>td σ H λx H1=>∃d kvs,x=.ref d/\H1 d=some (.dK kvs)/\∀od,nu H0 d->R (GW d od kvs) (upd H1 d (.bN od (.dK kvs)))
theorem ZV{X:Cx}{H0:Hp}{tg l:Expr}{td:TE}(h0:X.jT=H0)(hl:PE X l td):PI X tg l (Ft H0 td):=by
 subst h0;intro pins s σ H R I h;refine az (hl pins s σ H _ I h) λv s1 zq=>?_;obtain⟨x,H1,I1,r1,d,kvs,ex,hd,q⟩:=zq;subst ex;obtain rfl:v=Value.ref d:=r1;obtain⟨zz,xB,vs,rel,dd⟩:=oX I1.ay hd;obtain⟨od,es,ep,kT,hx,i6,we⟩:=id dd;have nf:=I1.Of hd;refine wpAny_pyIter_dict xB ⟨od,es,kT,hx,i6,we⟩ ?_;have I2:Inv X pins σ H1 {s1 with heap:=s1.heap.push {cls:=.type "dict_keyiterator",data:=.fields #[.ref d,.int 0 0,.int vs.length 0,.int ep 0]},toks:=s1.toks}:=I1.kept λb o e=>Yc _ e;refine⟨s1.heap.objs.size,[s1.heap.objs.size],_,GW d od kvs,_,rfl,(I2.swap (o':=.bN od (.dK kvs)) hd nf (λa z=>by cases z) (λxs z=>by cases z) ⟨Yc _ kT,(I2.ay d _ hd)⟩),WN _ d od es ep i6 kvs,⟨_,Yn _ rfl,rfl,by rw[rel.length];rfl⟩,λb hb=>?_,q od nf⟩;have e:b=s1.heap.objs.size:=by simpa using hb
 subst e;exact I1.o_ (Ye _) (by rw[aF (Jd (Yo kT))];exact I1.ay.fresh (Ye _))
def Og(H0:Hp)(td:TE)(g:TG)(tb:TS):TS:=λD σ H=>FI (Ft H0 td) g tb ⟨λaB H'=>∃d od kvs,nu H0 d/\H' d=some (.bN od (.dK kvs))/\D.nx aB (upd H' d (.dK kvs)),λv H'=>∃d od kvs,nu H0 d/\H' d=some (.bN od (.dK kvs))/\D.rt v (upd H' d (.dK kvs)),λ_ _=>False,λ_ _=>False⟩ σ H
theorem Vj(h0:X.jT=H0)(hp:PassesOwn X.md X.A X.env X.xe)(hc:X.calm=true)(hi:PI X tg l (Ft H0 td))(hg:PG X tg g)(hb:eN X body tb)(hs:∀x,foldedSetIterable l X.env x=pure x:=by intro _;rfl):PS X (.For tg l body [] pos) (Og H0 td g tb):=by
 subst h0;intro pins s σ H D I h;refine az (jd hp hc hi hg hb hs pins s σ H _ I h) λf s1 q=>?_;cases f with
 |next=>obtain⟨aB,H',I',d,od,kvs,nf,e,q⟩:=q;exact⟨aB,_,I'.z8 nf e,q⟩
 |brk=>obtain⟨_,_,_,q⟩:=q;exact False.elim q
 |cont=>obtain⟨_,_,_,q⟩:=q;exact False.elim q
 |ret u=>obtain⟨v,aB,H',I',r,d,od,kvs,nf,e,q⟩:=q;exact⟨v,aB,_,I'.z8 nf e,r,q⟩
theorem X3(GX:∀R:VK,R (.ref d) H1->td σ H R)(hd:H1 d=some (.dK kvs))(Pv:Nat->St->Hp->Prop)
  (p0:∀od,Pv 0 σ (upd H1 d (.bN od (.dK kvs))))
  (hs:∀od i k y aB H' (N:St->Hp->Prop) (rt:VK) (bk:St->Hp->Prop),kvs[i]?=some (k,y)->Pv i aB H'->H' d=some (.bN od (.dK kvs))->(∀cC H3,Pv (i+1) cC H3->H3 d=some (.bN od (.dK kvs))->N cC H3)->g (kV k) aB H' λdh H2=>tb ⟨N,rt,bk,N⟩ dh H2)
  (F3:∀od aB H',Pv kvs.length aB H'->H' d=some (.bN od (.dK kvs))->D.nx aB (upd H' d (.dK kvs))):Og H0 td g tb D σ H:=by
 refine GX _ ⟨d,kvs,rfl,hd,λod nf=>⟨λi m aB H'=>m=kvs.length-i/\i<=kvs.length/\Pv i aB H'/\H' d=some (.bN od (.dK kvs)),⟨kvs.length,by omega,Yw _,p0 od,aW⟩,?_⟩⟩;rintro i m aB H' ⟨rfl,hi,p,fz⟩;by_cases bq:i<kvs.length
 ·refine .inr ⟨⟨fz,bq⟩,λcC H3=>Pv (i+1) cC H3/\H3 d=some (.bN od (.dK kvs)),λcC H3 ⟨a,c⟩=>⟨kvs.length-(i+1),by omega,rfl,bq,a,c⟩,?_⟩;rintro x H4 ⟨rfl,k,y,hk,rfl⟩;exact hs od i k y aB H4 (λcC H3=>Pv (i+1) cC H3/\H3 d=some (.bN od (.dK kvs))) _ _ hk p fz λcC H3 p3 f3=>⟨p3,f3⟩
 ·have e:i=kvs.length:=by omega
  subst e;exact .inl ⟨⟨fz,Ye _⟩,d,od,kvs,nf,fz,F3 od _ _ p fz⟩
section
variable {P:Program}{w:World}{A:Around}{E:aU}{s:Shared}{it d:Addr}{i n ep:Nat}{ok ov:Value}{o:Obj}{es:Array DictEntry}{e:DictEntry}
end
section
variable {P:Program}{w:World}{A:Around}{E:aU}{s:Shared}{d o:Addr}{knd:HeapKind P w (List Key)}{xs ms:List (List Key×Addr×Value)}
end
section
variable {X:Cx}
theorem ZW{H:Hp}{kvs:List (List Key×V)}{xs:List (List Key×Addr×Value)}(r:KT H kvs xs):xs.map (·.1)=kvs.map (·.1):=by
 induction r with
 |nil=>rfl
 |cons f _ ih=>grind
end
section
variable {X:Cx}{pins:aM}{σ:St}{H:Hp}{s:Shared}{d:Addr}{kvs:List (List Key×V)}
end
def GY(d:Addr)(od:Obj)(kvs:List (Key×V)):It:=⟨λi H=>H d=some (.bN od (.dK kvs))/\i<kvs.length,λi H v H'=>H'=H/\∃k,kvs[i]?=some (k,v),λi H=>H d=some (.bN od (.dK kvs))/\kvs.length<=i⟩
theorem WO{P:Program}{w:World}{K:ag}{tg:Expr}(it d:Addr)(od:Obj)(es:Array DictEntry)(ep:Nat)(i6:od.data=.dict es ep)(kvs:List (Key×V)):Turn P w K tg (GY d od kvs) [it] it (λi h=>h.IsValIter it d i kvs.length ep) where
 mem:=by simp
 obj:=λi h st b hb=>by
  have e:b=it:=by simpa using hb
  obtain⟨o,e,c,dd⟩:=st
  grind
 keep:=λi h h' st k=>let⟨o,e,r⟩:=st;⟨o,k it (by simp) o e,r⟩
 item:=by
  intro X hP hw hK hc i pins s σ H E I hf st hg;subst hP hw hK;obtain⟨f0,f1,f2,f3,f4,f5⟩:=hf it (by simp);obtain⟨hz,bq⟩:=hg;obtain⟨vs,rel,da⟩:=zu I hz i6;have ll:=rel.length;obtain⟨k,y,hk⟩:∃k y,kvs[i]?=some (k,y):=⟨kvs[i].1,kvs[i].2,Yb bq⟩;obtain⟨v,hv,ry⟩:=Nh rel hk;rw[ll] at st;refine wpAny_pyNext_values_item st da hv λh' aR sb=>?_;obtain⟨o,e,c,dd⟩:=id aR;exact⟨_,rfl,qC e c dd (by decide) ⟨y,H,(I.turned (λb o hb e=>sb.extBut b o hb e) f0 f1 f3 f4 f5),ry,⟨rfl,k,hk⟩,by rw[ll];exact aR,λb hb=>(hf b hb).1⟩⟩
 done:=by
  intro X hP hw hK hc i pins s σ H E I hf st hg;subst hP hw hK;obtain⟨f0,f1,f2,f3,f4,f5⟩:=hf it (by simp);obtain⟨hz,hle⟩:=hg;obtain⟨vs,rel,da⟩:=zu I hz i6;have ll:=rel.length;rw[ll] at st;exact wpAny_pyNext_values_end (I.ok.hd hc) st da (Y1 (by omega)) λh' eb=>⟨rfl,I.turned (λb o hb e=>eb b o hb e) f0 f1 f3 f4 f5⟩
 self:=λA i s Q E st h=>wpAny_pyIter_valiter st h
def Fu(H0:Hp)(td:TE):TI:=λσ H R=>td σ H λx H1=>∃d kvs,x=.ref d/\H1 d=some (.dK kvs)/\∀od,nu H0 d->R (GY d od kvs) (upd H1 d (.bN od (.dK kvs)))
theorem ZX{X:Cx}{H0:Hp}{tg:Expr}{apos cF:Pos}{o:Expr}{td:TE}(h0:X.jT=H0)(ho:PE X o td)(qD:attributeBase o "values" X.env (eval o X.env)=eval o X.env:=by rfl)(qE:(apos.endLine==cF.line)=true:=by rfl):PI X tg (.Call (.Attribute o "values" apos) [] [] cF) (Fu H0 td):=by
 subst h0;intro pins s σ H R I h;refine wpAny_Call_method0_late qD qE (az (ho pins s σ H _ I h) λv s1 zq=>?_);obtain⟨x,H1,I1,r1,d,kvs,ex,hd,q⟩:=zq;subst ex;obtain rfl:v=Value.ref d:=r1;obtain⟨t1,t2,xB⟩:=E1 I1 (.inl ⟨kvs,.inl hd⟩);refine⟨"dict","dict.values",plainAttrs_dict,PySem.F.slot_dict_values,PySem.F.type_dict_values,t1,t2,Calls.callWith_builtin rfl (PySem.evalArgs_none ?_)⟩;obtain⟨zz,_,vs,rel,dd⟩:=oX I1.ay hd;refine call_meetsIn PySem.F.slot_dict_values dd.typeIs PySem.F.entry_dict_values (PySem.F.args_dict_values_1 _) (meets_dict_values (dE X.prog X.w) d xB) ⟨⟨vs,dd⟩,?_⟩;obtain⟨od,es,ep,kT,hx,i6,we⟩:=id dd;have nf:=I1.Of hd;have up:∀b o,s1.heap.get? b=some o->(s1.heap.push {cls:=.type "dict_values",data:=.fields #[.ref d]}).get? b=some o:=λb o e=>Yc _ e;refine wpAny_pyIter_values (knd:=dE X.prog X.w) (d:=d) (kvs:=vs) (ep:=ep) ⟨_,Yn _ rfl,rfl,rfl⟩ ⟨od,es,up _ _ kT,hx,i6,we⟩ ?_;generalize hG:s1.heap.push {cls:=.type "dict_values",data:=.fields #[.ref d]}=G at up⊢;have I2:Inv X pins σ H1 {s1 with heap:=G.push {cls:=.type "dict_valueiterator",data:=.fields #[.ref d,.int 0 0,.int vs.length 0,.int ep 0]},toks:=s1.toks}:=I1.kept (t':=s1.toks) λb o e=>Yc _ (up b o e);have hdk:cz X.prog X.w H1 _ d (.dK kvs):=I2.ay d _ hd;have I3:=I2.swap (o':=.bN od (.dK kvs)) hd nf (λa z=>by cases z) (λxs z=>by cases z) ⟨Yc _ (up _ _ kT),hdk⟩;have GZ:s1.heap.objs.size<=G.objs.size:=by rw[←hG,Jq];omega
 refine⟨G.objs.size,[G.objs.size],_,GY d od kvs,_,rfl,I3,WO _ d od es ep i6 kvs,⟨_,Yn _ rfl,rfl,by rw[rel.length];rfl⟩,λb hb=>?_,q od nf⟩;have e:b=G.objs.size:=by simpa using hb
 subst e;have dlt:d<s1.heap.objs.size:=Yo kT;exact I1.o_ GZ (by rw[aF (Jd (Y2 dlt GZ))];exact I1.ay.fresh GZ)
def Oh(H0:Hp)(td:TE)(g:TG)(tb:TS):TS:=λD σ H=>FI (Fu H0 td) g tb ⟨λaB H'=>∃d od kvs,nu H0 d/\H' d=some (.bN od (.dK kvs))/\D.nx aB (upd H' d (.dK kvs)),λv H'=>∃d od kvs,nu H0 d/\H' d=some (.bN od (.dK kvs))/\D.rt v (upd H' d (.dK kvs)),λ_ _=>False,λ_ _=>False⟩ σ H
theorem Vk(h0:X.jT=H0)(hp:PassesOwn X.md X.A X.env X.xe)(hc:X.calm=true)(hi:PI X tg (.Call (.Attribute o "values" apos) [] [] cF) (Fu H0 td))(hg:PG X tg g)(hb:eN X body tb):
  PS X (.For tg (.Call (.Attribute o "values" apos) [] [] cF) body [] pos) (Oh H0 td g tb):=by
 subst h0;intro pins s σ H D I h;refine az (jd hp hc hi hg hb (λ_=>rfl) pins s σ H _ I h) λf s1 q=>?_;cases f with
 |next=>obtain⟨aB,H',I',d,od,kvs,nf,e,q⟩:=q;exact⟨aB,_,I'.z8 nf e,q⟩
 |brk=>obtain⟨_,_,_,q⟩:=q;exact False.elim q
 |cont=>obtain⟨_,_,_,q⟩:=q;exact False.elim q
 |ret u=>obtain⟨v,aB,H',I',r,d,od,kvs,nf,e,q⟩:=q;exact⟨v,aB,_,I'.z8 nf e,r,q⟩
theorem X4(GX:∀R:VK,R (.ref d) H1->td σ H R)(hd:H1 d=some (.dK kvs))(Pv:Nat->St->Hp->Prop)
  (p0:∀od,Pv 0 σ (upd H1 d (.bN od (.dK kvs))))
  (hs:∀od i k y aB H' (N:St->Hp->Prop) (rt:VK) (bk:St->Hp->Prop),kvs[i]?=some (k,y)->Pv i aB H'->H' d=some (.bN od (.dK kvs))->(∀cC H3,Pv (i+1) cC H3->H3 d=some (.bN od (.dK kvs))->N cC H3)->g y aB H' λdh H2=>tb ⟨N,rt,bk,N⟩ dh H2)
  (F3:∀od aB H',Pv kvs.length aB H'->H' d=some (.bN od (.dK kvs))->D.nx aB (upd H' d (.dK kvs))):Oh H0 td g tb D σ H:=by
 refine GX _ ⟨d,kvs,rfl,hd,λod nf=>⟨λi m aB H'=>m=kvs.length-i/\i<=kvs.length/\Pv i aB H'/\H' d=some (.bN od (.dK kvs)),⟨kvs.length,by omega,Yw _,p0 od,aW⟩,?_⟩⟩;rintro i m aB H' ⟨rfl,hi,p,fz⟩;by_cases bq:i<kvs.length
 ·refine .inr ⟨⟨fz,bq⟩,λcC H3=>Pv (i+1) cC H3/\H3 d=some (.bN od (.dK kvs)),λcC H3 ⟨a,c⟩=>⟨kvs.length-(i+1),by omega,rfl,bq,a,c⟩,?_⟩;rintro x H4 ⟨rfl,k,hk⟩;exact hs od i k x aB H4 (λcC H3=>Pv (i+1) cC H3/\H3 d=some (.bN od (.dK kvs))) _ _ hk p fz λcC H3 p3 f3=>⟨p3,f3⟩
 ·have e:i=kvs.length:=by omega
  subst e;exact .inl ⟨⟨fz,Ye _⟩,d,od,kvs,nf,fz,F3 od _ _ p fz⟩
section
variable {X:Cx}{o i:Expr}{td ty:TE}{zU pos:Pos}
def ZbC(td ty:TE):TS:=λD σ H=>td σ H λx H1=>ty σ H1 λy H2=>∃a kvs k,x=.ref a/\H2 a=some (.dK kvs)/\y=kV k/\(bg kvs k).isSome=true/\Ch H2 a (.dK (fU kvs k)) (D.nx σ)
theorem X5(ho:PE X o td)(hi:PE X i ty):PS X (.Delete [.Subscript o i zU] pos) (ZbC td ty):=by
 intro pins s σ H D I h;refine wpAny_Delete (wpAny_deleteEach_cons (wpAny_delete_Subscript (az (ho pins s σ H _ I h) λu s1 zq=>?_)));obtain⟨x,H1,I1,rx,q1⟩:=zq;refine az (hi pins s1 σ H1 _ I1 q1) λiv s2 zq=>?_;obtain⟨y,H2,I2,ry,a,kvs,k,ex,e,ey,l,q2⟩:=zq;subst ex ey;obtain rfl:u=Value.ref a:=rx;exact WA I2 e ry l λs3 I3=>wpAny_deleteEach_nil ⟨σ,_,I3,q2.at⟩
theorem KS[DecidableEq α]:∀{xs:List (α×β)} {j:Nat} {k:α} {p:β},(xs.map (·.1)).Nodup->xs[j]?=some (k,p)->xs.eraseIdx j=xs.filter λx=>decide (x.1≠k)
 |[],_,_,_,_,h=>rfl
 |x::xs,0,k,p,nd,h=>by
  have e:x=(k,p):=by simpa using h
  subst e;rw[List.eraseIdx_cons_zero,List.filter_cons_of_neg (by simp)];refine(Qn.mpr λy hy=>?_).symm
  grind
 |x::xs,j+1,k,p,nd,h=>by
  obtain⟨n1,n2⟩:=Y0.mp (show(x.1::xs.map (·.1)).Nodup from nd);have h':xs[j]?=some (k,p):=by simpa using h
  rw[List.eraseIdx_cons_succ,KS n2 h',Jx (by simpa using(λz=>n1 (by rw[z];exact Yi.mpr ⟨_,Ys h',rfl⟩)))]
theorem KU(f:α->β):∀(xs:List α) (j:Nat),(xs.map f).eraseIdx j=(xs.eraseIdx j).map f
 |[],_=>rfl
 |_::_,0=>rfl
 |x::xs,j+1=>by
  show f x::(xs.map f).eraseIdx j=f x::(xs.eraseIdx j).map f;rw[KU f xs j]
theorem ZY(k:List Key)(r:KT H kvs xs):KT H (fU kvs k) (xs.filter λx=>decide (x.1≠k)):=by
 unfold fU;induction r with
 |nil=>exact .nil
 |@cons p x ps xs f t ih=>
  by_cases e:p.1=k;·grind
  ·rw[Jx (by simpa using e),Jx (by rw[←f.1];simpa using e)];exact .cons f ih
theorem X6{P:Program}{w:World}{A:Around}{E:aU}{s:Shared}{d a:Addr}{knd:HeapKind P w (List Key)}{xs:List (List Key×Addr×Value)}{k:List Key}{Q:Option DictEntry->Shared->Prop}(room:knd.room A)(is:knd.is s.heap k a)(D:s.heap.DictOfH knd d xs)(there:k∈xs.map (·.1))(hz:xs.length<=sizeLine)
  (hQ:∀e h' t',h'.DictOfH knd d (xs.filter λx=>decide (x.1≠k))->Heap.SameBut d s.heap h'->Q (some e) {s with heap:=h',toks:=t'}):wpAny (model P w) A (Builtin.Dict.takeOut d (.ref a)) Q E s:=by
 obtain⟨ob,es,ep,g,ex,hd,he,Qo,nd⟩:=D;refine wpAny_holding (wpAny_bind (knd.pyHash room is (wpAny_bind (wpAny_dictFind_heap room is g hd he Qo nd (λno=>?_) λj p e=>?_))))
 ·obtain⟨x,hx,e⟩:=Yi.mp there;obtain⟨j,hj,ej⟩:=Wf.mp hx;exact absurd (show xs[j]?=some (k,x.2) by rw[Yb hj,ej,←e]) (no j x.2)
 ·have sz:es.size=xs.length:=by rw[←Wj,he,Ya]
  refine wpAny_bind (wpAny_dictEntries g hd ?_);rw[entry_at he j,e];have sb:=Heap.SameBut.update s.heap d (Obj.mapDictKeys λx=>x.eraseIdxIfInBounds j);refine wpAny_bind (wpAny_updateDictKeys g hd (wpAny_pure (hQ _ _ _ ⟨_,_,ep+1,Ww _ g (Obj.isFreed_of_dict (Obj.data_mapDictKeys hd _)),ex.mapDictKeys _,Obj.data_mapDictKeys hd _,?_,λx hx=>?_,?_⟩ sb)) (by rw[sz];exact hz))
  ·have hj:j<xs.length:=(Yk.mp e).1;rw[←KS nd e];have e1:(es.eraseIdxIfInBounds j).toList=es.toList.eraseIdx j:=by
    simp_all
   rw[e1,he,KU]
  ·exact knd.keeps (Qo x (Y3.mp hx).1) g hd sb
  ·grind
theorem Vl{pins:aM}{σ:St}{H:Hp}{s:Shared}{a b:Addr}{kvs:List (List Key×V)}{k:List Key}{A:Around}{E:aU}{Q:Unit->Shared->Prop}(hu:A.units+1<cLine)(I:Inv X pins σ H s)(e:H a=some (.dT kvs))(eb:H b=some (.tup (k.map kV)))(l:(bg kvs k).isSome=true)(h:∀s',Inv X pins σ (upd H a (.dT (fU kvs k))) s'->Q () s'):
  wpAny X.md A (delItem (.ref a) (.ref b)) Q E s:=by
 obtain⟨z,sm,xs,rel,dd⟩:=Oc I.ay e;have l1:kvs.length=xs.length:=Paired.length rel;have there:k∈xs.map (·.1):=by
  rw[ZW rel];cases ev:bg kvs k with
  |none=>rw[ev] at l;cases l
  |some v=>
   unfold bg at ev;cases ef:kvs.find? λkv=>decide (kv.1=k) with
   |none=>rw[ef] at ev;cases ev
   |some p=>exact Yi.mpr ⟨p,List.mem_of_find?_eq_some ef,of_decide_eq_true (by simpa using List.find?_some ef)⟩
 refine wpAny_delItem_slot dd.typeIs (by decide) slot_dict_delitem (wpAny_call_entry slot_dict_delitem dd.typeIs PySem.F.entry_dict_delitem ?_ (PySem.F.args_dict_delitem_2 _ _));unfold Builtin.«dict.__delitem__»;refine wpAny_bind ?_;unfold Builtin.Dict.dictSlotArgs;refine wpAny_bind (wpAny_notOrdered_dict dd.typeIs ?_);show wpAny _ _ (pure (Value.ref a,Value.ref b)) _ _ s;refine wpAny_pure ?_;show wpAny _ _ (Builtin.Dict.takeOut a (.ref b)>>=_) _ _ s;refine wpAny_bind (X6 (tupleKind_room_in1 hu) (qv I.ay eb) dd there (by omega) λen h' t' d' sb=>?_);refine wpAny_bind (wpAny_letGo (wpAny_pure ⟨.none,rfl,?_⟩));obtain⟨q',es,ep,hq,h2,h3,h4,_,h5⟩:=d';refine h _ (tM (t':=t') (ob:=.dT (fU kvs k)) I (by rw[e];exact True.intro) sb ⟨q',hq⟩ ⟨Yz (Wl _ _) z,sm,_,(ZY k rel).keeps λc ys ec=>by
   rw[aF (NP ec e (λz=>nomatch z))];exact ec,q',es,ep,hq,h2,h3,h4,h5⟩)
def ZbD(td ty:TE):TS:=λD σ H=>td σ H λx H1=>ty σ H1 λy H2=>∃a b kvs k,x=.ref a/\H2 a=some (.dT kvs)/\y=.ref b/\H2 b=some (.tup (k.map kV))/\(bg kvs k).isSome=true/\Ch H2 a (.dT (fU kvs k)) (D.nx σ)
theorem KW(hu:X.A.units+1<cLine)(ho:PE X o td)(hi:PE X i ty):PS X (.Delete [.Subscript o i zU] pos) (ZbD td ty):=by
 intro pins s σ H D I h;refine wpAny_Delete (wpAny_deleteEach_cons (wpAny_delete_Subscript (az (ho pins s σ H _ I h) λu s1 zq=>?_)));obtain⟨x,H1,I1,rx,q1⟩:=zq;refine az (hi pins s1 σ H1 _ I1 q1) λiv s2 zq=>?_;obtain⟨y,H2,I2,ry,a,b,kvs,k,ex,e,ey,eb,l,q2⟩:=zq;subst ex ey;obtain rfl:u=Value.ref a:=rx;obtain rfl:iv=Value.ref b:=ry;exact Vl hu I2 e eb l λs3 I3=>wpAny_deleteEach_nil ⟨σ,_,I3,q2.at⟩
end
end L2
namespace L2
open PySem PySem.W PySem.Spec PyProof.Rows
def ZbE:List V->Hp->VK->Prop:=λxs H Q=>∃(p:Addr) (kvs:List (Key×V)) (ns:List Int),xs=[.ref p]/\H p=some (.dK kvs)/\kvs.map (·.1)=ns.map Sum.inl/\ns.length<64/\∀b_:List Int,b_.Perm ns->b_.Pairwise (·<=·)->Nw H (.lst (b_.map V.int)) Q
theorem UC(xB:(d==sysModules)=false)(hh:A.handled=none)
  (da:s.heap.DictAt (dE prog w) d vs ep)(hk:vs.map (·.1)=ns.map Sum.inl)(f_:vs.length<64)
  (h:∀(h1 h':Heap) (tk:Nat) (out:Array Value) (b_:List Int) (e:Nat),(∀b o,s.heap.get? b=some o->h1.get? b=some o)->(∀b o,h1.get? b=some o->h'.get? b=some o)->h'.get? h1.objs.size=some (seqObj "list" out e)->IntsAre out.toList b_->b_.Perm ns->b_.Pairwise (·<=·)->Q (.ref h1.objs.size) {s with heap:=h',toks:=tk}):
  wpAny (model prog w) A (call (.builtin "sorted") [.ref d]) Q E s:=by
 refine Calls.call_function_entry kind_sorted plain_sorted entry_sorted (args_sorted1 _) ?_;refine wpAny_bind (wpAny_pure ?_);have small:vs.length<=sizeLine:=by rw[sizeLine_eq];omega
 refine wpAny_bind (kdu_collect (kdl_dict (kvs:=vs) (ep:=ep) xB) hh da small λh1 tk acc kp it=>?_);have vals:Vals ((vs.map (·.1)).map kV) acc.toList:=by
  refine DO (P:=prog) (w:=w) (by rw[Wj,Ya];exact it.1) λj v hj=>?_;obtain⟨k,x,hx,Qp⟩:=it.2 j v (by rw[←J3];exact hj)
  grind
 have e0:(vs.map (·.1)).map kV=ns.map V.int:=by rw[hk,Y8];rfl
 rw[e0] at vals;have hl:acc.toList.length<64:=by rw[Wj,it.1];exact f_
 refine wpAny_bind (wpAny_newList ?_);have F4:(h1.push (seqObj "list" acc.toList.toArray 0)).get? h1.objs.size=some (seqObj "list" acc.toList.toArray 0):=by rw[Array.toArray_toList];exact(Yn _ rfl)
 refine wpAny_bind (wpAny_holding (wpAny_call_entry slot_list_sort ⟨_,F4,rfl⟩ entry_list_sort (list_sort_tree F4 (intsAre_of vals) hl λout b_ a1 a2 a3=>⟨_,rfl,?_⟩) (args_list_sort _)));obtain⟨e,he⟩:=sortedHeap_at (out:=out) F4;exact wpAny_pure ⟨_,rfl,h h1 _ tk out b_ e kp (λb ob hb=>by
  have bq:=Yo hb;rw[sortedHeap_old (Yy bq) (by rw[size_push'];exact Wk bq),Jm _ _ _ (Yy bq)];exact hb) he a1 a2 a3⟩
theorem Tn(hc:X.calm=true):cU X (.builtin "sorted") ZbE:=by
 rintro pins s σ H xs us Q I r ⟨p,kvs,ns,rfl,hp,hk,f_,q⟩;obtain⟨u,rfl,ru⟩:=vals1 r;obtain rfl:u=Value.ref p:=ru;obtain⟨lim,F1,vs,kv,dd⟩:=oX I.ay hp;obtain⟨ep,da⟩:=dd.dictAt;have kl:=kv.length;have nl:kvs.length=ns.length:=by have:=congrArg List.length hk;rwa [Ya,Ya] at this
 refine UC F1 (I.ok.hd hc) da (by rw[←kv.keys];exact hk) (by omega) λh1 h' tk out b_ e kp xh he a1 a2 a3=>?_;have I1:=I.kept (t':=s.toks) kp;refine⟨.ref h1.objs.size,_,I1.laid (o:=.lst (b_.map V.int)) xh (Ye _) ⟨?_,out.toList,e,DL a1,by simpa[seqObj] using he⟩,rfl,(q b_ a2 a3).at _ (I1.ay.fresh (Ye _))⟩;rw[Ya,a2.length_eq]
 grind
theorem Vm(val:Nat->Str)(wz:∀i v,P i v->∃t,v=.str (val i) t):CmpOf prog w A .Lt P (λi j=>decide ((val i).cps.toList<(val j).cps.toList)):=λi j vi vj s Q E hi hj h=>by
 obtain⟨t,rfl⟩:=wz i vi hi;obtain⟨u,rfl⟩:=wz j vj hj;exact richCompare_gives (op:=.Lt) (typeIs_str s _ t) (typeIs_str s _ u) F.slot_str_lt F.entry_str_lt (F.args_str_lt_2 _ _) (gives_str_lt _ _ t u) (λx=>nomatch x) h
theorem Vn(val:Nat->Str)(wz:∀i v,P i v->∃t,v=.str (val i) t):CmpOf prog w A .Gt P (λi j=>decide ((val j).cps.toList<(val i).cps.toList)):=λi j vi vj s Q E hi hj h=>by
 obtain⟨t,rfl⟩:=wz i vi hi;obtain⟨u,rfl⟩:=wz j vj hj;exact richCompare_gives (op:=.Gt) (typeIs_str s _ t) (typeIs_str s _ u) F.slot_str_gt F.entry_str_gt (F.args_str_gt_2 _ _) (gives_str_gt _ _ t u) (λx=>nomatch x) h
def wA(a b:Str):Str:=if b.cps.toList<a.cps.toList then b else a
def wB(a b:Str):Str:=if a.cps.toList<b.cps.toList then b else a
theorem ZbF{a b:Value}{s:Shared}:(s.heap.push {cls:=.type "tuple",data:=.seq #[a,b]}).IsTuple s.heap.objs.size #[a,b]:=⟨_,Yn _ rfl,rfl,0,rfl⟩
section
variable {prog:Program}{w:World}{A:Around}{E:aU}{s:Shared}
theorem L6(i:Nat)(v:Value)(h:(#[Value.str a t,Value.str b u]:Array Value)[i]?=some v):∃t',v=.str (([a,b]:List Str).getD i "") t':=by
 match i,h with
 |0,h=>exact⟨t,(Yu h).symm⟩
 |1,h=>exact⟨u,(Yu h).symm⟩
 |i+2,h=>simp at h
theorem KY{a b:Str}{t u:Tok}{Q:aU}{op:CmpOp}(f:Str->Str->Bool)(hh:A.handled=none)
  (cmp:CmpOf prog w A.in1 op (λi v=>(#[Value.str a t,Value.str b u]:Array Value)[i]?=some v) λi j=>f (([a,b]:List Str).getD i "") (([a,b]:List Str).getD j ""))
  (h:∀h' tk t',(∀c o,s.heap.get? c=some o->h'.get? c=some o)->Q (.str (if f b a=true then b else a) t') {s with heap:=h',toks:=tk}):
  wpAny (model prog w) A.in1 (pyIter (.ref s.heap.objs.size)) (λit dQ=>∃I fp wr n P St bt,it=.ref I/\Walks prog w A.in1 I fp wr n P St/\St 0 dQ.heap/\(∀b∈fp,b<dQ.heap.objs.size)/\0<n/\CmpOf prog w A.in1 op P bt/\
   ∀v h' tk,P (argBest bt (n-1)) v->(∀b o,b∉wr->dQ.heap.get? b=some o->h'.get? b=some o)->Q v {dQ with heap:=h',toks:=tk}) E
   {s with heap:=s.heap.push {cls:=.type "tuple",data:=.seq #[.str a t,.str b u]}}:=by
 have hT:=ZbF (a:=.str a t) (b:=.str b u) (s:=s);refine wpAny_pyIter_tuple hT ?_;have hsz:(s.heap.push {cls:=.type "tuple",data:=.seq #[.str a t,.str b u]}).objs.size=s.heap.objs.size+1:=Jq ..;refine⟨_,[_,s.heap.objs.size],[_],_,_,_,_,rfl,Walks.tuple (A:=A.in1) hh _ s.heap.objs.size (by rw[hsz];exact Yy (W7 _)) #[.str a t,.str b u],
  ⟨⟨_,Yn _ rfl,rfl,rfl⟩,hT.push _⟩,λc hc=>?_,by simp,cmp,λv h' tk hP hk=>?_⟩
 ·show c<((s.heap.push _).push _).objs.size;rw[Jq,hsz];rcases Yp.mp hc with rfl|hc;·rw[hsz];exact W7 _
  ·rw[Yr.mp hc];exact Wk (W7 _)
 ·have hold:∀c o,s.heap.get? c=some o->h'.get? c=some o:=λc o e=>by
   refine hk c o (λhm=>?_) (Yc _ (Yc _ e));have:=Yo e;rw[Yr.mp hm,hsz] at this;exact Wc _ (Nat.lt_of_succ_lt this)
  have jZ:(#[Value.str a t,Value.str b u]:Array Value)[if f b a=true then 1 else 0]?=some v:=hP;obtain⟨t',ev⟩:∃t',v=.str (if f b a=true then b else a) t':=by
   by_cases c:f b a=true
   ·rw[if_pos c] at jZ⊢;exact⟨u,by simpa using jZ.symm⟩
   ·rw[if_neg c] at jZ⊢;exact⟨t,by simpa using jZ.symm⟩
  subst ev;exact h h' tk t' hold
end
theorem Vo(hc:X.calm=true):cU X (.builtin "min") (λxs H Q=>∃i j:Str,xs=[.str i,.str j]/\Q (.str (wA i j)) H):=by
 intro pins s σ H xs us Q I r h;obtain⟨i,j,rfl,q⟩:=h;obtain⟨u,w',rfl,⟨t,rfl⟩,⟨t',rfl⟩⟩:=vals2 r;exact call_min_two (KY (λx y=>decide (x.cps.toList<y.cps.toList)) (I.ok.hd hc) (Vm _ λi v=>L6 i v) λh' tk t2 k=>⟨.str (wA i j),H,I.kept k,⟨t2,by unfold wA;simp only[decide_eq_true_eq]⟩,q⟩)
theorem Vp(hc:X.calm=true):cU X (.builtin "max") (λxs H Q=>∃i j:Str,xs=[.str i,.str j]/\Q (.str (wB i j)) H):=by
 intro pins s σ H xs us Q I r h;obtain⟨i,j,rfl,q⟩:=h;obtain⟨u,w',rfl,⟨t,rfl⟩,⟨t',rfl⟩⟩:=vals2 r;exact call_max_two (KY (λx y=>decide (y.cps.toList<x.cps.toList)) (I.ok.hd hc) (Vn _ λi v=>L6 i v) λh' tk t2 k=>⟨.str (wB i j),H,I.kept k,⟨t2,by unfold wB;simp only[decide_eq_true_eq]⟩,q⟩)
theorem ZbG:bootBuiltins "max"=some (.builtin "max"):=by decide+kernel
theorem L7:cD X (binaryOp .Mult) (λx y H Q=>∃(z:Str) (n:Nat),x=.str z/\y=.int (n:Int)/\z.length<=100/\n<=100/\Q (.str (Txt.mul z (n:Int))) H):=by
 intro pins s σ H x y v u Q I rx ry h;obtain⟨z,n,rfl,rfl,lz,ln,q⟩:=h;obtain⟨t,rfl⟩:=rx;obtain⟨t',rfl⟩:=ry;have lm:z.length*n<=10000:=Yz (Nat.mul_le_mul lz ln) (by omega);refine PySem.SB.mul ⟨?_,λh1 _=>?_,λ_ _=>?_⟩ λt2 k=>⟨.str (Txt.mul z (n:Int)),H,I.tok k,⟨t2,rfl⟩,q⟩;·rw[decide_eq_false (by omega),decide_eq_false (by omega)];rfl
 ·have hn:(1:Int)<=(n:Int):=by omega
  intro hgt;have h3:((2:Int)^63-1)/(n:Int)≥(2^63-1)/100:=by
   refine Int.le_ediv_of_mul_le (by omega) ?_
   grind
  have h4:((2:Int)^63-1)/100>100:=by decide
  omega
 ·rw[Y5];exact decide_eq_false (by rw[sizeLine_eq];omega)
def nR:V->Bool
 |.int _=>true
 |.str _=>true
 |_=>false
theorem L8(h:nR x=true):ij x=true:=by cases x<;>first|rfl|cases h
theorem ZbH(hx:nR x=true)(hy:nR y=true):iZ x y=decide (x=y):=by
 cases x with
 |int a=>
  cases y with
  |int b=>
   show(a==b)=_
   grind
  |str b=>rfl
  |_=>cases hy
 |str a=>
  cases y with
  |int b=>rfl
  |str b=>
   show(a==b)=_
   grind
  |_=>cases hy
 |_=>cases hx
theorem Kg:∀{xs ys:List V},xs.length=ys.length->xs.all nR=true->ys.all nR=true->((List.range xs.length).all λj=>iZ (xs.getD j .aA) (ys.getD j .aA))=decide (xs=ys)
 |[],[],_,_,_=>rfl
 |[],_::_,h,_,_=>by simp at h
 |_::_,[],h,_,_=>by simp at h
 |x::xs,y::ys,h,fx,fy=>by
  rw[Jf,Jg] at fx fy;rw[Wb,List.range_succ_eq_map,Jf,G0];have e:((λj=>iZ ((x::xs).getD j .aA) ((y::ys).getD j .aA))∘Nat.succ)=λj=>iZ (xs.getD j .aA) (ys.getD j .aA):=rfl;rw[e,(Kg (by simpa using h) fx.2 fy.2)];show(iZ x y&&_)=_;rw[ZbH fx.1 fy.1,Wm,Jg,decide_eq_true_iff,decide_eq_true_iff,decide_eq_true_iff,List.cons.injEq]
def Zdx(K:ag)(neg:Bool):R2:=λx y H Q=>∃(p q:Addr) (xs ys:List V),x=.ref p/\y=.ref q/\aE K H p xs/\aE K H q ys/\xs.all nR=true/\ys.all nR=true/\Q (.bl (if neg=true then !decide (xs=ys) else decide (xs=ys))) H
theorem L9(r:Vals xs us):∀{j:Nat} (h:j<us.length),RelV (xs.getD j .aA) us[j]:=by
 induction r with
 |nil=>intro j h;cases h
 |cons f _ ih=>
  intro j h;cases j with
  |zero=>exact f
  |succ j=>exact ih (Nat.lt_of_succ_lt_succ h)
theorem L_{xs:List V}{j:Nat}(f:xs.all nR=true)(h:j<xs.length):nR (xs.getD j .aA)=true:=by
 grind
theorem ZbI{X:Cx}{K:ag}(hK:X.K=K)(hu:X.A.units<cLine):cD X (compareOp .Eq) (Zdx K false):=by
 subst hK;rintro pins s σ H x y v u Q I rx ry ⟨p,q,xs,ys,rfl,rfl,h1,h2,f1,f2,k⟩;cases rx;cases ry;obtain⟨ah,r1,p1,z1⟩:=I.tuple h1;obtain⟨iu,r2,p2,z2⟩:=I.tuple h2;have l1:=r1.length;have l2:=r2.length;refine SeqAt.eq_tupleAt (e:=λj=>iZ (xs.getD j .aA) (ys.getD j .aA)) p1 p2 hu (λj h1 h2=>?_) (cy I k ?_)
 ·have j1:j<ah.length:=by simpa using h1
  have j2:j<iu.length:=by simpa using h2
  have a1:ah.toArray[j]=ah[j]:=by simp
  have a2:iu.toArray[j]=iu[j]:=by simp
  exact MU (L9 r1 j1) (L9 r2 j2) (L8 (L_ f1 (by omega))) (L8 (L_ f2 (by omega)))
 ·rw[if_neg Yf,Yt,Yt,←l1,←l2];by_cases hl:xs.length=ys.length
  ·rw[←hl,Nat.min_self,Kg hl f1 f2];simp
  ·grind
theorem ZZ{X:Cx}{K:ag}(h:X.K=K):pJ X (OI K):=h▸ZaP
section
variable {X:Cx}
end
def uC(g:Nat->Value):Nat->Nat->List Value
 |0,_=>[]
 |n+1,i=>g i::uC g n (i+1)
theorem E4(g:Nat->Value):∀(us:List Value) (i:Nat),(∀k,us[k]?=some (g (i+k))\/us.length<=k)->us=uC g us.length i
 |[],_,_=>rfl
 |a::r,i,h=>by
  have e:a=g i:=by
   rcases h 0 with z|z;·grind
   ·cases z
  refine congr (congrArg _ e) (E4 g r (i+1) λk=>?_);have:=h (k+1)
  grind
inductive cA(K:ag)(x:Str)(st:Stmt)(f:Addr):Prop
 |mk {od an:Option Addr} {sl:Array (Option Value)} {oc kV dc pm cd ct:Value} (a:nsIn K mainGlobals x=some (some (.ref f))) (l:K.lookup f=some ⟨oc,od,.func (fnOf x x (iO st) (fQ st) (aJ st) .none kV dc pm an cd ct),sl⟩) (c:codeIn K cd x=true) (k:keepIn K (.ref f)=true):cA K x st f
inductive cK(K:ag)(C:Addr)(x q:Str)(st:Stmt)(f:Addr):Prop
 |mk {od an:Option Addr} {sl:Array (Option Value)} {oc kV dc pm cd ct:Value} (a:PySem.W.findIn K (.ref C) x=some (some (.ref f))) (b:isFn K (.ref f)=true) (l:K.lookup f=some ⟨oc,od,.func (fnOf x q (iO st) (fQ st) (aJ st) .none kV dc pm an cd ct),sl⟩) (c:codeIn K cd q=true) (k:keepIn K (.ref f)=true):cK K C x q st f
inductive h_(P:Program)(w:World)(K:ag)(mg:aN)(base:Heap):Prop
 |mk {h:Heap} (X:K.In h) (G:h.Ns mainGlobals mg):h_ P w K mg base
abbrev jA(x q:Str)(st:Stmt)(ps:List Str):Prop:=∀(kV doc pm:Value) (an:Option Addr) (bh ct:Value) (g:Nat->Value),bindArgs (fnOf x q (iO st) (fQ st) (aJ st) .none kV doc pm an bh ct) ⟨uC g ps.length 0,[]⟩=pure (ps.zip (uC g ps.length 0))
theorem jA.at{x q:Str}{st:Stmt}{ps:List Str}(b:jA x q st ps)(kV doc pm:Value)(an:Option Addr)(bh ct:Value)(us:List Value)(hl:us.length=ps.length):bindArgs (fnOf x q (iO st) (fQ st) (aJ st) .none kV doc pm an bh ct) ⟨us,[]⟩=pure (ps.zip us):=by
 have e:=E4 (λk=>us.getD k .none) us 0 λk=>by
  grind
 grind
section
variable {P:Program}{w:World}{K:ag}{mg:aN}{base:Heap}{C f:Addr}{x q:Str}{st:Stmt}{ps:List Str}{n:Nat}{sp:Sp}
theorem h_.p(D:h_ P w K mg base)(p:cA K x st f)(b:jA x x st ps:=by intro _ _ _ _ _ _ _;rfl):∃fd,aL K x x st f fd/\Binds K fd ps []/\keepIn K (.ref f)=true/\mg x=some (.ref f):=by
 obtain⟨X,G⟩:=D;obtain⟨a,l,c,k⟩:=p;exact⟨_,qt l c k,(qt l c k).binds (jA.at b),k,mg_of X G a⟩
theorem h_.d(D:h_ P w K mg base)(p:cA K x st f)(o:∀fd,aL K x x st f fd->aG P w K mg base aK n f fd ps sp)(b:jA x x st ps:=by intro _ _ _ _ _ _ _;rfl):HasFn P w K mg base n x ps sp:=by
 obtain⟨fd,F,b,k,m⟩:=D.p p b;exact⟨f,fd,o _ F,b,k,m⟩
theorem h_.dX(D:h_ P w K mg base)(p:cA K x st f)(o:∀fd,aL K x x st f fd->aG P w K mg base (kR P w) n f fd ps sp)(b:jA x x st ps:=by intro _ _ _ _ _ _ _;rfl):FZ P w K mg base n x ps sp:=by
 obtain⟨fd,F,b,k,m⟩:=D.p p b;exact⟨f,fd,o _ F,b,k,m⟩
theorem cK.p(p:cK K C x q st f)(b:jA x q st ps):∃fd,aL K x q st f fd/\Binds K fd ps []/\Meth K C x f/\PySem.W.findIn K (.ref C) x=some (some (.ref f))/\isFn K (.ref f)=true:=by
 obtain⟨a,e,l,c,k⟩:=p;exact⟨_,qt l c k,(qt l c k).binds (jA.at b),⟨a,e,k⟩,a,e⟩
theorem h_.m(_:h_ P w K mg base)(kc:fw K C)(p:cK K C x q st f)(o:∀fd,aL K x q st f fd->aG P w K mg base aK n f fd ps sp)(b:jA x q st ps:=by intro _ _ _ _ _ _ _;rfl):cv P w K mg base n x C ps sp:=by
 obtain⟨fd,F,b,m,_,_⟩:=p.p b;exact⟨f,fd,kc,m,o _ F,b⟩
theorem h_.mX(_:h_ P w K mg base)(kc:fw K C)(p:cK K C x q st f)(o:∀fd,aL K x q st f fd->aG P w K mg base (kR P w) n f fd ps sp)(b:jA x q st ps:=by intro _ _ _ _ _ _ _;rfl):Nd P w K mg base n x C ps sp:=by
 obtain⟨fd,F,b,m,_,_⟩:=p.p b;exact⟨f,fd,kc,m,o _ F,b⟩
theorem h_.i(_:h_ P w K mg base){y:Str}(m:mg y=some (.ref C))(cb:makesIn K C=true)(cc:keepIn K (.ref C)=true)(p:cK K C "__init__" q st f)(o:∀fd,aL K "__init__" q st f fd->aG P w K mg base aK n f fd ps sp)(b:jA "__init__" q st ps:=by intro _ _ _ _ _ _ _;rfl):tZ P w K mg base n y C ps sp:=by
 obtain⟨fd,F,b,_,a,e⟩:=p.p b;exact⟨f,fd,⟨cb,a,e,cc⟩,o _ F,b,m⟩
end
end L2
namespace L2
open PySem PySem.Spec PyProof.Rows
section
variable {X:Cx}{K:ag}
theorem bM(i:Nat){x:Str}{e:Expr}{te:TE}{pos pos':Pos}(hN:X.N.Nodup)(he:PE X e te)(hi:X.N[i]?=some x:=by rfl)(hx:Loc X.env.scope x:=by exact Or.inl rfl)(hs:swapsWith e (some (.Name x pos')) pos.line X.env=pure false:=by rfl)
  (hf:X.fn x=true\/X.env.scope.names.lookup x=some .local:=by first|exact .inl rfl|exact .inr rfl|assumption):PS X (.Assign [.Name x pos'] e pos) (qR te (ng i)):=iQ hN hi hx he hs hf
theorem cE(i:Nat){x:Str}{pos:Pos}(hN:X.N.Nodup)(hi:X.N[i]?=some x:=by rfl)(hx:Loc X.env.scope x:=by exact Or.inl rfl)
  (hf:X.fn x=true\/X.env.scope.names.lookup x=some .local:=by first|exact .inl rfl|exact .inr rfl|assumption):PG X (.Name x pos) (ng i):=oH hN hi hx hf
theorem pF(K:ag)(i:Nat){x f:Str}{p pos:Pos}(h:X.K=K:=by rfl)(hN:X.N[i]?=some x:=by rfl)(hv:rb X.env.scope x:=by first|exact Or.inl rfl|exact Or.inr (Or.inl rfl)|exact Or.inr (Or.inr rfl))(hd:(x==("__debug__":Str))=false:=by decide)
  (eU:(x==("__classdict__":Str))=false:=by decide)(hb:attributeBase (.Name x p) f X.env (eval (.Name x p) X.env)=eval (.Name x p) X.env:=by rfl):PE X (.Attribute (.Name x p) f pos) (FP K (nA i) f):=vN h (pv i hN hv hd eU) hb
theorem aY{k j:Nat}{x:Str}{ps:List Str}{sp:Sp}{p pos:Pos}{e:Expr}{es:List Expr}{t:TA}(h:HasFn X.prog X.w X.K X.mg X.base k x ps sp)(hr:bU j X.A)(ha:PA X (e::es) t)(hj:k<=j:=by omega)(hg:Gl X x:=by rfl)
  (eA:(x==("__debug__":Str))=false:=by decide)(he:gJ X e es:=by rfl)(bG:hU X pos es:=by rfl):
  PE X (.Call (.Name x p) (e::es) [] pos) (zD sp [] E0 t):=zH h hr hj hg ha eA he bG
theorem a8{r:R2}{a b:Expr}{ta tb:TE}{pos:Pos}(hr:hX X r)(ha:PE X a ta)(hb:PE X b tb)(hs:LI b:=by exact λ_ _=>rfl):PE X (.Subscript a b pos) (lW r ta tb):=NW hr ha hb hs
end
section
variable {P:Program}{w:World}{K:ag}{mg:aN}{base:Heap}
theorem aL.o{x qual:Str}{st:Stmt}{f:Addr}{fd:FuncData}{N ps:List Str}{k:Nat}{sp:Sp}(F:aL K x qual st f fd)(S:aS N ps (aJ st))
  (ni:∀{bh:Value} {A:Around} {outer:List Env} {vs:List V} {Q:VK} {E:XK} (s:Shared) (H:Hp),bU k (A.deeper (envOfC qual (aJ st) s.heap.objs.size f bh))->sp vs H Q E->
   ∃t,eN (ji aK P w K mg base N qual (aJ st) f bh A outer s H E).jX (fQ st) t/\t {nx:=λ_ H'=>Q .aA H',rt:=Q} (start N vs) H)
  (len:∀vs H Q E,sp vs H Q E->vs.length=ps.length:=by intro vs H Q E h;first|(cases h;subst_vars;rfl)|((repeat obtain⟨_,h⟩:=h);subst_vars;rfl)):aG P w K mg base aK (k+1) f fd ps sp:=F.ok S len λ_ _ _ s H _ _ _=>ni s H
end
theorem aS.bc{N P:List Str}{sc:Scope}(a:sc.kind=.function:=by rfl)(b:sc.isCoroutine=false:=by rfl)(c:sc.isGenerator=false:=by rfl)(d:N.Nodup:=by decide+kernel)(e:N.take P.length=P:=by rfl)(f:∀x∈P,sc.names.lookup x=some .local\/sc.names.lookup x=some .cell:=by decide+kernel)(g:∀y∈sc.names,y.2≠.free:=by decide+kernel):aS N P sc:=⟨a,b,c,d,e,f,g⟩
theorem vC.gM{X:Cx}{scope:Scope}{cl:List (Str×Addr)}{x:Str}{fr:List (Str×Nat)}(sub:oI X.env.cells cl)(cB:oK X scope cl fr)(a:closureFor scope X.env=pure cl:=by with_unfolding_all rfl)(b:scope.kind=.function:=by rfl)(c:∀y∈scope.names,y.2=.local->scope.names.lookup y.1=some .local:=by decide+kernel)(d:scope.names.lookup x=some .local:=by rfl)
  (e:∀y∈scope.names,y.2≠.cell:=by decide+kernel)(f:(scope.names.all λy=>!(y.2==.free)||(cl.lookup y.1).isSome)=true:=by rfl)(g:(x::fr.map (·.1)).Nodup:=by decide+kernel):vC X scope cl x fr:=⟨a,sub,b,c,d,e,f,cB,g⟩
theorem ou.gM{X:Cx}{scope:Scope}{cl:List (Str×Addr)}{xs:List Str}{fr:List (Str×Nat)}(sub:oI X.env.cells cl)(cB:oK X scope cl fr)(a:closureFor scope X.env=pure cl:=by with_unfolding_all rfl)(b:scope.kind=.function:=by rfl)(c:∀y∈scope.names,y.2=.local->scope.names.lookup y.1=some .local:=by decide+kernel)
  (e:∀y∈scope.names,y.2≠.cell:=by decide+kernel)(f:(scope.names.all λy=>!(y.2==.free)||(cl.lookup y.1).isSome)=true:=by rfl)(g:(xs++fr.map (·.1)).Nodup:=by decide+kernel):ou X scope cl xs fr:=⟨a,sub,b,c,e,f,cB,g⟩
end L2
namespace L2
open PySem PySem.W PySem.Spec PyProof.Rows
inductive pN(K:ag):List Str->Prop
 |nil:pN K []
 |cons {x:Str} {l:List Str} (h:nsIn K mainGlobals x=some none) (t:pN K l):pN K (x::l)
theorem pN.at{K:ag}{x:Str}:∀{l:List Str},pN K l->x∈l->nsIn K mainGlobals x=some none
 |_,.cons h t,m=>by
  cases m with
  |head=>exact h
  |tail _ m=>exact t.at m
theorem pN.bl{K:ag}{h:Heap}{mg:aN}(z:pN K ["len","abs","list","range","tuple","any","all","isinstance","bool","int","str","sorted","min","max","sum","dict","reversed","ValueError"])(X:K.In h)(G:h.Ns mainGlobals mg):Bl mg:=by
 constructor<;>exact PySem.W.mg_none_of X G (z.at (by decide))
inductive xC(K:ag)(x:Str)(C:Addr):Prop
 |mk (a:nsIn K mainGlobals x=some (some (.ref C))) (b:makesIn K C=true) (c:keepIn K (.ref C)=true):xC K x C
theorem h_.j{P:Program}{w:World}{K:ag}{mg:aN}{base:Heap}{C f:Addr}{y q:Str}{st:Stmt}{ps:List Str}{n:Nat}{sp:Sp}(D:h_ P w K mg base)(g:xC K y C)(p:cK K C "__init__" q st f)(o:∀fd,aL K "__init__" q st f fd->aG P w K mg base aK n f fd ps sp)(b:jA "__init__" q st ps:=by intro _ _ _ _ _ _ _;rfl):tZ P w K mg base n y C ps sp:=by
 obtain⟨a,m,k⟩:=g;exact D.i (let⟨X,G⟩:=D;mg_of X G a) m k p o b
inductive AN(K:ag)(x q:Str)(cs:List Addr)(st:Stmt)(C f:Addr):Prop
 |mk {N t:Addr} {nm qn:Str} {bs sub:List Value} {sn:List Str} {ab:Bool} {col:Option Bool} {dd:Option Addr} {k0 k1 k2 k3 k5:Option Value} {od an td:Option Addr} {sl ts:Array (Option Value)} {oc kV dc pm cd ct tc it:Value} {tn:Nat}
  (a:nsIn K mainGlobals x=some (some (.ref C))) (l:K.lookup C=some (excClassObj nm qn C N bs (cs.map Value.ref++kK) true sn sub ab col dd k0 k1 k2 k3 k5 "ValueError.__new__"))
  (g1:PySem.W.findIn K (.ref C) "__getattribute__"=some (some (.builtin "BaseException.__getattribute__"))) (g2:PySem.W.findIn K (.ref C) "__getattr__"=some none) (g3:PySem.W.findIn K (.ref C) "__setattr__"=some (some (.builtin "object.__setattr__"))) (g4:PySem.W.findIn K (.ref C) "__class__"=some (some (.builtin "object.__class__")))
  (g5:specialIn K (.builtin "object.__class__") "__get__"=some (some (.builtin "getset_descriptor.__get__"))) (g6:takesIn K (.builtin "object.__class__")=some true)
  (ci:PySem.W.findIn K (.ref C) "__init__"=some (some (.ref f))) (cn:isFn K (.ref f)=true) (ck:keepIn K (.ref C)=true)
  (fl:K.lookup f=some ⟨oc,od,.func (fnOf "__init__" q (iO st) (fQ st) (aJ st) (.ref t) kV dc pm an cd ct),sl⟩) (fc:codeIn K cd q=true) (fk:keepIn K (.ref f)=true) (ft:K.lookup t=some ⟨tc,td,.seq #[it] tn,ts⟩)
  (na:PySem.W.findIn K (.ref C) "word"=some none):AN K x q cs st C f
abbrev BdE(q:Str)(st:Stmt)(ps:List Str):Prop:=∀(s:Shared) (kV doc pm it tc:Value) (td:Option Addr) (ts:Array (Option Value)) (tn:Nat) (t:Addr) (an:Option Addr) (bh ct:Value) (g:Nat->Value),s.heap.get? t=some ⟨tc,td,.seq #[it] tn,ts⟩->BindsTo s (fnOf "__init__" q (iO st) (fQ st) (aJ st) (.ref t) kV doc pm an bh ct) ⟨uC g ps.length 0,[]⟩ (ps.zip (uC g ps.length 0))
theorem AN.b{K:ag}{h:Heap}{mg:aN}{x q:Str}{cs:List Addr}{st:Stmt}{C f:Addr}(p:AN K x q cs st C f)(X:K.In h)(G:h.Ns mainGlobals mg)(ps:List Str)(b:BdE q st ps:=by intro _ _ _ _ _ _ _ _ _ _ _ _ _ _ z;exact BindsTo.of_defaults rfl z rfl rfl rfl):
  ∃fd,t_ K "__init__" q st f fd/\Binds K fd ps []/\cZ K C/\nC K C f/\mg x=some (.ref C)/\cu K C "word":=by
 obtain⟨a,l,g1,g2,g3,g4,g5,g6,ci,cn,ck,fl,fc,fk,ft,na⟩:=p;have xa:cZ K C:=⟨⟨_,_,_,_,cs,_,_,_,_,_,_,_,_,_,_,l⟩,g1,g2,g3,g4,g5,g6⟩;refine⟨_,⟨⟨_,_,_,_,_,_,_,_,_,_,rfl,fl,fc⟩,fk⟩,λs us KX hl=>?_,xa,nC.of xa ci cn ck,mg_of X G a,na⟩;rw[We] at hl⊢;have e:=E4 (λk=>us.getD k .none) us 0 λk=>by
  grind
 rw[e,hl];exact b s _ _ _ _ _ _ _ _ _ _ _ _ _ (KX _ _ ft)
end L2
namespace L2
open PySem PySem.Spec PyProof.Rows
section
variable {X:Cx}{a b e e2:Expr}{ta tb te Qq:TE}{p pos:Pos}
theorem dI(K:ag)(bl:Bl X.mg)(he:PE X e te)(h:X.K=K:=by rfl)(hg:Gl X "len":=by rfl)(dm:starEach [e] X.env=(false,eval e X.env)::starEach [] X.env:=by rfl)(bG:(backTo pos (starEach [] X.env)).any (·.1)=false:=by rfl):PE X (.Call (.Name "len" p) [e] [] pos) (lY (z5 K) (jQ te kH)):=gU (Zdf h) hg bl.zL zk (aa he ai dm) (by decide) (by decide) dm bG
theorem i8(K:ag)(bl:Bl X.mg)(he:PE X e te)(h2:PE X e2 Qq)(h:X.K=K:=by rfl)(hg:Gl X "isinstance":=by rfl)(lX:starEach [e2] X.env=(false,eval e2 X.env)::starEach [] X.env:=by rfl)(dm:starEach [e,e2] X.env=(false,eval e X.env)::starEach [e2] X.env:=by rfl)(bG:(backTo pos (starEach [e2] X.env)).any (·.1)=false:=by rfl):PE X (.Call (.Name "isinstance" p) [e,e2] [] pos) (lY (z4 K) (jQ te (jQ Qq kH))):=gU (Zz h) hg bl.TX Td (aa he (aa h2 ai lX) dm) (by decide) (by decide) dm bG
theorem iL(K:ag)(h:X.K=K:=by rfl):hX X (zW K):=Xu h
theorem iT(K:ag)(h:X.K=K:=by rfl):hX X (zX K):=Zy h
theorem bP{op:CmpOp}{r:R2}(ho:cD X (compareOp op) r)(ha:PE X a ta)(hb:PE X b tb)(hm:behindInMarks op b=false:=by exact MO _):PT X (.Compare a [op] [b] pos) (Fm (lW r ta tb)):=fP ho ha hb hm
theorem eC{op:CmpOp}{r:R2}(ho:cD X (compareOp op) r)(ha:PE X a ta)(hb:PE X b tb)(hm:behindInMarks op b=false:=by exact MO _):PE X (.Compare a [op] [b] pos) (lW r ta tb):=yU ho ha hb hm
end
end L2
namespace AO
open PySem L2
variable {P:Program}{w:World}{K:PySem.W.Frag}{mg:Str->Option Value}{base:Heap}{f C CL CJ:Addr}{fd:FuncData}
def top(i:Nat):Stmt:=PySem.Challenge.pw_kinhearth_k25_nobody_among_their_forebea.main.body.getD i (.Pass ⟨0,0,0,0⟩)
abbrev DR:Stmt:=top 19
abbrev Ew:Stmt:=top 20
abbrev D9:Stmt:=top 21
abbrev E5:Stmt:=top 23
abbrev CB:Stmt:=top 25
abbrev CC:Stmt:=top 73
abbrev BX:Stmt:=top 74
abbrev DS:Stmt:=top 75
abbrev Dx:Stmt:=top 22
abbrev Co:Stmt:=top 24
abbrev Dy:Stmt:=top 2
abbrev D_:Stmt:=top 34
abbrev Dz:Stmt:=top 35
abbrev DA:Stmt:=top 38
abbrev C0:Stmt:=top 39
abbrev C1:Stmt:=top 40
abbrev DT:Stmt:=top 47
abbrev B_:Stmt:=top 48
abbrev yt:Stmt:=top 49
abbrev C2:Stmt:=top 50
abbrev ym:Stmt:=top 51
abbrev yn:Stmt:=top 52
abbrev S3:Stmt:=top 53
abbrev SK:Stmt:=top 54
abbrev C3:Stmt:=top 68
abbrev IZ:Stmt:=top 77
abbrev IA:Stmt:=top 78
abbrev yv:Stmt:=top 79
abbrev DB:Stmt:=top 80
abbrev Ea:Stmt:=top 81
abbrev C4:Stmt:=top 82
abbrev CD:Stmt:=top 83
abbrev BO:Stmt:=top 84
abbrev C5:Stmt:=top 85
abbrev Ca:Stmt:=top 86
abbrev CF:Stmt:=top 87
abbrev qI:Stmt:=top 88
abbrev C6:Stmt:=inClass (top 72) 0
abbrev C7:Stmt:=inClass (top 72) 1
abbrev CG:Stmt:=inClass (top 56) 0
abbrev C8:Stmt:=inClass (top 56) 1
abbrev C9:Stmt:=inClass (top 56) 2
abbrev C_:Stmt:=inClass (top 56) 3
abbrev BY:Stmt:=inClass (top 56) 4
abbrev CH:Stmt:=inClass (top 56) 5
abbrev BP:Stmt:=inClass (top 56) 6
abbrev Cp:Stmt:=inClass (top 56) 8
abbrev Cb:Stmt:=inClass (top 56) 12
abbrev BC:Stmt:=inClass (top 56) 13
abbrev CI:Stmt:=inClass (top 56) 14
abbrev Cq:Stmt:=inClass (top 67) 0
abbrev BZ:Stmt:=inClass (top 67) 1
abbrev yo:Stmt:=inClass (top 67) 2
abbrev T4:Stmt:=inClass (top 67) 3
abbrev Cr:Stmt:=inClass (top 67) 4
abbrev Cs:Stmt:=inClass (top 67) 5
abbrev B0:Stmt:=inClass (top 67) 10
abbrev BQ:Stmt:=inClass (top 67) 11
abbrev Ct:Stmt:=inClass (top 67) 12
abbrev CK:Stmt:=inClass (top 67) 13
abbrev BG:Stmt:=inClass (top 67) 17
abbrev BE:Stmt:=inClass (top 67) 18
abbrev Cc:Stmt:=inClass (top 67) 19
abbrev BR:Stmt:=inClass (top 67) 20
abbrev Cd:Stmt:=inClass (top 67) 21
abbrev B3:Stmt:=inClass (top 67) 22
abbrev BH:Stmt:=inClass (top 67) 23
abbrev BK:Stmt:=inClass (top 67) 24
abbrev sy:Stmt:=inClass (top 4) 0
abbrev CM:Stmt:=inClass (top 14) 0
abbrev sA:Stmt:=inClass (top 15) 0
abbrev Oi:Stmt:=IZ
abbrev Ni:Stmt:=IA
section
variable {K:ag}{mg:aN}
abbrev nS:List Str:=["self","word","why"]
theorem Sw:aS nS nS (aJ sy):=.bc
theorem IB(F:t_ K "__init__" "KinError.__init__" sy f fd)(bl:Bl mg):aG P w K mg base aK 1 f fd nS (Fp K):=by
 refine F.ok Sw (λvs H Q E h=>?_) (λbh A outer s H vs Q E hr h=>?_)
 ·obtain⟨a,C,wd,y,rfl,_⟩:=h;rfl
 obtain⟨a,C,wd,y,rfl,ha,xa,na,lw,ly,q⟩:=h;refine⟨_,(aq (cq (XD rfl bl.TY (aa (pv 0) (aa (Xh (DQ (K:=K) rfl (D4 (pv 2) (λ_=>rfl))) (ZE (Eu (vY hr (pv 1)) (Eu bR (Eu (vY hr (pv 2)) Za9)))) (pv 1)) ai)))) (aw (LQ (pv 0) (pv 1)))),?_⟩;have fin:∀t:Str,ET K [.ref a,.str t] H λ_ H1=>N4 K (nA 0) (nA 1) "word" {nx:=λ_ H'=>Q .aA H',rt:=Q} [some (.ref a),some (.str wd),some (.str y)] H1:=λt=>
  ⟨a,C,.str t,rfl,xa,ha,_,rfl,_,rfl,a,C,rfl,xa,na,.inl ⟨ha,λd hd nd=>q d hd nd⟩⟩
 have lim:(1000200:Nat)<=sizeLine:=by rw[sizeLine_eq];omega
 refine⟨_,rfl,_,rfl,_,⟨by omega,rfl⟩,?_⟩;refine bb (λc=>?_) (λc=>?_)
 ·refine⟨_,rfl,.inl ⟨wd,rfl,by omega,wd,rfl,?_,?_⟩⟩
  ·rw[strLen_append];show 0+wd.length<=sizeLine;omega
  refine⟨_,rfl,?_,?_⟩
  ·rw[strLen_append,strLen_append];show 0+wd.length+2<=sizeLine;omega
  refine⟨_,rfl,.inl ⟨y,rfl,by omega,y,rfl,?_,?_,fin _⟩⟩
  ·rw[strLen_append,strLen_append,strLen_append];show 0+wd.length+2+y.length<=sizeLine;omega
  ·rw[strLen_append,strLen_append,strLen_append];show 0+wd.length+2+y.length<=sizeLine;omega
 ·exact⟨_,rfl,fin _⟩
end
section
variable {K:ag}{mg:aN}{fk ck c:Addr}{xD:FuncData}
theorem To:aS uA uA (aJ CM):=.bc
theorem X7(F:t_ K "__init__" "Twice.__init__" CM f fd)(sM:zK K ck "__init__" fk)(DC:aG P w K mg base aK 1 fk xD nS (Fp K))(vx:Binds K xD nS [])(mF:mg "KinError"=some (.ref ck))(xa:cZ K c)(na:cu K c "word"):
  aG P w K mg base aK 2 f fd uA (N_ "told twice" c):=by
 refine F.ok To (λvs H Q E h=>?_) (λbh A outer s H vs Q E hr h=>?_)
 ·obtain⟨a,y,rfl,_⟩:=h;rfl
 obtain⟨a,y,rfl,ha,ly,q⟩:=h;refine⟨_,(aw (cq (KI sM DC (hr.mono (by omega)) rfl mF vx .nil tV (aa (pv 0) (aa bR (aa (pv 1) ai)))))),?_⟩;exact⟨_,rfl,_,rfl,a,c,_,y,rfl,ha,xa,na,by decide,ly,λd hd nd=>q d hd nd⟩
end
section
variable {K:ag}{mg:aN}
abbrev xE:List Str:=["_law_script","_law_k"]
theorem ZbJ:aS xE xE (aJ Oi):=⟨rfl,rfl,rfl,by decide+kernel,rfl,by decide+kernel,by decide+kernel⟩
theorem Z0(F:aL K "_law_cell" "_law_cell" Oi f fd)(ml:mg "len"=none):aG P w K mg base aK 1 f fd xE (ES K):=by
 refine F.ok ZbJ (λvs H Q E h=>?_) (λbh A outer s H vs Q E hr h=>?_)
 ·obtain⟨a,ns,k,rfl,_⟩:=h;rfl
 obtain⟨a,ns,k,rfl,hS,h0,q⟩:=h;refine⟨_,aq (aV (bP wb (pv 1) (gU Ik rfl ml zk (aa (pv 0) ai))) (aw (aP (NW Es (pv 0) (pv 1) (λ_ _=>rfl)))) aZ)
  (aw (aP aO)),?_⟩
 refine⟨_,rfl,_,rfl,a,_,rfl,.inl hS,_,_,rfl,rfl,_,rfl,?_⟩;refine bb (λc=>?_) (λc=>?_)
 ·have c':k<(((ns.map V.int).length:Nat):Int):=of_decide_eq_true c;rw[(Ya _)] at c';exact⟨_,rfl,_,rfl,a,_,_,_,rfl,rfl,hS,oR h0 c',q _⟩
 ·exact q _
abbrev xF:List Str:=["_law_cell_here","_law_parts"]
theorem mZ:aS ["_law_cell_here","_law_parts","_law_one","_law_two","_law_six","_law_found","_law_part"] xF (aJ Ni):=⟨rfl,rfl,rfl,by decide+kernel,rfl,by decide+kernel,by decide+kernel⟩
theorem X8(F:aL K "_law_draws" "_law_draws" Ni f fd)(ma:mg "abs"=none):aG P w K mg base aK 1 f fd xF (yZ K):=by
 refine F.ok mZ (λvs H Q E h=>?_) (λbh A outer s H vs Q E hr h=>?_)
 ·obtain⟨c,a,ps,rfl,_⟩:=h;rfl
 obtain⟨c,a,ps,rfl,hS,hps,hlen,q⟩:=h;refine⟨_,aq (aV (bP wb (gU Kz rfl ma M0 (aa (pv 0) ai)) (bj MM aO aO))
   (aq (iQ (i:=2) mZ.nd rfl (Or.inl rfl) (bj fJ (bj ig (bj m7 (pv 0) aO) aO) aO))
   (aq (iQ (i:=3) mZ.nd rfl (Or.inl rfl) (bj fJ (bj ig (bj ig (bj m7 (pv 2) (pv 2)) (bj m7 aO (pv 2))) (pv 0)) aO))
   (aq (iQ (i:=4) mZ.nd rfl (Or.inl rfl) (bj fJ (bj ig (bj m7 (pv 3) aO) (pv 2)) aO))
   (aw (iQ (i:=0) mZ.nd rfl (Or.inl rfl) (bj ig (pv 3) (bj m7 aO (bj ig (pv 4) (bj m7 aO (pv 2))))))))))
   (aw (iQ (i:=0) mZ.nd rfl (Or.inl rfl) (bj ML (gU Kz rfl ma M0 (aa (pv 0) ai)) (bj MM aO aO)))))
  (aq (iQ (i:=5) mZ.nd rfl (Or.inl rfl) (EM ai))
  (aq (jd PassesOwn.never rfl (Lx (pv 1)) (oH (i:=6) mZ.nd rfl (Or.inl rfl))
   (aq (cq (oV plainAttrs_list PySem.F.slot_list_append PySem.F.type_list_append yC (pv 5) (aa (bj fJ (pv 0) (pv 6)) ai)))
   (aw (iQ (i:=0) mZ.nd rfl (Or.inl rfl) (bj Eo (pv 0) (pv 6))))))
  (aw (aP (pv 5))))),?_⟩
 refine iP (λσ H'=>H'=H/\∃c' o2 o3 o4,σ=[some (.int c'),some (.ref a),o2,o3,o4,none,none]) (λnx k=>?_) ?_
 ·refine⟨_,rfl,c,rfl,_,_,rfl,rfl,⟨by decide,by decide,by decide⟩,_,_,rfl,rfl,_,rfl,?_⟩;refine bb (λ_=>?_) (λ_=>?_)
  ·refine⟨_,rfl,_,_,rfl,rfl,.inr ⟨by decide,by decide⟩,_,_,rfl,rfl,_,_,rfl,rfl,(by show(0:Int)<2147483647;decide),?_⟩;refine⟨_,rfl,_,rfl,_,_,rfl,rfl,.inl (ZaY _ (by decide) (by decide)),_,rfl,_,_,rfl,rfl,.inl ⟨by decide,by decide⟩,_,_,rfl,rfl,_,rfl,_,_,rfl,rfl,_,_,rfl,rfl,(by show(0:Int)<2147483399;decide),?_⟩;refine⟨_,rfl,_,_,rfl,rfl,.inr ⟨by decide,by decide⟩,_,rfl,_,_,rfl,rfl,_,_,rfl,rfl,(by show(0:Int)<1000000007;decide),?_⟩;refine⟨_,rfl,_,rfl,_,rfl,_,_,rfl,rfl,.inl ⟨by decide,by decide⟩,_,_,rfl,rfl,_,_,rfl,rfl,.inl ⟨by decide,by decide⟩,_,_,rfl,rfl,k _ _ ⟨rfl,_,_,_,_,rfl⟩⟩
  ·exact⟨_,rfl,c,rfl,_,_,rfl,rfl,⟨by decide,by decide,by decide⟩,_,_,rfl,rfl,k _ _ ⟨rfl,_,_,_,_,rfl⟩⟩
 ·rintro σ H0 ⟨rfl,c',o2,o3,o4,rfl⟩;refine⟨(by show 0<=sizeLine;decide),λl hl=>?_⟩;have s1:au H0 (upd H0 l (.lst [])):=cY hl _;refine⟨_,rfl,a,rfl,⟨_,s1.seq hS⟩,qe (K:=K) (a:=a) (xs:=ps.map V.int) (λi σ H2=>∃c o2 o3 o4 o6 ds,σ=[some (.int c),some (.ref a),o2,o3,o4,some (.ref l),o6]/\au H0 H2/\H2 l=some (.lst (ds.map V.int))/\Paired Bd ds (ps.take i))
   ⟨c',o2,o3,o4,none,[],rfl,s1,aW,by rw[List.take_zero];exact .nil⟩ (λi σ H2 _ ⟨_,_,_,_,_,_,_,s2,_⟩=>s2.seq hS) ?_ ?_⟩
  ·rintro i y σ H2 hi ⟨c,o2,o3,o4,o6,ds,rfl,s2,h2,b2⟩;obtain⟨p,rfl,hp⟩:=mW hi;have dZ:i<ps.length:=(Yk.mp hp).1;obtain⟨p0,p1⟩:=hps p (Ys hp);have dl:=b2.length;rw[Wh] at dl;refine⟨_,rfl,.inl ⟨rfl,_,aj.of h2⟩,_,rfl,_,rfl,_,_,rfl,rfl,p0,l,_,_,rfl,rfl,h2,(by rw[Ya];exact mK (by omega)),?_⟩;refine⟨_,rfl,_,rfl,_,_,rfl,rfl,⟨p0,p1⟩,?_⟩;refine⟨_,o2,o3,o4,_,ds++[c % p],rfl,λb o e=>?_,?_,?_⟩
   ·rw[aF (cN e hl)];exact s2 b o e
   ·rw[aW,Xv]
   ·rw[Y6,hp];exact b2.snoc ⟨W4 _ (Int.ne_of_gt p0),Wo _ p0⟩
  ·rintro σ H2 ⟨c,o2,o3,o4,o6,ds,rfl,s2,h2,b2⟩;rw[Ya,Wq] at b2;exact⟨_,rfl,q l ds H2 hl s2 h2 b2⟩
end
theorem bI{q:St->Hp->Prop}{i:Nat}{x:V}{σ:St}{H:Hp}(h:q (σ.set i (some x)) H):ng i x σ H q:=h
theorem Nj{K:ag}{H:Hp}{p:Addr}{xs:List V}{i:Nat}{x:V}{Q:VK}(hp:aj K H p xs\/aE K H p xs)(h:xs[i]?=some x)(q:Q x H):Gr K (.ref p) (.int (0+(i:Int))) H Q:=by
 rcases hp with hp|hp;·exact .inl ⟨p,_,_,_,rfl,rfl,hp,KL h,q⟩
 ·exact .inr (.inl ⟨p,_,_,_,rfl,rfl,hp,KL h,q⟩)
theorem yN(v:V):decide (v=v)=true:=decide_eq_true rfl
theorem all_true(n:Nat):(List.replicate n true).all id=true:=by
 induction n with
 |zero=>rfl
 |succ n ih=>rw[List.replicate_succ,Jf,ih];rfl
inductive KZ(m:Nat)(vs:List V)(H:Hp)(Q:VK):Prop
 |mk (x y:V) (d:Dt) (k:Nat) (aI:vs=[x,y]) (aX:m=k+1) (bu:At H k x d) (bW:At H k y d) (dq:∀H',au H H'->Q (.bl true) H'):KZ m vs H Q
def oS(m:Nat):Sp:=λvs H Q _=>KZ m vs H Q
section
variable {K:ag}{mg:aN}
abbrev k_:List Str:=["_law_found","_law_due"]
theorem UD:aS k_ k_ (aJ yv):=.bc
theorem X9{n:Nat}(F:aL K "_law_same" "_law_same" yv f fd)(mG:HasFn P w K mg base n "_law_same" k_ (oS n))(bl:Bl mg):aG P w K mg base aK (n+1) f fd k_ (oS (n+1)):=by
 refine F.o UD λs H hr h=>?_;obtain⟨x,y,d,k,rfl,ek,hx,hy,q⟩:=h;obtain rfl:k=n:=by omega
 have hu:=hr.m8;refine⟨_,(aq (aV (bP zf (pv 1) kA) (aw (aP (eC zf (pv 0) kA))) aZ) (aq (aV (di (i8 K bl (pv 1) (iR rfl bl.zo yY))) (aw (aP (qq (i8 K bl (pv 0) (iR rfl bl.zo yY)) (m6 (eC c5 (pv 0) (pv 1)))))) aZ) (aq (aV (di (i8 K bl (pv 1) (iR rfl bl.wc vW))) (aw (aP (qq (i8 K bl (pv 0) (iR rfl bl.wc vW)) (qq (ZaG (i8 K bl (pv 0) (iR rfl bl.zo yY))) (m6 (eC c5 (pv 0) (pv 1))))))) aZ) (aq (aV (di (i8 K bl (pv 1) (iR rfl bl.tY tR))) (aw (aP (qq (i8 K bl (pv 0) (iR rfl bl.tY tR)) (m6 (eC c5 (pv 0) (pv 1)))))) aZ) (aq (aV (PW.pt (pw_or (bP jP (i8 K bl (pv 1) (iR rfl bl.qu qh)) (i8 K bl (pv 0) (iR rfl bl.qu qh))) (pw_or1 (bP jP (i8 K bl (pv 1) (iR rfl bl.tL tG)) (i8 K bl (pv 0) (iR rfl bl.tL tG)))))) (aw (aP fh)) aZ) (aq (aV (bP jP (dI K bl (pv 0)) (dI K bl (pv 1))) (aw (aP fh)) aZ) (aw (aP (gU (OR (K:=K) rfl rfl) rfl bl.N8 M3 (aa (ku (x:="_law_k") (fr:=[("_law_found",0),("_law_due",1)]) (cl:=[("_law_found",s.heap.objs.size+1),("_law_due",s.heap.objs.size+1+1)]) rfl (.gM ⟨rfl,⟨rfl,trivial⟩⟩ ⟨⟨rfl,.inl rfl,.inl rfl,rfl⟩,⟨⟨rfl,.inl rfl,.inl rfl,rfl⟩,trivial⟩⟩) (qa rfl bl.kz (aa (dI K bl (pv 1)) ai)) (λ_ _ _ _=>mV) (λ_ _ _ _=>(zH mG hr (by omega) rfl (aa (a8 (LS (K:=K) rfl) (pv 1) (pv 0)) (aa (a8 (LS (K:=K) rfl) (pv 2) (pv 0)) ai))))) ai)))))))))),?_⟩;have sq:(∃(p r:Addr) (xs ys:List V) (ds:List Dt) (t:Value) (b1 b2:Bool) (m:Nat),x=.ref p/\y=.ref r/\ir K H (.ref p) t/\ir K H (.ref r) t/\kitOne K t (.type "bool")=some false/\kitOne K t (.type "int")=some false/\kitOne K t (.type "str")=some false/\
   kitOne K t (.type "list")=some b1/\kitOne K t (.type "tuple")=some b2/\(aj K H p xs\/aE K H p xs)/\(aj K H r ys\/aE K H r ys)/\ds.length<=1000/\Paired (At H m) xs ds/\Paired (At H m) ys ds/\k=m+1)\/
   (x=.aA/\y=.aA)\/(∃b,x=.bl b/\y=.bl b)\/(∃i,x=.int i/\y=.int i)\/∃z,x=.str z/\y=.str z:=by
  cases d with
  |aA=>unfold At at hx hy;exact .inr (.inl ⟨hx,hy⟩)
  |bl b=>unfold At at hx hy;exact .inr (.inr (.inl ⟨b,hx,hy⟩))
  |int i=>unfold At at hx hy;exact .inr (.inr (.inr (.inl ⟨i,hx,hy⟩)))
  |str z=>unfold At at hx hy;exact .inr (.inr (.inr (.inr ⟨z,hx,hy⟩)))
  |lst ds=>
   cases k with
   |zero=>unfold At at hx;exact hx.elim
   |succ m=>
    unfold At at hx hy;obtain⟨a,xs,e0,e1,lz,p1⟩:=hx;obtain⟨b,ys,G1,e2,_,p2⟩:=hy;exact .inl ⟨a,b,xs,ys,ds,.type "list",true,false,m,e0,G1,.lst e1,.lst e2,Zbb,Zbc,Zbd,M_,Zbe,.inl (aj.of e1),.inl (aj.of e2),lz,p1,p2,rfl⟩
  |tup ds=>
   cases k with
   |zero=>unfold At at hx;exact hx.elim
   |succ m=>
    unfold At at hx hy;obtain⟨a,xs,e0,e1,lz,p1⟩:=hx;obtain⟨b,ys,G1,e2,_,p2⟩:=hy;exact .inl ⟨a,b,xs,ys,ds,.type "tuple",false,true,m,e0,G1,.tup e1,.tup e2,Zbf,Zbg,Zbh,Zbi,Zbj,.inr (aE.of e1),.inr (aE.of e2),lz,p1,p2,rfl⟩
 clear hx hy;rcases sq with⟨p,r,xs,ys,ds,t,b1,b2,m,rfl,rfl,T1,T2,kb,ki,ksr,kl,kt,hp,hq,hz,p1,p2,ek⟩|⟨rfl,rfl⟩|⟨b,rfl,rfl⟩|⟨i,rfl,rfl⟩|⟨z,rfl,rfl⟩
 ·have l1:=de p1;have l2:=de p2;refine⟨_,rfl,rfl,_,rfl,?_⟩;refine bb (λc=>absurd (of_decide_eq_true c) (λz=>nomatch z)) (λ_=>a_ ?_);refine⟨_,rfl,_,_,_,false,rfl,T2,kb,_,rfl,cR (a_ ?_)⟩;refine⟨_,rfl,_,_,_,false,rfl,T2,ki,_,rfl,cR (a_ ?_)⟩;refine⟨_,rfl,_,_,_,false,rfl,T2,ksr,_,rfl,cR (a_ ?_)⟩;refine⟨_,rfl,_,_,_,b1,rfl,T2,kl,_,rfl,_,_,_,b1,rfl,T1,kl,rfl,_,rfl,tX rfl ?_⟩;refine⟨_,rfl,_,_,_,b2,rfl,T2,kt,_,rfl,_,_,_,b2,rfl,T1,kt,rfl,_,rfl,tX rfl (a_ ?_)⟩;refine⟨_,rfl,p,_,rfl,hp,_,rfl,r,_,rfl,hq,rfl,_,rfl,tX (by rw[l1,l2]) (a_ ?_)⟩;refine⟨_,rfl,r,_,rfl,hq,_,rfl,by omega,by omega,λD hD=>Du (lo:=0) (n:=((ys.length:Nat):Int).toNat)
   (λi zs H1=>au H H1/\H1 D=some (.lst zs)/\zs=(List.replicate i true).map V.bl) ⟨cY hD _,aW,rfl⟩ ?_ ?_⟩
  ·rintro i zs H1 hi ⟨g,h1,rfl⟩;rw[Y5] at hi;have sq:∀{a:Addr} {us:List V},(aj K H a us\/aE K H a us)->(aj K H1 a us\/aE K H1 a us):=λ{a us} z=>by
    rcases z with z|z;·exact .inl (g.seq z)
    ·exact .inr (g.ju z)
   have gx:xs[i]?=some xs[i]:=Yb (by omega);have gy:ys[i]?=some ys[i]:=Yb (by omega);obtain⟨d1,e1,a1⟩:=jI p1 gx;obtain⟨d2,e2,a2⟩:=jI p2 gy;rw[e1] at e2;cases e2;refine lR (dk ?_);refine⟨_,rfl,_,rfl,Nj (sq hp) gx ?_⟩;refine⟨_,rfl,_,rfl,Nj (sq hq) gy ?_⟩;refine⟨_,_,d1,m,rfl,ek,a1.same g,a2.same g,λH2 g2=>?_⟩;refine⟨g2 _ _ h1,by rw[Ya,Wx];exact mK (by omega),λb o e=>?_,aW,?_⟩
   ·rw[aF (cN e hD)];exact g2 b o (g b o e)
   ·rw[List.replicate_succ',Yq];rfl
  ·rintro zs H1 ⟨g,h1,e⟩;refine⟨D,_,rfl,aj.of (by rw[h1,e]),?_⟩;rw[all_true];exact q H1 g
 ·refine⟨_,rfl,rfl,_,rfl,?_⟩;refine bb (λc=>?_) (λc=>absurd (yN _) c);exact⟨_,rfl,rfl,q H (au.refl H)⟩
 ·refine⟨_,rfl,rfl,_,rfl,?_⟩;refine bb (λc=>absurd (of_decide_eq_true c) (λz=>nomatch z)) (λ_=>a_ ?_);refine⟨_,rfl,_,_,_,true,rfl,.bl b,M9,_,rfl,dk ?_⟩;refine⟨_,rfl,_,_,_,true,rfl,.bl b,M9,_,rfl,dk ?_⟩;refine⟨_,rfl,_,rfl,rfl,?_⟩;rw[yN];exact q H (au.refl H)
 ·refine⟨_,rfl,rfl,_,rfl,?_⟩;refine bb (λc=>absurd (of_decide_eq_true c) (λz=>nomatch z)) (λ_=>a_ ?_);refine⟨_,rfl,_,_,_,false,rfl,.int i,EU,_,rfl,cR (a_ ?_)⟩;refine⟨_,rfl,_,_,_,true,rfl,.int i,M8,_,rfl,dk ?_⟩;refine⟨_,rfl,_,_,_,true,rfl,.int i,M8,_,rfl,dk ?_⟩;refine⟨_,rfl,_,_,_,false,rfl,.int i,EU,_,rfl,_,rfl,dk ?_⟩;refine⟨_,rfl,_,rfl,rfl,?_⟩;rw[yN];exact q H (au.refl H)
 ·refine⟨_,rfl,rfl,_,rfl,?_⟩;refine bb (λc=>absurd (of_decide_eq_true c) (λz=>nomatch z)) (λ_=>a_ ?_);refine⟨_,rfl,_,_,_,false,rfl,.str z,Za_,_,rfl,cR (a_ ?_)⟩;refine⟨_,rfl,_,_,_,false,rfl,.str z,Zba,_,rfl,cR (a_ ?_)⟩;refine⟨_,rfl,_,_,_,true,rfl,.str z,EV,_,rfl,dk ?_⟩;refine⟨_,rfl,_,_,_,true,rfl,.str z,EV,_,rfl,dk ?_⟩;refine⟨_,rfl,_,rfl,rfl,?_⟩;rw[yN];exact q H (au.refl H)
theorem same_none:aG P w K mg base aK 0 f fd k_ (oS 0):=by
 have no:∀vs H Q E,¬oS 0 vs H Q E:=λvs H Q E h=>by
  obtain⟨_,_,_,_,_,z,_⟩:=h;omega
 exact⟨λvs H Q E h=>absurd h (no vs H Q E),λA outer s H args us vs Q E _ _ _ _ h=>absurd h (no vs H Q E)⟩
theorem Ma(F:aL K "_law_same" "_law_same" yv f fd)(bS:Binds K fd k_ [])(kS:keepIn K (.ref f)=true)(m:mg "_law_same"=some (.ref f))(bl:Bl mg):
  ∀n:Nat,aG P w K mg base aK n f fd k_ (oS n)
 |0=>same_none
 |n+1=>X9 F ⟨f,fd,Ma F bS kS m bl n,bS,kS,m⟩ bl
end
inductive Nk(K:ag)(vs:List V)(H:Hp)(Q:VK):Prop
 |mk (p:Addr) (ns:List Int) (aI:vs=[.ref p]) (aX:Row K H p ns) (bu:ns.length<64) (bW:∀H',au H H'->Q (.bl (full ns)) H'):Nk K vs H Q
def F5(K:ag):Sp:=λvs H Q _=>Nk K vs H Q
def bw(ys xs:List Int):List Int:=xs.map λx=>ys.getD x.toNat 0
theorem qi{ys:List Int}(h:full ys=true){x:Int}(hx:x∈ys):0<=x/\x<ys.length:=by
 have hm:=(oA h).subset hx;unfold aH at hm;obtain⟨i,hi,rfl⟩:=Yi.mp hm;have:=Wd.mp hi;omega
section
variable {K:ag}{mg:aN}{c:Addr}
abbrev iG:List Str:=["row"]
theorem Vq:aS iG iG (aJ DR):=.bc
theorem Vr(F:aL K "is_turn" "is_turn" DR f fd)(bl:Bl mg):aG P w K mg base aK 1 f fd iG (F5 K):=by
 refine F.o Vq @λbh A outer vs Q E s H hr h=>?_;obtain⟨p,ns,rfl,hR,f_,q⟩:=h;have hu:=hr.m8;refine⟨_,(aq (aV (di (gU (Zdk (K:=K) rfl rfl) rfl bl.Zcl ZaZ (aa (ku (x:="number") (fr:=[]) (cl:=[]) rfl (.gM trivial trivial) (ZaW (pv 0)) (λ_ _ _ _=>mV) (λ_ _ _ _=>(i8 K bl (pv 0) (iR rfl bl.zo yY)))) ai))) (aw (aP fh)) aZ) (aw (aP (eC (ZaX hu) (gU (sortedK (K:=K) rfl) rfl bl.yK yD (aa (pv 0) ai)) (fO (Ic rfl) rfl bl.qu qh (aa (fO CW rfl bl.kz yJ (aa (dI K bl (pv 0)) ai)) ai)))))),?_⟩;have hl:(ns.map V.int).length=ns.length:=Ya _;have rest:∀(D:Addr) (H1:Hp),au H H1->H1 D=some (.lst ((List.replicate ns.length false).map V.bl))->
   ∃(Qr:Addr) (bs:List Bool),[V.ref D]=[V.ref Qr]/\aj K H1 Qr (bs.map V.bl)/\tB (tC (V.bl (bs.any id))) [] H1 (λc H2=>if c=true then Q (.bl false) H2 else
    (Oa K false (nA 0)) [some (.ref p)] H2 Q):=λD H1 g1 h1=>by
  refine⟨D,_,rfl,aj.of h1,_,rfl,?_⟩;rw[any_false];refine cR ?_;exact XF rfl (Row.same g1 hR) f_ λH' g=>q H' (g1.trans g)
 have turn:∀(D:Addr),H D=none->∀(i:Nat) (v:V) (ys:List V) (H1:Hp),(ns.map V.int)[i]?=some v->(au H H1/\H1 D=some (.lst ys)/\ys=(List.replicate i false).map V.bl)->
   lY (z4 K) (jQ (nA 0) (jQ (tC (V.ty "bool")) kH)) [some v] H1 λy H3=>H3 D=some (.lst ys)/\ys.length<sizeLine/\
    (au H (upd H3 D (.lst (ys++[y])))/\upd H3 D (.lst (ys++[y])) D=some (.lst (ys++[y]))/\ys++[y]=(List.replicate (i+1) false).map V.bl):=λD hD i v ys H1 hi ⟨g,h1,e⟩=>by
  obtain⟨z,rfl,hz⟩:=mW hi;have dZ:i<ns.length:=(Yk.mp hz).1;refine⟨_,rfl,_,_,_,false,rfl,.int z,EU,h1,?_,λb o q=>?_,aW,?_⟩
  ·rw[e,Ya,Wx];exact mK (by omega)
  ·rw[aF (cN q hD)];exact g b o q
  ·rw[e,List.replicate_succ',Yq];rfl
 refine⟨_,rfl,p,rfl,?_⟩;rcases hR with xG|xG
 ·refine .inl ⟨⟨_,xG⟩,λD hD=>DM (xs:=ns.map V.int) (λi ys H1=>au H H1/\H1 D=some (.lst ys)/\ys=(List.replicate i false).map V.bl) ⟨cY hD _,aW,rfl⟩ (λi ys H1 _ ⟨g,_,_⟩=>g.seq xG) (λi v ys H1 hi h=>lR (dk (turn D hD i v ys H1 hi h))) ?_⟩;rintro ys H1 ⟨g,h1,e⟩;exact rest D H1 g (by rw[h1,e,hl])
 ·refine .inr ⟨⟨_,xG⟩,λD hD=>D6 (xs:=ns.map V.int) (λi ys H1=>au H H1/\H1 D=some (.lst ys)/\ys=(List.replicate i false).map V.bl) ⟨cY hD _,aW,rfl⟩ (λi ys H1 _ ⟨g,_,_⟩=>g.ju xG) (λi v ys H1 hi h=>lR (dk (turn D hD i v ys H1 hi h))) ?_⟩;rintro ys H1 ⟨g,h1,e⟩;exact rest D H1 g (by rw[h1,e,hl])
end
inductive Mb(K:ag)(vs:List V)(H:Hp)(Q:VK):Prop
 |mk (a b:Addr) (xs ys:List Int) (aI:vs=[.ref a,.ref b]) (aX:aE K H a (xs.map V.int)) (bu:aE K H b (ys.map V.int)) (bW:(∀x∈xs,0<=x/\x<ys.length)) (dq:xs.length<64) (gK:∀(t:Addr) (H':Hp),H t=none->au H H'->H' t=some (.tup ((bw ys xs).map V.int))->Q (.ref t) H'):Mb K vs H Q
def Fv(K:ag):Sp:=λvs H Q _=>Mb K vs H Q
section
variable {K:ag}{mg:aN}
abbrev lZ:List Str:=["first","then"]
theorem UE:aS lZ lZ (aJ Dx):=.bc
theorem UG(F:aL K "followed" "followed" Dx f fd)(bl:Bl mg):aG P w K mg base aK 1 f fd lZ (Fv K):=by
 refine F.o UE λs H hr h=>?_;obtain⟨a,b,xs,ys,rfl,hA,hB,xH,hl,q⟩:=h;have al:(bw ys xs).length=xs.length:=by unfold bw;rw[Ya]
 refine⟨_,(aw (aP (fO (Ib) rfl bl.tL tG (aa (ku (x:="section") (fr:=[("then",1)]) (cl:=[("then",s.heap.objs.size+1)]) rfl (.gM ⟨rfl,trivial⟩ ⟨⟨rfl,.inl rfl,.inl rfl,rfl⟩,trivial⟩) (MK (pv 0)) (λ_ _ _ _=>mV) (λ_ _ _ _=>(a8 (iT K) (pv 1) (pv 0)))) ai)))),?_⟩;refine⟨_,rfl,a,rfl,⟨_,hA⟩,λD hD=>D6 (xs:=xs.map V.int) (λi zs H3=>au H H3/\H3 D=some (.lst zs)/\zs=((bw ys xs).take i).map V.int) ⟨cY hD _,aW,rfl⟩ (λi zs H3 _ ⟨g3,_,_⟩=>g3.ju hA) ?_ ?_⟩
 ·rintro i v zs H3 hi ⟨g3,h3,e3⟩;obtain⟨z,rfl,hz⟩:=mW hi;have bz:=xH z (Ys hz);refine lR (dk ⟨_,rfl,_,rfl,b,_,_,_,rfl,rfl,g3.ju hB,oR bz.1 bz.2,h3,?_,λd o qd=>?_,aW,?_⟩)
  ·rw[e3,Ya,Wh,al];exact mK (by omega)
  ·rw[aF (cN qd hD)];exact g3 d o qd
  ·rw[e3,Y6,V7];unfold bw;rw[Yg,hz];rfl
 ·rintro zs H3 ⟨g3,h3,e3⟩;refine⟨D,_,rfl,.inl ⟨aj.of h3,λt ht=>q t _ (g3.free ht) (g3.trans (cY ht _)) ?_⟩⟩;show upd H3 t (.tup zs) t=_;rw[aW,e3,Ya,J0 (by rw[al];omega)]
end
def jU(x:Int):List Int->Nat
 |[]=>0
 |y::r=>if y=x then 0 else jU x r+1
theorem Eb{x:Int}:∀{l:List Int},x∈l->l[jU x l]?=some x/\∀m,m<jU x l->l[m]?≠some x
 |[],h=>by cases h
 |y::r,h=>by
  unfold jU;by_cases e:y=x;·grind
  ·rw[if_neg e];obtain⟨h1,h2⟩:=Eb ((Yp.mp h).resolve_left λz=>e z.symm);refine⟨by rw[List.getElem?_cons_succ];exact h1,λm hm=>?_⟩;cases m with
   |zero=>grind
   |succ m=>grind
theorem vE{l:List Int}(nd:l.Nodup){k:Nat}{x:Int}(h:l[k]?=some x):jU x l=k:=by
 obtain⟨h1,h2⟩:=Eb (Ys h);exact(List.getElem?_inj (by rcases Yk.mp h1 with⟨z,_⟩;exact z) nd).mp (h1.trans h.symm)
def inv(xs:List Int):List Int:=(aH xs.length).map λi=>(jU i xs:Int)
theorem gS(xs:List Int):(inv xs).length=xs.length:=by unfold inv;rw[Ya,eZ]
theorem vP{xs:List Int}{i:Nat}(h:i<xs.length):(inv xs)[i]?=some (jU (i:Int) xs:Int):=by
 unfold inv;rw[Yg,jK h];rfl
theorem vy{xs:List Int}(h:full xs=true):xs.Nodup:=(oA h).nodup_iff.mpr (GH.IQ _)
theorem X_{xs:List Int}(h:full xs=true){i:Nat}(hi:i<xs.length):(i:Int)∈xs:=(oA h).symm.subset (Ys (jK hi))
theorem lJ{xs:List Int}(h:full xs=true):full (inv xs)=true:=by
 have p:(xs.map λi=>(jU i xs:Int)).Perm (inv xs):=(oA h).map _;have e:xs.map (λi=>(jU i xs:Int))=aH xs.length:=by
  refine Ws λi=>?_;rw[Yg];by_cases hi:i<xs.length
  ·rw[jK hi,Yb hi];show some (jU xs[i] xs:Int)=some (i:Int);rw[vE (vy h) (Yb hi)]
  ·rw[Y1 (by omega),Y1 (by rw[eZ];omega)];rfl
 rw[e] at p;exact oM p.symm
theorem inv_inv{xs:List Int}(h:full xs=true):inv (inv xs)=xs:=by
 refine Ws λi=>?_;by_cases hi:i<xs.length
 ·rw[vP (by rw[gS];exact hi),Yb hi];have b:=qi h (Wi hi);have hk:(xs[i]).toNat<xs.length:=by omega
  have e:((xs[i].toNat:Nat):Int)=xs[i]:=by omega
  have g:(inv xs)[(xs[i]).toNat]?=some (i:Int):=by rw[vP hk,e,vE (vy h) (Yb hi)]
  rw[vE (vy (lJ h)) g,e]
 ·rw[Y1 (by rw[gS,gS];omega),Y1 (by omega)]
theorem YA{xs:List Int}{i:Nat}(hi:i<xs.length):(inv xs).take (i+1)=(inv xs).take i++[(jU (i:Int) xs:Int)]:=by
 rw[Y6,vP hi];rfl
inductive Nl(vs:List V)(H:Hp)(Q:VK):Prop
 |mk (a:Addr) (xs:List Int) (aI:vs=[.ref a]) (aX:H a=some (.tup (xs.map V.int))) (bu:xs.length<64) (bW:full xs=true) (dq:∀(t:Addr) (H':Hp),H t=none->au H H'->H' t=some (.tup ((inv xs).map V.int))->Q (.ref t) H'):Nl vs H Q
def z9:Sp:=λvs H Q _=>Nl vs H Q
section
variable {K:ag}{mg:aN}
abbrev l4:List Str:=["turn"]
theorem S4:aS l4 l4 (aJ Co):=.bc
theorem S5(F:aL K "turned_back" "turned_back" Co f fd)(bl:Bl mg):aG P w K mg base aK 1 f fd l4 z9:=by
 refine F.ok S4 (λvs H Q E h=>?_) (λbh A outer s H1 vs Q E hr h=>?_)
 ·obtain⟨a,xs,rfl,_⟩:=h;rfl
 obtain⟨a,xs,rfl,hA,lx,fx,q⟩:=h;refine⟨_,(aw (aP (fO (Ib) rfl bl.tL tG (aa (ku (x:="section") (fr:=[("turn",0)]) (cl:=[("turn",s.heap.objs.size+1)]) rfl (.gM ⟨rfl,trivial⟩ ⟨⟨rfl,.inl rfl,.inl rfl,rfl⟩,trivial⟩) (qa rfl bl.kz (aa (dI K bl (pv 0)) ai)) (λ_ _ _ _=>mV) (λ_ _ _ _=>(Uz (pv 1) (aa (pv 0) ai)))) ai)))),?_⟩;have el:(xs.map V.int).length=xs.length:=Ya _;refine⟨_,rfl,a,_,rfl,.inr (aE.of hA),_,rfl,by rw[el];omega,by rw[el];omega,λD hD=>Du (lo:=0) (n:=(((xs.map V.int).length:Nat):Int).toNat)
   (λi zs H2=>au H1 H2/\H2 D=some (.lst zs)/\zs=((inv xs).take i).map V.int) ⟨cY hD _,aW,rfl⟩ ?_ ?_⟩
 ·rintro i zs H2 hi ⟨g2,h2,e2⟩;rw[Y5,el] at hi;rw[G3];have hx:=Eb (X_ fx hi);have Qs:=g2 _ _ hA;refine lR (dk ⟨_,rfl,a,xs,rfl,Qs,_,rfl,(i:Int),jU (i:Int) xs,rfl,Qs,hx.1,hx.2,h2,?_,λd o qd=>?_,aW,?_⟩)
  ·rw[e2,Ya,Wh,gS];exact mK (by omega)
  ·rw[aF (cN qd hD)];exact g2 d o qd
  ·rw[e2,YA hi,Yq];rfl
 ·rintro zs H2 ⟨g2,h2,e2⟩;refine⟨D,_,rfl,.inl ⟨aj.of h2,λt ht=>q t _ (g2.free ht) (g2.trans (cY ht _)) ?_⟩⟩;rw[aW,e2,Y5,el,J0 (by rw[gS];omega)]
end
inductive Kh(vs:List V)(H:Hp)(Q:VK):Prop
 |mk (n:Nat) (aI:vs=[.int (n:Int)]) (aX:n<=1000) (bu:∀(t:Addr) (H':Hp),H t=none->au H H'->H' t=some (.tup ((aH n).map V.int))->Q (.ref t) H'):Kh vs H Q
def Ex:Sp:=λvs H Q _=>Kh vs H Q
section
variable {K:ag}{mg:aN}{c:Addr}
theorem YB:aS ["size"] ["size"] (aJ Ew):=.bc
theorem YC(F:aL K "still" "still" Ew f fd)(bl:Bl mg):aG P w K mg base aK 1 f fd ["size"] Ex:=by
 refine F.o YB λs H hr h=>?_;obtain⟨n,rfl,hn,q⟩:=h;refine⟨_,(aw (aP (fO (H_ rfl) rfl bl.tL tG (aa (fO CW rfl bl.kz yJ (aa (pv 0) ai)) ai)))),?_⟩;exact⟨_,rfl,_,rfl,λr AQ=>⟨r,n,rfl,aW,hn,λt ht=>q t _ ((cY AQ _).free ht) ((cY AQ _).trans (cY ht _)) aW⟩⟩
end
inductive Mc(K:ag)(vs:List V)(H:Hp)(Q:VK):Prop
 |mk (p:Addr) (ns:List Int) (aI:vs=[.ref p]) (aX:aE K H p (ns.map V.int)) (bu:ns.length<64) (bW:full ns=true) (dq:∀H',au H H'->Q .aA H'):Mc K vs H Q
def Fw(K:ag):Sp:=λvs H Q _=>Mc K vs H Q
inductive Nm(K:ag)(vs:List V)(H:Hp)(Q:VK):Prop
 |mk (a b:Addr) (xs ys:List Int) (aI:vs=[.ref a,.ref b]) (aX:aE K H a (xs.map V.int)) (bu:aE K H b (ys.map V.int)) (bW:xs.length<64) (dq:full xs=true) (gK:full ys=true) (kW:xs.length=ys.length) (l6:∀(t:Addr) (H':Hp),H t=none->au H H'->H' t=some (.tup ((bw ys xs).map V.int))->Q (.ref t) H'):Nm K vs H Q
def F6(K:ag):Sp:=λvs H Q _=>Nm K vs H Q
inductive Nn(vs:List V)(H:Hp)(Q:VK):Prop
 |mk (a:Addr) (xs:List Int) (aI:vs=[.ref a]) (aX:H a=some (.tup (xs.map V.int))) (bu:xs.length<64) (bW:full xs=true) (dq:∀(t:Addr) (H':Hp),H t=none->au H H'->H' t=some (.tup ((inv xs).map V.int))->Q (.ref t) H'):Nn vs H Q
def OZ:Sp:=λvs H Q _=>Nn vs H Q
inductive K0(K:ag)(vs:List V)(H:Hp)(Q:VK):Prop
 |mk (l a0:Addr) (as:List Addr) (n:Nat) (aI:vs=[.ref l]) (aX:aj K H l ((a0::as).map V.ref)) (bu:2<=n) (bW:n<=8) (dq:(∀a∈a0::as,∃xs:List Int,aE K H a (xs.map V.int)/\xs.length=n/\full xs=true)) (gK:∀H',au H H'->Q .aA H'):K0 K vs H Q
def E6(K:ag):Sp:=λvs H Q _=>K0 K vs H Q
inductive IC(K:ag)(vs:List V)(H:Hp)(Q:VK):Prop
 |mk (m f w:Addr) (xs ys:List Int) (aI:vs=[.ref m,.ref f,.ref w]) (aX:aE K H m (xs.map V.int)) (bu:aE K H f ((bw xs ys).map V.int)) (bW:aE K H w (ys.map V.int)) (dq:full xs=true) (gK:full ys=true) (kW:xs.length=ys.length) (l6:xs.length<=8) (uD:∀H',au H H'->Q .aA H'):IC K vs H Q
def Ki(K:ag):Sp:=λvs H Q _=>IC K vs H Q
theorem I0(xs ys:List Int):(bw xs ys).length=ys.length:=by unfold bw;rw[Ya]
theorem YD{xs ys:List Int}(fx:full xs=true)(fy:full ys=true)(e:xs.length=ys.length):full (bw xs ys)=true:=by
 have p1:(bw xs ys).Perm ((aH ys.length).map λx=>xs.getD x.toNat 0):=(oA fy).map _;have e2:((aH ys.length).map λx=>xs.getD x.toNat 0)=xs:=by
  refine Ws λi=>?_;rw[Yg];by_cases hi:i<ys.length
  ·rw[jK hi]
   grind
  ·rw[Y1 (by rw[eZ];omega),Y1 (by omega)];rfl
 rw[e2] at p1;exact oM (p1.trans (oA fx))
abbrev ZcD(n:Nat)(m f w d:Addr):List (Str×V):=[("size",.int (n:Int)),("mother",.ref m),("father",.ref f),("wife",.ref w),("steps",.ref d)]
abbrev qy(m f w im jf iw st:Addr):List (Key×V):=[(.inr "c",.ref m),(.inr "k",.ref f),(.inr "w",.ref w),(.inr "m",.ref im),(.inr "f",.ref jf),(.inr "h",.ref iw),(.inr "s",.ref st)]
def dw(H:Hp)(a:Addr)(ns:List Int):Prop:=H a=some (.tup (ns.map V.int))
inductive K1(H:Hp)(C L:Addr)(xs ys:List Int):Prop
 |mk (dx d m f w im jf iw st:Addr) (aI:H L=some (.ins C dx (ZcD xs.length m f w d))) (aX:H d=some (.dK (qy m f w im jf iw st))) (bu:dw H m xs) (bW:dw H f (bw xs ys)) (dq:dw H w ys) (gK:dw H im (inv xs)) (kW:dw H jf (inv (bw xs ys))) (l6:dw H iw (inv ys)) (uD:dw H st (aH xs.length)):K1 H C L xs ys
def fL(H:Hp)(C L:Addr)(xs ys:List Int):Prop:=K1 H C L xs ys
theorem fL.same{H H':Hp}{C L:Addr}{xs ys:List Int}(g:au H H')(h:fL H C L xs ys):fL H' C L xs ys:=by
 obtain⟨dx,d,m,f,w,im,jf,iw,st,h1,h2,h3,h4,h5,h6,h7,h8,h9⟩:=h;exact⟨dx,d,m,f,w,im,jf,iw,st,g _ _ h1,g _ _ h2,g _ _ h3,g _ _ h4,g _ _ h5,g _ _ h6,g _ _ h7,g _ _ h8,g _ _ h9⟩
inductive K2(C:Addr)(vs:List V)(H:Hp)(Q:VK):Prop
 |mk (x dx m f w:Addr) (xs ys:List Int) (aI:vs=[.ref x,.ref m,.ref f,.ref w]) (aX:H x=some (.ins C dx [])) (bu:dw H m xs) (bW:dw H f (bw xs ys)) (dq:dw H w ys) (gK:full xs=true) (kW:full ys=true) (l6:xs.length=ys.length) (uD:2<=xs.length) (G4:xs.length<=8) (O0:∀H',(∀b o,H b=some o->b≠x->H' b=some o)->fL H' C x xs ys->Q .aA H'):K2 C vs H Q
def Np(C:Addr):Sp:=λvs H Q _=>K2 C vs H Q
inductive I_(C:Addr)(vs:List V)(H:Hp)(Q:VK):Prop
 |mk (m w:Addr) (xs ys:List Int) (aI:vs=[.ref m,.ref w]) (aX:dw H m xs) (bu:dw H w ys) (bW:full xs=true) (dq:full ys=true) (gK:xs.length=ys.length) (kW:2<=xs.length) (l6:xs.length<=8) (uD:∀(L:Addr) (H':Hp),au H H'->fL H' C L xs ys->Q (.ref L) H'):I_ C vs H Q
def K3(C:Addr):Sp:=λvs H Q _=>I_ C vs H Q
structure wg(K:ag)(C:Addr):Prop where
 cls:fw K C
 tT:cu K C "size"
 YE:cu K C "mother"
 YF:cu K C "father"
 ZbK:cu K C "wife"
 Ey:cu K C "steps"
section
variable {K:ag}{mg:aN}{c:Addr}
theorem Tp:aS iG iG (aJ CB):=.bc
theorem ZbL(F:aL K "check_turn" "check_turn" CB f fd)(sZ:HasFn P w K mg base 1 "is_turn" iG (F5 K)):aG P w K mg base aK 2 f fd iG (Fw K):=by
 refine F.o Tp λs H hr h=>?_;obtain⟨p,ns,rfl,hT,f_,fl,q⟩:=h;refine⟨_,(aw (aV (eQ (di (aY sZ hr (aa (pv 0) ai)))) fG aZ)),?_⟩;refine⟨_,rfl,p,ns,rfl,.inr hT,f_,λH1 g=>⟨_,rfl,?_⟩⟩;rw[fl];exact cR (q H1 g)
theorem WQ:aS lZ lZ (aJ D9):=.bc
theorem ZcE(F:aL K "behind" "behind" D9 f fd)(pX:HasFn P w K mg base 2 "check_turn" iG (Fw K))(oy:HasFn P w K mg base 1 "followed" lZ (Fv K))(bl:Bl mg):aG P w K mg base aK 3 f fd lZ (F6 K):=by
 refine F.o WQ λs H hr h=>?_;obtain⟨a,b,xs,ys,rfl,hA,hB,lx,fx,fy,eq,q⟩:=h;refine⟨_,(aq (cq (aY pX hr (aa (pv 0) ai))) (aq (cq (aY pX hr (aa (pv 1) ai))) (aq (aV (bP jP (dI K bl (pv 0)) (dI K bl (pv 1))) fG aZ) (aw (aP (aY oy hr (aa (pv 0) (aa (pv 1) ai)))))))),?_⟩;refine⟨_,rfl,a,xs,rfl,hA,lx,fx,λH1 g1=>?_⟩;refine⟨_,rfl,b,ys,rfl,g1.ju hB,by omega,fy,λH2 g2=>?_⟩;have g:=g1.trans g2;have Qt:=g.ju hA;have Qu:=g.ju hB;have el:∀zs:List Int,(zs.map V.int).length=zs.length:=λzs=>Ya _;refine⟨_,rfl,a,_,rfl,.inr Qt,_,rfl,b,_,rfl,.inr Qu,rfl,_,rfl,tX (by rw[el,el,eq]) (a_ ?_)⟩;exact⟨_,rfl,_,rfl,a,b,xs,ys,rfl,Qt,Qu,λz hz=>by rw[←eq];exact qi fx hz,lx,λt H3 nt g3 ht=>q t H3 (g.free nt) (g.trans g3) ht⟩
theorem Z1:aS l4 l4 (aJ E5):=.bc
theorem ZcF(F:aL K "back" "back" E5 f fd)(pX:HasFn P w K mg base 2 "check_turn" iG (Fw K))(mw:HasFn P w K mg base 1 "turned_back" l4 z9)(bl:Bl mg):aG P w K mg base aK 3 f fd l4 OZ:=by
 refine F.o Z1 λs H hr h=>?_;obtain⟨a,xs,rfl,hA,lx,fx,q⟩:=h;refine⟨_,(aq (cq (aY pX hr (aa (pv 0) ai))) (aw (aP (aY mw hr (aa (pv 0) ai))))),?_⟩;refine⟨_,rfl,a,xs,rfl,aE.of hA,lx,fx,λH1 g1=>?_⟩;exact⟨_,rfl,a,xs,rfl,g1 _ _ hA,lx,fx,λt H2 nt g2 ht=>q t H2 (g1.free nt) (g1.trans g2) ht⟩
theorem Cu:aS ["rows","size","row"] ["rows"] (aJ CC):=.bc
theorem Z2(F:aL K "check_rows" "check_rows" CC f fd)(sZ:HasFn P w K mg base 1 "is_turn" iG (F5 K)){t1 t2:Tok}(CN:mg "LEAST_SIZE"=some (.int 2 t1))(Dc:mg "MOST_SIZE"=some (.int 8 t2))(bl:Bl mg):aG P w K mg base aK 2 f fd ["rows"] (E6 K):=by
 refine F.o Cu λs H hr h=>?_;obtain⟨l,a0,as,n,rfl,hL,n2,n8,rows,q⟩:=h;refine⟨_,(aq (bM 1 Cu.nd (dI K bl (a8 (iL K) (pv 0) aO))) (aq (aV (PW.pt (pw_or (bP wb (pv 1) (df (v:=.int (2)) rfl CN ⟨_,rfl⟩)) (pw_or1 (bP Fl (pv 1) (df (v:=.int (8)) rfl Dc ⟨_,rfl⟩))))) fG aZ) (aw (jd PassesOwn.never rfl (gW (K:=K) rfl (pv 0)) (cE 2 Cu.nd) (aw (aV (PW.pt (pw_or (bP jP (dI K bl (pv 2)) (pv 1)) (pw_or1 (eQ (di (aY sZ hr (aa (pv 2) ai))))))) fG aZ)))))),?_⟩;have el:∀zs:List Int,(zs.map V.int).length=zs.length:=λzs=>Ya _;obtain⟨x0,h0,l0,f0⟩:=rows a0 Yh;refine⟨_,rfl,l,_,0,.ref a0,rfl,rfl,hL,bY (j:=0) rfl,a0,_,rfl,.inr h0,?_⟩;rw[el,l0];refine⟨_,rfl,_,_,rfl,rfl,_,rfl,bb (λcc=>absurd (of_decide_eq_true cc) (by omega)) (λ_=>?_)⟩;refine⟨_,rfl,_,_,rfl,rfl,_,rfl,bb (λcc=>absurd (of_decide_eq_true cc) (by omega)) (λ_=>a_ ?_)⟩;refine⟨_,rfl,l,rfl,⟨_,hL⟩,qe (xs:=(a0::as).map V.ref) (λi σ H1=>au H H1/\∃o2:Option V,σ=[some (.ref l),some (.int (n:Int)),o2]) ⟨au.refl _,none,rfl⟩ (λi σ H1 _ ⟨g,_⟩=>g.seq hL) ?_ ?_⟩
 ·rintro i v σ H1 hi ⟨g,o2,rfl⟩;rw[Yg] at hi;obtain⟨a,ha,rfl⟩:∃a,a∈a0::as/\V.ref a=v:=by
   cases e:(a0::as)[i]? with
   |none=>rw[e] at hi;cases hi
   |some a=>grind
  obtain⟨xs,hx,lx,fx⟩:=rows a ha;refine⟨_,rfl,a,_,rfl,.inr (g.ju hx),_,rfl,rfl,_,rfl,tX (by rw[el,lx]) ?_⟩;refine⟨_,rfl,a,xs,rfl,.inr (g.ju hx),by omega,λH2 g2=>⟨_,rfl,?_⟩⟩;rw[fx];exact cR (a_ ⟨g.trans g2,_,rfl⟩)
 ·rintro σ H1 ⟨g,o2,rfl⟩;exact q H1 g
abbrev G5:List Str:=["mother","father","wife"]
theorem BU:aS ["mother","father","wife","by_mothers","section"] G5 (aJ BX):=.bc
theorem Vs(F:aL K "check_parents" "check_parents" BX f fd)(tH:HasFn P w K mg base 3 "behind" lZ (F6 K))(bl:Bl mg):aG P w K mg base aK 4 f fd G5 (Ki K):=by
 refine F.o BU λs H hr h=>?_;obtain⟨m,fa,wi,xs,ys,rfl,hM,hF,hW,fx,fy,eq,l8,q⟩:=h;refine⟨_,(aq (bM 3 BU.nd (aY tH hr (aa (pv 2) (aa (pv 0) ai)))) (aw (jd PassesOwn.never rfl (qa rfl bl.kz (aa (dI K bl (pv 1)) ai)) (cE 4 BU.nd) (aw (aV (bP jP (a8 (iT K) (pv 3) (pv 4)) (a8 (iT K) (pv 1) (pv 4))) fG aZ))))),?_⟩;have el:∀zs:List Int,(zs.map V.int).length=zs.length:=λzs=>Ya _;refine⟨_,rfl,_,rfl,wi,m,ys,xs,rfl,hW,hM,by omega,fy,fx,eq.symm,λt H1 nt g ht=>?_⟩;have al:=I0 xs ys;refine⟨_,rfl,fa,_,rfl,.inr (g.ju hF),_,rfl,by rw[el];omega,by rw[el];omega,yB (lo:=0) (n:=((((bw xs ys).map V.int).length:Nat):Int).toNat)
  (λi σ H2=>H2=H1/\∃o4:Option V,σ=[some (.ref m),some (.ref fa),some (.ref wi),some (.ref t),o4]) ⟨rfl,none,rfl⟩ ?_ ?_⟩
 ·rintro i σ H2 hi ⟨rfl,o4,rfl⟩;rw[Y5,el] at hi;have at_:dy ((bw xs ys).map V.int) (0+(i:Int))=some (.int ((bw xs ys).getD (0+(i:Int)).toNat 0)):=oR (by omega) (by omega);refine⟨_,rfl,_,rfl,t,_,_,_,rfl,rfl,aE.of ht,at_,_,rfl,_,rfl,fa,_,_,_,rfl,rfl,g.ju hF,at_,rfl,_,rfl,tX rfl (a_ ⟨rfl,_,rfl⟩)⟩
 ·rintro σ H2 ⟨rfl,o4,rfl⟩;exact q _ g
end
theorem uE{f:Str}{y:V}{fs:List (Str×V)}{n:Nat}(h:fs.length<=n):(cw f y fs).length<=n+1:=Yz (CT f y fs) (Qv h)
theorem fs4(a b c d:V):cw "wife" d (cw "father" c (cw "mother" b (cw "size" a [])))=([("size",a),("mother",b),("father",c),("wife",d)]:List (Str×V)):=rfl
theorem fs5(a b c d e:V):cw "steps" e [("size",a),("mother",b),("father",c),("wife",d)]=([("size",a),("mother",b),("father",c),("wife",d),("steps",e)]:List (Str×V)):=rfl
theorem ds7(a b c d e f g:V):qw [] [(.inr "c",a),(.inr "k",b),(.inr "w",c),(.inr "m",d),(.inr "f",e),(.inr "h",f),(.inr "s",g)]=[(.inr "c",a),(.inr "k",b),(.inr "w",c),(.inr "m",d),(.inr "f",e),(.inr "h",f),(.inr "s",g)]:=rfl
section
variable {K:ag}{mg:aN}{c:Addr}
abbrev AR:List Str:=["self","mother","father","wife"]
theorem T5:aS AR AR (aJ C6):=.bc
theorem Z3(F:aL K "__init__" "Land.__init__" C6 f fd)(lc:wg K C)(sI:HasFn P w K mg base 2 "check_rows" ["rows"] (E6 K))(B4:HasFn P w K mg base 4 "check_parents" G5 (Ki K))
  (v8:HasFn P w K mg base 3 "back" l4 OZ)(tN:HasFn P w K mg base 1 "still" ["size"] Ex)(bl:Bl mg):aG P w K mg base aK 5 f fd AR (Np C):=by
 refine F.o T5 λs H hr h=>?_;obtain⟨x,dx,m,fa,wi,xs,ys,rfl,hx,hM,hF,hW,fx,fy,eq,l2,l8,q⟩:=h;refine⟨_,(aq (cq (aY sI hr (aa (EM (aa (pv 1) (aa (pv 2) (aa (pv 3) ai)))) ai))) (aq (cq (aY B4 hr (aa (pv 1) (aa (pv 2) (aa (pv 3) ai))))) (aq (vU (pv 0) (dI K bl (pv 1)) rfl) (aq (vU (pv 0) (pv 1) rfl) (aq (vU (pv 0) (pv 2) rfl) (aq (vU (pv 0) (pv 3) rfl) (aw (vU (pv 0) (LX (oC bR (pv 1) (oC bR (pv 2) (oC bR (pv 3) (oC bR (aY v8 hr (aa (pv 1) ai)) (oC bR (aY v8 hr (aa (pv 2) ai)) (oC bR (aY v8 hr (aa (pv 3) ai)) (oC bR (aY tN hr (aa (dI K bl (pv 1)) ai)) LW))))))) rfl rfl (λz=>nomatch z) (Nat.le_of_ble_eq_true rfl)) rfl)))))))),?_⟩;have el:∀zs:List Int,(zs.map V.int).length=zs.length:=λzs=>Ya _;have Qw:=YD fx fy eq;have al:=I0 xs ys;refine⟨_,rfl,_,rfl,_,rfl,by show 3<=sizeLine;decide,λl nl=>?_⟩;have g1:=cY nl (.lst [.ref m,.ref fa,.ref wi]);refine⟨l,m,[fa,wi],xs.length,rfl,aj.of aW,l2,l8,λa ha=>?_,λH2 g2=>?_⟩
 ·rcases Yp.mp ha with rfl|ha;·exact⟨xs,aE.of (g1 _ _ hM),rfl,fx⟩
  ·rcases Yp.mp ha with rfl|ha;·exact⟨bw xs ys,aE.of (g1 _ _ hF),by rw[al,eq],Qw⟩
   ·rw[Yr] at ha;subst ha;exact⟨ys,aE.of (g1 _ _ hW),eq.symm,fy⟩
 have pO:=g1.trans g2;refine⟨_,rfl,_,rfl,_,rfl,m,fa,wi,xs,ys,rfl,aE.of (pO _ _ hM),aE.of (pO _ _ hF),aE.of (pO _ _ hW),fx,fy,eq,l8,λH3 g3=>?_⟩;have g:=pO.trans g3;have AS:=g _ _ hx;have AU:=g _ _ hM;have G6:=g _ _ hF;have G7:=g _ _ hW;have nm:m≠x:=λe=>by rw[e,AS] at AU;cases AU
 have nf:fa≠x:=λe=>by rw[e,AS] at G6;cases G6
 have nw:wi≠x:=λe=>by rw[e,AS] at G7;cases G7
 refine⟨_,rfl,m,_,rfl,.inr (aE.of AU),_,rfl,x,C,dx,_,rfl,AS,lc.cls,lc.tT,by decide,?_⟩;refine⟨_,rfl,_,rfl,x,C,dx,_,rfl,aW,lc.cls,lc.YE,W8 (uE (Ye 0)) (by decide),?_⟩;refine⟨_,rfl,_,rfl,x,C,dx,_,rfl,aW,lc.cls,lc.YF,W8 (uE (uE (Ye 0))) (by decide),?_⟩;refine⟨_,rfl,_,rfl,x,C,dx,_,rfl,aW,lc.cls,lc.ZbK,W8 (uE (uE (uE (Ye 0)))) (by decide),?_⟩;rw[En,En,En,el,fs4];have G8:upd H3 x (.ins C dx [("size",.int (xs.length:Int)),("mother",.ref m),("father",.ref fa),("wife",.ref wi)]) x=some (.ins C dx [("size",.int (xs.length:Int)),("mother",.ref m),("father",.ref fa),("wife",.ref wi)]):=aW;have o4:∀b o,H3 b=some o->b≠x->upd H3 x (.ins C dx [("size",.int (xs.length:Int)),("mother",.ref m),("father",.ref fa),("wife",.ref wi)]) b=some o:=λb o e n=>by rw[aF n];exact e
 generalize upd H3 x (.ins C dx [("size",.int (xs.length:Int)),("mother",.ref m),("father",.ref fa),("wife",.ref wi)])=H4 at G8 o4⊢;have G9:=o4 _ _ AU nm;have Qx:=o4 _ _ G6 nf;have Qy:=o4 _ _ G7 nw;intro d nd;have g5:=cY nd (.dK []);have G_:upd H4 d (.dK []) d=some (.dK []):=aW;generalize upd H4 d (.dK [])=H5 at g5 G_⊢;refine⟨_,rfl,_,rfl,_,rfl,?_⟩;refine⟨_,rfl,m,xs,rfl,g5 _ _ G9,by omega,fx,λim H6 nim g6 him=>?_⟩;refine⟨_,rfl,fa,bw xs ys,rfl,g6 _ _ (g5 _ _ Qx),by omega,Qw,λjf H7 njf g7 hjf=>?_⟩;refine⟨_,rfl,wi,ys,rfl,g7 _ _ (g6 _ _ (g5 _ _ Qy)),by omega,fy,λiw H8 niw g8 hiw=>?_⟩;have Qz:=(g6.trans g7).trans g8;refine⟨_,rfl,m,_,rfl,.inr (aE.of (Qz _ _ (g5 _ _ G9))),xs.length,by rw[el];rfl,by omega,λst H9 nst g9 dm=>?_⟩;have rN:=Qz.trans g9;refine⟨rN _ _ G_,qy m fa wi im jf iw st,rfl,by show 7<=15;decide,?_⟩;have iH:d≠x:=cN G8 nd |>.symm;have QA:=rN _ _ (g5 _ _ G8);refine⟨_,rfl,x,C,dx,_,rfl,by rw[aF iH.symm];exact QA,lc.cls,lc.Ey,by show 4<1000;decide,?_⟩;rw[fs5,ds7];have key:∀{b:Addr} {o:HO},H9 b=some o->b≠d->b≠x->upd (upd H9 d (.dK (qy m fa wi im jf iw st))) x (.ins C dx [("size",.int (xs.length:Int)),("mother",.ref m),("father",.ref fa),("wife",.ref wi),("steps",.ref d)]) b=some o:=λ{b o} e n1 n2=>by
  rw[aF n2,aF n1];exact e
 have qV:∀{b:Addr} {zs:List Int},H9 b=some (.tup (zs.map V.int))->dw (upd (upd H9 d (.dK (qy m fa wi im jf iw st))) x (.ins C dx [("size",.int (xs.length:Int)),("mother",.ref m),("father",.ref fa),("wife",.ref wi),("steps",.ref d)])) b zs:=λ{b zs} e=>
  key e (λz=>by rw[z,rN _ _ G_] at e;cases e) (λz=>by rw[z,QA] at e;cases e)
 refine q _ (λb o e n=>?_) ⟨dx,d,m,fa,wi,im,jf,iw,st,aW,by rw[aF iH];exact aW,qV (rN _ _ (g5 _ _ G9)),qV (rN _ _ (g5 _ _ Qx)),qV (rN _ _ (g5 _ _ Qy)),qV (g9 _ _ (g8 _ _ (g7 _ _ him))),qV (g9 _ _ (g8 _ _ hjf)),qV (g9 _ _ hiw),qV dm⟩;have e4:=o4 _ _ (g _ _ e) n;refine key (rN _ _ (g5 _ _ e4)) (cN e4 nd) n
abbrev z_:List Str:=["mother","wife"]
theorem Vu:aS z_ z_ (aJ DS):=.bc
theorem Vv(F:aL K "land_of" "land_of" DS f fd)(sI:HasFn P w K mg base 2 "check_rows" ["rows"] (E6 K))(tH:HasFn P w K mg base 3 "behind" lZ (F6 K))
  (E7:tZ P w K mg base 5 "Land" C AR (Np C)):aG P w K mg base aK 7 f fd z_ (K3 C):=by
 refine F.o Vu λs H hr h=>?_;obtain⟨m,wi,xs,ys,rfl,hM,hW,fx,fy,eq,l2,l8,q⟩:=h;refine⟨_,(aq (cq (aY sI hr (aa (EM (aa (pv 0) (aa (pv 1) ai))) ai))) (aw (aP (Fq E7 hr (by omega) rfl (aa (pv 0) (aa (aY tH hr (aa (pv 1) (aa (pv 0) ai))) (aa (pv 1) ai))))))),?_⟩;refine⟨_,rfl,_,rfl,by show 2<=sizeLine;decide,λl nl=>?_⟩;have g1:=cY nl (.lst [.ref m,.ref wi]);refine⟨l,m,[wi],xs.length,rfl,aj.of aW,l2,l8,λa ha=>?_,λH2 g2=>?_⟩
 ·rcases Yp.mp ha with rfl|ha;·exact⟨xs,aE.of (g1 _ _ hM),rfl,fx⟩
  ·rw[Yr] at ha;subst ha;exact⟨ys,aE.of (g1 _ _ hW),eq.symm,fy⟩
 have g:=g1.trans g2;refine⟨_,rfl,_,rfl,_,rfl,wi,m,ys,xs,rfl,aE.of (g _ _ hW),aE.of (g _ _ hM),by omega,fy,fx,eq.symm,λfa H3 QB g3 dv=>?_⟩;have fD:=g.trans g3;refine⟨_,rfl,λx dx nx xI ne=>?_⟩;have xJ:upd H3 dx (.own x) x=none:=by rw[aF (λz=>ne z.symm)];exact nx
 have g4:au H3 (upd (upd H3 dx (.own x)) x (.ins C dx [])):=(cY xI _).trans (cY xJ _);refine⟨x,dx,m,fa,wi,xs,ys,rfl,aW,g4 _ _ (fD _ _ hM),g4 _ _ dv,g4 _ _ (fD _ _ hW),fx,fy,eq,l2,l8,λH5 k5 la=>⟨rfl,q x H5 (λb o e=>?_) la⟩⟩;have e3:=fD _ _ e;exact k5 b o (g4 _ _ e3) (cN e3 nx)
end
abbrev E8(xs ys:List Int):List (Str×List Int):=[("c",xs),("k",bw xs ys),("w",ys),("m",inv xs),("f",inv (bw xs ys)),("h",inv ys),("s",aH xs.length)]
inductive K4(C:Addr)(vs:List V)(H:Hp)(Q:VK):Prop
 |mk (L:Addr) (z:Str) (xs ys ns:List Int) (aI:vs=[.ref L,.str z]) (aX:fL H C L xs ys) (bu:(z,ns)∈E8 xs ys) (bW:∀t:Addr,dw H t ns->Q (.ref t) H):K4 C vs H Q
def Nq(C:Addr):Sp:=λvs H Q _=>K4 C vs H Q
theorem step_at{H:Hp}{xs ys ns:List Int}{z:Str}{m f w im jf iw st:Addr}(h:(z,ns)∈E8 xs ys)(h3:dw H m xs)(h4:dw H f (bw xs ys))(h5:dw H w ys)(h6:dw H im (inv xs))(h7:dw H jf (inv (bw xs ys)))(h8:dw H iw (inv ys))(h9:dw H st (aH xs.length)):
  ∃t,bg (qy m f w im jf iw st) (.inr z)=some (.ref t)/\dw H t ns:=by
 simp only[Yp,Y4,or_false] at h;rcases h with⟨rfl,rfl⟩|⟨rfl,rfl⟩|⟨rfl,rfl⟩|⟨rfl,rfl⟩|⟨rfl,rfl⟩|⟨rfl,rfl⟩|⟨rfl,rfl⟩;·exact⟨m,rfl,h3⟩
 ·exact⟨f,rfl,h4⟩
 ·exact⟨w,rfl,h5⟩
 ·exact⟨im,rfl,h6⟩
 ·exact⟨jf,rfl,h7⟩
 ·exact⟨iw,rfl,h8⟩
 ·exact⟨st,rfl,h9⟩
section
variable {K:ag}{mg:aN}
abbrev Aa:List Str:=["self","letter"]
theorem T6:aS Aa Aa (aJ C7):=.bc
theorem Z4(F:aL K "step" "Land.step" C7 f fd)(lc:wg K C):aG P w K mg base aK 1 f fd Aa (Nq C):=by
 refine F.o T6 λs H hr h=>?_;obtain⟨L,z,xs,ys,ns,rfl,la,hz,q⟩:=h;refine⟨_,(aq (aV (qp (yE (bT hr) (pv 1) (pF K 0)) (by with_unfolding_all rfl)) fG aZ) (aw (aP (d_ (bT hr) (pF K 0) (pv 1) (λ_ _=>rfl))))),?_⟩;obtain⟨dx,d,m,fa,wi,im,jf,iw,st,h1,h2,h3,h4,h5,h6,h7,h8,h9⟩:=la;obtain⟨t,hv,ht⟩:=step_at hz h3 h4 h5 h6 h7 h8 h9;have dg:=hv▸eM.k h2;exact⟨_,rfl,_,rfl,L,C,dx,_,.ref d,rfl,h1,lc.cls,lc.Ey,rfl,d,_,rfl,dg,_,rfl,cR (a_ ⟨_,rfl,L,C,dx,_,.ref d,rfl,h1,lc.cls,lc.Ey,rfl,_,rfl,d,_,rfl,dg,q t ht⟩)⟩
end
structure JS where
 hd:List Nat
 ld:List (List Int)
 mem:List (Nat×List Nat)
 fr:List (Nat×List Int)
structure JL where
 J:Addr
 ha:Addr
 la:Addr
 md:Addr
 fd:Addr
 eF:List Addr
 fE:List Addr
 bJ:List Addr
def JL.fp(l:JL):List Addr:=l.J::l.ha::l.la::l.md::l.fd::l.fE
abbrev JF(n:Nat)(ha la md fd:Addr):List (Str×V):=[("size",.int (n:Int)),("heads",.ref ha),("leads",.ref la),("members",.ref md),("free",.ref fd)]
theorem jf5(a b c d e:V):cw "free" e (cw "members" d (cw "leads" c (cw "heads" b (cw "size" a []))))=([("size",a),("heads",b),("leads",c),("members",d),("free",e)]:List (Str×V)):=rfl
abbrev dC(is:List Nat):List V:=is.map λi:Nat=>V.int (i:Int)
def bf(ks:List Nat)(as:List Addr):List (Key×V):=(ks.zip as).map λp=>(.inl (p.1:Int),.ref p.2)
structure bX(H:Hp)(C:Addr)(n:Nat)(l:JL)(st:JS):Prop where
 obj:∃dx,H l.J=some (.ins C dx (JF n l.ha l.la l.md l.fd))
 heads:H l.ha=some (.lst (dC st.hd))
 fV:H l.la=some (.lst (l.eF.map V.ref))
 lead:Paired (λa xs=>H a=some (.tup (xs.map V.int))) l.eF st.ld
 iy:H l.md=some (.dK (bf (st.mem.map (·.1)) l.fE))
 mem:Paired (λa p=>H a=some (.lst (dC p.2))) l.fE st.mem
 frees:H l.fd=some (.dK (bf (st.fr.map (·.1)) l.bJ))
 free:Paired (λa p=>H a=some (.lst (p.2.map V.int))) l.bJ st.fr
 nd:l.fp.Nodup
 out:∀a∈l.bJ,a∉l.fp
theorem bX.same{H H':Hp}{C:Addr}{n:Nat}{l:JL}{st:JS}(g:au H H')(a:bX H C n l st):bX H' C n l st:=
 ⟨let⟨dx,h⟩:=a.obj;⟨dx,g _ _ h⟩,g _ _ a.heads,g _ _ a.fV,L2.Paired.bp a.lead λ_ _ h=>g _ _ h,g _ _ a.iy,L2.Paired.bp a.mem λ_ _ h=>g _ _ h,g _ _ a.frees,L2.Paired.bp a.free λ_ _ h=>g _ _ h,a.nd,a.out⟩
theorem vA{α β:Type}{F:α->β->Prop}:∀{xs:List α} {ys:List β} {x:α},Paired F xs ys->x∈xs->∃y,F x y:=by
 intro xs ys x p;induction p with
 |nil=>grind
 |cons f t ih=>grind
theorem bX.ne{H:Hp}{C p:Addr}{n:Nat}{l:JL}{st:JS}(a:bX H C n l st)(h:H p=none):p∉l.fp:=by
 intro z;unfold JL.fp at z;simp only[Yp] at z;rcases z with rfl|rfl|rfl|rfl|rfl|z
 ·obtain⟨dx,e⟩:=a.obj
  grind
 ·rw[a.heads] at h;cases h
 ·rw[a.fV] at h;cases h
 ·rw[a.iy] at h;cases h
 ·rw[a.frees] at h;cases h
 ·obtain⟨y,e⟩:=vA a.mem z
  grind
theorem mL{α:Type}{H:Hp}{f:α->HO}:∀{as:List Addr} {ps:List (Nat×α)} {k:Nat} {v:α},Paired (λa p=>H a=some (f p.2)) as ps->ps.lookup k=some v->∃a,a∈as/\bg (bf (ps.map (·.1)) as) (.inl (k:Int))=some (.ref a)/\H a=some (f v):=by
 intro as ps k v pr;induction pr with
 |nil=>grind
 |@cons a p as ps e t ih=>
  intro h;have e0:bf ((p::ps).map (·.1)) (a::as)=(Sum.inl (p.1:Int),V.ref a)::bf (ps.map (·.1)) as:=rfl;rw[Jh] at h;by_cases ek:k=p.1
  ·have eb:(k==p.1)=true:=beq_iff_eq.mpr ek;rw[eb] at h;exact⟨a,Yh,iN (p:=((Sum.inl (p.1:Int):Key),V.ref a)) (by rw[ek]),by rw[←(Yu h)];exact e⟩
  ·have eb:(k==p.1)=false:=beq_eq_false_iff_ne.mpr ek;rw[eb] at h;obtain⟨b,hb,q,w⟩:=ih h;refine⟨b,Yv _ hb,?_,w⟩;rw[e0,jL (p:=((Sum.inl (p.1:Int):Key),V.ref a)) (λz=>ek (by have:=AV z;omega))];exact q
theorem YG{q k:Nat}{ks:List Nat}{v:V}(z:((Sum.inl (q:Int):Key),v).1=.inl (k:Int)):k∈q::ks:=by
 grind
theorem yG:∀{as:List Addr} {ks:List Nat} {k:Nat},k∉ks->bg (bf ks as) (.inl (k:Int))=none
 |[],ks,k,_=>by unfold bf;rw[List.zip_nil_right];rfl
 |a::as,[],k,_=>rfl
 |a::as,q::ks,k,h=>by
  have e0:bf (q::ks) (a::as)=(Sum.inl (q:Int),V.ref a)::bf ks as:=rfl;rw[e0,jL (p:=((Sum.inl (q:Int):Key),V.ref a)) (λz=>h (YG z))];exact yG λz=>h (Yv _ z)
theorem yw:∀{ks:List Nat} {as:List Addr} (k:Nat) (a:Addr),ks.length=as.length->bf ks as++[(.inl (k:Int),.ref a)]=bf (ks++[k]) (as++[a])
 |[],[],_,_,_=>rfl
 |q::ks,b::as,k,a,h=>by
  have e0:bf (q::ks) (b::as)=(Sum.inl (q:Int),V.ref b)::bf ks as:=rfl;rw[e0,List.cons_append,(yw (ks:=ks) (as:=as) k a (by simpa using h))];rfl
 |[],_::_,_,_,h=>by simp at h
 |_::_,[],_,_,h=>by simp at h
structure lO(K:ag)(C:Addr):Prop where
 cls:fw K C
 tT:cu K C "size"
 jb:cu K C "heads"
 lL:cu K C "leads"
 s_:cu K C "members"
 qz:cu K C "free"
def JS.more(n:Nat)(st:JS):JS:=⟨st.hd++[st.hd.length],st.ld++[aH n],st.mem++[(st.hd.length,[st.hd.length])],st.fr++[(st.hd.length,aH n)]⟩
inductive Md(C:Addr)(vs:List V)(H:Hp)(Q:VK)(E:XK):Prop
 |mk (x dx:Addr) (n:Nat) (aI:vs=[.ref x,.int (n:Int)]) (aX:H x=some (.ins C dx [])) (bu:∀(l:JL) (H':Hp),l.J=x->l.fE=[]->(∀b∈l.fp,b≠x->H b=none)->aC x H H'->bX H' C n l ⟨[],[],[],[]⟩->Q .aA H')
inductive DD(C:Addr)(vs:List V)(H:Hp)(Q:VK)(E:XK):Prop
 |mk (l:JL) (st:JS) (n i j a b:Nat) (aI:vs=[.ref l.J,.int (i:Int),.int (j:Int)]) (aX:bX H C n l st) (bu:st.hd[i]?=some a) (bW:st.hd[j]?=some b) (dq:Q (.bl (decide (a=b))) H)
inductive yO(C:Addr)(vs:List V)(H:Hp)(Q:VK)(E:XK):Prop
 |mk (l:JL) (st:JS) (n i h:Nat) (t secs:List Int) (aI:vs=[.ref l.J,.int (i:Int)]) (aX:bX H C n l st) (bu:st.hd[i]?=some h) (bW:st.ld[i]?=some t) (dq:st.fr.lookup h=some secs) (gK:(∀z∈secs,0<=z/\z<t.length)) (kW:secs.length<64) (l6:∀(p:Addr) (ns:List Int) (H':Hp),H p=none->au H H'->ns.Perm (secs.map λz=>t.getD z.toNat 0)->ns.Pairwise (·<=·)->H' p=some (.lst (ns.map V.int))->Q (.ref p) H')
inductive Fx(C:Addr)(vs:List V)(H:Hp)(Q:VK)(E:XK):Prop
 |mk (l:JL) (st:JS) (n:Nat) (aI:vs=[.ref l.J]) (aX:bX H C n l st) (bu:n<=1000) (bW:st.hd.length<1000) (dq:st.mem.length<=st.hd.length) (gK:st.fr.length<=st.hd.length) (kW:st.ld.length=st.hd.length) (l6:st.hd.length∉st.mem.map (·.1)) (uD:st.hd.length∉st.fr.map (·.1)) (G4:∀(l':JL) (H':Hp),l'.J=l.J->Out l.fp H H'->(∀b∈l'.fp,b∈l.fp\/H b=none)->bX H' C n l' (st.more n)->Q (.int (st.hd.length:Int)) H')
theorem m5{is:List Nat}{i h:Nat}(e:is[i]?=some h):dy (dC is) (i:Int)=some (.int (h:Int)):=bY (by rw[Yg,e];rfl)
section
variable {K:ag}{mg:aN}
abbrev Ab:List Str:=["self","size"]
theorem Tq:aS Ab Ab (aJ CG):=.bc
theorem YH(F:aL K "__init__" "Joins.__init__" CG f fd)(jc:lO K C)(bl:Bl mg):aG P w K mg base aK 1 f fd Ab (Md C):=by
 refine F.o Tq λs H hr h=>?_;obtain⟨x,dx,n,rfl,hx,q⟩:=h;refine⟨_,(aq (fR (K:=K) rfl (pv 0) (pv 1)) (aq (fR (K:=K) rfl (pv 0) (dM ai)) (aq (fR (K:=K) rfl (pv 0) (dM ai)) (aq (fR (K:=K) rfl (pv 0) sY) (aw (fR (K:=K) rfl (pv 0) sY)))))),?_⟩;refine⟨_,rfl,_,rfl,x,C,dx,[],rfl,hx,jc.cls,jc.tT,by show 0<1000;omega,λH1 b1 h1=>?_⟩;refine⟨by show 0<=sizeLine;exact Yw _,λha H2 n2 g2 e2=>⟨_,rfl,x,C,dx,_,rfl,g2 _ _ h1,jc.cls,jc.jb,by show 1<1000;omega,λH3 b3 h3=>?_⟩⟩;refine⟨by show 0<=sizeLine;exact Yw _,λla H4 n4 g4 e4=>⟨_,rfl,x,C,dx,_,rfl,g4 _ _ h3,jc.cls,jc.lL,by show 2<1000;omega,λH5 b5 h5=>?_⟩⟩;refine λmd H6 n6 g6 e6=>⟨_,rfl,x,C,dx,_,rfl,g6 _ _ h5,jc.cls,jc.s_,by show 3<1000;omega,λH7 b7 h7=>?_⟩;refine λfe H8 n8 g8 e8=>⟨_,rfl,x,C,dx,_,rfl,g8 _ _ h7,jc.cls,jc.qz,by show 4<1000;omega,λH9 b9 h9=>?_⟩;rw[jf5] at h9;have k8:aC x H8 H9:=b9;have k6:aC x H6 H9:=b7.trans ((aC.of g8).trans k8);have k4:aC x H4 H9:=b5.trans ((aC.of g6).trans k6);have k2:aC x H2 H9:=b3.trans ((aC.of g4).trans k4);have k0:aC x H H9:=b1.trans ((aC.of g2).trans k2);have d2:ha≠x:=λz=>by rw[z,h1] at n2;cases n2
 have d4:la≠x:=λz=>by rw[z,h3] at n4;cases n4
 have d6:md≠x:=λz=>by rw[z,h5] at n6;cases n6
 have d8:fe≠x:=λz=>by rw[z,h7] at n8;cases n8
 have i3:=b3 _ _ e2 d2;have i5:=b5 _ _ (g4 _ _ i3) d2;have i7:=b7 _ _ (g6 _ _ i5) d2;have j5:=b5 _ _ e4 d4;have j7:=b7 _ _ (g6 _ _ j5) d4;have l7:=b7 _ _ e6 d6;have a1:ha≠la:=λz=>by rw[←z,i3] at n4;cases n4
 have a2:ha≠md:=λz=>by rw[←z,i5] at n6;cases n6
 have a3:ha≠fe:=λz=>by rw[←z,i7] at n8;cases n8
 have a4:la≠md:=λz=>by rw[←z,j5] at n6;cases n6
 have a5:la≠fe:=λz=>by rw[←z,j7] at n8;cases n8
 have a6:md≠fe:=λz=>by rw[←z,l7] at n8;cases n8
 have AW:∀{b:Addr} {H':Hp},aC x H H'->b≠x->H' b=none->H b=none:=λ{b H'} k d n=>by
  cases e:H b with
  |none=>rfl
  |some o=>rw[k b o e d] at n;cases n
 have t3:aC x H H3:=b1.trans ((aC.of g2).trans b3);have t5:aC x H H5:=t3.trans ((aC.of g4).trans b5);have t7:aC x H H7:=t5.trans ((aC.of g6).trans b7);refine q ⟨x,ha,la,md,fe,[],[],[]⟩ H9 rfl rfl (λb hb nb=>?_) k0 ⟨⟨dx,h9⟩,k2 _ _ e2 d2,k4 _ _ e4 d4,.nil,k6 _ _ e6 d6,.nil,k8 _ _ e8 d8,.nil,?_,λa uF=>by cases uF⟩
 ·simp only[JL.fp,Yp,Y4,or_false] at hb;rcases hb with rfl|rfl|rfl|rfl|rfl;·exact absurd rfl nb
  ·exact AW b1 d2 n2
  ·exact AW t3 d4 n4
  ·exact AW t5 d6 n6
  ·exact AW t7 d8 n8
 ·simp only[JL.fp,Y0,Yp,Y4,or_false,not_or,not_false_eq_true,W9,and_true];exact⟨⟨λz=>d2 z.symm,λz=>d4 z.symm,λz=>d6 z.symm,λz=>d8 z.symm⟩,⟨a1,a2,a3⟩,⟨a4,a5⟩,a6⟩
abbrev pb:List Str:=["self","one","other"]
theorem Sm:aS pb pb (aJ BP):=.bc
theorem UH(F:aL K "together" "Joins.together" BP f fd)(jc:lO K C)(bl:Bl mg):aG P w K mg base aK 1 f fd pb (DD C):=by
 refine F.o Sm @λbh A outer vs Q E s H hr h=>?_;obtain⟨l,st,n,i,j,a,b,rfl,ja,hi,hj,q⟩:=h;refine⟨_,(aw (aP (eC c5 (a8 (iL K) (pF K 0) (pv 1)) (a8 (iL K) (pF K 0) (pv 2))))),?_⟩;obtain⟨dx,ho⟩:=ja.obj;have q':Q (.bl (decide (V.int (a:Int)=V.int (b:Int)))) H:=by
  have e:decide (V.int (a:Int)=V.int (b:Int))=decide (a=b):=by
   rw[Wm,decide_eq_true_iff,decide_eq_true_iff];exact⟨λz=>by have:=V.int.inj z;omega,λz=>by rw[z]⟩
  rw[e];exact q
 exact⟨_,rfl,l.J,C,dx,_,_,rfl,ho,jc.cls,jc.jb,rfl,_,rfl,l.ha,_,_,_,rfl,rfl,aj.of ja.heads,m5 hi,_,rfl,l.J,C,dx,_,_,rfl,ho,jc.cls,jc.jb,rfl,_,rfl,l.ha,_,_,_,rfl,rfl,aj.of ja.heads,m5 hj,rfl,q'⟩
end
theorem ff{H:Hp}{a b:Addr}{o o':HO}(h:H a=some o)(h':H b=some o')(ne:o≠o'):a≠b:=λz=>by
 grind
theorem YI(is:List Nat)(k:Nat):dC (is++[k])=dC is++[.int (k:Int)]:=Yq
theorem pY{H:Hp}{a b:Addr}{o:HO}(h:H a=some o)(h':H b=none):b≠a:=λz=>by
 grind
theorem mD{α β:Type}{F:α->β->Prop}{x:α}{y:β}(f:F x y){xs:List α}{ys:List β}(h:Paired F xs ys):Paired F (xs++[x]) (ys++[y]):=by
 induction h with
 |nil=>exact .cons f .nil
 |cons r t ih=>exact .cons r ih
theorem tD{α β:Type}{F:α->β->Prop}:∀{xs:List α} {ys:List β},Paired F xs ys->Paired (λa b=>F a b/\a∈xs) xs ys
 |_,_,.nil=>.nil
 |_,_,.cons g t=>.cons ⟨g,Yh⟩ (L2.Paired.bp (tD t) λ_ _ h=>⟨h.1,Yv _ h.2⟩)
theorem m9{H:Hp}{a:Addr}{kvs:List (Key×V)}{k:Nat}{o:Option V}(h:H a=some (.dK kvs))(e:bg kvs (.inl (k:Int))=o):eM H a (.int (k:Int)) o:=.inl ⟨kvs,.inl (k:Int),.inl h,rfl,e.symm⟩
section
variable {K:ag}{mg:aN}
abbrev wC:List Str:=["self","one"]
theorem HY:aS ["self","one","lead"] wC (aJ BY):=.bc
theorem Vw(F:aL K "open_at" "Joins.open_at" BY f fd)(jc:lO K C)(bl:Bl mg):aG P w K mg base aK 2 f fd wC (yO C):=by
 refine F.o HY λs H hr h=>?_;obtain⟨l,st,n,i,h,t,secs,rfl,ja,hi,ht,hf,xH,f_,q⟩:=h;refine⟨_,(aq (iQ (i:=2) HY.nd rfl (Or.inr rfl) (a8 (iL K) (pF K 0) (pv 1))) (aw (aP (gU (XR (K:=K) rfl) rfl bl.yK yD (aa (ku (x:="section") (fr:=[("lead",2)]) (cl:=[("lead",s.heap.objs.size+1)]) rfl (.gM ⟨rfl,trivial⟩ ⟨⟨rfl,.inl rfl,.inl rfl,rfl⟩,trivial⟩) (gW (K:=K) rfl (d_ (bT hr) (pF K 0) (a8 (iL K) (pF K 0) (pv 1)) (λ_ _=>rfl))) (λ_ _ _ _=>mV) (λ_ _ _ _=>(a8 (iT K) (pv 1) (pv 0)))) ai))))),?_⟩;obtain⟨dx,ho⟩:=ja.obj;obtain⟨fa,QC,vf,dv⟩:=mL (f:=λv:List Int=>HO.lst (v.map V.int)) ja.free hf;obtain⟨ta,eta,Hd⟩:∃ta,l.eF[i]?=some ta/\H ta=some (.tup (t.map V.int)):=by
  have hl:=de ja.lead;have dZ:i<l.eF.length:=by rw[hl];exact(Yk.mp ht).1
  obtain⟨y,ey,hy⟩:=jI ja.lead (Yb dZ)
  grind
 have He:dy (l.eF.map V.ref) (i:Int)=some (.ref ta):=bY (by rw[Yg,eta];rfl);refine bZ ?_;refine⟨_,rfl,l.J,C,dx,_,_,rfl,ho,jc.cls,jc.lL,rfl,_,rfl,l.la,_,_,_,rfl,rfl,aj.of ja.fV,He,?_⟩;refine⟨_,rfl,l.J,C,dx,_,_,rfl,ho,jc.cls,jc.qz,rfl,_,rfl,l.J,C,dx,_,_,rfl,ho,jc.cls,jc.jb,rfl,_,rfl,l.ha,_,_,_,rfl,rfl,aj.of ja.heads,m5 hi,l.fd,_,rfl,m9 ja.frees vf,fa,rfl,⟨_,aj.of dv⟩,λD hD=>Ve (xs:=secs.map V.int) (aj.of dv) (by rw[Ya];omega) hD (λv=>match v with|.int z=>.int (t.getD z.toNat 0)|_=>.aA) (λj v hj H1 g1 Kt k=>?_) λH1 g1 h1=>?_⟩
 ·obtain⟨z,rfl,hz⟩:=mW hj;have bz:=xH z (Ys hz);exact⟨_,rfl,_,rfl,ta,_,_,_,rfl,rfl,aE.of (g1 _ _ Hd),oR bz.1 bz.2,k H1 (au.refl _)⟩
 ·have hy:H1 D=some (.lst ((secs.map λz=>t.getD z.toNat 0).map V.int)):=by
   rw[h1,Y8,Y8];rfl
  exact⟨D,_,rfl,.inl (aj.of hy),by rw[Ya];exact f_,λb_ pm so p H2 np g2 h2=>q p b_ H2 (g1.free np) (g1.trans g2) pm so h2⟩
abbrev iz:List Str:=["self"]
abbrev wD:List Str:=["self","number"]
theorem Im:aS wD iz (aJ C8):=.bc
theorem ZbM(F:aL K "add" "Joins.add" C8 f fd)(jc:lO K C)(tN:HasFn P w K mg base 1 "still" ["size"] Ex)(bl:Bl mg):aG P w K mg base aK 2 f fd iz (Fx C):=by
 refine F.o Im λs H hr h=>?_;obtain⟨l,st,n,rfl,ja,hn,lh,lm,lf,ll,nm,nf,q⟩:=h;refine⟨_,(aq (bM 1 Im.nd (dI K bl (pF K 0))) (aq (cq (qx (K:=K) rfl (oV plainAttrs_list PySem.F.slot_list_append PySem.F.type_list_append sT (pF K 0) (aa (pv 1) ai)))) (aq (cq (qx (K:=K) rfl (oV plainAttrs_list PySem.F.slot_list_append PySem.F.type_list_append sT (pF K 0) (aa (aY tN hr (aa (pF K 0) ai)) ai)))) (aq (oE (bT hr) (pF K 0) (pv 1) (dM (aa (pv 1) ai))) (aq (oE (bT hr) (pF K 0) (pv 1) (fO (S1 rfl) rfl bl.qu qh (aa (fO Il rfl bl.kz yJ (aa (pF K 0) ai)) ai))) (aw (aP (pv 1)))))))),?_⟩;have sz:(10000:Nat)<=sizeLine:=by rw[sizeLine_eq];omega
 obtain⟨dx,ho⟩:=ja.obj;have hl:(dC st.hd).length=st.hd.length:=Ya _;have pl1:=de ja.lead;have uG:=de ja.mem;have AX:=de ja.free;have nd:=ja.nd;simp only[JL.fp,Y0,Yp,not_or] at nd;obtain⟨⟨x1,x2,x3,x4,x5⟩,⟨y1,y2,y3,y4⟩,⟨z1,z2,z3⟩,⟨w1,w2⟩,v1,v2⟩:=nd;have dl:∀{ks:List Nat} {as:List Addr},(bf ks as).length<=as.length:=λ{ks as}=>by unfold bf;rw[Ya,Jb];exact Nat.min_le_right _ _
 refine bZ ?_;refine⟨_,rfl,l.J,C,dx,_,_,rfl,ho,jc.cls,jc.jb,rfl,l.ha,_,rfl,.inl (aj.of ja.heads),?_⟩;rw[hl];refine⟨_,rfl,l.J,C,dx,_,_,rfl,ho,jc.cls,jc.jb,rfl,.inl ⟨rfl,_,aj.of ja.heads⟩,_,rfl,l.ha,_,_,rfl,rfl,ja.heads,by rw[hl];omega,λH1 b1 e1=>?_⟩;have o1:=b1 _ _ ho x1;have l1:=b1 _ _ ja.fV (λz=>y1 z.symm);refine⟨_,rfl,l.J,C,dx,_,_,rfl,o1,jc.cls,jc.lL,rfl,.inl ⟨rfl,_,aj.of l1⟩,_,rfl,l.J,C,dx,_,_,rfl,o1,jc.cls,jc.tT,rfl,n,rfl,hn,λt H2 nt g2 ht=>?_⟩;refine⟨l.la,_,_,rfl,rfl,g2 _ _ l1,by rw[Ya];omega,λH3 b3 e3=>?_⟩;have o3:=b3 _ _ (g2 _ _ o1) x2;have m3:=b3 _ _ (g2 _ _ (b1 _ _ ja.iy (λz=>y2 z.symm))) (λz=>z1 z.symm);refine⟨_,rfl,by show 1<=sizeLine;omega,λm H4 uH g4 em=>?_⟩;have o4:=g4 _ _ o3;refine⟨_,rfl,l.J,C,dx,_,_,rfl,o4,jc.cls,jc.s_,rfl,_,rfl,l.md,_,.inl (st.hd.length:Int),rfl,g4 _ _ m3,rfl,?_,λH5 b5 e5=>?_⟩
 ·have:=dl (ks:=st.mem.map (·.1)) (as:=l.fE);omega
 have o5:=b5 _ _ o4 x3;refine⟨_,rfl,l.J,C,dx,_,_,rfl,o5,jc.cls,jc.tT,rfl,(n:Int),rfl,λr H6 nr g6 er=>⟨r,n,rfl,er,hn,λfa H7 QB g7 ef=>?_⟩⟩;have AY:=g6.trans g7;have f5:=b5 _ _ (g4 _ _ (b3 _ _ (g2 _ _ (b1 _ _ ja.frees (λz=>y3 z.symm))) (λz=>z2 z.symm))) (λz=>w1 z.symm);refine⟨_,rfl,l.J,C,dx,_,_,rfl,AY _ _ o5,jc.cls,jc.qz,rfl,_,rfl,l.fd,_,.inl (st.hd.length:Int),rfl,AY _ _ f5,rfl,?_,λH8 b8 e8=>?_⟩
 ·have:=dl (ks:=st.fr.map (·.1)) (as:=l.bJ);omega
 have keep:∀b o,H b=some o->b≠l.ha->b≠l.la->b≠l.md->b≠l.fd->H8 b=some o:=λb o e n1 n2 n3 n4=>b8 _ _ (AY _ _ (b5 _ _ (g4 _ _ (b3 _ _ (g2 _ _ (b1 _ _ e n1)) n2)) n3)) n4;rw[mN _ (yG nm),yw _ _ (by rw[Ya];omega)] at e5;rw[mN _ (yG nf),yw _ _ (by rw[Ya];omega)] at e8;have Hf:H m=none:=by
  cases e:H m with
  |none=>rfl
  |some o=>
   have AE:m≠l.ha:=λz=>by rw[z,b3 _ _ (g2 _ _ e1) y1] at uH;cases uH
   have GG:m≠l.la:=λz=>by rw[z,e3] at uH;cases uH
   rw[b3 _ _ (g2 _ _ (b1 _ _ e AE)) GG] at uH;cases uH
 have en:=ja.ne Hf;have xK:fa∉l.fp/\fa≠m:=by
  have e6:H6 fa=none:=QB;have h5:∀b o,H b=some o->b≠l.ha->b≠l.la->b≠l.md->H6 b=some o:=λb o e n1 n2 n3=>g6 _ _ (b5 _ _ (g4 _ _ (b3 _ _ (g2 _ _ (b1 _ _ e n1)) n2)) n3);have f1:H6 l.ha=some _:=g6 _ _ (b5 _ _ (g4 _ _ (b3 _ _ (g2 _ _ e1) y1)) y2);have f2:H6 l.la=some _:=g6 _ _ (b5 _ _ (g4 _ _ e3) z1);have f3:H6 l.md=some _:=g6 _ _ e5;have f4:H6 m=some _:=g6 _ _ (b5 _ _ em (λz=>en (by rw[z];simp[JL.fp])));have f5':H6 l.fd=some _:=g6 _ _ f5;have f6:H6 l.J=some _:=g6 _ _ o5;refine⟨λz=>?_,pY f4 e6⟩;simp only[JL.fp,Yp] at z;rcases z with z|z|z|z|z|z;·exact pY f6 e6 z
  ·exact pY f1 e6 z
  ·exact pY f2 e6 z
  ·exact pY f3 e6 z
  ·exact pY f5' e6 z
  ·obtain⟨y,ey⟩:=vA ja.mem z;refine pY (h5 _ _ ey ?_ ?_ ?_) e6 rfl;·exact λq=>y4 (by rw[←q];exact z)
   ·exact λq=>z3 (by rw[←q];exact z)
   ·exact λq=>w2 (by rw[←q];exact z)
 have kt:∀a∈l.eF,∀xs:List Int,H a=some (.tup (xs.map V.int))->H8 a=some (.tup (xs.map V.int)):=λa _ xs e=>keep a _ e (ff e ja.heads (λz=>by cases z)) (ff e ja.fV (λz=>by cases z)) (ff e ja.iy (λz=>by cases z)) (ff e ja.frees (λz=>by cases z));have k8:∀b o,H5 b=some o->b≠l.fd->H8 b=some o:=λb o e n=>b8 _ _ (AY _ _ e) n;have nmd:m≠l.md:=λz=>en (by rw[z];simp[JL.fp]);have nmf:m≠l.fd:=λz=>en (by rw[z];simp[JL.fp]);have ntf:t≠l.fd:=λz=>by
  have:=b1 _ _ ja.frees (λz=>y3 z.symm);rw[←z,nt] at this;cases this
 have Hg:t≠l.la:=λz=>by rw[←z,nt] at l1;cases l1
 have QD:t≠l.md:=λz=>by
  have:=b1 _ _ ja.iy (λz=>y2 z.symm);rw[←z,nt] at this;cases this
 refine⟨_,rfl,q ⟨l.J,l.ha,l.la,l.md,l.fd,l.eF++[t],l.fE++[m],l.bJ++[fa]⟩ H8 rfl (λb o e nb=>?_) (λb hb=>?_) ⟨⟨dx,k8 _ _ o5 x4⟩,?_,?_,?_,?_,?_,?_,?_,?_,?_⟩⟩
 ·simp only[JL.fp,Yp,not_or] at nb;exact keep b o e nb.2.1 nb.2.2.1 nb.2.2.2.1 nb.2.2.2.2.1
 ·simp only[JL.fp,Yp,Yx,Y4,or_false] at hb⊢;rcases hb with h|h|h|h|h|h|h;·exact .inl (.inl h)
  ·exact .inl (.inr (.inl h))
  ·exact .inl (.inr (.inr (.inl h)))
  ·exact .inl (.inr (.inr (.inr (.inl h))))
  ·exact .inl (.inr (.inr (.inr (.inr (.inl h)))))
  ·exact .inl (.inr (.inr (.inr (.inr (.inr h)))))
  ·rw[h];exact .inr Hf
 ·show H8 l.ha=some (.lst (dC (st.hd++[st.hd.length])));rw[k8 _ _ (b5 _ _ (g4 _ _ (b3 _ _ (g2 _ _ e1) y1)) y2) y3,YI]
 ·show H8 l.la=some (.lst ((l.eF++[t]).map V.ref));rw[k8 _ _ (b5 _ _ (g4 _ _ e3) z1) z2,Yq];rfl
 ·exact mD (F:=λa (xs:List Int)=>H8 a=some (.tup (xs.map V.int))) (k8 _ _ (b5 _ _ (g4 _ _ (b3 _ _ ht Hg)) QD) ntf) (L2.Paired.bp (tD ja.lead) λa xs h=>kt a h.2 xs h.1)
 ·show H8 l.md=some (.dK (bf ((st.mem++[(st.hd.length,[st.hd.length])]).map (·.1)) (l.fE++[m])));rw[k8 _ _ e5 w1,Yq];rfl
 ·refine mD (F:=λa (p:Nat×List Nat)=>H8 a=some (.lst (dC p.2))) (k8 _ _ (b5 _ _ em nmd) nmf) (L2.Paired.bp (tD ja.mem) λa p h=>keep a _ h.1 ?_ ?_ ?_ ?_);·exact λz=>y4 (by rw[←z];exact h.2)
  ·exact λz=>z3 (by rw[←z];exact h.2)
  ·exact λz=>w2 (by rw[←z];exact h.2)
  ·exact λz=>v1 (by rw[←z];exact h.2)
 ·show H8 l.fd=some (.dK (bf ((st.fr++[(st.hd.length,aH n)]).map (·.1)) (l.bJ++[fa])));rw[e8,Yq];rfl
 ·have nfd:fa≠l.fd:=λz=>xK.1 (by rw[z];simp[JL.fp]);refine mD (F:=λa (p:Nat×List Int)=>H8 a=some (.lst (p.2.map V.int))) (b8 _ _ ef nfd) (L2.Paired.bp (tD ja.free) λa p h=>?_);have no:=ja.out a h.2;simp only[JL.fp,Yp,not_or] at no;exact keep a _ h.1 no.2.1 no.2.2.1 no.2.2.2.1 no.2.2.2.2.1
 ·have nd:=ja.nd;have e0:JL.fp ⟨l.J,l.ha,l.la,l.md,l.fd,l.eF++[t],l.fE++[m],l.bJ++[fa]⟩=l.fp++[m]:=rfl;rw[e0,Jc];refine⟨nd,by simp,λa ha b hb=>?_⟩;have eb:b=m:=by simpa using hb
  intro z;rw[z,eb] at ha;exact en ha
 ·intro a ha;have e0:JL.fp ⟨l.J,l.ha,l.la,l.md,l.fd,l.eF++[t],l.fE++[m],l.bJ++[fa]⟩=l.fp++[m]:=rfl;rw[e0,Yx];have uF:a∈l.bJ++[fa]:=ha;rcases Yx.mp uF with h|h
  ·rintro(z|z);·exact ja.out a h z
   ·have e:a=m:=by simpa using z
    obtain⟨y,ey⟩:=vA ja.free h;rw[e,Hf] at ey;cases ey
  ·have e:a=fa:=by simpa using h
   rw[e];rintro(z|z);·exact xK.1 z
   ·exact xK.2 (by simpa using z)
end
theorem Vx{K:ag}{a:Addr}{ns:List Int}{tt:TT}{te:TE}{fv:St}{D:Addr}{H:Hp}{Q:VK}(hs:aj K H a (ns.map V.int))(hn:ns.length<=1000)(hD:H D=none)(p:Int->Bool)(g:Int->V)
  (turn:∀z∈ns,∀H1,au H H1->∀(Kt:VK) (Kf:Hp->Prop),(p z=true->∀H3,au H1 H3->Kt (g z) H3)->(p z=false->∀H3,au H1 H3->Kf H3)->tt (some (.int z)::fv) H1 λc H2=>if c=true then te (some (.int z)::fv) H2 Kt else Kf H2)
  (fin:∀H',au H H'->H' D=some (.lst ((ns.filter p).map g))->Q (.ref D) H'):jg (iX K a) tt te fv D H Q:=by
 refine DM (λi ys H1=>i<=ns.length/\au H H1/\H1 D=some (.lst ys)/\ys=((ns.take i).filter p).map g) ⟨Yw _,cY hD _,aW,rfl⟩ (λi ys H1 _ ⟨_,g1,_,_⟩=>g1.seq hs) ?_ ?_
 ·rintro i v ys H1 hi ⟨_,g1,h1,e⟩;obtain⟨z,rfl,hz⟩:=mW hi;have dZ:=(Yk.mp hz).1;have yl:ys.length<sizeLine:=by
   have:=Wl p (ns.take i);rw[Wh] at this;rw[e,Ya,sizeLine_eq];omega
  refine turn z (Ys hz) H1 g1 _ _ (λpz H3 g3=>⟨g3 _ _ h1,yl,dZ,λb o q=>?_,aW,?_⟩) (λpz H3 g3=>⟨dZ,g1.trans g3,g3 _ _ h1,?_⟩)
  ·rw[aF (cN q hD)];exact g3 _ _ (g1 _ _ q)
  ·rw[e,Y6,hz,Wg,Yq]
   grind
  ·rw[e,Y6,hz,Wg,Yq]
   grind
 ·grind
theorem y8(x:Int):∀ss:List Int,dY (.int x) (ss.map V.int)=decide (x∈ss)
 |[]=>rfl
 |s::ss=>by
  have ih:=y8 x ss;unfold dY at ih⊢;rw[Wn,Jv,ih];show((s==x)||decide (x∈ss))=_
  grind
theorem Ec(ss:List Int):(ss.map V.int).all ij=true:=by
 rw[G0,Wp];intro p _;rfl
def iC(ks:List Nat)(as:List Addr)(h:Nat)(a':Addr):List Addr:=(ks.zip as).map λp=>if p.1=h then a' else p.2
theorem Kj(h:Nat)(a':Addr):∀{ks:List Nat} {as:List Addr},ks.length=as.length->(bf ks as).map (λkv=>if kv.1=(.inl (h:Int):Key) then(kv.1,V.ref a') else kv)=bf ks (iC ks as h a')
 |[],[],_=>rfl
 |k::ks,a::as,e=>by
  have ih:=Kj h a' (by simpa using e);have e0:bf (k::ks) (a::as)=(Sum.inl (k:Int),V.ref a)::bf ks as:=rfl;have e1:iC (k::ks) (a::as) h a'=(if k=h then a' else a)::iC ks as h a':=rfl;have e2:bf (k::ks) ((if k=h then a' else a)::iC ks as h a')=(Sum.inl (k:Int),V.ref (if k=h then a' else a))::bf ks (iC ks as h a'):=rfl
  grind
 |[],_::_,e=>rfl
 |_::_,[],e=>rfl
theorem YJ{ks:List Nat}{as:List Addr}{h:Nat}{a a':Addr}(e:ks.length=as.length)(hv:bg (bf ks as) (.inl (h:Int))=some (.ref a)):putK (bf ks as) (.inl (h:Int)) (.ref a')=bf ks (iC ks as h a'):=by
 unfold putK;rw[if_pos (by rw[yM,hv];rfl)];exact Kj h a' e
def dU{α:Type}(h:Nat)(v:α)(ps:List (Nat×α)):List (Nat×α):=ps.map λp=>if p.1=h then(p.1,v) else p
theorem qb{α:Type}(h:Nat)(v:α):∀ps:List (Nat×α),(dU h v ps).map (·.1)=ps.map (·.1)
 |[]=>rfl
 |p::ps=>by
  have ih:=qb h v ps;show(if p.1=h then(p.1,v) else p).1::(dU h v ps).map (·.1)=_
  grind
theorem Vy{α:Type}{F G:Addr->Nat×α->Prop}{h:Nat}{a':Addr}{v:α}(new:∀k,G a' (k,v)):∀{as:List Addr} {ps:List (Nat×α)},Paired F as ps->(∀a p,F a p->a∈as->G a p)->Paired G (iC (ps.map (·.1)) as h a') (dU h v ps):=by
 intro as ps pr;induction pr with
 |nil=>intro _;exact .nil
 |@cons a p as ps f t ih=>
  intro k;have e1:iC ((p::ps).map (·.1)) (a::as) h a'=(if p.1=h then a' else a)::iC (ps.map (·.1)) as h a':=rfl;have e2:dU h v (p::ps)=(if p.1=h then(p.1,v) else p)::dU h v ps:=rfl;refine .cons ?_ (ih λb q fb hb=>k b q fb (Yv _ hb))
  grind
theorem K5{h:Nat}{a' b:Addr}:∀{ks:List Nat} {as:List Addr},b∈iC ks as h a'->b=a'\/b∈as
 |[],_,m=>by unfold iC at m;simp at m
 |_::_,[],m=>by unfold iC at m;simp at m
 |k::ks,a::as,m=>by
  have e1:iC (k::ks) (a::as) h a'=(if k=h then a' else a)::iC ks as h a':=rfl;rcases Yp.mp m with z|z;·grind
  ·rcases K5 z with w|w;·exact .inl w
   ·grind
def JS.jR(st:JS)(h:Nat)(v:List Int):JS:={st with fr:=dU h v st.fr}
structure qW(st:JS)(i h:Nat)(t secs:List Int):Prop where
 hd:st.hd[i]?=some h
 ld:st.ld[i]?=some t
 fr:st.fr.lookup h=some secs
 fC:∀z∈secs,0<=z/\z<t.length
 j_:secs.length<64
 dist:(secs.map λz=>t.getD z.toNat 0).Nodup
inductive Ed(K:ag)(C:Addr)(vs:List V)(H:Hp)(Q:VK)(E:XK):Prop
 |mk (l:JL) (st:JS) (n i h:Nat) (t secs ss:List Int) (sl:Addr) (aI:vs=[.ref l.J,.int (i:Int),.ref sl]) (aX:bX H C n l st) (bu:qW st i h t secs) (bW:st.fr.length<1000) (dq:aj K H sl (ss.map V.int)) (gK:∀(l':JL) (H':Hp),l'.J=l.J->l'.fp=l.fp->Out l.fp H H'->bX H' C n l' (st.jR h (secs.filter λz=>decide (t.getD z.toNat 0∈ss)))->Q .aA H')
section
variable {K:ag}{mg:aN}
abbrev Ac:List Str:=["self","one","sections"]
theorem B5:aS ["self","one","sections","lead","head"] Ac (aJ Cb):=.bc
theorem WR(F:aL K "narrow" "Joins.narrow" Cb f fd)(jc:lO K C)(bl:Bl mg):aG P w K mg base aK 2 f fd Ac (Ed K C):=by
 refine F.o B5 λs H hr h=>?_;obtain⟨l,st,n,i,h,t,secs,ss,sl,rfl,ja,one,lf,hss,q⟩:=h;refine⟨_,(aq (iQ (i:=3) B5.nd rfl (Or.inr rfl) (a8 (iL K) (pF K 0) (pv 1))) (aq (bM 4 B5.nd (a8 (iL K) (pF K 0) (pv 1))) (aw (oE (bT hr) (pF K 0) (pv 4) (ku (x:="section") (fr:=[("sections",2),("lead",3)]) (cl:=[("sections",s.heap.objs.size+1),("lead",s.heap.objs.size+1+1)]) rfl (.gM ⟨rfl,⟨rfl,trivial⟩⟩ ⟨⟨rfl,.inl rfl,.inl rfl,rfl⟩,⟨⟨rfl,.inl rfl,.inl rfl,rfl⟩,trivial⟩⟩) (gW (K:=K) rfl (d_ (bT hr) (pF K 0) (pv 4) (λ_ _=>rfl))) (λ_ _ _ _=>tK (fP (kU (K:=K) rfl) (a8 (iT K) (pv 2) (pv 0)) (pv 1) (by with_unfolding_all rfl))) (λ_ _ _ _=>(pv 0))))))),?_⟩;have sz:(10000:Nat)<=sizeLine:=by rw[sizeLine_eq];omega
 obtain⟨dx,ho⟩:=ja.obj;obtain⟨fa,QC,vf,dv⟩:=mL (f:=λv:List Int=>HO.lst (v.map V.int)) ja.free one.fr;obtain⟨ta,eta,Hd⟩:∃ta,l.eF[i]?=some ta/\H ta=some (.tup (t.map V.int)):=by
  have hl:=de ja.lead;have dZ:i<l.eF.length:=by rw[hl];exact(Yk.mp one.ld).1
  obtain⟨y,ey,hy⟩:=jI ja.lead (Yb dZ);rw[one.ld] at ey;cases ey;exact⟨_,Yb dZ,hy⟩
 have He:dy (l.eF.map V.ref) (i:Int)=some (.ref ta):=bY (by rw[Yg,eta];rfl);have AX:=de ja.free;refine bZ ?_;refine⟨_,rfl,l.J,C,dx,_,_,rfl,ho,jc.cls,jc.lL,rfl,_,rfl,l.la,_,_,_,rfl,rfl,aj.of ja.fV,He,?_⟩;refine bZ ?_;refine⟨_,rfl,l.J,C,dx,_,_,rfl,ho,jc.cls,jc.jb,rfl,_,rfl,l.ha,_,_,_,rfl,rfl,aj.of ja.heads,m5 one.hd,?_⟩;refine⟨_,rfl,l.J,C,dx,_,_,rfl,ho,jc.cls,jc.qz,rfl,_,rfl,l.fd,_,rfl,m9 ja.frees vf,fa,rfl,⟨_,aj.of dv⟩,λD hD=>Vx (ns:=secs) (aj.of dv) (by have:=one.j_;omega) hD (λz=>decide (t.getD z.toNat 0∈ss)) V.int (λz hz H1 g1 Kt Kf kt kf=>?_) λH1 g1 h1=>?_⟩
 ·have bz:=one.fC z hz;refine⟨_,rfl,_,rfl,ta,_,_,_,rfl,rfl,aE.of (g1 _ _ Hd),oR bz.1 bz.2,_,rfl,sl,_,rfl,.inl (g1.seq hss),rfl,Ec ss,_,rfl,?_⟩;rw[if_neg Yf,y8];refine bb (λc=>?_) (λc=>?_);·exact⟨_,rfl,kt c H1 (au.refl _)⟩
  ·exact kf (by cases e:decide (t.getD z.toNat 0∈ss) with|true=>exact absurd e c|false=>rfl) H1 (au.refl _)
 ·refine⟨_,rfl,l.J,C,dx,_,_,rfl,g1 _ _ ho,jc.cls,jc.qz,rfl,_,rfl,l.fd,_,.inl (h:Int),rfl,g1 _ _ ja.frees,rfl,?_,λH2 b2 e2=>?_⟩
  ·unfold bf;rw[Ya,Jb,Ya];omega
  rw[YJ (by rw[Ya];exact AX.symm) vf] at e2;have nd:=ja.nd;have AZ:l.fd∈l.fp:=by simp[JL.fp]
  simp only[JL.fp,Y0,Yp,not_or] at nd;obtain⟨⟨x1,x2,x3,x4,x5⟩,⟨y1,y2,y3,y4⟩,⟨z1,z2,z3⟩,⟨w1,w2⟩,v1,v2⟩:=nd;have keep:∀b o,H b=some o->b≠l.fd->H2 b=some o:=λb o e nb=>b2 _ _ (g1 _ _ e) nb;have nD:D∉l.fp:=ja.ne hD;have nDf:D≠l.fd:=λz=>nD (by rw[z];exact AZ);refine q ⟨l.J,l.ha,l.la,l.md,l.fd,l.eF,l.fE,iC (st.fr.map (·.1)) l.bJ h D⟩ H2 rfl rfl ((Out.of g1).trans (Out.bar b2 AZ)) ⟨⟨dx,keep _ _ ho x4⟩,keep _ _ ja.heads y3,keep _ _ ja.fV z2,L2.Paired.bp ja.lead λa xs e=>keep a _ e (ff e ja.frees (λz=>by cases z)),keep _ _ ja.iy w1,L2.Paired.bp (tD ja.mem) λa p e=>keep a _ e.1 (λz=>v1 (by rw[←z];exact e.2)),?_,?_,ja.nd,λa ha=>?_⟩
  ·show H2 l.fd=some (.dK (bf ((dU h _ st.fr).map (·.1)) _));rw[qb];exact e2
  ·exact Vy (λk=>b2 _ _ h1 nDf) ja.free λa p e ma=>keep a _ e (λz=>ja.out a ma (by rw[z];exact AZ))
  ·rcases K5 ha with rfl|z;·exact nD
   ·exact ja.out a z
end
inductive Oj(C:Addr)(vs:List V)(H:Hp)(Q:VK)(E:XK):Prop
 |mk (l:JL) (st:JS) (n i h:Nat) (t secs:List Int) (a:Int) (aI:vs=[.ref l.J,.int (i:Int),.int a]) (aX:bX H C n l st) (bu:qW st i h t secs) (bW:st.fr.length<1000) (dq:(a∈secs.map (λz=>t.getD z.toNat 0)->∀(l':JL) (H':Hp),l'.J=l.J->l'.fp=l.fp->Out l.fp H H'->bX H' C n l' (st.jR h (secs.filter λz=>decide (t.getD z.toNat 0∈[a])))->Q (.bl true) H')) (gK:(a∉secs.map (λz=>t.getD z.toNat 0)->∀H',au H H'->Q (.bl false) H'))
section
variable {K:ag}{mg:aN}
abbrev Ad:List Str:=["self","one","section"]
theorem T7:aS Ad Ad (aJ C_):=.bc
theorem ZbN(F:aL K "say" "Joins.say" C_ f fd)(lG:cv P w K mg base 2 "open_at" C wC (yO C))(sF:cv P w K mg base 2 "narrow" C Ac (Ed K C))(bl:Bl mg):aG P w K mg base aK 3 f fd Ad (Oj C):=by
 refine F.o T7 λs H hr h=>?_;obtain⟨l,st,n,i,h,t,secs,a,rfl,ja,one,lf,q1,q2⟩:=h;refine⟨_,(aq (aV (fP (tS (K:=K) rfl) (pv 2) (cI lG hr (by omega) (pv 0) (aa (pv 1) ai)) (by with_unfolding_all rfl)) (aw (aP fh)) aZ) (aq (cq (cI sF hr (by omega) (pv 0) (aa (pv 1) (aa (dM (aa (pv 2) ai)) ai)))) (aw (aP fh)))),?_⟩;obtain⟨dx,ho⟩:=ja.obj;refine⟨_,rfl,_,rfl,l.J,dx,_,rfl,ho,rfl,_,rfl,l,st,n,i,h,t,secs,rfl,ja,one.hd,one.ld,one.fr,one.fC,one.j_,λp ns H1 np g1 pm so hp=>⟨p,_,rfl,.inl (aj.of hp),rfl,Ec ns,_,rfl,?_⟩⟩;rw[if_pos rfl,y8];refine bb (λc=>?_) (λc=>a_ ?_)
 ·refine q2 (λz=>?_) H1 g1;rw[decide_eq_true (pm.symm.subset z)] at c;cases c
 ·have xH:a∈ns:=by
   by_cases z:a∈ns;·exact z
   ·rw[decide_eq_false z] at c;exact absurd rfl c
  refine⟨_,rfl,l.J,dx,_,rfl,g1 _ _ ho,rfl,_,rfl,_,rfl,by show 1<=sizeLine;rw[sizeLine_eq];omega,λsl H2 n2 g2 e2=>?_⟩;exact⟨l,st,n,i,h,t,secs,[a],sl,rfl,(ja.same g1).same g2,one,lf,aj.of e2,λl' H3 k1 k2 o3 j3=>q1 (pm.subset xH) l' H3 k1 k2 ((Out.of (g1.trans g2)).trans o3) j3⟩
end
def dG(ks:List Nat)(as:List Addr)(h:Nat):List Addr:=((ks.zip as).filter λp=>decide (p.1≠h)).map (·.2)
def cL{α:Type}(h:Nat)(ps:List (Nat×α)):List (Nat×α):=ps.filter λp=>decide (p.1≠h)
theorem yx(h:Nat):∀{ks:List Nat} {as:List Addr},ks.length=as.length->fU (bf ks as) (.inl (h:Int))=bf (ks.filter λk=>decide (k≠h)) (dG ks as h)
 |[],[],_=>rfl
 |k::ks,a::as,e=>by
  have ih:=yx h (by simpa using e);have e0:bf (k::ks) (a::as)=(Sum.inl (k:Int),V.ref a)::bf ks as:=rfl;unfold fU at ih⊢;rw[e0,Wz,Wz];have e1:dG (k::ks) (a::as) h=(if decide (k≠h)=true then(a::dG ks as h) else dG ks as h):=by
   unfold dG;rw[QE,Wz];split<;>rfl
  rw[e1,ih];by_cases z:k=h;·grind
  ·have z':¬((Sum.inl (k:Int):Key)=.inl (h:Int)):=λw=>z (by have:=AV w;omega);rw[if_pos (by simp[z']),if_pos (by simp[z]),if_pos (by simp[z])];rfl
 |[],_::_,e=>rfl
 |_::_,[],e=>by simp at e
theorem mO{α:Type}(h:Nat):∀ps:List (Nat×α),(cL h ps).map (·.1)=(ps.map (·.1)).filter λk=>decide (k≠h)
 |[]=>rfl
 |p::ps=>by
  have ih:=mO h ps;unfold cL at ih⊢
  grind
theorem DE{α:Type}{F G:Addr->Nat×α->Prop}{h:Nat}:∀{as:List Addr} {ps:List (Nat×α)},Paired F as ps->(∀a p,F a p->a∈as->p.1≠h->G a p)->Paired G (dG (ps.map (·.1)) as h) (cL h ps):=by
 intro as ps pr;induction pr with
 |nil=>intro _;exact .nil
 |@cons a p as ps f t ih=>
  intro k;have e1:dG ((p::ps).map (·.1)) (a::as) h=(if decide (p.1≠h)=true then(a::dG (ps.map (·.1)) as h) else dG (ps.map (·.1)) as h):=by
   unfold dG;rw[Wn,QE,Wz];split<;>rfl
  have e2:cL h (p::ps)=(if decide (p.1≠h)=true then(p::cL h ps) else cL h ps):=by
   unfold cL
   grind
  rw[e1,e2];by_cases z:p.1=h;·grind
  ·rw[if_pos (by simp[z]),if_pos (by simp[z])];exact .cons (k a p f Yh z) (ih λb q fb hb nq=>k b q fb (Yv _ hb) nq)
theorem yP{h:Nat}:∀{ks:List Nat} {as:List Addr},(dG ks as h).Sublist as
 |[],as=>by
  unfold dG;simp_all
 |_::_,[]=>by
  unfold dG;simp_all
 |k::ks,a::as=>by
  have ih:=yP (h:=h) (ks:=ks) (as:=as);have e1:dG (k::ks) (a::as) h=(if decide (k≠h)=true then(a::dG ks as h) else dG ks as h):=by
   unfold dG;rw[QE,Wz];split<;>rfl
  grind
theorem sU{α:Type}{h k:Nat}(ne:k≠h):∀{ps:List (Nat×α)},(cL h ps).lookup k=ps.lookup k
 |[]=>rfl
 |p::ps=>by
  have ih:=sU ne (ps:=ps);have e2:cL h (p::ps)=(if decide (p.1≠h)=true then(p::cL h ps) else cL h ps):=by
   unfold cL
   grind
  grind
theorem Vz{α:Type}{F G:Addr->Nat×α->Prop}{h:Nat}{m:Addr}{v:α}(new:∀k,G m (k,v)):∀{as:List Addr} {ps:List (Nat×α)},Paired F as ps->as.Nodup->(ps.map (·.1)).Nodup->bg (bf (ps.map (·.1)) as) (.inl (h:Int))=some (.ref m)->(∀a p,F a p->a∈as->a≠m->G a p)->Paired G as (dU h v ps):=by
 intro as ps pr;induction pr with
 |nil=>intro _ _ e _;cases e
 |@cons a p as ps f t ih=>
  intro n1 n2 e k;have e0:bf ((p::ps).map (·.1)) (a::as)=(Sum.inl (p.1:Int),V.ref a)::bf (ps.map (·.1)) as:=rfl;have e2:dU h v (p::ps)=(if p.1=h then(p.1,v) else p)::dU h v ps:=rfl;rw[Y0] at n1;rw[Wn,Y0] at n2;rw[e2];by_cases z:p.1=h
  ·rw[e0,iN (p:=((Sum.inl (p.1:Int):Key),V.ref a)) (by rw[z])] at e;have ea:a=m:=V.ref.inj (Yu e);have same:dU h v ps=ps:=by
    unfold dU;refine(Wt λq hq=>?_).trans (List.map_id _);rw[if_neg λw=>n2.1 (by rw[z,←w];exact Yi.mpr ⟨q,hq,rfl⟩)];rfl
   rw[if_pos z,same,ea];refine .cons (new p.1) (L2.Paired.bp (tD t) λb q hb=>k b q hb.1 (Yv _ hb.2) λw=>n1.1 (by rw[ea,←w];exact hb.2))
  ·rw[e0,jL (p:=((Sum.inl (p.1:Int):Key),V.ref a)) (λw=>z (by have:=AV w;omega))] at e;rw[if_neg z];have am:a≠m:=λw=>by
    have:∀{ks:List Nat} {bs:List Addr},bg (bf ks bs) (.inl (h:Int))=some (.ref m)->m∈bs:=λ{ks}=>by
     induction ks with
     |nil=>intro bs q;unfold bf at q;rw[List.zip_nil_left] at q;cases q
     |cons x xs ih=>
      intro bs q;cases bs with
      |nil=>unfold bf at q;rw[List.zip_nil_right] at q;cases q
      |cons b bs=>
       have e0:bf (x::xs) (b::bs)=(Sum.inl (x:Int),V.ref b)::bf xs bs:=rfl;rw[e0] at q;by_cases y:x=h
       ·rw[iN (p:=((Sum.inl (x:Int):Key),V.ref b)) (by rw[y])] at q;have eb:b=m:=V.ref.inj (Yu q);rw[eb];exact Yh
       ·rw[jL (p:=((Sum.inl (x:Int):Key),V.ref b)) (λw=>y (by have:=AV w;omega))] at q;exact Yv _ (ih q)
    exact n1.1 (by rw[w];exact this e)
   exact .cons (k a p f Yh am) (ih n1.2 n2.2 e λb q fb hb nb=>k b q fb (Yv _ hb) nb)
def nU(aT:List Int)(ld:List (List Int))(i:Nat):List (List Int):=ld.set i (bw (ld.getD i []) aT)
theorem ie(xs ys:List Int):(bw xs ys).length=ys.length:=by unfold bw;rw[Ya]
theorem ZbO{xs ys:List Int}{n:Nat}(hx:∀x∈xs,0<=x/\x<n)(hy:∀y∈ys,0<=y/\y<xs.length):∀z∈bw xs ys,0<=z/\z<n:=λz hz=>by
 obtain⟨y,my,rfl⟩:=Yi.mp hz;obtain⟨y0,y1⟩:=hy y my;have hl:y.toNat<xs.length:=by omega
 have e:xs.getD y.toNat 0=xs[y.toNat]:=by rw[Yd,Yb hl];rfl
 simp_all
def jh(hb:Nat)(mv:List Nat)(hd:List Nat):List Nat:=mv.foldl (λacc i=>acc.set i hb) hd
def fW(aT:List Int)(mv:List Nat)(ld:List (List Int)):List (List Int):=mv.foldl (nU aT) ld
def JS.mv(st:JS)(hb hm:Nat)(mb mv:List Nat)(aT:List Int):JS:=⟨jh hb mv st.hd,fW aT mv st.ld,dU hb (mb++mv) (cL hm st.mem),cL hm st.fr⟩
inductive Nr(C:Addr)(vs:List V)(H:Hp)(Q:VK)(E:XK):Prop
 |mk (l:JL) (st:JS) (n a b ha hb:Nat) (ta tb tn fm:List Int) (tu:Addr) (ma mb:List Nat) (aI:vs=[.ref l.J,.int (a:Int),.int (b:Int),.ref tu]) (aX:bX H C n l st) (bu:H tu=some (.tup (tn.map V.int))) (bW:n<=8) (dq:tn.length=n) (gK:full tn=true) (kW:st.hd[a]?=some ha) (l6:st.hd[b]?=some hb) (uD:st.ld[a]?=some ta) (G4:st.ld[b]?=some tb) (O0:(∀t∈st.ld,full t=true/\t.length=n)) (Zdy:st.ld.length=st.hd.length) (Ze7:st.mem.lookup ha=some ma) (Ze8:st.mem.lookup hb=some mb) (Ze9:st.fr.lookup ha=some fm) (Ze_:ha≠hb) (Zfa:(∀i∈ma,i<st.hd.length)) (Zfb:ma.length+mb.length<=1000) (Zfc:(st.mem.map (·.1)).Nodup) (Zfd:∀(l':JL) (H':Hp),l'.J=l.J->(∀c∈l'.fp,c∈l.fp)->Out l.fp H H'->bX H' C n l' (st.mv hb ha mb ma (bw (inv ta) (bw tn tb)))->Q .aA H')
theorem vg{α β:Type}{g:List α->β->List α}(hg:∀acc i,(g acc i).length=acc.length):∀(is:List β) (xs:List α),(is.foldl g xs).length=xs.length
 |[],_=>rfl
 |i::is,xs=>by
  rw[List.foldl_cons,vg hg is,hg]
theorem JA{α β:Type}{g:List α->β->List α}{is:List β}{j:Nat}{i:β}(h:is[j]?=some i)(xs:List α):(is.take (j+1)).foldl g xs=g ((is.take j).foldl g xs) i:=by
 rw[Y6,h,List.foldl_append];rfl
theorem Z5(is:List Nat)(i k:Nat):(dC is).set i (.int (k:Int))=dC (is.set i k):=by
 simp_all
theorem JB{α β:Type}{F:α->β->Prop}{x:α}{y:β}(f:F x y):∀{xs:List α} {ys:List β} (i:Nat),Paired F xs ys->Paired F (xs.set i x) (ys.set i y)
 |_,_,_,.nil=>.nil
 |_,_,0,.cons _ t=>.cons f t
 |_,_,i+1,.cons g t=>.cons g (JB f i t)
theorem oF{xs ys:List Int}(fx:full xs=true)(fy:full ys=true)(e:xs.length=ys.length):full (bw xs ys)=true:=by
 have p1:(bw xs ys).Perm ((aH ys.length).map λx=>xs.getD x.toNat 0):=(oA fy).map _;have e2:((aH ys.length).map λx=>xs.getD x.toNat 0)=xs:=by
  refine Ws λi=>?_;rw[Yg];by_cases hi:i<ys.length
  ·rw[jK hi]
   grind
  ·rw[Y1 (by rw[eZ];omega),Y1 (by omega)];rfl
 rw[e2] at p1;exact oM (p1.trans (oA fx))
inductive Fy(H5:Hp)(l:JL)(hd:List Nat)(ld:List (List Int))(n:Nat)(sg:Option V->St)(σ:St)(H6:Hp):Prop
 |mk (gI:List Addr) (o9:Option V) (k1:H6 l.ha=some (.lst (dC hd))) (k2:H6 l.la=some (.lst (gI.map V.ref))) (k3:Paired (λa (xs:List Int)=>H6 a=some (.tup (xs.map V.int))) gI ld) (k4:∀t∈ld,full t=true/\t.length=n) (kp:∀c o,H5 c=some o->c≠l.ha->c≠l.la->H6 c=some o) (e:σ=sg o9):Fy H5 l hd ld n sg σ H6
def O1(l:JL)(a b hb ha:Int)(tu tm to mo:Addr)(o9:Option V):St:=[some (.ref l.J),some (.int a),some (.int b),some (.ref tu),some (.int hb),some (.int ha),some (.ref tm),some (.ref to),some (.ref mo),o9]
section
variable {K:ag}{mg:aN}
abbrev F7:List Str:=["self","mover","stayer","turn"]
theorem pW:aS ["self","mover","stayer","turn","head","old_head","to_mover","to_old_head","moved","number"] F7 (aJ CI):=.bc
theorem Z6(F:aL K "move" "Joins.move" CI f fd)(jc:lO K C)(oy:HasFn P w K mg base 1 "followed" lZ (Fv K))(mw:HasFn P w K mg base 1 "turned_back" l4 z9)(bl:Bl mg):aG P w K mg base aK 2 f fd F7 (Nr C):=by
 refine F.o pW λs H hr h=>?_;obtain⟨l,st,n,a,b,ha,hb,ta,tb,tn,fm,tu,ma,mb,rfl,ja,hu,n8,tl,ft,hA,hB,lA,lB,fl,ll,mA,mB,fA,neq,min,lm,ndk,q⟩:=h;refine⟨_,(aq (bM 4 pW.nd (a8 (iL K) (pF K 0) (pv 2))) (aq (bM 5 pW.nd (a8 (iL K) (pF K 0) (pv 1))) (aq (bM 6 pW.nd (aY oy hr (aa (a8 (iL K) (pF K 0) (pv 2)) (aa (pv 3) ai)))) (aq (bM 7 pW.nd (aY oy hr (aa (pv 6) (aa (aY mw hr (aa (a8 (iL K) (pF K 0) (pv 1)) ai)) ai)))) (aq (bM 8 pW.nd (Kc (pF K 0) (pv 5) ⟨rfl,rfl,rfl,rfl⟩)) (aq (cq (Kc (pF K 0) (pv 5) ⟨rfl,rfl,rfl,rfl⟩)) (aq (jd PassesOwn.never rfl (gW (K:=K) rfl (pv 8)) (cE 9 pW.nd) (aq (LM (pF K 0) (pv 9) J_ (pv 4)) (aw (LM (pF K 0) (pv 9) J_ (aY oy hr (aa (pv 7) (aa (a8 (iL K) (pF K 0) (pv 9)) ai))))))) (aw (cq (qx (K:=K) rfl (oV plainAttrs_list PySem.F.slot_list_extend PySem.F.type_list_extend Vf (d_ (bT hr) (pF K 0) (pv 4) (λ_ _=>rfl)) (aa (pv 8) ai)))))))))))),?_⟩;have sz:(10000:Nat)<=sizeLine:=by rw[sizeLine_eq];omega
 obtain⟨dx,ho⟩:=ja.obj;have wj:∀{i:Nat} {t:List Int},st.ld[i]?=some t->∃x,l.eF[i]?=some x/\H x=some (.tup (t.map V.int)):=λ{i t} ht=>by
  have hl:=de ja.lead;have dZ:i<l.eF.length:=by rw[hl];exact(Yk.mp ht).1
  obtain⟨y,ey,hy⟩:=jI ja.lead (Yb dZ);rw[ht] at ey;cases ey;exact⟨_,Yb dZ,hy⟩
 obtain⟨xa,exa,Hh⟩:=wj lA;obtain⟨xb,exb,Hi⟩:=wj lB;have ata:dy (l.eF.map V.ref) (a:Int)=some (.ref xa):=bY (by rw[Yg,exa];rfl);have atb:dy (l.eF.map V.ref) (b:Int)=some (.ref xb):=bY (by rw[Yg,exb];rfl);obtain⟨QF,lta⟩:=fl ta (Ys lA);obtain⟨Hj,Hk⟩:=fl tb (Ys lB);obtain⟨mo,xM,vmo,QG⟩:=mL (f:=λv:List Nat=>HO.lst (dC v)) ja.mem mA;obtain⟨ms,mms,vms,hms⟩:=mL (f:=λv:List Nat=>HO.lst (dC v)) ja.mem mB;obtain⟨fo,mfo,vfo,hfo⟩:=mL (f:=λv:List Int=>HO.lst (v.map V.int)) ja.free fA;have uG:=de ja.mem;have AX:=de ja.free;have nd:=ja.nd;have AZ:∀{x:Addr},x∈l.fE->x∈l.fp:=λ{x} h=>by simp[JL.fp,h]
 simp only[JL.fp,Y0,Yp,not_or] at nd;obtain⟨⟨x1,x2,x3,x4,x5⟩,⟨y1,y2,y3,y4⟩,⟨z1,z2,z3⟩,⟨w1,w2⟩,v1,v2⟩:=nd;refine bZ ?_;refine⟨_,rfl,l.J,C,dx,_,_,rfl,ho,jc.cls,jc.jb,rfl,_,rfl,l.ha,_,_,_,rfl,rfl,aj.of ja.heads,m5 hB,?_⟩;refine bZ ?_;refine⟨_,rfl,l.J,C,dx,_,_,rfl,ho,jc.cls,jc.jb,rfl,_,rfl,l.ha,_,_,_,rfl,rfl,aj.of ja.heads,m5 hA,?_⟩;refine bZ ?_;refine⟨_,rfl,l.J,C,dx,_,_,rfl,ho,jc.cls,jc.lL,rfl,_,rfl,l.la,_,_,_,rfl,rfl,aj.of ja.fV,atb,_,rfl,xb,tu,tb,tn,rfl,aE.of Hi,aE.of hu,λx hx=>by rw[tl,←Hk];exact qi Hj hx,by omega,λtm H1 QD g1 htm=>?_⟩;refine bZ ?_;refine⟨_,rfl,_,rfl,l.J,C,dx,_,_,rfl,g1 _ _ ho,jc.cls,jc.lL,rfl,_,rfl,l.la,_,_,_,rfl,rfl,aj.of (g1 _ _ ja.fV),ata,xa,ta,rfl,g1 _ _ Hh,by omega,QF,λti H2 nti g2 A0=>?_⟩;refine⟨tm,ti,bw tn tb,inv ta,rfl,aE.of (g2 _ _ htm),aE.of A0,?_,by rw[ie];omega,λto H3 A1 g3 QH=>?_⟩
 ·rw[gS,lta];exact ZbO (n:=n) (λx hx=>by rw[←tl];exact qi ft hx) (λy hy=>by rw[tl,←Hk];exact qi Hj hy)
 have uI:=(g1.trans g2).trans g3;generalize Zdz:bw (inv ta) (bw tn tb)=aT at QH q;have ub:full aT=true/\aT.length=n:=by
  rw[←Zdz];refine⟨oF (lJ QF) (oF ft Hj (by omega)) (by rw[gS,ie];omega),by rw[ie,ie];exact Hk⟩
 refine bZ ?_;refine⟨_,rfl,l.J,C,dx,_,_,rfl,uI _ _ ho,jc.cls,jc.s_,rfl,l.md,rfl,.inl ⟨_,.inl (uI _ _ ja.iy)⟩,_,rfl,_,.inl (ha:Int),.ref mo,uI _ _ ja.iy,rfl,vmo,λH4 b4 e4=>?_⟩;rw[yx ha (by rw[Ya];exact uG.symm)] at e4;have o4:=b4 _ _ (uI _ _ ho) x3;have f4:=b4 _ _ (uI _ _ ja.frees) (λz=>w1 z.symm);refine⟨_,rfl,l.J,C,dx,_,_,rfl,o4,jc.cls,jc.qz,rfl,l.fd,rfl,.inl ⟨_,.inl f4⟩,_,rfl,_,.inl (ha:Int),.ref fo,f4,rfl,vfo,λH5 b5 e5=>?_⟩;rw[yx ha (by rw[Ya];exact AX.symm)] at e5;have kF:∀c o,H c=some o->c≠l.md->c≠l.fd->H5 c=some o:=λc o e n1 n2=>b5 _ _ (b4 _ _ (uI _ _ e) n1) n2;have e45:H5 l.md=some _:=b5 _ _ e4 w1;have ph:∀{x:Addr},x∈l.fE->x≠l.ha/\x≠l.la/\x≠l.md/\x≠l.fd:=λ{x} hx=>⟨λz=>y4 (by rw[←z];exact hx),λz=>z3 (by rw[←z];exact hx),λz=>w2 (by rw[←z];exact hx),λz=>v1 (by rw[←z];exact hx)⟩;have QI:=kF _ _ QG (ph xM).2.2.1 (ph xM).2.2.2;have uJ:H5 to=some (.tup (aT.map V.int)):=by
  have n1:to≠l.md:=λz=>by rw[z,g1.trans g2 _ _ ja.iy] at A1;cases A1
  have n2:to≠l.fd:=λz=>by rw[z,g1.trans g2 _ _ ja.frees] at A1;cases A1
  exact b5 _ _ (b4 _ _ QH n1) n2
 dsimp only;have Hl:(dC ma).length=ma.length:=Ya _;have hlen:∀is:List Nat,(jh hb is st.hd).length=st.hd.length:=λis=>vg (λ_ _=>W3) is st.hd;have ZdA:∀is:List Nat,(fW aT is st.ld).length=st.ld.length:=λis=>vg (λ_ _=>by unfold nU;exact W3) is st.ld;refine iP (Fy H5 l (jh hb ma st.hd) (fW aT ma st.ld) n (O1 l a b hb ha tu tm to mo)) (λuK iI=>?_) ?_
 ·refine⟨_,rfl,mo,rfl,⟨_,aj.of QI⟩,qe (K:=K) (a:=mo) (xs:=dC ma) (λj=>Fy H5 l (jh hb (ma.take j) st.hd) (fW aT (ma.take j) st.ld) n (O1 l a b hb ha tu tm to mo))
   ⟨l.eF,none,kF _ _ ja.heads y2 y3,kF _ _ ja.fV z1 z2,L2.Paired.bp ja.lead λc xs e=>kF c _ e (ff e ja.iy (λz=>by cases z)) (ff e ja.frees (λz=>by cases z)),fl,λc o e _ _=>e,rfl⟩
   (λj σ H6 _ ⟨_,_,_,_,_,_,kp,_⟩=>aj.of (kp _ _ QI (ph xM).1 (ph xM).2.1)) ?_ ?_⟩
  ·rintro j v σ H6 hj ⟨gI,o9,k1,k2,k3,k4,kp,rfl⟩;rw[Yg] at hj;obtain⟨i,mi,rfl⟩:∃i,ma[j]?=some i/\V.int (i:Int)=v:=by
    cases e:ma[j]? with
    |none=>rw[e] at hj;cases hj
    |some i=>rw[e] at hj;exact⟨i,rfl,Yu hj⟩
   have hi:=min i (Ys mi);have il:i<(fW aT (ma.take j) st.ld).length:=by rw[ZdA];omega
   have Ze0:=de k3;obtain⟨t,et,A0⟩:=jI k3 (Yb (show i<gI.length by omega));obtain⟨ftt,QJ⟩:=k4 t (Ys et);have oJ:=kp _ _ (kF _ _ ho x3 x4) x1 x2;have ixh:iY (dC (jh hb (ma.take j) st.hd)).length (i:Int)=some i:=by
    rw[MZ (by omega) (by rw[Ya,hlen];omega),Y5]
   have ixl:iY (gI.map V.ref).length (i:Int)=some i:=by
    rw[MZ (by omega) (by rw[Ya];omega),Y5]
   refine bI ?_;refine⟨_,rfl,_,rfl,l.J,C,dx,_,_,rfl,oJ,jc.cls,jc.jb,rfl,_,rfl,l.ha,_,_,i,rfl,rfl,k1,ixh,λH7 b7 e7=>?_⟩;have QK:=b7 _ _ oJ x1;have xN:=b7 _ _ k2 (λz=>y1 z.symm);have to7:H7 to=some (.tup (aT.map V.int)):=b7 _ _ (kp _ _ uJ (ff uJ (kF _ _ ja.heads y2 y3) (λz=>by cases z)) (ff uJ (kF _ _ ja.fV z1 z2) (λz=>by cases z))) (ff (kp _ _ uJ (ff uJ (kF _ _ ja.heads y2 y3) (λz=>by cases z)) (ff uJ (kF _ _ ja.fV z1 z2) (λz=>by cases z))) k1 (λz=>by cases z));have x7:H7 gI[i]=some (.tup (t.map V.int)):=b7 _ _ A0 (ff A0 k1 (λz=>by cases z));have atx:dy (gI.map V.ref) (i:Int)=some (.ref gI[i]):=bY (by rw[Yg,Yb (show i<gI.length by omega)];rfl);refine⟨_,rfl,_,rfl,l.J,C,dx,_,_,rfl,QK,jc.cls,jc.lL,rfl,_,rfl,l.la,_,_,_,rfl,rfl,aj.of xN,atx,to,gI[i],aT,t,rfl,aE.of to7,aE.of x7,λx hx=>by rw[QJ,←ub.2];exact qi ub.1 hx,by have:=ub.2;omega,λtt H8 QL g8 htt=>?_⟩;refine⟨_,rfl,l.J,C,dx,_,_,rfl,g8 _ _ QK,jc.cls,jc.lL,rfl,_,rfl,l.la,_,_,i,rfl,rfl,g8 _ _ xN,ixl,λH9 b9 e9=>?_⟩;have gt:(fW aT (ma.take j) st.ld).getD i []=t:=by rw[Yd,et];rfl
   have eh:jh hb (ma.take (j+1)) st.hd=(jh hb (ma.take j) st.hd).set i hb:=JA mi st.hd;have el:fW aT (ma.take (j+1)) st.ld=(fW aT (ma.take j) st.ld).set i (bw t aT):=by
    have e1:fW aT (ma.take (j+1)) st.ld=nU aT (fW aT (ma.take j) st.ld) i:=JA mi st.ld;rw[e1,←gt];rfl
   have Hg:tt≠l.la:=λz=>by rw[z,xN] at QL;cases QL
   have h9:∀c o,H6 c=some o->c≠l.ha->c≠l.la->H9 c=some o:=λc o e n1 n2=>b9 _ _ (g8 _ _ (b7 _ _ e n1)) n2;refine⟨gI.set i tt,_,?_,?_,?_,?_,λc o e n1 n2=>h9 c o (kp c o e n1 n2) n1 n2,rfl⟩
   ·rw[eh,←Z5];exact b9 _ _ (g8 _ _ e7) y1
   ·rw[e9,List.map_set]
   ·rw[el];exact JB (F:=λa (xs:List Int)=>H9 a=some (.tup (xs.map V.int))) (b9 _ _ htt Hg) i (L2.Paired.bp k3 λc xs e=>h9 c _ e (ff e k1 (λz=>by cases z)) (ff e k2 (λz=>by cases z)))
   ·intro u QM;rw[el] at QM;rcases List.mem_or_eq_of_mem_set QM with z|z;·exact k4 u z
    ·rw[z];exact⟨oF ftt ub.1 (by rw[QJ,ub.2]),by rw[ie];exact ub.2⟩
  ·rintro σ H6 ⟨gI,o9,k1,k2,k3,k4,kp,rfl⟩;rw[Hl,Wq] at k1 k3 k4;exact iI _ _ ⟨gI,o9,k1,k2,k3,k4,kp,rfl⟩
 rintro σ H6 ⟨gI,o9,k1,k2,k3,k4,kp,rfl⟩;have oJ:=kp _ _ (kF _ _ ho x3 x4) x1 x2;have QN:=kp _ _ e45 (λz=>y2 z.symm) (λz=>z1 z.symm);have fd6:=kp _ _ e5 (λz=>y3 z.symm) (λz=>z2 z.symm);have A2:=ph mms;have A3:=ph xM;have wk:∀c o,H c=some o->c≠l.ha->c≠l.la->c≠l.md->c≠l.fd->H6 c=some o:=λc o e n1 n2 n3 n4=>kp _ _ (kF _ _ e n3 n4) n1 n2;have ms6:=wk _ _ hms A2.1 A2.2.1 A2.2.2.1 A2.2.2.2;have mo6:=wk _ _ QG A3.1 A3.2.1 A3.2.2.1 A3.2.2.2;have QO:Paired (λc (p:Nat×List Nat)=>H6 c=some (.lst (dC p.2))/\c∈l.fE) (dG (st.mem.map (·.1)) l.fE ha) (cL ha st.mem):=DE ja.mem λc p e mc _=>by
  obtain⟨q1,q2,q3,q4⟩:=ph mc;exact⟨wk _ _ e q1 q2 q3 q4,mc⟩
 have lkB:(cL ha st.mem).lookup hb=some mb:=by rw[sU (λz=>neq z.symm)];exact mB
 obtain⟨uL,ZdB,F8,F9⟩:=mL (f:=λv:List Nat=>HO.lst (dC v)) (L2.Paired.bp QO λ_ _ h=>h.1) lkB;rw[mO] at F8;have zO:uL∈l.fE:=yP.subset ZdB;refine⟨_,rfl,l.J,C,dx,_,_,rfl,oJ,jc.cls,jc.s_,rfl,_,rfl,l.md,.ref uL,rfl,m9 QN F8,.inl ⟨rfl,_,aj.of F9⟩,_,rfl,uL,mo,_,_,rfl,rfl,F9,mo6,by rw[Hl,Ya];omega,λH7 b7 e7=>?_⟩;obtain⟨r1,r2,r3,r4⟩:=ph zO;have sub:=yP (h:=ha) (ks:=st.mem.map (·.1)) (as:=l.fE);have ZdC:=yP (h:=ha) (ks:=st.fr.map (·.1)) (as:=l.bJ);have QP:∀c∈JL.fp ⟨l.J,l.ha,l.la,l.md,l.fd,gI,dG (st.mem.map (·.1)) l.fE ha,dG (st.fr.map (·.1)) l.bJ ha⟩,c∈l.fp:=λc hc=>by
  simp only[JL.fp,Yp] at hc⊢;rcases hc with h|h|h|h|h|h;·exact .inl h
  ·exact .inr (.inl h)
  ·exact .inr (.inr (.inl h))
  ·exact .inr (.inr (.inr (.inl h)))
  ·exact .inr (.inr (.inr (.inr (.inl h))))
  ·exact .inr (.inr (.inr (.inr (.inr (sub.subset h)))))
 have h7:∀c o,H6 c=some o->c≠uL->H7 c=some o:=λc o e n1=>b7 _ _ e n1;refine q ⟨l.J,l.ha,l.la,l.md,l.fd,gI,dG (st.mem.map (·.1)) l.fE ha,dG (st.fr.map (·.1)) l.bJ ha⟩ H7 rfl QP (λc o e nc=>?_) ⟨⟨dx,h7 _ _ oJ (λz=>x5 (by rw[z];exact zO))⟩,h7 _ _ k1 (λz=>r1 z.symm),h7 _ _ k2 (λz=>r2 z.symm),L2.Paired.bp k3 λc xs e=>h7 c _ e (ff e F9 (λz=>by cases z)),?_,?_,?_,?_,?_,λc hc z=>?_⟩
 ·simp only[JL.fp,Yp,not_or] at nc;exact h7 _ _ (wk _ _ e nc.2.1 nc.2.2.1 nc.2.2.2.1 nc.2.2.2.2.1) (λz=>nc.2.2.2.2.2 (by rw[z];exact zO))
 ·show H7 l.md=some (.dK (bf ((dU hb (mb++ma) (cL ha st.mem)).map (·.1)) _));rw[qb,mO];exact h7 _ _ QN (λz=>r3 z.symm)
 ·refine Vz (F:=λc (p:Nat×List Nat)=>H6 c=some (.lst (dC p.2))/\c∈l.fE) (m:=uL) (λk=>?_) QO (sub.nodup v2) ?_ (by rw[mO];exact F8) λc p e _ nc=>h7 _ _ e.1 nc
  ·show H7 uL=some (.lst (dC (mb++ma)));rw[e7,dC,dC,dC,Yq]
  ·rw[mO];exact ndk.filter _
 ·show H7 l.fd=some (.dK (bf ((cL ha st.fr).map (·.1)) _));rw[mO];exact h7 _ _ fd6 (λz=>r4 z.symm)
 ·refine DE ja.free λc p e mc _=>?_;have no:=ja.out c mc;simp only[JL.fp,Yp,not_or] at no;exact h7 _ _ (wk _ _ e no.2.1 no.2.2.1 no.2.2.2.1 no.2.2.2.2.1) (λz=>no.2.2.2.2.2 (by rw[z];exact zO))
 ·have e0:(JL.fp ⟨l.J,l.ha,l.la,l.md,l.fd,gI,dG (st.mem.map (·.1)) l.fE ha,dG (st.fr.map (·.1)) l.bJ ha⟩).Sublist l.fp:=(((((sub.cons₂ l.fd).cons₂ l.md).cons₂ l.la).cons₂ l.ha).cons₂ l.J);exact e0.nodup ja.nd
 ·exact ja.out c (ZdC.subset hc) (QP c z)
end
structure O2(st:JS)(n a b ha hb:Nat)(ta tb fma xO:List Int)(ma mb:List Nat):Prop where
 hA:st.hd[a]?=some ha
 hB:st.hd[b]?=some hb
 lA:st.ld[a]?=some ta
 lB:st.ld[b]?=some tb
 fl:∀t∈st.ld,full t=true/\t.length=n
 ll:st.ld.length=st.hd.length
 mA:st.mem.lookup ha=some ma
 mB:st.mem.lookup hb=some mb
 fA:st.fr.lookup ha=some fma
 fB:st.fr.lookup hb=some xO
 ne:ha≠hb
 iA:∀i∈ma,i<st.hd.length
 iB:∀i∈mb,i<st.hd.length
 lm:ma.length+mb.length<=1000
 nd:(st.mem.map (·.1)).Nodup
inductive Me(C:Addr)(vs:List V)(H:Hp)(Q:VK)(E:XK):Prop
 |mk (l:JL) (st:JS) (n a b ha hb:Nat) (ta tb tn fma xO:List Int) (tu:Addr) (ma mb:List Nat) (aI:vs=[.ref l.J,.int (a:Int),.int (b:Int),.ref tu]) (aX:bX H C n l st) (bu:H tu=some (.tup (tn.map V.int))) (bW:n<=8) (dq:tn.length=n) (gK:full tn=true) (kW:O2 st n a b ha hb ta tb fma xO ma mb) (l6:∀(l':JL) (aR:JS) (H':Hp),l'.J=l.J->(∀c∈l'.fp,c∈l.fp)->Out l.fp H H'->bX H' C n l' aR->(aR=st.mv hb ha mb ma (bw (inv ta) (bw (inv tn) tb))\/aR=st.mv ha hb ma mb (bw (inv tb) (bw tn ta)))->Q .aA H')
section
variable {K:ag}{mg:aN}
abbrev jV:List Str:=["self","one","other","turn"]
theorem R_:aS jV jV (aJ BC):=.bc
theorem YK(F:aL K "bring_together" "Joins.bring_together" BC f fd)(jc:lO K C)(mw:HasFn P w K mg base 1 "turned_back" l4 z9)(yp:cv P w K mg base 2 "move" C F7 (Nr C))(bl:Bl mg):aG P w K mg base aK 3 f fd jV (Me C):=by
 refine F.o R_ λs H hr h=>?_;obtain⟨l,st,n,a,b,ha,hb,ta,tb,tn,fma,xO,tu,ma,mb,rfl,ja,hu,n8,tl,ft,two,q⟩:=h;refine⟨_,(aw (aV (bP wb (dI K bl (d_ (bT hr) (pF K 0) (a8 (iL K) (pF K 0) (pv 1)) (λ_ _=>rfl))) (dI K bl (d_ (bT hr) (pF K 0) (a8 (iL K) (pF K 0) (pv 2)) (λ_ _=>rfl)))) (aw (cq (cI yp hr (by omega) (pv 0) (aa (pv 1) (aa (pv 2) (aa (aY mw hr (aa (pv 3) ai)) ai)))))) (aw (cq (cI yp hr (by omega) (pv 0) (aa (pv 2) (aa (pv 1) (aa (pv 3) ai)))))))),?_⟩;obtain⟨dx,ho⟩:=ja.obj;obtain⟨xa,mxa,vxa,Hh⟩:=mL (f:=λv:List Nat=>HO.lst (dC v)) ja.mem two.mA;obtain⟨xb,mxb,vxb,Hi⟩:=mL (f:=λv:List Nat=>HO.lst (dC v)) ja.mem two.mB;refine⟨_,rfl,l.J,C,dx,_,_,rfl,ho,jc.cls,jc.s_,rfl,_,rfl,l.J,C,dx,_,_,rfl,ho,jc.cls,jc.jb,rfl,_,rfl,l.ha,_,_,_,rfl,rfl,aj.of ja.heads,m5 two.hA,l.md,.ref xa,rfl,m9 ja.iy vxa,xa,_,rfl,.inl (aj.of Hh),?_⟩;refine⟨_,rfl,l.J,C,dx,_,_,rfl,ho,jc.cls,jc.s_,rfl,_,rfl,l.J,C,dx,_,_,rfl,ho,jc.cls,jc.jb,rfl,_,rfl,l.ha,_,_,_,rfl,rfl,aj.of ja.heads,m5 two.hB,l.md,.ref xb,rfl,m9 ja.iy vxb,xb,_,rfl,.inl (aj.of Hi),_,_,rfl,rfl,_,rfl,bb (λ_=>?_) (λ_=>?_)⟩
 ·refine⟨_,rfl,l.J,dx,_,rfl,ho,rfl,_,rfl,_,rfl,_,rfl,tu,tn,rfl,hu,by omega,ft,λtv H1 ntv g1 htv=>?_⟩;refine⟨l,st,n,a,b,ha,hb,ta,tb,inv tn,fma,tv,ma,mb,rfl,ja.same g1,htv,n8,by rw[gS];exact tl,lJ ft,two.hA,two.hB,two.lA,two.lB,two.fl,two.ll,two.mA,two.mB,two.fA,two.ne,two.iA,two.lm,two.nd,λl' H2 k1 k2 o2 j2=>q l' _ H2 k1 k2 ((Out.of g1).trans o2) j2 (.inl rfl)⟩
 ·refine⟨_,rfl,l.J,dx,_,rfl,ho,rfl,_,rfl,_,rfl,_,rfl,?_⟩;exact⟨l,st,n,b,a,hb,ha,tb,ta,tn,xO,tu,mb,ma,rfl,ja,hu,n8,tl,ft,two.hB,two.hA,two.lB,two.lA,two.fl,two.ll,two.mB,two.mA,two.fB,(λz=>two.ne z.symm),two.iB,by have:=two.lm;omega,two.nd,λl' H2 k1 k2 o2 j2=>q l' _ H2 k1 k2 o2 j2 (.inr rfl)⟩
end
def Ol(H:Hp)(as:List Addr)(bA:List (Int×Int)):Prop:=Paired (λa (p:Int×Int)=>H a=some (.tup [.int p.1,.int p.2])) as bA
def iq(hi hj:Nat)(ti tj si sj:List Int):List (Int×Int):=if hi=hj then si.map λz=>(ti.getD z.toNat 0,tj.getD z.toNat 0) else(si.map λz=>ti.getD z.toNat 0).flatMap λx=>sj.map λz=>(x,tj.getD z.toNat 0)
inductive Mf(C:Addr)(vs:List V)(H:Hp)(Q:VK)(E:XK):Prop
 |mk (l:JL) (st:JS) (n i j hi hj:Nat) (ti tj si sj:List Int) (aI:vs=[.ref l.J,.int (i:Int),.int (j:Int)]) (aX:bX H C n l st) (bu:qW st i hi ti si) (bW:qW st j hj tj sj) (dq:∀(p:Addr) (as:List Addr) (bA:List (Int×Int)) (H':Hp),H p=none->au H H'->H' p=some (.lst (as.map V.ref))->Ol H' as bA->bA.Perm (iq hi hj ti tj si sj)->bA.Pairwise ik->Q (.ref p) H')
inductive E9(C:Addr)(vs:List V)(H:Hp)(Q:VK)(E:XK):Prop
 |mk (l:JL) (st:JS) (n i j hi hj:Nat) (ti tj si sj tn:List Int) (tu:Addr) (aI:vs=[.ref l.J,.int (i:Int),.int (j:Int),.ref tu]) (aX:bX H C n l st) (bu:qW st i hi ti si) (bW:qW st j hj tj sj) (dq:H tu=some (.tup (tn.map V.int))) (gK:(∀q∈iq hi hj ti tj si sj,0<=q.1/\q.1<tn.length)) (kW:(iq hi hj ti tj si sj).length<=1000) (l6:∀(p:Addr) (ns:List Int) (H':Hp),H p=none->au H H'->H' p=some (.lst (ns.map V.int))->ns.Perm (((iq hi hj ti tj si sj).filter λq=>decide (tn.getD q.1.toNat 0=q.2)).map (·.1))->ns.Pairwise (·<·)->Q (.ref p) H')
section
variable {K:ag}{mg:aN}
theorem Tr:aS jV jV (aJ CH):=.bc
theorem Z7(F:aL K "left" "Joins.left" CH f fd)(Cv:cv P w K mg base 3 "pairs" C pb (Mf C))(bl:Bl mg):aG P w K mg base aK 4 f fd jV (E9 C):=by
 refine F.o Tr λs H hr h=>?_;obtain⟨l,st,n,i,j,hi,hj,ti,tj,si,sj,tn,tu,rfl,ja,o1,o2,hu,fC,j_,q⟩:=h;refine⟨_,(aw (aP (XW (xs:=["first","second"]) (fr:=[("turn",3)]) (cl:=[("turn",s.heap.objs.size+1)]) rfl (.gM ⟨rfl,trivial⟩ ⟨⟨rfl,.inl rfl,.inl rfl,rfl⟩,trivial⟩) (λ_ _ _ _=>(mY (K:=K) (n:=2) rfl rfl (c8 (oH (i:=0) (show(["first","second","turn"]:List Str).Nodup by decide+kernel) rfl (Or.inl rfl)) (c8 (oH (i:=1) (show(["first","second","turn"]:List Str).Nodup by decide+kernel) rfl (Or.inl rfl)) mU)))) (gW (K:=K) rfl (cI Cv hr (by omega) (pv 0) (aa (pv 1) (aa (pv 2) ai)))) (λ_ _ _ _=>tK (bP c5 (a8 (iT K) (pv 2) (pv 0)) (pv 1))) (λ_ _ _ _=>(pv 0))))),?_⟩;obtain⟨dx,ho⟩:=ja.obj;refine⟨_,rfl,l.J,dx,_,rfl,ho,rfl,_,rfl,_,rfl,l,st,n,i,j,hi,hj,ti,tj,si,sj,rfl,ja,o1,o2,λp as bA H1 np g1 hp pr pm pw=>?_⟩;have pl:=de pr;have al:(as.map V.ref).length=bA.length:=by rw[Ya];exact pl
 have O3:=pm.length_eq;refine⟨p,rfl,⟨_,aj.of hp⟩,λD hD=>Vh (xs:=as.map V.ref) (λk ys H2=>k<=bA.length/\au H1 H2/\H2 D=some (.lst ys)/\ys=((bA.take k).filter λq=>decide (tn.getD q.1.toNat 0=q.2)).map λq=>V.int q.1) ⟨Yw _,cY hD _,aW,rfl⟩ (λk ys H2 _ ⟨_,g2,_,_⟩=>aj.of (g2 _ _ hp)) ?_ ?_⟩
 ·rintro k v ys H2 hk ⟨_,g2,h2,ey⟩ os nN;obtain⟨u1,u2,rfl⟩:∃u1 u2,os=[u1,u2]:=by
   match os,nN with
   |[u1,u2],_=>exact⟨u1,u2,rfl⟩
  rw[Yg] at hk;obtain⟨c,ec,rfl⟩:∃c,as[k]?=some c/\V.ref c=v:=by
   cases e:as[k]? with
   |none=>rw[e] at hk;cases hk
   |some c=>rw[e] at hk;exact⟨c,rfl,Yu hk⟩
  obtain⟨⟨x,y⟩,Hm,hxy⟩:=jI pr ec;have kl:k<bA.length:=(Yk.mp Hm).1;have bx:=fC (x,y) (pm.subset (Ys Hm));have hx2:=g2 _ _ hxy;have yl:ys.length<sizeLine:=by
   have:=Wl (λq:Int×Int=>decide (tn.getD q.1.toNat 0=q.2)) (bA.take k);rw[Wh] at this;rw[ey,Ya,sizeLine_eq];omega
  refine⟨c,_,rfl,aE.of hx2,rfl,_,_,rfl,bI ⟨_,_,rfl,bI ⟨rfl,⟨[some (.int x),some (.int y)],rfl,rfl⟩,?_⟩⟩⟩;refine⟨_,rfl,_,rfl,tu,_,_,_,rfl,rfl,aE.of (g2 _ _ (g1 _ _ hu)),oR bx.1 bx.2,_,rfl,rfl,_,rfl,?_⟩;have ed:decide (V.int (tn.getD x.toNat 0)=V.int y)=decide (tn.getD x.toNat 0=y):=by
   rw[Wm,decide_eq_true_iff,decide_eq_true_iff];exact⟨V.int.inj,λz=>by rw[z]⟩
  rw[ed];have et:∀(b:Bool),decide (tn.getD x.toNat 0=y)=b->((bA.take (k+1)).filter λq=>decide (tn.getD q.1.toNat 0=q.2)).map (λq=>V.int q.1)=ys++(if b=true then[V.int x] else[]):=λb eb=>by
   rw[ey,Y6,Hm,Wg,Yq]
   congr 1
   show([((x,y):Int×Int)].filter _).map _=_;rw[Wz,eb];cases b<;>rfl
  refine bb (λcc=>?_) (λcc=>?_)
  ·refine⟨_,rfl,h2,yl,kl,λb o e=>?_,aW,?_⟩
   ·rw[aF (cN e hD)];exact g2 _ _ e
   ·rw[et true cc];rfl
  ·refine⟨kl,g2,h2,?_⟩;rw[et false (by cases e:decide (tn.getD x.toNat 0=y) with|true=>exact absurd e cc|false=>rfl)];simp
 ·rintro ys H2 ⟨_,g2,h2,ey⟩;rw[al,Wq] at ey;refine q D ((bA.filter λq=>decide (tn.getD q.1.toNat 0=q.2)).map (·.1)) H2 (g1.free hD) (g1.trans g2) (by rw[h2,ey,Y8];rfl) ((pm.filter _).map _) ?_;rw[Wr];refine(List.Pairwise.and_mem.mp (pw.filter _)).imp ?_;rintro a b ⟨ma,mb,lt⟩;have e1:tn.getD a.1.toNat 0=a.2:=of_decide_eq_true (Y3.mp ma).2;have e2:tn.getD b.1.toNat 0=b.2:=of_decide_eq_true (Y3.mp mb).2;rcases lt with lt|⟨e,lt⟩;·exact lt
  ·rw[←e1,←e2,e] at lt;exact absurd lt (Int.lt_irrefl _)
end
theorem ZbP{H:Hp}{g:Nat->Int×Int}:∀{ys:List V} {ks:List Nat},Paired (λy k=>∃a,y=V.ref a/\H a=some (.tup [.int (g k).1,.int (g k).2])) ys ks->∃as:List Addr,ys=as.map V.ref/\Ol H as (ks.map g):=by
 intro ys ks pr;induction pr with
 |nil=>exact⟨[],rfl,.nil⟩
 |cons z t ih=>
  obtain⟨a,e,h⟩:=z;obtain⟨as,e2,h2⟩:=ih;exact⟨a::as,by rw[e,e2];rfl,.cons h h2⟩
theorem map_range{α:Type}(g:Int->α)(si:List Int):(List.range si.length).map (λk=>g (si.getD k 0))=si.map g:=by
 have e2:(List.range si.length).map (λk=>g (si.getD k 0))=((List.range si.length).map λk=>si.getD k 0).map g:=by rw[Y8];rfl
 rw[e2,(range_getD si 0)]
def O4(D:Addr)(H:Hp)(as:List Addr)(bA:List (Int×Int)):Prop:=Paired (λa (p:Int×Int)=>a≠D/\H a=some (.tup [.int p.1,.int p.2])) as bA
theorem Ee{α β γ:Type}(g:α->β->γ)(ys:List β):∀xs:List α,(xs.flatMap λx=>ys.map (g x)).length=xs.length*ys.length
 |[]=>by simp
 |x::xs=>by rw[List.flatMap_cons,Yl,Ee g ys xs,Ya,Wb,Nat.succ_mul];omega
theorem WS{α β γ:Type}{g:α->List γ}{xs:List α}{i:Nat}{x:α}(h:xs[i]?=some x):(xs.take (i+1)).flatMap g=(xs.take i).flatMap g++g x:=by
 rw[Y6,h,List.flatMap_append];simp
theorem Kk{ns:List Int}(so:ns.Pairwise (·<=·))(nd:ns.Nodup):ns.Pairwise (·<·):=by
 refine(List.Pairwise.and so (W6.mp nd)).imp ?_
 grind
theorem Z8(x:Int){ns:List Int}(st:ns.Pairwise (·<·)):(ns.map λy=>((x,y):Int×Int)).Pairwise ik:=by
 rw[Wr];exact st.imp λh=>.inr ⟨rfl,h⟩
theorem Z9{ns:List Int}(st:ns.Pairwise (·<·)){k:Nat}{x y:Int}(hx:ns[k]?=some x)(my:y∈ns.take k):y<x:=by
 obtain⟨i,hi,rfl⟩:=Wf.mp my;obtain⟨hk,rfl⟩:=Yk.mp hx;rw[Wh] at hi;rw[List.getElem_take];exact Wv.mp st i k (by omega) hk (by omega)
section
variable {K:ag}{mg:aN}
theorem Ce:aS ["self","one","other","here","there"] pb (aJ Cp):=.bc
theorem YL(F:aL K "pairs" "Joins.pairs" Cp f fd)(jc:lO K C)(sv:cv P w K mg base 1 "together" C pb (DD C))(lG:cv P w K mg base 2 "open_at" C wC (yO C))(bl:Bl mg):aG P w K mg base aK 3 f fd pb (Mf C):=by
 refine F.o Ce λs H hr h=>?_;obtain⟨l,st,n,i,j,hi,hj,ti,tj,si,sj,rfl,ja,o1,o2,q⟩:=h;refine⟨_,(aq (aV (eQ (di (cI sv hr (by omega) (pv 0) (aa (pv 1) (aa (pv 2) ai))))) (aw (aP (XX (xs:=["first","second"]) (fr:=[("self",0),("other",2)]) (cl:=[("self",s.heap.objs.size+1),("other",s.heap.objs.size+1+1)]) rfl (.gM ⟨rfl,⟨rfl,trivial⟩⟩ ⟨⟨rfl,.inl rfl,.inl rfl,rfl⟩,⟨⟨rfl,.inl rfl,.inl rfl,rfl⟩,trivial⟩⟩) (λ_ _ _ _=>(oH (i:=0) (show(["first","second","self","other"]:List Str).Nodup by decide+kernel) rfl (Or.inl rfl))) (gW (K:=K) rfl (cI lG hr (by omega) (pv 0) (aa (pv 1) ai))) (λ_ _ _ _=>(gW (K:=K) rfl (cI lG hr (by omega) (pv 2) (aa (pv 3) ai)))) (λ_ _ _ _=>(oH (i:=1) (show(["first","second","self","other"]:List Str).Nodup by decide+kernel) rfl (Or.inl rfl))) (λ_ _ _ _=>(e_ (aa (pv 0) (aa (pv 1) ai))))))) aZ) (aq (iQ (i:=3) Ce.nd rfl (Or.inr rfl) (a8 (iL K) (pF K 0) (pv 1))) (aq (iQ (i:=4) Ce.nd rfl (Or.inr rfl) (a8 (iL K) (pF K 0) (pv 2))) (aw (aP (gU (X2 (K:=K) rfl) rfl bl.yK yD (aa (ku (x:="section") (fr:=[("there",4),("here",3)]) (cl:=[("there",s.heap.objs.size+1+1+1+1),("here",s.heap.objs.size+1+1+1)]) rfl (.gM ⟨rfl,⟨rfl,trivial⟩⟩ ⟨⟨rfl,.inl rfl,.inl rfl,rfl⟩,⟨⟨rfl,.inl rfl,.inl rfl,rfl⟩,trivial⟩⟩) (gW (K:=K) rfl (d_ (bT hr) (pF K 0) (a8 (iL K) (pF K 0) (pv 1)) (λ_ _=>rfl))) (λ_ _ _ _=>mV) (λ_ _ _ _=>(e_ (aa (a8 (iT K) (pv 2) (pv 0)) (aa (a8 (iT K) (pv 1) (pv 0)) ai))))) ai))))))),?_⟩;obtain⟨dx,ho⟩:=ja.obj;have f1:=o1.j_;have f2:=o2.j_;refine⟨_,rfl,l.J,dx,_,rfl,ho,rfl,_,rfl,_,rfl,l,st,n,i,j,hi,hj,rfl,ja,o1.hd,o2.hd,_,rfl,?_⟩;by_cases eh:hi=hj
 ·rw[decide_eq_true eh];refine cR (a_ ?_);have es:si=sj:=by have a:=o1.fr;have b:=o2.fr;rw[eh,b] at a;exact(Yu a).symm
  have wj:∀{k:Nat} {t:List Int},st.ld[k]?=some t->∃x,l.eF[k]?=some x/\H x=some (.tup (t.map V.int)):=λ{k t} ht=>by
   have hl:=de ja.lead;have dZ:k<l.eF.length:=by rw[hl];exact(Yk.mp ht).1
   obtain⟨y,ey,hy⟩:=jI ja.lead (Yb dZ);rw[ht] at ey;cases ey;exact⟨_,Yb dZ,hy⟩
  obtain⟨xi,exi,hxi⟩:=wj o1.ld;obtain⟨xj,exj,hxj⟩:=wj o2.ld;have ati:dy (l.eF.map V.ref) (i:Int)=some (.ref xi):=bY (by rw[Yg,exi];rfl);have atj:dy (l.eF.map V.ref) (j:Int)=some (.ref xj):=bY (by rw[Yg,exj];rfl);obtain⟨fa,QC,vf,dv⟩:=mL (f:=λv:List Int=>HO.lst (v.map V.int)) ja.free o1.fr;refine bZ ?_;refine⟨_,rfl,l.J,C,dx,_,_,rfl,ho,jc.cls,jc.lL,rfl,_,rfl,l.la,_,_,_,rfl,rfl,aj.of ja.fV,ati,?_⟩;refine bZ ?_;refine⟨_,rfl,l.J,C,dx,_,_,rfl,ho,jc.cls,jc.lL,rfl,_,rfl,l.la,_,_,_,rfl,rfl,aj.of ja.fV,atj,?_⟩;refine⟨_,rfl,l.J,C,dx,_,_,rfl,ho,jc.cls,jc.qz,rfl,_,rfl,l.J,C,dx,_,_,rfl,ho,jc.cls,jc.jb,rfl,_,rfl,l.ha,_,_,_,rfl,rfl,aj.of ja.heads,m5 o1.hd,l.fd,_,rfl,m9 ja.frees vf,fa,rfl,⟨_,aj.of dv⟩,λD hD=>sS (xs:=si.map V.int) (aj.of dv) (by rw[Ya];omega) hD (λ_=>true) (λk y H1=>∃a,y=V.ref a/\a≠D/\H1 a=some (.tup [.int (ti.getD (si.getD k 0).toNat 0),.int (tj.getD (si.getD k 0).toNat 0)])) (λk y H1 H2 b ⟨a,e1,e2,e3⟩=>⟨a,e1,e2,b _ _ e3 e2⟩) (λk v hk H1 g1 Hn Kt Kf kt kf=>?_) λys H1 g1 h1 pr=>?_⟩
  ·obtain⟨z,rfl,hz⟩:=mW hk;have gz:si.getD k 0=z:=by rw[Yd,hz];rfl
   have b1:=o1.fC z (Ys hz);have b2:=o2.fC z (by rw[←es];exact Ys hz);refine lR (dk ?_);refine⟨_,rfl,_,rfl,xi,_,_,_,rfl,rfl,aE.of (g1 _ _ hxi),oR b1.1 b1.2,_,rfl,_,rfl,xj,_,_,_,rfl,rfl,aE.of (g1 _ _ hxj),oR b2.1 b2.2,by show 2<=sizeLine;rw[sizeLine_eq];omega,λa H2 na g2 ha=>?_⟩;obtain⟨ys,Hn⟩:=Hn;exact kt _ H2 rfl g2 ⟨a,rfl,(λz=>by rw[z,Hn] at na;cases na),by rw[gz];exact ha⟩
  ·rw[Dv,Ya] at pr;obtain⟨as,eas,gc⟩:=ZbP (g:=λk=>(ti.getD (si.getD k 0).toNat 0,tj.getD (si.getD k 0).toNat 0)) (L2.Paired.bp pr λy k ⟨a,e1,e2,e3⟩=>⟨a,e1,e3⟩);have em:(List.range si.length).map (λk=>((ti.getD (si.getD k 0).toNat 0,tj.getD (si.getD k 0).toNat 0):Int×Int))=si.map λz=>(ti.getD z.toNat 0,tj.getD z.toNat 0):=map_range (λz=>(ti.getD z.toNat 0,tj.getD z.toNat 0)) si;rw[em] at gc;have al:=de gc;rw[Ya] at al;rw[eas] at h1;have ndp:(si.map λz=>((ti.getD z.toNat 0,tj.getD z.toNat 0):Int×Int)).Nodup:=by
    have d:=o1.dist;rw[W6,Wr] at d⊢;exact d.imp λh e=>h (congrArg (·.1) e)
   refine⟨D,as,_,rfl,aj.of h1,gc,ndp,.inl (by omega),λjz kM pr2 p2 pw p H2 np g2 hp=>?_⟩;refine q p jz kM H2 (g1.free np) (g1.trans g2) hp (L2.Paired.bp pr2 λ_ _ e=>g2 _ _ e) ?_ pw;unfold iq;rw[if_pos eh];exact p2
 ·rw[decide_eq_false eh];refine dk ?_;refine⟨_,rfl,l.J,dx,_,rfl,ho,rfl,_,rfl,l,st,n,i,hi,ti,si,rfl,ja,o1.hd,o1.ld,o1.fr,o1.fC,o1.j_,λp ns H1 np g1 pm Ho hp=>?_⟩;have nl:=pm.length_eq;rw[Ya] at nl;have sns:=Kk Ho (pm.nodup_iff.mpr o1.dist);refine⟨p,rfl,⟨_,aj.of hp⟩,λD hD=>ZR (xs:=ns.map V.int) (λk ys H2=>k<=ns.length/\au H1 H2/\H2 D=some (.lst ys)/\∃(as:List Addr) (bA:List (Int×Int)),ys=as.map V.ref/\O4 D H2 as bA/\bA.Perm ((ns.take k).flatMap λx=>sj.map λz=>(x,tj.getD z.toNat 0))/\bA.Pairwise ik/\∀p∈bA,p.1∈ns.take k) ⟨Yw _,cY hD _,aW,[],[],rfl,.nil,.nil,.nil,λ_ h=>(nomatch h)⟩ (λk ys H2 _ ⟨_,g2,_⟩=>aj.of (g2 _ _ hp)) ?_ ?_ ?_ (λv σ H R R' m h=>m _ _ h)⟩
  ·rintro k v ys H2 hk ⟨kl,g2,h2,as,bA,ey,pa,pp,pw,pin⟩ os nN;obtain⟨u1,u2,rfl⟩:∃u1 u2,os=[u1,u2]:=by
    match os,nN with
    |[u1,u2],_=>exact⟨u1,u2,rfl⟩
   obtain⟨x,rfl,hx⟩:=mW hk;have kl':k<ns.length:=(Yk.mp hx).1;refine bI ⟨⟨[some (.int x),u2],rfl,rfl⟩,?_⟩;refine⟨_,rfl,l.J,dx,_,rfl,g2 _ _ (g1 _ _ ho),rfl,_,rfl,l,st,n,j,hj,tj,sj,rfl,ja.same (g1.trans g2),o2.hd,o2.ld,o2.fr,o2.fC,o2.j_,λp2 rO H3 xP g3 Hq ZdD dt=>?_⟩;have A4:=Hq.length_eq;rw[Ya] at A4;have ZdE:=Kk ZdD (Hq.nodup_iff.mpr o2.dist);have pD:p2≠D:=λz=>by rw[z,h2] at xP;cases xP
   have O3:=pp.length_eq;rw[Ee (λx z=>((x,tj.getD z.toNat 0):Int×Int)) sj (ns.take k),Wh] at O3;have Zfe:=de pa;have Zff:min k ns.length*sj.length<=64*64:=Nat.mul_le_mul (by omega) (by omega);refine⟨p2,rfl,⟨_,aj.of dt⟩,p2,rO.map V.int,λk2 fN σ H4=>k2<=rO.length/\au H1 H4/\H4 D=some (.lst fN)/\H4 p2=some (.lst (rO.map V.int))/\(∃o2,σ=[some (.int x),o2]++_)/\∃(uM:List Addr) (uc:List (Int×Int)),fN=uM.map V.ref/\O4 D H4 uM uc/\uc=bA++(rO.take k2).map λy=>(x,y),rfl,⟨Yw _,g2.trans g3,g3 _ _ h2,dt,⟨u2,rfl⟩,as,bA,ey,L2.Paired.bp pa λ_ _ e=>⟨e.1,g3 _ _ e.2⟩,by simp⟩,λk2 fN σ H4 _ ⟨_,_,_,e,_⟩=>aj.of e,?_,?_⟩
   ·rintro k2 v2 fN σ H4 hk2 ⟨k2l,g4,h4,e4,⟨QQ,rfl⟩,uM,uc,A5,A6,rP⟩;obtain⟨y,rfl,hy⟩:=mW hk2;have ZdF:k2<rO.length:=(Yk.mp hy).1;have QR:=de A6;rw[rP,Yl,Ya,Wh] at QR;refine bI ⟨_,rfl,_,rfl,by show 2<=sizeLine;rw[sizeLine_eq];omega,λa H5 na g5 ha=>⟨g5 _ _ h4,by rw[A5,Ya,QR,sizeLine_eq];have:=o2.j_;omega,ZdF,?_,aW,?_,⟨some (.int y),rfl⟩,uM++[a],uc++[(x,y)],by rw[A5,Yq];rfl,?_,?_⟩⟩
    ·intro b o e;rw[aF (cN e hD)];exact g5 _ _ (g4 _ _ e)
    ·rw[aF pD];exact g5 _ _ e4
    ·have aD:a≠D:=λz=>by rw[z,h4] at na;cases na
     exact mD (F:=λa (p:Int×Int)=>a≠D/\upd H5 D _ a=some (.tup [.int p.1,.int p.2])) ⟨aD,by rw[aF aD];exact ha⟩ (L2.Paired.bp A6 λb p e=>⟨e.1,by rw[aF e.1];exact g5 _ _ e.2⟩)
    ·rw[rP,Y6,hy,Yq,QS];rfl
   ·rintro fN σ H4 ⟨_,g4,h4,e4,⟨QQ,rfl⟩,uM,uc,A5,A6,rP⟩;rw[Ya,Wq] at rP;refine⟨⟨[some (.int x),QQ],rfl,rfl⟩,kl',g4,h4,uM,uc,A5,A6,?_,?_,λp mp=>?_⟩
    ·rw[rP,WS (β:=Int) hx];refine pp.append ?_;have:=Hq.map λy:Int=>((x,y):Int×Int);rw[Y8] at this;exact this
    ·rw[rP];refine List.pairwise_append.mpr ⟨pw,Z8 x ZdE,λp mp q' mq=>.inl ?_⟩;obtain⟨y,_,rfl⟩:=Yi.mp mq;exact Z9 sns hx (pin p mp)
    ·rw[rP] at mp;rw[Y6,hx];rcases Yx.mp mp with mp|mp;·exact Ym _ (pin p mp)
     ·obtain⟨y,_,rfl⟩:=Yi.mp mp;exact Yj _ Yh
  ·rintro ys H2 ⟨_,g2,h2,as,bA,ey,pa,pp,pw,_⟩;rw[Ya,Wq] at pp;rw[ey] at h2;refine q D as bA H2 (g1.free hD) (g1.trans g2) h2 (L2.Paired.bp pa λ_ _ e=>e.2) (pp.trans ?_) pw;unfold iq;rw[if_neg eh];exact pm.flatMap_right _
  ·rintro σ H R R' m ⟨x1,e1,x2,x3,x4,e2,e3,e4,x5,e5,l,st,n,i,h,t,secs,e6,j1,j2,j3,j4,j5,j6,k⟩;refine⟨x1,e1,x2,x3,x4,e2,e3,e4,x5,e5,l,st,n,i,h,t,secs,e6,j1,j2,j3,j4,j5,j6,λp ns H' a b c d e=>?_⟩;obtain⟨a,e,s,r⟩:=k p ns H' a b c d e;exact⟨a,e,s,m _ _ r⟩
end
def ap(t:List Int)(z:Int):Int:=t.getD z.toNat 0
theorem E_(h0:0<=z)(h:z<t.length):t[z.toNat]?=some (ap t z):=by
 unfold ap
 grind
theorem lQ{t:List Int}{n:Nat}(ft:full t=true)(lt:t.length=n){z:Int}(h:0<=z/\z<n):0<=ap t z/\ap t z<n:=by
 have:=qi ft (Ys (E_ h.1 (by omega)));omega
theorem vQ{t:List Int}{n:Nat}(ft:full t=true)(lt:t.length=n){z:Int}(h:0<=z/\z<n):ap (inv t) (ap t z)=z:=by
 have b:=lQ ft lt h;have e2:=vP (xs:=t) (i:=(ap t z).toNat) (by omega);rw[(W5 b.1),vE (vy ft) (E_ h.1 (by omega))] at e2;have e3:ap (inv t) (ap t z)=((z.toNat:Nat):Int):=by
  show(inv t).getD (ap t z).toNat 0=_
  grind
 grind
theorem Mg{t:List Int}{n:Nat}(ft:full t=true)(lt:t.length=n){z:Int}(h:0<=z/\z<n):ap t (ap (inv t) z)=z:=by
 have:=vQ (lJ ft) (by rw[gS];exact lt) h;rw[inv_inv ft] at this;exact this
theorem zw{t:List Int}{n:Nat}(ft:full t=true)(lt:t.length=n){z z':Int}(h:0<=z/\z<n)(h':0<=z'/\z'<n)(e:ap t z=ap t z'):z=z':=by
 have a:=vQ ft lt h;rw[e,vQ ft lt h'] at a;exact a.symm
theorem zx{xs ys:List Int}{z:Int}(h:0<=z/\z<ys.length):ap (bw xs ys) z=ap xs (ap ys z):=by
 show(bw xs ys).getD z.toNat 0=_;unfold bw;rw[Yd,Yg,(E_ h.1 h.2)];rfl
def JS.ae(st:JS)(i:Nat):Nat:=st.hd.getD i 0
def JS.bC(st:JS)(i:Nat):List Int:=st.ld.getD i []
def JS.bO(st:JS)(h:Nat):List Int:=(st.fr.lookup h).getD []
def c6(st:JS)(f:Nat->Int):Prop:=∃s:Nat->Int,∀i,i<st.hd.length->s (st.ae i)∈st.bO (st.ae i)/\f i=ap (st.bC i) (s (st.ae i))
structure WF(n:Nat)(st:JS):Prop where
 ll:st.ld.length=st.hd.length
 fl:∀t∈st.ld,full t=true/\t.length=n
 fr:∀i,i<st.hd.length->∃secs,st.fr.lookup (st.ae i)=some secs/\secs.Nodup/\∀z∈secs,0<=z/\z<(n:Int)
 mem:∀i,i<st.hd.length->∃ms,st.mem.lookup (st.ae i)=some ms/\ms.Nodup/\∀k,k∈ms↔k<st.hd.length/\st.ae k=st.ae i
 nm:(st.mem.map (·.1)).Nodup
 lm:∀k∈st.mem.map (·.1),k<st.hd.length
 nf:(st.fr.map (·.1)).Nodup
 lf:∀k∈st.fr.map (·.1),k<st.hd.length
 hf:∀k∈st.fr.map (·.1),∃i,i<st.hd.length/\st.ae i=k
theorem yq{xs:List Nat}{m:Nat}(nd:xs.Nodup)(h:∀x∈xs,x<m):xs.length<=m:=by
 have l:=nd.length_le_of_subset λx hx=>Wd.mpr (h x hx)
 grind
theorem CO{xs:List Int}{n:Nat}(nd:xs.Nodup)(h:∀x∈xs,0<=x/\x<(n:Int)):xs.length<=n:=by
 have l:=nd.length_le_of_subset (l₂:=aH n) λx hx=>by
  obtain⟨a,b⟩:=h x hx;have:=Ys (jK (n:=n) (i:=x.toNat) (by omega))
  grind
 rwa [eZ] at l
theorem DF{α:Type}:∀{ps:List (Nat×α)} {k:Nat} {v:α},ps.lookup k=some v->k∈ps.map (·.1)
 |[],_,_,h=>by simp at h
 |p::ps,k,v,h=>by
  rw[Jh] at h;by_cases e:k=p.1;·grind
  ·rw[beq_eq_false_iff_ne.mpr e] at h;exact Yv _ (DF h)
theorem yu{α:Type}(h:Nat)(v:α)(k:Nat):∀ps:List (Nat×α),(dU h v ps).lookup k=if k=h then(ps.lookup h).map λ_=>v else ps.lookup k
 |[]=>by show([]:List (Nat×α)).lookup k=_;simp
 |p::ps=>by
  have ih:=yu h v k ps;have e0:dU h v (p::ps)=(if p.1=h then(p.1,v) else p)::dU h v ps:=rfl
  grind
section
variable {n:Nat}{st:JS}
theorem vR{i:Nat}(h:i<st.hd.length):st.hd[i]?=some (st.ae i):=by
 unfold JS.ae;rw[Yd,Yb h];rfl
theorem WF.zy(wf:WF n st){i:Nat}(h:i<st.hd.length):st.ld[i]?=some (st.bC i):=by
 unfold JS.bC;rw[Yd,Yb (by rw[wf.ll];exact h)];rfl
theorem WF.jB(wf:WF n st){i:Nat}(h:i<st.hd.length):full (st.bC i)=true/\(st.bC i).length=n:=wf.fl _ (Ys (wf.zy h))
theorem WF.dF(wf:WF n st){i:Nat}(h:i<st.hd.length):st.fr.lookup (st.ae i)=some (st.bO (st.ae i))/\(st.bO (st.ae i)).Nodup/\∀z∈st.bO (st.ae i),0<=z/\z<(n:Int):=by
 obtain⟨secs,e,a,b⟩:=wf.fr i h;have e2:st.bO (st.ae i)=secs:=by unfold JS.bO;rw[e];rfl
 grind
theorem WF.dist(wf:WF n st){i:Nat}(h:i<st.hd.length):((st.bO (st.ae i)).map λz=>(st.bC i).getD z.toNat 0).Nodup:=by
 obtain⟨e,a,b⟩:=wf.dF h;rw[W6,Wr];refine(List.Pairwise.and_mem.mp (W6.mp a)).imp ?_;rintro u v ⟨mu,mv,ne⟩ z;exact ne (zw (wf.jB h).1 (wf.jB h).2 (b u mu) (b v mv) z)
theorem WF.one(wf:WF n st)(n8:n<=8){i:Nat}(h:i<st.hd.length):qW st i (st.ae i) (st.bC i) (st.bO (st.ae i)):=by
 obtain⟨e,a,b⟩:=wf.dF h;have:=CO a b;refine⟨vR h,wf.zy h,e,λz hz=>by rw[(wf.jB h).2];exact b z hz,by omega,wf.dist h⟩
theorem WF.two(wf:WF n st){i j:Nat}(hi:i<st.hd.length)(hj:j<st.hd.length)(m4:st.hd.length<=400)(ne:st.ae i≠st.ae j):∃ma mb,O2 st n i j (st.ae i) (st.ae j) (st.bC i) (st.bC j) (st.bO (st.ae i)) (st.bO (st.ae j)) ma mb/\(ma.Nodup/\∀k,k∈ma↔k<st.hd.length/\st.ae k=st.ae i)/\(mb.Nodup/\∀k,k∈mb↔k<st.hd.length/\st.ae k=st.ae j):=by
 obtain⟨ma,e1,a1,b1⟩:=wf.mem i hi;obtain⟨mb,e2,a2,b2⟩:=wf.mem j hj;have l1:=yq a1 λk hk=>((b1 k).mp hk).1;have l2:=yq a2 λk hk=>((b2 k).mp hk).1;exact⟨ma,mb,⟨vR hi,vR hj,wf.zy hi,wf.zy hj,wf.fl,wf.ll,e1,e2,(wf.dF hi).1,(wf.dF hj).1,ne,λk hk=>((b1 k).mp hk).1,λk hk=>((b2 k).mp hk).1,by omega,wf.nm⟩,⟨a1,b1⟩,a2,b2⟩
theorem WF.zP(wf:WF n st):st.fr.length<=st.hd.length:=by
 have:=yq wf.nf wf.lf
 grind
theorem WF.Nt(wf:WF n st):st.mem.length<=st.hd.length:=by
 have:=yq wf.nm wf.lm
 grind
theorem wf0:WF n ⟨[],[],[],[]⟩:=⟨rfl,λ_ h=>(nomatch h),λ_ h=>absurd h (Wy _),λ_ h=>absurd h (Wy _),.nil,λ_ h=>(nomatch h),.nil,λ_ h=>(nomatch h),λ_ h=>(nomatch h)⟩
theorem DU(st:JS)(h k:Nat)(v:List Int)(hv:st.fr.lookup h≠none):(st.jR h v).bO k=if k=h then v else st.bO k:=by
 show((dU h v st.fr).lookup k).getD []=_;rw[yu];by_cases e:k=h
 ·rw[if_pos e,if_pos e];cases e2:st.fr.lookup h with
  |none=>grind
  |some x=>rfl
 ·rw[if_neg e,if_neg e];rfl
theorem WF.jR(wf:WF n st){i:Nat}(hi:i<st.hd.length){p:Int->Bool}:WF n (st.jR (st.ae i) ((st.bO (st.ae i)).filter p)):=by
 refine⟨wf.ll,wf.fl,λk hk=>?_,wf.mem,wf.nm,wf.lm,?_,?_,?_⟩
 ·obtain⟨e,a,b⟩:=wf.dF hk;show ∃secs,(dU _ _ st.fr).lookup (st.ae k)=some secs/\_;rw[yu]
  grind
 ·show((dU _ _ st.fr).map (·.1)).Nodup;rw[qb];exact wf.nf
 ·show ∀k∈(dU _ _ st.fr).map (·.1),_;rw[qb];exact wf.lf
 ·show ∀k∈(dU _ _ st.fr).map (·.1),_;rw[qb];exact wf.hf
theorem vt(wf:WF n st){i:Nat}(hi:i<st.hd.length)(ss:List Int)(f:Nat->Int):c6 (st.jR (st.ae i) ((st.bO (st.ae i)).filter λz=>decide ((st.bC i).getD z.toNat 0∈ss))) f↔c6 st f/\f i∈ss:=by
 have hv:st.fr.lookup (st.ae i)≠none:=by rw[(wf.dF hi).1];exact λz=>nomatch z
 constructor
 ·rintro⟨s,h⟩;have hk:∀k,k<st.hd.length->s (st.ae k)∈st.bO (st.ae k)/\f k=ap (st.bC k) (s (st.ae k)):=λk hk=>by
   obtain⟨a,b⟩:=h k hk;refine⟨?_,b⟩;have a':s (st.ae k)∈(st.jR (st.ae i) ((st.bO (st.ae i)).filter λz=>decide ((st.bC i).getD z.toNat 0∈ss))).bO (st.ae k):=a;rw[DU st _ _ _ hv] at a'
   grind
  refine⟨⟨s,hk⟩,?_⟩;obtain⟨a,b⟩:=h i hi;have a':s (st.ae i)∈(st.jR (st.ae i) ((st.bO (st.ae i)).filter λz=>decide ((st.bC i).getD z.toNat 0∈ss))).bO (st.ae i):=a;rw[DU st _ _ _ hv,if_pos rfl] at a';rw[b];exact of_decide_eq_true (Y3.mp a').2
 ·rintro⟨⟨s,h⟩,m⟩;refine⟨s,λk hk=>?_⟩;obtain⟨a,b⟩:=h k hk;refine⟨?_,b⟩;show s (st.ae k)∈(st.jR (st.ae i) ((st.bO (st.ae i)).filter λz=>decide ((st.bC i).getD z.toNat 0∈ss))).bO (st.ae k);rw[DU st _ _ _ hv];by_cases z:st.ae k=st.ae i
  ·rw[if_pos z];rw[z] at a⊢;refine Y3.mpr ⟨a,decide_eq_true ?_⟩;rw[((h i hi).2)] at m;exact m
  ·grind
theorem DV(wf:WF n st){f:Nat->Int}(d:c6 st f)(h1 h2:Nat)(z1 z2:Int)(m1:z1∈st.bO h1)(m2:z2∈st.bO h2)(ne:h1=h2->z1=z2):∃f',c6 st f'/\∀k,k<st.hd.length->(st.ae k=h1->f' k=ap (st.bC k) z1)/\(st.ae k=h2->f' k=ap (st.bC k) z2):=by
 obtain⟨s,h⟩:=d;refine⟨λk=>ap (st.bC k) ((λq=>if q=h1 then z1 else if q=h2 then z2 else s q) (st.ae k)),⟨λq=>if q=h1 then z1 else if q=h2 then z2 else s q,λk hk=>⟨?_,rfl⟩⟩,λk hk=>⟨λe=>?_,λe=>?_⟩⟩;·grind
 ·grind
 ·grind
theorem vI(wf:WF n st){i j:Nat}(hi:i<st.hd.length)(hj:j<st.hd.length){f:Nat->Int}(d:c6 st f):(f i,f j)∈iq (st.ae i) (st.ae j) (st.bC i) (st.bC j) (st.bO (st.ae i)) (st.bO (st.ae j)):=by
 obtain⟨s,h⟩:=d;obtain⟨a1,b1⟩:=h i hi;obtain⟨a2,b2⟩:=h j hj;unfold iq;by_cases e:st.ae i=st.ae j
 ·rw[if_pos e];refine Yi.mpr ⟨s (st.ae i),a1,?_⟩;rw[b1,b2,←e];rfl
 ·rw[if_neg e];refine QT.mpr ⟨f i,Yi.mpr ⟨_,a1,b1.symm⟩,Yi.mpr ⟨_,a2,?_⟩⟩;rw[b2];rfl
theorem K6(wf:WF n st){i j:Nat}(hi:i<st.hd.length)(hj:j<st.hd.length)(live:∃f,c6 st f){x y:Int}(m:(x,y)∈iq (st.ae i) (st.ae j) (st.bC i) (st.bC j) (st.bO (st.ae i)) (st.bO (st.ae j))):∃f,c6 st f/\f i=x/\f j=y:=by
 obtain⟨f0,d0⟩:=live;unfold iq at m;by_cases e:st.ae i=st.ae j
 ·rw[if_pos e] at m;obtain⟨z,mz,ez⟩:=Yi.mp m;obtain⟨f,d,q⟩:=DV wf d0 (st.ae i) (st.ae i) z z mz mz (λ_=>rfl);exact⟨f,d,((q i hi).1 rfl).trans (congrArg (·.1) ez),((q j hj).1 e.symm).trans (congrArg (·.2) ez)⟩
 ·rw[if_neg e] at m;obtain⟨x',mx,my⟩:=QT.mp m;obtain⟨z1,Hr,Hs⟩:=Yi.mp mx;obtain⟨z2,Ht,xQ⟩:=Yi.mp my;obtain⟨f,d,q⟩:=DV wf d0 (st.ae i) (st.ae j) z1 z2 Hr Ht (λz=>absurd z e);exact⟨f,d,(((q i hi).1 rfl).trans Hs).trans (congrArg (·.1) xQ),((q j hj).2 rfl).trans (congrArg (·.2) xQ)⟩
end
theorem Kl(hb:Nat):∀(mv:List Nat) (hd:List Nat) (i:Nat),i<hd.length->(jh hb mv hd)[i]?=if i∈mv then some hb else hd[i]?
 |[],hd,i,h=>rfl
 |k::mv,hd,i,h=>by
  have ih:=Kl hb mv (hd.set k hb) i (by rw[W3];exact h);have e0:jh hb (k::mv) hd=jh hb mv (hd.set k hb):=rfl
  grind
theorem Km(aT:List Int):∀(mv:List Nat) (ld:List (List Int)) (i:Nat),mv.Nodup->i<ld.length->(fW aT mv ld)[i]?=if i∈mv then some (bw (ld.getD i []) aT) else ld[i]?
 |[],ld,i,_,h=>rfl
 |k::mv,ld,i,nd,h=>by
  obtain⟨n1,n2⟩:=Y0.mp nd;have e0:fW aT (k::mv) ld=fW aT mv (nU aT ld k):=rfl;rw[e0,(Km aT mv (nU aT ld k) i n2 (by unfold nU;rw[W3];exact h))];by_cases m:i∈mv
  ·have ne:k≠i:=λz=>n1 (by rw[z];exact m);unfold nU
   grind
  ·rw[if_neg m];unfold nU
   grind
theorem Kn(hb:Nat)(mv hd:List Nat):(jh hb mv hd).length=hd.length:=vg (λ_ _=>W3) mv hd
theorem Ko(aT:List Int)(mv:List Nat)(ld:List (List Int)):(fW aT mv ld).length=ld.length:=vg (λ_ _=>by unfold nU;exact W3) mv ld
section
variable {n:Nat}{st:JS}{a b:Nat}{ma mb:List Nat}{tn:List Int}
theorem oU(wf:WF n st)(im:∀k,k∈ma↔k<st.hd.length/\st.ae k=st.ae a)(aT:List Int){i:Nat}(hi:i<st.hd.length):(st.mv (st.ae b) (st.ae a) mb ma aT).ae i=if st.ae i=st.ae a then st.ae b else st.ae i:=by
 show(jh (st.ae b) ma st.hd).getD i 0=_;rw[Yd,Kl _ _ _ _ hi];by_cases e:st.ae i=st.ae a;·grind
 ·rw[if_neg (λz=>e ((im i).mp z).2),if_neg e,←Yd];rfl
theorem Fb(wf:WF n st)(nd:ma.Nodup)(im:∀k,k∈ma↔k<st.hd.length/\st.ae k=st.ae a)(aT:List Int)(hb:Nat){i:Nat}(hi:i<st.hd.length):(st.mv hb (st.ae a) mb ma aT).bC i=if st.ae i=st.ae a then bw (st.bC i) aT else st.bC i:=by
 show(fW aT ma st.ld).getD i []=_;rw[Yd,Km _ _ _ _ nd (by rw[wf.ll];exact hi)];by_cases e:st.ae i=st.ae a;·rw[if_pos ((im i).mpr ⟨hi,e⟩),if_pos e];rfl
 ·rw[if_neg (λz=>e ((im i).mp z).2),if_neg e,←Yd];rfl
theorem Nu(hb ha:Nat)(aT:List Int){h:Nat}(ne:h≠ha):(st.mv hb ha mb ma aT).bO h=st.bO h:=by
 show((cL ha st.fr).lookup h).getD []=_;rw[sU ne];rfl
theorem v9(hb ha:Nat)(aT:List Int):(st.mv hb ha mb ma aT).hd.length=st.hd.length:=Kn _ _ _
theorem WF.mv(wf:WF n st)(hA:a<st.hd.length)(hB:b<st.hd.length)(ne:st.ae a≠st.ae b)(l9:ma.Nodup)(gN:∀k,k∈ma↔k<st.hd.length/\st.ae k=st.ae a)(uN:mb.Nodup)(rQ:∀k,k∈mb↔k<st.hd.length/\st.ae k=st.ae b)(eb:st.mem.lookup (st.ae b)=some mb){aT:List Int}(ft:full aT=true)(tl:aT.length=n):WF n (st.mv (st.ae b) (st.ae a) mb ma aT):=by
 have len:(st.mv (st.ae b) (st.ae a) mb ma aT).hd.length=st.hd.length:=v9 _ _ _;have AA:∀k,k<st.hd.length->(if st.ae k=st.ae a then st.ae b else st.ae k)≠st.ae a:=λk hk=>by
  grind
 have ky:(st.mv (st.ae b) (st.ae a) mb ma aT).mem.map (·.1)=(st.mem.map (·.1)).filter λk=>decide (k≠st.ae a):=by
  show(dU _ _ (cL _ st.mem)).map (·.1)=_;rw[qb,mO]
 have kf:(st.mv (st.ae b) (st.ae a) mb ma aT).fr.map (·.1)=(st.fr.map (·.1)).filter λk=>decide (k≠st.ae a):=mO _ _;refine⟨?_,λt ht=>?_,λi hi=>?_,λi hi=>?_,?_,?_,?_,?_,?_⟩
 ·show(fW _ _ _).length=(jh _ _ _).length;rw[Ko,Kn];exact wf.ll
 ·obtain⟨i,hi,rfl⟩:=Wf.mp ht;have eV:i<st.hd.length:=by
   have:(fW aT ma st.ld).length=st.ld.length:=Ko _ _ _;have h2:i<(fW aT ma st.ld).length:=hi;have:=wf.ll;omega
  have e:=Fb (mb:=mb) wf l9 gN aT (st.ae b) eV;have e2:(st.mv (st.ae b) (st.ae a) mb ma aT).bC i=(st.mv (st.ae b) (st.ae a) mb ma aT).ld[i]:=by
   unfold JS.bC;rw[Yd,Yb hi];rfl
  rw[←e2,e];obtain⟨f1,f2⟩:=wf.jB eV;by_cases z:st.ae i=st.ae a;·rw[if_pos z];exact⟨oF f1 ft (by omega),by rw[ie];exact tl⟩
  ·rw[if_neg z];exact⟨f1,f2⟩
 ·rw[len] at hi;rw[oU (mb:=mb) wf gN aT hi];show ∃secs,(cL (st.ae a) st.fr).lookup _=some secs/\_;rw[sU (AA i hi)];by_cases e:st.ae i=st.ae a;·rw[if_pos e];exact⟨_,wf.dF hB⟩
  ·rw[if_neg e];exact⟨_,wf.dF hi⟩
 ·rw[len] at hi;rw[oU (mb:=mb) wf gN aT hi];show ∃ms,(dU (st.ae b) (mb++ma) (cL (st.ae a) st.mem)).lookup _=some ms/\_;rw[yu,sU (AA i hi),sU (λz=>ne z.symm),eb];have iff:∀k,k<st.hd.length->((st.mv (st.ae b) (st.ae a) mb ma aT).ae k=(if st.ae k=st.ae a then st.ae b else st.ae k)):=λk hk=>oU (mb:=mb) wf gN aT hk;by_cases e:(if st.ae i=st.ae a then st.ae b else st.ae i)=st.ae b
  ·rw[if_pos e];refine⟨_,rfl,?_,λk=>?_⟩;·grind
   ·grind
  ·have e1:¬st.ae i=st.ae a:=λz=>e (if_pos z);rw[if_neg e1] at e⊢;rw[if_neg e];obtain⟨ms,m1,m2,m3⟩:=wf.mem i hi
   grind
 ·rw[ky];exact wf.nm.filter _
 ·rw[ky,len];exact λk hk=>wf.lm k (Y3.mp hk).1
 ·rw[kf];exact wf.nf.filter _
 ·rw[kf,len];exact λk hk=>wf.lf k (Y3.mp hk).1
 ·rw[kf,len];intro k hk;obtain⟨m1,m2⟩:=Y3.mp hk;obtain⟨i,hi,e⟩:=wf.hf k m1;refine⟨i,hi,?_⟩;rw[oU (mb:=mb) wf gN aT hi,if_neg (λz=>of_decide_eq_true m2 (e.symm.trans z))];exact e
theorem Mh(wf:WF n st)(hA:a<st.hd.length)(hB:b<st.hd.length)(ne:st.ae a≠st.ae b)(l9:ma.Nodup)(gN:∀k,k∈ma↔k<st.hd.length/\st.ae k=st.ae a)(ft:full tn=true)(tl:tn.length=n)(f:Nat->Int):
  c6 (st.mv (st.ae b) (st.ae a) mb ma (bw (inv (st.bC a)) (bw tn (st.bC b)))) f↔∃s:Nat->Int,(∀i,i<st.hd.length->(0<=s (st.ae i)/\s (st.ae i)<(n:Int))/\(st.ae i≠st.ae a->s (st.ae i)∈st.bO (st.ae i))/\f i=ap (st.bC i) (s (st.ae i)))/\f a=ap tn (f b):=by
 obtain⟨fa,la⟩:=wf.jB hA;obtain⟨fb,lb⟩:=wf.jB hB;have fi:=lJ fa;have li:(inv (st.bC a)).length=n:=by rw[gS];exact la
 generalize et:bw (inv (st.bC a)) (bw tn (st.bC b))=aT;have Hu:∀z:Int,0<=z/\z<(n:Int)->ap aT z=ap (inv (st.bC a)) (ap tn (ap (st.bC b) z)):=λz hz=>by
  rw[←et,zx (by rw[ie,lb];exact hz),zx (by rw[lb];exact hz)]
 have ZdG:∀z:Int,0<=z/\z<(n:Int)->0<=ap aT z/\ap aT z<(n:Int):=λz hz=>by
  rw[Hu z hz];exact lQ fi li (lQ ft tl (lQ fb lb hz))
 have O5:aT.length=n:=by rw[←et,ie,ie];exact lb
 constructor
 ·rintro⟨s,h⟩;have h':∀i,i<st.hd.length->s (if st.ae i=st.ae a then st.ae b else st.ae i)∈st.bO (if st.ae i=st.ae a then st.ae b else st.ae i)/\f i=ap (if st.ae i=st.ae a then bw (st.bC i) aT else st.bC i) (s (if st.ae i=st.ae a then st.ae b else st.ae i)):=λi hi=>by
   have x:=h i (by rw[v9];exact hi);rw[oU (mb:=mb) wf gN aT hi,Fb (mb:=mb) wf l9 gN aT _ hi,Nu] at x;·exact x
   ·by_cases e:st.ae i=st.ae a;·rw[if_pos e];exact λz=>ne z.symm
    ·rw[if_neg e];exact e
  have hb:=h' b hB;rw[if_neg (λz=>ne z.symm),if_neg (λz=>ne z.symm)] at hb;have fC:=(wf.dF hB).2.2 _ hb.1;have eq:∀i,i<st.hd.length->f i=ap (st.bC i) (if st.ae i=st.ae a then ap aT (s (st.ae b)) else s (st.ae i)):=λi hi=>by
   have x:=(h' i hi).2;by_cases e:st.ae i=st.ae a
   ·rw[if_pos e,if_pos e,zx (by rw[O5];exact fC)] at x;rw[if_pos e];exact x
   ·rw[if_neg e,if_neg e] at x;rw[if_neg e];exact x
  refine⟨λq=>if q=st.ae a then ap aT (s (st.ae b)) else s q,λi hi=>⟨?_,λe=>?_,eq i hi⟩,?_⟩
  ·show 0<=(if st.ae i=st.ae a then _ else _)/\(if st.ae i=st.ae a then _ else _)<_;by_cases e:st.ae i=st.ae a;·rw[if_pos e];exact ZdG _ fC
   ·rw[if_neg e];have x:=(h' i hi).1;rw[if_neg e] at x;exact(wf.dF hi).2.2 _ x
  ·show(if st.ae i=st.ae a then _ else _)∈_;have x:=(h' i hi).1;rw[if_neg e] at x;rw[if_neg e];exact x
  ·rw[eq a hA,if_pos rfl,Hu _ fC,Mg fa la (lQ ft tl (lQ fb lb fC)),hb.2]
 ·rintro⟨s,h,ef⟩;have sb:=(h b hB).1;have sa:=(h a hA).1;have et2:ap aT (s (st.ae b))=s (st.ae a):=by
   rw[Hu _ sb,←(h b hB).2.2,←ef,(h a hA).2.2,vQ fa la sa]
  refine⟨s,λi hi=>?_⟩;rw[v9] at hi;rw[oU (mb:=mb) wf gN aT hi,Fb (mb:=mb) wf l9 gN aT _ hi,Nu]
  ·by_cases e:st.ae i=st.ae a
   ·rw[if_pos e,if_pos e];refine⟨(h b hB).2.1 (λz=>ne z.symm),?_⟩;rw[zx (by rw[O5];exact sb),et2,←e];exact(h i hi).2.2
   ·rw[if_neg e,if_neg e];exact⟨(h i hi).2.1 e,(h i hi).2.2⟩
  ·by_cases e:st.ae i=st.ae a;·rw[if_pos e];exact λz=>ne z.symm
   ·rw[if_neg e];exact e
end
section
variable {n:Nat}{st:JS}{i j:Nat}{tn ns:List Int}
theorem K7{P:List (Int×Int)}(pm:ns.Perm ((P.filter λq=>decide (tn.getD q.1.toNat 0=q.2)).map (·.1)))(x:Int):x∈ns↔(x,ap tn x)∈P:=by
 rw[pm.mem_iff,Yi];constructor
 ·rintro⟨⟨u,v⟩,m,rfl⟩;obtain⟨m1,m2⟩:=Y3.mp m;have e:ap tn u=v:=of_decide_eq_true m2;rw[e];exact m1
 ·intro m;exact⟨_,Y3.mpr ⟨m,decide_eq_true rfl⟩,rfl⟩
abbrev JS.bA(st:JS)(i j:Nat):List (Int×Int):=iq (st.ae i) (st.ae j) (st.bC i) (st.bC j) (st.bO (st.ae i)) (st.bO (st.ae j))
theorem DW(ne:st.ae i≠st.ae j){x y:Int}(m:(x,y)∈st.bA i j):(∃z∈st.bO (st.ae i),ap (st.bC i) z=x)/\∃z∈st.bO (st.ae j),ap (st.bC j) z=y:=by
 unfold JS.bA iq at m;rw[if_neg ne] at m;obtain⟨x',mx,my⟩:=QT.mp m;obtain⟨z1,Hr,Hs⟩:=Yi.mp mx;obtain⟨z2,Ht,xQ⟩:=Yi.mp my;exact⟨⟨z1,Hr,Hs.trans (congrArg (·.1) xQ)⟩,z2,Ht,(congrArg (·.2) xQ)⟩
theorem Nv(wf:WF n st)(hi:i<st.hd.length){x y:Int}(m:(x,y)∈st.bA i j):0<=x/\x<(n:Int):=by
 obtain⟨f1,l1⟩:=wf.jB hi;by_cases e:st.ae i=st.ae j
 ·unfold JS.bA iq at m;rw[if_pos e] at m;obtain⟨z,mz,ez⟩:=Yi.mp m;have e1:ap (st.bC i) z=x:=congrArg (·.1) ez;rw[←e1];exact lQ f1 l1 ((wf.dF hi).2.2 z mz)
 ·obtain⟨⟨z,mz,ez⟩,_⟩:=DW e m;rw[←ez];exact lQ f1 l1 ((wf.dF hi).2.2 z mz)
theorem Mi(wf:WF n st)(n8:n<=8)(hi:i<st.hd.length)(hj:j<st.hd.length):(st.bA i j).length<=64:=by
 have a:=CO (wf.dF hi).2.1 (wf.dF hi).2.2;have b:=CO (wf.dF hj).2.1 (wf.dF hj).2.2;unfold JS.bA iq;by_cases e:st.ae i=st.ae j;·grind
 ·rw[if_neg e,Ee (λ(x z:Int)=>((x,(st.bC j).getD z.toNat 0):Int×Int)),Ya];exact Yz (Nat.mul_le_mul (show _<=8 by omega) (show _<=8 by omega)) (by omega)
theorem YM(wf:WF n st)(hi:i<st.hd.length)(hj:j<st.hd.length)(e:st.ae i=st.ae j)(ms:∀x,x∈ns↔(x,ap tn x)∈st.bA i j)(f:Nat->Int):c6 st f/\f i∈ns↔c6 st f/\f j=ap tn (f i):=by
 refine and_congr_right λd=>?_;constructor
 ·intro m;have m':=(ms _).mp m;obtain⟨s,h⟩:=d;unfold JS.bA iq at m';rw[if_pos e] at m';obtain⟨z,mz,ez⟩:=Yi.mp m';have e2:ap (st.bC j) z=ap tn (f i):=congrArg (·.2) ez;obtain⟨f1,l1⟩:=wf.jB hi;have fC:=(wf.dF hi).2.2;rw[(h j hj).2,←e,←(zw f1 l1 (fC z mz) (fC _ (h i hi).1) ((congrArg (·.1) ez).trans (h i hi).2)),e2]
 ·intro m;have:=vI wf hi hj d
  grind
theorem Z_(wf:WF n st)(hi:i<st.hd.length)(hj:j<st.hd.length)(ne:st.ae i≠st.ae j){ma mb:List Nat}(l9:ma.Nodup)(gN:∀k,k∈ma↔k<st.hd.length/\st.ae k=st.ae i)(ft:full tn=true)(tl:tn.length=n)(ms:∀x,x∈ns↔(x,ap tn x)∈st.bA i j)(f:Nat->Int):
  c6 (st.mv (st.ae j) (st.ae i) mb ma (bw (inv (st.bC i)) (bw (inv tn) (st.bC j)))) f/\f i∈ns↔c6 st f/\f j=ap tn (f i):=by
 rw[Mh wf hi hj ne l9 gN (lJ ft) (by rw[gS];exact tl)];obtain⟨f1,l1⟩:=wf.jB hi;obtain⟨f2,l2⟩:=wf.jB hj;constructor
 ·rintro⟨⟨s,h,ef⟩,m⟩;obtain⟨⟨z,mz,ez⟩,_⟩:=DW ne ((ms _).mp m);have e1:=zw f1 l1 ((wf.dF hi).2.2 z mz) (h i hi).1 (ez.trans (h i hi).2.2);refine⟨⟨s,λk hk=>⟨?_,(h k hk).2.2⟩⟩,?_⟩;·grind
  ·have rj:0<=f j/\f j<(n:Int):=by rw[(h j hj).2.2];exact lQ f2 l2 (h j hj).1
   rw[ef,Mg ft tl rj]
 ·rintro⟨d,e⟩;have m:=vI wf hi hj d;rw[e] at m;obtain⟨s,h⟩:=d;refine⟨⟨s,λk hk=>⟨(wf.dF hk).2.2 _ (h k hk).1,λ_=>(h k hk).1,(h k hk).2⟩,?_⟩,(ms _).mpr m⟩;have ri:0<=f i/\f i<(n:Int):=by rw[(h i hi).2];exact lQ f1 l1 ((wf.dF hi).2.2 _ (h i hi).1)
  rw[e,vQ ft tl ri]
theorem Zaa(wf:WF n st)(hi:i<st.hd.length)(hj:j<st.hd.length)(ne:st.ae i≠st.ae j){ma mb:List Nat}(uN:mb.Nodup)(rQ:∀k,k∈mb↔k<st.hd.length/\st.ae k=st.ae j)(ft:full tn=true)(tl:tn.length=n)(ms:∀x,x∈ns↔(x,ap tn x)∈st.bA i j)(f:Nat->Int):
  c6 (st.mv (st.ae i) (st.ae j) ma mb (bw (inv (st.bC j)) (bw tn (st.bC i)))) f/\f i∈ns↔c6 st f/\f j=ap tn (f i):=by
 rw[Mh wf hj hi (λz=>ne z.symm) uN rQ ft tl];obtain⟨f2,l2⟩:=wf.jB hj;constructor
 ·rintro⟨⟨s,h,ef⟩,m⟩;obtain⟨_,z,mz,ez⟩:=DW ne ((ms _).mp m);have e1:=zw f2 l2 ((wf.dF hj).2.2 z mz) (h j hj).1 ((ez.trans ef.symm).trans (h j hj).2.2);refine⟨⟨s,λk hk=>⟨?_,(h k hk).2.2⟩⟩,ef⟩
  grind
 ·rintro⟨d,e⟩;have m:=vI wf hi hj d;rw[e] at m;obtain⟨s,h⟩:=d;exact⟨⟨s,λk hk=>⟨(wf.dF hk).2.2 _ (h k hk).1,λ_=>(h k hk).1,(h k hk).2⟩,e⟩,(ms _).mpr m⟩
end
def qA(st aR:JS)(i j:Nat):Prop:=∀a c,a<st.hd.length->c<st.hd.length->(aR.ae a=aR.ae c↔st.ae a=st.ae c\/(st.ae a=st.ae i/\st.ae c=st.ae j)\/(st.ae a=st.ae j/\st.ae c=st.ae i))
theorem YN{st:JS}{i j:Nat}(e:st.ae i=st.ae j):qA st st i j:=λa c _ _=>⟨.inl,λh=>h.elim id λh=>h.elim (λh=>h.1.trans (e.trans h.2.symm)) λh=>h.1.trans (e.symm.trans h.2.symm)⟩
theorem Nx{n:Nat}{st:JS}(wf:WF n st){a b:Nat}{ma mb:List Nat}(im:∀k,k∈ma↔k<st.hd.length/\st.ae k=st.ae a)(aT:List Int)(ne:st.ae a≠st.ae b):qA st (st.mv (st.ae b) (st.ae a) mb ma aT) a b:=λx y hx hy=>by
 rw[oU wf im aT hx,oU wf im aT hy]
 grind
theorem qA.symm{st aR:JS}{i j:Nat}(h:qA st aR j i):qA st aR i j:=λa c ha hc=>(h a c ha hc).trans (or_congr Iff.rfl or_comm)
structure Ny(n:Nat)(st aR:JS)(b:Bool)(i j:Nat)(tn:List Int):Prop where
 wf:WF n aR
 len:aR.hd.length=st.hd.length
 yes:b=true->(∃f,c6 aR f)/\∀f,c6 aR f↔c6 st f/\f j=ap tn (f i)
 no:b=false->aR=st/\∀f,c6 st f->f j≠ap tn (f i)
 ux:b=true->qA st aR i j
inductive Om(C:Addr)(vs:List V)(H:Hp)(Q:VK)(E:XK):Prop
 |mk (l:JL) (st:JS) (n i j:Nat) (tn:List Int) (tu:Addr) (aI:vs=[.ref l.J,.int (i:Int),.int (j:Int),.ref tu]) (aX:bX H C n l st) (bu:WF n st) (bW:(∃f,c6 st f)) (dq:n<=8) (gK:st.hd.length<=400) (kW:i<st.hd.length) (l6:j<st.hd.length) (uD:H tu=some (.tup (tn.map V.int))) (G4:full tn=true) (O0:tn.length=n) (Zdy:∀(b:Bool) (l':JL) (aR:JS) (H':Hp),l'.J=l.J->(∀c∈l'.fp,c∈l.fp)->Out l.fp H H'->bX H' C n l' aR->Ny n st aR b i j tn->Q (.bl b) H')
section
variable {K:ag}{mg:aN}
theorem Io:aS ["self","one","other","turn","sections"] jV (aJ C9):=.bc
theorem ZbQ(F:aL K "tie" "Joins.tie" C9 f fd)(jc:lO K C)(sJ:cv P w K mg base 4 "left" C jV (E9 C))(sv:cv P w K mg base 1 "together" C pb (DD C))(BD:cv P w K mg base 3 "bring_together" C jV (Me C))(sF:cv P w K mg base 2 "narrow" C Ac (Ed K C))(bl:Bl mg):aG P w K mg base aK 5 f fd jV (Om C):=by
 refine F.o Io λs H hr h=>?_;obtain⟨l,st,n,i,j,tn,tu,rfl,ja,wf,live,n8,m4,hi,hj,hu,ft,tl,q⟩:=h;refine⟨_,(aq (bM 4 Io.nd (cI sJ hr (by omega) (pv 0) (aa (pv 1) (aa (pv 2) (aa (pv 3) ai))))) (aq (aV (eQ (DQ (K:=K) rfl (D4 (pv 4) (λ_=>rfl)))) (aw (aP fh)) aZ) (aq (aV (eQ (di (cI sv hr (by omega) (pv 0) (aa (pv 1) (aa (pv 2) ai))))) (aw (cq (cI BD hr (by omega) (pv 0) (aa (pv 1) (aa (pv 2) (aa (pv 3) ai)))))) aZ) (aq (cq (cI sF hr (by omega) (pv 0) (aa (pv 1) (aa (pv 4) ai)))) (aw (aP fh)))))),?_⟩;obtain⟨dx,ho⟩:=ja.obj;have pf:=Mi wf n8 hi hj;refine bZ ?_;refine⟨_,rfl,l.J,dx,_,rfl,ho,rfl,_,rfl,_,rfl,_,rfl,l,st,n,i,j,_,_,_,_,_,_,tn,tu,rfl,ja,wf.one n8 hi,wf.one n8 hj,hu,λp hp=>by rw[tl];exact Nv wf hi (x:=p.1) (y:=p.2) hp,Yz pf (by omega),λp ns H1 np g1 hp pm _=>?_⟩;have ms:=K7 pm;refine zh (λσ H2=>σ=[some (.ref l.J),some (.int (i:Int)),some (.int (j:Int)),some (.ref tu),some (.ref p)]/\H2=H1/\ns≠[]) (λnx hn=>?_) ?_
 ·refine⟨_,rfl,_,.inl ⟨_,aj.of hp,rfl⟩,?_⟩;refine bb (λc=>?_) (λc=>a_ (hn _ _ ⟨rfl,rfl,λz=>?_⟩))
  ·have e:ns=[]:=by
    cases ns with
    |nil=>rfl
    |cons a r=>cases c
   refine q false l st H1 rfl (λ_ h=>h) (Out.of g1) (ja.same g1) ⟨wf,rfl,(λz=>nomatch z),λ_=>⟨rfl,λf d z=>?_⟩,(λz=>nomatch z)⟩;have m:=vI wf hi hj d;rw[z] at m;have:=(ms _).mpr m;rw[e] at this;cases this
  ·rw[z] at c;exact c rfl
 rintro _ _ ⟨rfl,rfl,nne⟩;refine zh (λσ H2=>σ=[some (.ref l.J),some (.int (i:Int)),some (.int (j:Int)),some (.ref tu),some (.ref p)]/\∃(l1:JL) (l_:JS),l1.J=l.J/\(∀c∈l1.fp,c∈l.fp)/\Out l.fp H H2/\bX H2 C n l1 l_/\H2 p=some (.lst (ns.map V.int))/\WF n l_/\l_.hd.length=st.hd.length/\(∀f,c6 l_ f/\f i∈ns↔c6 st f/\f j=ap tn (f i))/\qA st l_ i j) (λnx hn=>?_) ?_
 ·refine⟨_,rfl,l.J,dx,_,rfl,g1 _ _ ho,rfl,_,rfl,_,rfl,l,st,n,i,j,_,_,rfl,ja.same g1,vR hi,vR hj,_,rfl,?_⟩;refine bb (λc=>?_) (λc=>a_ (hn _ _ ⟨rfl,l,st,rfl,λ_ h=>h,Out.of g1,ja.same g1,hp,wf,rfl,?_,?_⟩))
  ·have ne:st.ae i≠st.ae j:=λz=>by
    rw[decide_eq_true z] at c;cases c
   obtain⟨ma,mb,two,⟨l9,gN⟩,uN,rQ⟩:=wf.two hi hj m4 ne;refine⟨_,rfl,l.J,dx,_,rfl,g1 _ _ ho,rfl,_,rfl,_,rfl,_,rfl,l,st,n,i,j,_,_,_,_,tn,_,_,tu,ma,mb,rfl,ja.same g1,g1 _ _ hu,n8,tl,ft,two,λl1 l_ H2 k1 k2 o2 j2 es=>hn _ _ ⟨rfl,l1,l_,k1,k2,(Out.of g1).trans o2,j2,o2 _ _ hp (λz=>ja.ne np z),?_⟩⟩;obtain⟨fi,li⟩:=wf.jB hi;obtain⟨fj,lj⟩:=wf.jB hj;rcases es with rfl|rfl;·exact⟨wf.mv hi hj ne l9 gN uN rQ two.mB (oF (lJ fi) (oF (lJ ft) fj (by rw[gS];omega)) (by rw[gS,ie];omega)) (by rw[ie,ie];exact lj),v9 _ _ _,λf=>Z_ wf hi hj ne l9 gN ft tl ms f,Nx wf gN _ ne⟩
   ·exact⟨wf.mv hj hi (λz=>ne z.symm) uN rQ l9 gN two.mA (oF (lJ fj) (oF ft fi (by omega)) (by rw[gS,ie];omega)) (by rw[ie,ie];exact li),v9 _ _ _,λf=>Zaa wf hi hj ne uN rQ ft tl ms f,(Nx wf rQ _ (λz=>ne z.symm)).symm⟩
  ·have e:st.ae i=st.ae j:=by
    by_cases z:st.ae i=st.ae j;·exact z
    ·rw[decide_eq_false z] at c;exact absurd rfl c
   exact λf=>YM wf hi hj e ms f
  ·have e:st.ae i=st.ae j:=by
    by_cases z:st.ae i=st.ae j;·exact z
    ·rw[decide_eq_false z] at c;exact absurd rfl c
   exact YN e
 rintro _ H2 ⟨rfl,l1,l_,k1,k2,o2,j2,dt,xR,O6,iff,hdj⟩;obtain⟨uO,AK⟩:=j2.obj;have uP:i<l_.hd.length:=by rw[O6];exact hi
 have fl:=xR.zP;refine⟨_,rfl,l1.J,uO,_,by rw[k1],AK,rfl,_,rfl,_,rfl,l1,l_,n,i,_,_,_,ns,p,by rw[k1];rfl,j2,xR.one n8 uP,by omega,aj.of dt,λl2 H3 k3 k4 o3 j3=>?_⟩;refine q true l2 _ H3 (k3.trans k1) (λc hc=>k2 c (by rw[←k4];exact hc)) (λb o e nb=>o3 _ _ (o2 _ _ e nb) λz=>nb (k2 b z)) j3 ⟨xR.jR uP,O6,λ_=>⟨?_,λf=>?_⟩,(λz=>nomatch z),λ_=>hdj⟩
 ·obtain⟨x,mx⟩:∃x,x∈ns:=by
   cases ns with
   |nil=>exact absurd rfl nne
   |cons a r=>exact⟨a,Yh⟩
  obtain⟨f,d,e1,e2⟩:=K6 wf hi hj live ((ms x).mp mx);refine⟨f,(vt xR uP ns f).mpr ((iff f).mpr ⟨d,?_⟩)⟩;rw[e2,e1]
 ·exact(vt xR uP ns f).trans (iff f)
end
def wm(xs ys:List Int):Prop:=full xs=true/\full ys=true/\xs.length=ys.length/\2<=xs.length/\xs.length<=8
structure Fc where
 k:Str
 one:Nat
 aQ:Int
 tn:List Int
abbrev c_:Str:="said"
def pB(F:List Fc)(x y:Nat)(t:List Int):Prop:=∃c∈F,c.k≠c_/\((c.one=x/\c.aQ.toNat=y/\t=c.tn)\/(c.aQ.toNat=x/\c.one=y/\t=inv c.tn))
structure gf(n m:Nat)(c:Fc):Prop where
 one:c.one<m
 iJ:c.k≠c_->(0<=c.aQ/\c.aQ.toNat<m)/\full c.tn=true/\c.tn.length=n
theorem tI:pB (F++[c]) x y t↔pB F x y t\/(c.k≠c_/\((c.one=x/\c.aQ.toNat=y/\t=c.tn)\/(c.aQ.toNat=x/\c.one=y/\t=inv c.tn))):=by
 constructor
 ·rintro⟨c',m,h1,h2⟩;rcases Yx.mp m with m|m;·exact .inl ⟨c',m,h1,h2⟩
  ·rw[Yr] at m;subst m;exact .inr ⟨h1,h2⟩
 ·rintro(⟨c',m,h⟩|h);·exact⟨c',Ym _ m,h⟩
  ·exact⟨c,Yj _ Yh,h⟩
theorem mem_lookup:∀{ps:List (Nat×α)} {k:Nat} {v:α},(ps.map (·.1)).Nodup->(k,v)∈ps->ps.lookup k=some v
 |p::ps,k,v,nd,h=>by
  obtain⟨n1,n2⟩:=Y0.mp (show(p.1::ps.map (·.1)).Nodup from nd);rw[Jh];rcases Yp.mp h with h|h;·grind
  ·have e:k≠p.1:=λz=>n1 (by rw[←z];exact Yi.mpr ⟨_,h,rfl⟩);rw[beq_eq_false_iff_ne.mpr e];exact mem_lookup n2 h
theorem DG{α:Type}{ps:List (Nat×α)}{q:Nat×α}{k:Nat}{v:α}(h:ps.lookup k=some v):(ps++[q]).lookup k=some v:=by
 grind
theorem VA{α:Type}{ps:List (Nat×α)}{k:Nat}{v:α}(h:ps.lookup k=none):(ps++[(k,v)]).lookup k=some v:=by
 grind
theorem Mj(ok:∀c∈F,gf n m c)(e:pB F x y t):x<m/\y<m/\full t=true/\t.length=n:=by
 obtain⟨c,mc,ns,h⟩:=e;obtain⟨⟨o0,om⟩,ft,tl⟩:=(ok c mc).iJ ns;have o1:=(ok c mc).one;rcases h with⟨rfl,rfl,rfl⟩|⟨rfl,rfl,rfl⟩;·grind
 ·exact⟨om,o1,lJ ft,by rw[gS];exact tl⟩
inductive dH(F:List Fc)(x:Nat):Nat->Prop
 |refl:dH F x x
 |step {y z:Nat} {t:List Int}:dH F x y->pB F y z t->dH F x z
section
variable {F:List Fc}{n m x:Nat}{a:Int}{g:List (Nat×Int)}
end
open Classical in
def g_(f:Nat->Int)(c:Fc):Prop:=(c.k=c_->f c.one=c.aQ)/\(c.k≠c_->f c.aQ.toNat=ap c.tn (f c.one))
def xS(n m:Nat)(f:Nat->Int):Prop:=∀i,i<m->0<=f i/\f i<(n:Int)
structure ee(n:Nat)(st:JS)(F:List Fc):Prop where
 wf:WF n st
 A7:∀c∈F,gf n st.hd.length c
 iff:∀f,c6 st f↔xS n st.hd.length f/\∀c∈F,g_ f c
 live:∃f,c6 st f
 conn:∀i j,i<st.hd.length->j<st.hd.length->(st.ae i=st.ae j↔dH F i j)
open Classical in
section
variable {n x:Nat}{st:JS}{F:List Fc}
theorem ee.put(me:ee n st F)(ok:gf n st.hd.length c)(wf':WF n aR)(len:aR.hd.length=st.hd.length)(live:∃f,c6 aR f)(iff:∀f,c6 aR f↔c6 st f/\g_ f c)(cn:∀i j,i<st.hd.length->j<st.hd.length->(aR.ae i=aR.ae j↔dH (F++[c]) i j)):ee n aR (F++[c]):=by
 refine⟨wf',λc' m'=>?_,λf=>?_,live,by rw[len];exact cn⟩
 ·rw[len];rcases Yx.mp m' with m'|m';·exact me.A7 c' m'
  ·grind
 ·rw[iff,me.iff,len,and_assoc]
  grind
theorem jM(hi:i<st.hd.length):(st.more n).ae i=st.ae i:=by
 show(st.hd++[_]).getD i 0=st.hd.getD i 0
 grind
theorem mM:(st.more n).ae st.hd.length=st.hd.length:=by
 show(st.hd++[_]).getD _ 0=_;simp
theorem K8(wf:WF n st)(hi:i<st.hd.length):(st.more n).bC i=st.bC i:=by
 show(st.ld++[_]).getD i []=st.ld.getD i [];rw[Yd,Y7 (by rw[wf.ll];exact hi),←Yd]
theorem Kp(wf:WF n st):(st.more n).bC st.hd.length=aH n:=by
 show(st.ld++[_]).getD _ []=_;rw[←wf.ll];simp
theorem Dd{α:Type}{ps:List (Nat×α)}{k:Nat}{v:α}(h:k∉ps.map (·.1)):(ps++[(k,v)]).lookup k=some v:=by
 refine VA ?_;cases e:ps.lookup k with
 |none=>rfl
 |some x=>exact absurd (DF e) h
theorem ic:(st.more n).hd.length=st.hd.length+1:=by
 show(st.hd++[_]).length=_;simp
theorem WT(n:Nat):full (aH n)=true/\(aH n).length=n:=⟨oM (List.Perm.refl (aH n)),eZ n⟩
theorem Ez(h:0<=z/\z<(n:Int)):ap (aH n) z=z:=by
 show(aH n).getD z.toNat 0=z;rw[Yd,jK (by omega)]
 grind
theorem Ef:z∈aH n↔0<=z/\z<(n:Int):=by
 unfold aH;rw[Yi];constructor;·grind
 ·intro h;exact⟨z.toNat,Wd.mpr (by omega),W5 h.1⟩
theorem WF.wF(wf:WF n st)(hi:i<st.hd.length):st.ae i<st.hd.length:=wf.lf _ (DF (wf.dF hi).1)
theorem WF.more(wf:WF n st):WF n (st.more n):=by
 have nm:st.hd.length∉st.mem.map (·.1):=λz=>Wc _ (wf.lm _ z);have nf:st.hd.length∉st.fr.map (·.1):=λz=>Wc _ (wf.lf _ z);have km:(st.more n).mem.map (·.1)=st.mem.map (·.1)++[st.hd.length]:=by
  show(st.mem++[(st.hd.length,[st.hd.length])]).map (·.1)=_;rw[Yq];rfl
 have kf:(st.more n).fr.map (·.1)=st.fr.map (·.1)++[st.hd.length]:=by
  show(st.fr++[(st.hd.length,aH n)]).map (·.1)=_;rw[Yq];rfl
 have nd:∀{xs:List Nat},xs.Nodup->st.hd.length∉xs->(xs++[st.hd.length]).Nodup:=λ{xs} h h'=>Jc.mpr ⟨h,by simp,λu hu w hw z=>by
  have:w=st.hd.length:=by simpa using hw
  rw[z,this] at hu;exact h' hu⟩
 refine⟨?_,λt ht=>?_,λi hi=>?_,λi hi=>?_,?_,?_,?_,?_,?_⟩
 ·show(st.ld++[_]).length=(st.hd++[_]).length;rw[Yl,Yl,wf.ll];rfl
 ·rcases Yx.mp (show t∈st.ld++[_] from ht) with h|h;·exact wf.fl t h
  ·rw[Yr] at h;rw[h];exact WT n
 ·rw[ic] at hi;by_cases z:i=st.hd.length
  ·rw[z,mM];exact⟨aH n,Dd nf,GH.IQ n,λz hz=>Ef.mp hz⟩
  ·rw[jM (by omega)];exact⟨_,DG (wf.dF (i:=i) (by omega)).1,(wf.dF (i:=i) (by omega)).2⟩
 ·rw[ic] at hi;by_cases z:i=st.hd.length
  ·rw[z,mM];refine⟨[st.hd.length],Dd nm,by simp,λk=>?_⟩;rw[Yr,ic];constructor
   ·rintro rfl;exact⟨by omega,mM⟩
   ·rintro⟨h1,h2⟩;by_cases w:k=st.hd.length;·exact w
    ·rw[jM (by omega)] at h2;have:=wf.wF (i:=k) (by omega);omega
  ·obtain⟨ms,e,a,b⟩:=wf.mem i (by omega);rw[jM (by omega)];refine⟨ms,DG e,a,λk=>?_⟩;rw[b,ic];constructor
   ·rintro⟨h1,h2⟩;exact⟨by omega,by rw[jM h1];exact h2⟩
   ·rintro⟨h1,h2⟩;by_cases w:k=st.hd.length
    ·rw[w,mM] at h2;have:=wf.wF (i:=i) (by omega);omega
    ·rw[jM (by omega)] at h2;exact⟨by omega,h2⟩
 ·rw[km];exact nd wf.nm nm
 ·rw[km,ic];intro k hk;rcases Yx.mp hk with h|h;·have:=wf.lm k h;omega
  ·rw[Yr] at h;omega
 ·rw[kf];exact nd wf.nf nf
 ·rw[kf,ic];intro k hk;rcases Yx.mp hk with h|h;·have:=wf.lf k h;omega
  ·rw[Yr] at h;omega
 ·rw[kf,ic];intro k hk;rcases Yx.mp hk with h|h
  ·obtain⟨i,hi,e⟩:=wf.hf k h;exact⟨i,by omega,by rw[jM hi];exact e⟩
  ·rw[Yr] at h;exact⟨st.hd.length,by omega,by rw[mM,h]⟩
theorem Kq(wf:WF n st)(f:Nat->Int):c6 (st.more n) f↔c6 st f/\(0<=f st.hd.length/\f st.hd.length<(n:Int)):=by
 have xT:(st.more n).bO st.hd.length=aH n:=by
  show((st.fr++[(st.hd.length,aH n)]).lookup st.hd.length).getD []=_;rw[Dd (λz=>Wc _ (wf.lf _ z))];rfl
 have QU:∀i,i<st.hd.length->(st.more n).bO (st.ae i)=st.bO (st.ae i):=λi hi=>by
  show((st.fr++[(st.hd.length,aH n)]).lookup _).getD []=_;rw[DG (wf.dF hi).1];rfl
 constructor
 ·rintro⟨s,h⟩;refine⟨⟨s,λi hi=>?_⟩,?_⟩
  ·have x:=h i (by rw[ic];omega);rw[jM hi,K8 wf hi,QU i hi] at x;exact x
  ·have x:=h st.hd.length (by rw[ic];omega);rw[mM,Kp wf,xT] at x;have b:=Ef.mp x.1;rw[x.2,Ez b];exact b
 ·rintro⟨⟨s,h⟩,b⟩;refine⟨λq=>if q=st.hd.length then f st.hd.length else s q,λi hi=>?_⟩;rw[ic] at hi;by_cases z:i=st.hd.length
  ·rw[z,mM,Kp wf,xT];show(if st.hd.length=st.hd.length then _ else _)∈_/\f st.hd.length=ap _ (if st.hd.length=st.hd.length then _ else _);rw[if_pos rfl,Ez b];exact⟨Ef.mpr b,rfl⟩
  ·have eV:i<st.hd.length:=by omega
   have:=wf.wF eV;rw[jM eV,K8 wf eV,QU i eV]
   grind
theorem Zab(ok:∀c∈F,gf n m c)(h:dH F x y)(hx:x<m):y<m:=by
 cases h with
 |refl=>exact hx
 |step _ e=>exact(Mj ok e).2.1
theorem ee.more(me:ee n st F)(n0:0<n):ee n (st.more n) F:=by
 refine⟨me.wf.more,λc mc=>?_,λf=>?_,?_,λi j hi hj=>?_⟩
 ·have ok:=me.A7 c mc;rw[ic];exact⟨Wk ok.one,λns=>⟨⟨(ok.iJ ns).1.1,Wk (ok.iJ ns).1.2⟩,(ok.iJ ns).2⟩⟩
 ·rw[Kq me.wf,me.iff,ic];constructor
  ·rintro⟨⟨h1,h2⟩,h3⟩;refine⟨λi hi=>?_,h2⟩;by_cases z:i=st.hd.length;·rw[z];exact h3
   ·exact h1 i (by omega)
  ·rintro⟨h1,h2⟩;exact⟨⟨λi hi=>h1 i (by omega),h2⟩,h1 _ (by omega)⟩
 ·obtain⟨f0,s,h⟩:=me.live;refine⟨λi=>if i=st.hd.length then 0 else f0 i,(Kq me.wf _).mpr ⟨⟨s,λi hi=>?_⟩,?_⟩⟩;·grind
  ·grind
 ·rw[ic] at hi hj;by_cases zi:i=st.hd.length
  ·by_cases zj:j=st.hd.length;·rw[zi,zj];exact⟨λ_=>.refl,λ_=>rfl⟩
   ·rw[zi,mM,jM (by omega)];have:=me.wf.wF (i:=j) (by omega);refine⟨λz=>by omega,λz=>?_⟩;have b:∀{k:Nat},dH F st.hd.length k->k=st.hd.length:=λ{k} h=>by
     induction h with
     |refl=>rfl
     |step _ e ih=>rw[ih] at e;exact absurd (Mj me.A7 e).1 (Wc _)
    exact absurd (b z) zj
  ·by_cases zj:j=st.hd.length
   ·rw[zj,mM,jM (by omega)];have:=me.wf.wF (i:=i) (by omega);refine⟨λz=>by omega,λz=>?_⟩;have:=Zab me.A7 z (by omega);omega
   ·rw[jM (by omega),jM (by omega)];exact me.conn i j (by omega) (by omega)
theorem ZcG:ee n ⟨[],[],[],[]⟩ []:=⟨wf0,λ_ h=>(nomatch h),λf=>⟨λ_=>⟨λ_ h=>absurd h (Wy _),λ_ h=>(nomatch h)⟩,λ_=>⟨λ_=>0,λ_ h=>absurd h (Wy _)⟩⟩,⟨λ_=>0,λ_=>0,λ_ h=>absurd h (Wy _)⟩,λ_ _ h=>absurd h (Wy _)⟩
end
theorem dH.mono(h:∀x y t,pB F x y t->pB G x y t)(c:dH F x y):dH G x y:=by
 induction c with
 |refl=>exact .refl
 |step _ e ih=>exact .step ih (h _ _ _ e)
theorem dH.trans(c:dH F x y)(d:dH F y z):dH F x z:=by
 induction d with
 |refl=>exact c
 |step _ e ih=>exact .step ih e
theorem WU(h:c.k=c_):dH (F++[c]) x y↔dH F x y:=
 ⟨dH.mono λ_ _ _ e=>(tI.mp e).elim id λz=>absurd h z.1,dH.mono λ_ _ _ e=>tI.mpr (.inl e)⟩
theorem YO(h:c.k≠c_):dH (F++[c]) x y↔dH F x y\/(dH F x c.one/\dH F c.aQ.toNat y)\/(dH F x c.aQ.toNat/\dH F c.one y):=by
 have up:∀{x y:Nat},dH F x y->dH (F++[c]) x y:=λd=>d.mono λ_ _ _ e=>tI.mpr (.inl e);have e1:pB (F++[c]) c.one c.aQ.toNat c.tn:=tI.mpr (.inr ⟨h,.inl ⟨rfl,rfl,rfl⟩⟩);have e2:pB (F++[c]) c.aQ.toNat c.one (inv c.tn):=tI.mpr (.inr ⟨h,.inr ⟨rfl,rfl,rfl⟩⟩);constructor
 ·intro d;induction d with
  |refl=>exact .inl .refl
  |step _ e ih=>
   rcases tI.mp e with e|⟨_,⟨rfl,rfl,_⟩|⟨rfl,rfl,_⟩⟩
   ·rcases ih with a|⟨a,b⟩|⟨a,b⟩;·exact .inl (.step a e)
    ·exact .inr (.inl ⟨a,.step b e⟩)
    ·exact .inr (.inr ⟨a,.step b e⟩)
   ·rcases ih with a|⟨a,b⟩|⟨a,b⟩;·exact .inr (.inl ⟨a,.refl⟩)
    ·exact .inr (.inl ⟨a,.refl⟩)
    ·exact .inl a
   ·rcases ih with a|⟨a,b⟩|⟨a,b⟩;·exact .inr (.inr ⟨a,.refl⟩)
    ·exact .inl a
    ·exact .inr (.inr ⟨a,.refl⟩)
 ·rintro(a|⟨a,b⟩|⟨a,b⟩);·exact up a
  ·exact((up a).step e1).trans (up b)
  ·exact((up a).step e2).trans (up b)
section
variable {n i j:Nat}{st eg:JS}{F:List Fc}{k:Str}{tn:List Int}{b:Bool}
theorem YQ(me:ee n st F)(to:Ny n st eg b i j tn)(hk:k≠c_)(ok:gf n st.hd.length ⟨k,i,(j:Int),tn⟩):(b=true->ee n eg (F++[⟨k,i,(j:Int),tn⟩]))/\(b=false->ee n eg F/\∀f,c6 eg f->¬g_ f ⟨k,i,(j:Int),tn⟩):=by
 have sat:∀f,g_ f ⟨k,i,(j:Int),tn⟩↔f j=ap tn (f i):=λf=>⟨λh=>by have:=h.2 hk;rwa [show((⟨k,i,(j:Int),tn⟩:Fc).aQ.toNat)=j from Y5 j] at this,λh=>⟨λz=>absurd z hk,λ_=>by rw[show((⟨k,i,(j:Int),tn⟩:Fc).aQ.toNat)=j from Y5 j];exact h⟩⟩;refine⟨λe=>?_,λe=>?_⟩
 ·obtain⟨lv,iff⟩:=to.yes e;have hi:i<st.hd.length:=ok.one;have hj:j<st.hd.length:=by
   have:=(ok.iJ hk).1.2
   rwa [show((⟨k,i,(j:Int),tn⟩:Fc).aQ.toNat)=j from Y5 j] at this
  refine me.put ok to.wf to.len lv (λf=>by rw[iff,sat]) λx y hx hy=>?_;rw[to.ux e x y hx hy,YO (c:=⟨k,i,(j:Int),tn⟩) hk,show((⟨k,i,(j:Int),tn⟩:Fc).aQ.toNat)=j from Y5 j,me.conn x y hx hy,me.conn x i hx hi,me.conn x j hx hj,←me.conn j y hj hy,←me.conn i y hi hy];exact or_congr_right (or_congr (and_congr_right λ_=>eq_comm) (and_congr_right λ_=>eq_comm))
 ·obtain⟨es,no⟩:=to.no e;rw[es];exact⟨me,λf d z=>no f d ((sat f).mp z)⟩
theorem Ml(me:ee n st F)(hi:i<st.hd.length)(m:a∈(st.bO (st.ae i)).map λz=>(st.bC i).getD z.toNat 0):ee n (st.jR (st.ae i) ((st.bO (st.ae i)).filter λz=>decide ((st.bC i).getD z.toNat 0∈[a]))) (F++[⟨c_,i,a,tn⟩]):=by
 refine me.put (c:=⟨c_,i,a,tn⟩) ⟨hi,λz=>absurd rfl z⟩ (me.wf.jR hi) rfl ?_ (λf=>?_) λx y hx hy=>?_
 ·obtain⟨z,mz,rfl⟩:=Yi.mp m;obtain⟨f0,d0⟩:=me.live;obtain⟨f,d,q⟩:=DV me.wf d0 (st.ae i) (st.ae i) z z mz mz (λ_=>rfl);exact⟨f,(vt me.wf hi _ f).mpr ⟨d,by rw[(q i hi).1 rfl];exact Yh⟩⟩
 ·rw[vt me.wf hi,Yr];refine and_congr_right λ_=>?_;exact⟨λh=>⟨λ_=>h,λz=>absurd rfl z⟩,λh=>h.1 rfl⟩
 ·rw[WU rfl];exact me.conn x y hx hy
theorem ZbR(me:ee n st F)(hi:i<st.hd.length)(m:a∉(st.bO (st.ae i)).map λz=>(st.bC i).getD z.toNat 0)(f:Nat->Int)(d:c6 st f):¬g_ f ⟨c_,i,a,tn⟩:=by
 obtain⟨s,h⟩:=d;intro z;have e:f i=a:=z.1 rfl;refine m (Yi.mpr ⟨s (st.ae i),(h i hi).1,?_⟩);rw[←e,(h i hi).2];rfl
end
abbrev dz:=List (Str×Str)
def av(ps:dz)(i:Nat):Str:=(ps.getD i ("","")).1
def cG(ps:dz)(c:Fc):Key:=if c.k=c_ then .inl c.aQ else .inr (av ps c.aQ.toNat)
def dN(ps:dz)(z:Nat)(c:Fc):List Key:=[.inl (z:Int),.inr c.k,.inr (av ps c.one),cG ps c]
def keyOf(k a:Str):Key->List Key
 |.inl b=>[.inr k,.inr a,.inl b]
 |.inr b=>if k="sibling" then[.inr k,.inr (L2.wA a b),.inr (L2.wB a b)] else[.inr k,.inr a,.inr b]
def gO(ps:dz)(c:Fc):List Key:=keyOf c.k (av ps c.one) (cG ps c)
def bF(k:Str):Bool:=decide (k="mother")||decide (k="father")
def eW(ps:dz)(fs:List (Nat×Fc)):List (List Key×V):=fs.map λp=>(gO ps p.2,.int (p.1:Int))
def bK(ps:dz)(fs:List (Nat×Fc)):List (List Key×V):=(fs.filter λp=>bF p.2.k).map λp=>([.inr p.2.k,.inr (av ps p.2.one)],kV (cG ps p.2))
def iK(ps:dz):List (Key×V):=ps.zipIdx.map λp=>(.inr p.1.1,.int (p.2:Int))
structure Ae where
 way:Int
 row:List Key
 c0:Nat
 c1:Nat
def jO(H:Hp)(a:Addr)(d:Ae):Prop:=∃r,H a=some (.tup [.int d.way,.ref r,.int (d.c0:Int),.int (d.c1:Int)])/\H r=some (.tup (d.row.map kV))
structure BS where
 ps:dz
 fs:List (Nat×Fc)
 co:Nat
 dn:List Ae
 un:List Ae
def BS.F(b:BS):List Fc:=b.fs.map (·.2)
structure BL where
 h:Addr
 L:Addr
 sd:Addr
 pl:Addr
 fc:Addr
 kn:Addr
 pr:Addr
 dn:Addr
 un:Addr
 rk:V
 bJ:List Addr
 gP:List Addr
 jC:List Addr
 d7:List Addr
def BL.own(l:BL):List Addr:=[l.h,l.sd,l.pl,l.fc,l.kn,l.pr,l.dn,l.un]
def BL.fp(l:BL):List Addr:=l.own++l.d7
structure fH(K:ag)(C:Addr):Prop where
 cls:fw K C
 v_:cu K C "land"
 qj:cu K C "sides"
 vJ:cu K C "places"
 oN:cu K C "facts"
 y9:cu K C "known"
 tE:cu K C "parents"
 oG:cu K C "coming"
 Nz:cu K C "done"
 K9:cu K C "undone"
 gT:cu K C "reckoned"
abbrev HF(L sd pl fc kn pr:Addr)(co:Int)(dn un:Addr)(rk:V):List (Str×V):=[("land",.ref L),("sides",.ref sd),("places",.ref pl),("facts",.ref fc),("known",.ref kn),("parents",.ref pr),("coming",.int co),("done",.ref dn),("undone",.ref un),("reckoned",rk)]
theorem ZdH(a b c d e f g h i j:V):cw "reckoned" j (cw "undone" i (cw "done" h (cw "coming" g (cw "parents" f (cw "known" e (cw "facts" d (cw "places" c (cw "sides" b (cw "land" a [])))))))))=
  ([("land",a),("sides",b),("places",c),("facts",d),("known",e),("parents",f),("coming",g),("done",h),("undone",i),("reckoned",j)]:List (Str×V)):=rfl
abbrev eG(ps:dz):List (Key×V):=ps.map λp=>(.inr p.1,.str p.2)
inductive qX(H:Hp)(CJ:Addr)(n:Nat)(l:BL)(b:BS):Prop
 |no (e1:l.rk=.aA) (e2:l.d7=[])
 |at_ (jl:JL) (st:JS) (e1:l.rk=.ref jl.J) (e2:l.d7=jl.fp) (ja:bX H CJ n jl st) (me:ee n st b.F) (len:st.hd.length=b.ps.length) (eX:∀a∈l.own,a∉jl.fp)
structure a9(H:Hp)(C CL CJ:Addr)(l:BL)(xs ys:List Int)(b:BS):Prop where
 obj:∃dx,H l.h=some (.ins C dx (HF l.L l.sd l.pl l.fc l.kn l.pr (b.co:Int) l.dn l.un l.rk))
 land:∀H',Out l.fp H H'->fL H' CL l.L xs ys
 cJ:H l.sd=some (.dK (eG b.ps))
 places:H l.pl=some (.dK (iK b.ps))
 facts:H l.fc=some (.dK (bf (b.fs.map (·.1)) l.bJ))
 fact:Paired (λa (p:Nat×Fc)=>H a=some (.tup ((dN b.ps p.1 p.2).map kV))) l.bJ b.fs
 known:H l.kn=some (.dT (eW b.ps b.fs))
 parents:H l.pr=some (.dT (bK b.ps b.fs))
 done:H l.dn=some (.lst (l.gP.map V.ref))
 jk:Paired (jO H) l.gP b.dn
 gv:H l.un=some (.lst (l.jC.map V.ref))
 kB:Paired (jO H) l.jC b.un
 oY:qX H CJ xs.length l b
 nd:l.own.Nodup
theorem jO.out(o:Out fp H H')(t:∀a xs,H a=some (.tup xs)->a∉fp)(h:jO H a d):jO H' a d:=by
 obtain⟨r,h1,h2⟩:=h;exact⟨r,o _ _ h1 (t _ _ h1),o _ _ h2 (t _ _ h2)⟩
theorem bX.off(j:bX H C n l st)(h:H a=some (.tup xs)):a∉l.fp:=by
 intro z;unfold JL.fp at z;simp only[Yp] at z;rcases z with rfl|rfl|rfl|rfl|rfl|z
 ·obtain⟨dx,e⟩:=j.obj
  grind
 ·rw[j.heads] at h;cases h
 ·rw[j.fV] at h;cases h
 ·rw[j.iy] at h;cases h
 ·rw[j.frees] at h;cases h
 ·obtain⟨y,e⟩:=vA j.mem z
  grind
theorem bX.gG(j:bX H C n l st)(o:Out fp H H')(d1:∀a∈fp,a∉l.fp)(d2:∀a∈fp,a∉l.bJ)(t:∀a xs,H a=some (.tup xs)->a∉fp):bX H' C n l st:=by
 have k:∀{a:Addr} {u:HO},H a=some u->a∈l.fp->H' a=some u:=λ{a u} e m=>o _ _ e λz=>d1 _ z m;obtain⟨dx,e⟩:=j.obj;refine⟨⟨dx,k e (by simp[JL.fp])⟩,k j.heads (by simp[JL.fp]),k j.fV (by simp[JL.fp]),L2.Paired.bp j.lead λa x h=>o _ _ h (t _ _ h),k j.iy (by simp[JL.fp]),?_,k j.frees (by simp[JL.fp]),?_,j.nd,j.out⟩
 ·have aux:∀{as:List Addr} {ps:List (Nat×List Nat)},Paired (λa p=>H a=some (.lst (dC p.2))) as ps->(∀a∈as,a∈l.fp)->Paired (λa p=>H' a=some (.lst (dC p.2))) as ps:=by
   intro as ps p;induction p with
   |nil=>intro _;exact .nil
   |cons f _ ih=>intro m;exact .cons (k f (m _ Yh)) (ih λa ha=>m a (Yv _ ha))
  exact aux j.mem λa ha=>by simp[JL.fp,ha]
 ·have aux:∀{as:List Addr} {ps:List (Nat×List Int)},Paired (λa p=>H a=some (.lst (p.2.map V.int))) as ps->(∀a∈as,a∈l.bJ)->Paired (λa p=>H' a=some (.lst (p.2.map V.int))) as ps:=by
   intro as ps p;induction p with
   |nil=>intro _;exact .nil
   |cons f _ ih=>intro m;exact .cons (o _ _ f λz=>d2 _ z (m _ Yh)) (ih λa ha=>m a (Yv _ ha))
  exact aux j.free λa ha=>ha
section
variable {H H':Hp}{l:BL}{xs ys:List Int}{b:BS}
theorem a9.landAt(h:a9 H C CL CJ l xs ys b):fL H CL l.L xs ys:=h.land H (Out.of (au.refl _))
theorem a9.tup(h:a9 H C CL CJ l xs ys b)(e:H a=some (.tup us)):a∉l.fp:=by
 intro z;unfold BL.fp BL.own at z;rcases Yx.mp z with z|z
 ·simp only[Yp,Y4,or_false] at z;rcases z with rfl|rfl|rfl|rfl|rfl|rfl|rfl|rfl
  ·obtain⟨dx,q⟩:=h.obj
   grind
  ·rw[h.cJ] at e;cases e
  ·rw[h.places] at e;cases e
  ·rw[h.facts] at e;cases e
  ·rw[h.known] at e;cases e
  ·rw[h.parents] at e;cases e
  ·rw[h.done] at e;cases e
  ·rw[h.gv] at e;cases e
 ·cases h.oY with
  |no _ e2=>grind
  |at_ jl st _ e2 ja=>rw[e2] at z;exact ja.off e z
theorem a9.there(h:a9 H C CL CJ l xs ys b)(z:a∈l.fp):H a≠none:=by
 intro e;unfold BL.fp BL.own at z;rcases Yx.mp z with z|z
 ·simp only[Yp,Y4,or_false] at z;rcases z with rfl|rfl|rfl|rfl|rfl|rfl|rfl|rfl
  ·obtain⟨dx,q⟩:=h.obj
   grind
  ·rw[h.cJ] at e;cases e
  ·rw[h.places] at e;cases e
  ·rw[h.facts] at e;cases e
  ·rw[h.known] at e;cases e
  ·rw[h.parents] at e;cases e
  ·rw[h.done] at e;cases e
  ·rw[h.gv] at e;cases e
 ·cases h.oY with
  |no _ e2=>grind
  |at_ jl st _ e2 ja=>rw[e2] at z;exact ja.ne e z
theorem qX.same(g:au H H')(h:qX H CJ n l b):qX H' CJ n l b:=by
 cases h with
 |no e1 e2=>exact .no e1 e2
 |at_ jl st e1 e2 ja me len eX=>exact .at_ jl st e1 e2 (ja.same g) me len eX
theorem a9.same(g:au H H')(h:a9 H C CL CJ l xs ys b):a9 H' C CL CJ l xs ys b:=
 ⟨let⟨dx,e⟩:=h.obj;⟨dx,g _ _ e⟩,λH2 o=>h.land H2 ((Out.of g).trans o),g _ _ h.cJ,g _ _ h.places,g _ _ h.facts,L2.Paired.bp h.fact λ_ _ e=>g _ _ e,g _ _ h.known,g _ _ h.parents,g _ _ h.done,L2.Paired.bp h.jk λ_ _ ⟨r,e1,e2⟩=>⟨r,g _ _ e1,g _ _ e2⟩,g _ _ h.gv,L2.Paired.bp h.kB λ_ _ ⟨r,e1,e2⟩=>⟨r,g _ _ e1,g _ _ e2⟩,h.oY.same g,h.nd⟩
def dW(fp rR:List Addr)(H:Hp):Prop:=∀a∈rR,a∈fp\/H a=none
theorem dW.refl(fp:List Addr)(H:Hp):dW fp fp H:=λ_ h=>.inl h
theorem Eg(o:Out fp H H1)(g:dW fp rR H)(o2:Out rR H1 H2):Out fp H H2:=λa u e n=>o2 _ _ (o _ _ e n) λz=>(g a z).elim n λq=>by rw[e] at q;cases q
theorem dW.trans(g:dW fp rR H)(o:Out fp H H1)(g2:dW rR ZdI H1):dW fp ZdI H:=λa z=>by
 rcases g2 a z with q|q;·exact g a q
 ·by_cases m:a∈fp;·exact .inl m
  ·right
   cases e:H a with
   |none=>rfl
   |some u=>rw[o _ _ e m] at q;cases q
theorem dW.same(s:au H H1)(g2:dW fp rR H1):dW fp rR H:=λa z=>(g2 a z).imp id λq=>s.free q
theorem YR(me:ee n st F)(m:(k,secs)∈st.fr):secs≠[]:=by
 obtain⟨i,hi,e⟩:=me.wf.hf k (Yi.mpr ⟨_,m,rfl⟩);obtain⟨f,s,d⟩:=me.live;have q:=(d i hi).1;unfold JS.bO at q;rw[e,(mem_lookup me.wf.nf m)] at q
 grind
theorem Zac(ja:bX H CJ n jl st)(me:ee n st b.F)(h:∃dx us,H l.h=some (.ins C dx us))(h2:∃k,H l.sd=some (.dK k))(h3:∃k,H l.pl=some (.dK k))(h4:∃k,H l.fc=some (.dK k))(h5:∃k,H l.kn=some (.dT k))(h6:∃k,H l.pr=some (.dT k))(h7:∃as:List Addr,H l.dn=some (.lst (as.map V.ref)))(h8:∃as:List Addr,H l.un=some (.lst (as.map V.ref))):∀a∈l.own,a∉jl.bJ:=by
 intro a ha hf;obtain⟨p,hp,e⟩:∃p∈st.fr,H a=some (.lst (p.2.map V.int)):=by
  have aux:∀{as:List Addr} {ps:List (Nat×List Int)},Paired (λa p=>H a=some (.lst (p.2.map V.int))) as ps->a∈as->∃p∈ps,H a=some (.lst (p.2.map V.int)):=by
   intro as ps pr;induction pr with
   |nil=>intro h;cases h
   |cons f _ ih=>
    intro h;rcases Yp.mp h with rfl|h;·exact⟨_,Yh,f⟩
    ·obtain⟨q,m,e⟩:=ih h;exact⟨q,Yv _ m,e⟩
  exact aux ja.free hf
 have ne:=YR me (k:=p.1) (secs:=p.2) hp;have lst:∀as:List Addr,H a=some (.lst (as.map V.ref))->False:=λas q=>by
  rw[q] at e;have e':as.map V.ref=p.2.map V.int:=by injection e with e;injection e
  cases dt:p.2 with
  |nil=>exact ne dt
  |cons x r=>
   rw[dt] at e';cases as with
   |nil=>cases e'
   |cons y s=>injection e' with e1 _;cases e1
 unfold BL.own at ha;simp only[Yp,Y4,or_false] at ha;rcases ha with rfl|rfl|rfl|rfl|rfl|rfl|rfl|rfl;·obtain⟨_,_,q⟩:=h;rw[q] at e;cases e
 ·obtain⟨_,q⟩:=h2;rw[q] at e;cases e
 ·obtain⟨_,q⟩:=h3;rw[q] at e;cases e
 ·obtain⟨_,q⟩:=h4;rw[q] at e;cases e
 ·obtain⟨_,q⟩:=h5;rw[q] at e;cases e
 ·obtain⟨_,q⟩:=h6;rw[q] at e;cases e
 ·obtain⟨_,q⟩:=h7;exact lst _ q
 ·obtain⟨_,q⟩:=h8;exact lst _ q
theorem a9.Fd(h:a9 H C CL CJ l xs ys b)(ja:bX H CJ xs.length jl st)(me:ee xs.length st b.F):∀a∈l.own,a∉jl.bJ:=
 Zac ja me (let⟨dx,e⟩:=h.obj;⟨dx,_,e⟩) ⟨_,h.cJ⟩ ⟨_,h.places⟩ ⟨_,h.facts⟩ ⟨_,h.known⟩ ⟨_,h.parents⟩ ⟨_,h.done⟩ ⟨_,h.gv⟩
theorem a9.build(h:a9 H C CL CJ l xs ys b)(eh:l'.h=l.h)(eL:l'.L=l.L)(es:l'.sd=l.sd)(ep:l'.pl=l.pl)(ef:l'.fc=l.fc)(ek:l'.kn=l.kn)(er:l'.pr=l.pr)(ed:l'.dn=l.dn)(eu:l'.un=l.un)(o:Out l.fp H H')(g:dW l.fp l'.fp H)
  (obj:∃dx,H' l.h=some (.ins C dx (HF l.L l.sd l.pl l.fc l.kn l.pr (b'.co:Int) l.dn l.un l'.rk)))(cJ:H' l.sd=some (.dK (eG b'.ps)))(places:H' l.pl=some (.dK (iK b'.ps)))(facts:H' l.fc=some (.dK (bf (b'.fs.map (·.1)) l'.bJ)))
  (fact:Paired (λa (p:Nat×Fc)=>H' a=some (.tup ((dN b'.ps p.1 p.2).map kV))) l'.bJ b'.fs)(known:H' l.kn=some (.dT (eW b'.ps b'.fs)))(parents:H' l.pr=some (.dT (bK b'.ps b'.fs)))
  (done:H' l.dn=some (.lst (l'.gP.map V.ref)))(jk:Paired (jO H') l'.gP b'.dn)(gv:H' l.un=some (.lst (l'.jC.map V.ref)))(kB:Paired (jO H') l'.jC b'.un)(rk:qX H' CJ xs.length l' b'):a9 H' C CL CJ l' xs ys b':=by
 have oe:l'.own=l.own:=by unfold BL.own;rw[eh,es,ep,ef,ek,er,ed,eu]
 refine⟨?_,λH2 o2=>?_,by rw[es];exact cJ,by rw[ep];exact places,by rw[ef];exact facts,fact,by rw[ek];exact known,by rw[er];exact parents,by rw[ed];exact done,jk,by rw[eu];exact gv,kB,rk,by rw[oe];exact h.nd⟩;·rw[eh,eL,es,ep,ef,ek,er,ed,eu];exact obj
 ·rw[eL];exact h.land H2 (Eg o g o2)
theorem a9.owned(h:a9 H C CL CJ l xs ys b)(eh:l'.h=l.h)(eL:l'.L=l.L)(es:l'.sd=l.sd)(ep:l'.pl=l.pl)(ef:l'.fc=l.fc)(ek:l'.kn=l.kn)(er:l'.pr=l.pr)(ed:l'.dn=l.dn)(eu:l'.un=l.un)
  (rk:(l'.rk=l.rk/\l'.d7=l.d7/\b'.F=b.F/\b'.ps.length=b.ps.length)\/(l'.rk=.aA/\l'.d7=[]))(o:Out l.own H H')
  (obj:∃dx,H' l.h=some (.ins C dx (HF l.L l.sd l.pl l.fc l.kn l.pr (b'.co:Int) l.dn l.un l'.rk)))(cJ:H' l.sd=some (.dK (eG b'.ps)))(places:H' l.pl=some (.dK (iK b'.ps)))(facts:H' l.fc=some (.dK (bf (b'.fs.map (·.1)) l'.bJ)))
  (fact:Paired (λa (p:Nat×Fc)=>H' a=some (.tup ((dN b'.ps p.1 p.2).map kV))) l'.bJ b'.fs)(known:H' l.kn=some (.dT (eW b'.ps b'.fs)))(parents:H' l.pr=some (.dT (bK b'.ps b'.fs)))
  (done:H' l.dn=some (.lst (l'.gP.map V.ref)))(jk:Paired (jO H') l'.gP b'.dn)(gv:H' l.un=some (.lst (l'.jC.map V.ref)))(kB:Paired (jO H') l'.jC b'.un):a9 H' C CL CJ l' xs ys b'/\dW l.fp l'.fp H:=by
 have oe:l'.own=l.own:=by unfold BL.own;rw[eh,es,ep,ef,ek,er,ed,eu]
 have sub:∀a∈l'.fp,a∈l.fp:=λa z=>by
  unfold BL.fp at z⊢;rw[oe] at z;rcases rk with⟨_,e,_⟩|⟨_,e⟩;·rw[e] at z;exact z
  ·rw[e,We] at z;exact Ym _ z
 have of:Out l.fp H H':=λa u e n=>o _ _ e λz=>n (Ym _ z);refine⟨⟨?_,λH2 o2=>?_,by rw[es];exact cJ,by rw[ep];exact places,by rw[ef];exact facts,fact,by rw[ek];exact known,by rw[er];exact parents,by rw[ed];exact done,jk,by rw[eu];exact gv,kB,?_,by rw[oe];exact h.nd⟩,λa z=>.inl (sub a z)⟩;·rw[eh,eL,es,ep,ef,ek,er,ed,eu];exact obj
 ·rw[eL];exact h.land H2 (Eg of (λa z=>.inl (sub a z)) o2)
 ·rcases rk with⟨r1,r2,r3,r4⟩|⟨r1,r2⟩
  ·cases h.oY with
   |no e1 e2=>exact .no (by rw[r1];exact e1) (by rw[r2];exact e2)
   |at_ jl st e1 e2 ja me len eX=>
    exact .at_ jl st (by rw[r1];exact e1) (by rw[r2];exact e2) (ja.gG o eX (h.Fd ja me) λa us e=>λz=>h.tup e (Ym _ z)) (by rw[r3];exact me) (by rw[r4];exact len) (by rw[oe];exact eX)
  ·exact .no r1 r2
end
abbrev nF:List (Str×Str):=[("mother","m"),("father","f"),("wed","w"),("sibling","s")]
abbrev qJ(xs ys:List Int):List (Str×List Int):=[("mother",inv xs),("father",inv (bw xs ys)),("wed",ys),("sibling",aH xs.length)]
structure jS(xs ys:List Int)(m:Nat)(c:Fc):Prop where
 ok:gf xs.length m c
 kind:c.k=c_\/(c.k,c.tn)∈qJ xs ys
 ZdJ:c.k=c_->0<=c.aQ/\c.aQ<(xs.length:Int)
theorem Ip(h:(k,tn)∈qJ xs ys):∃r,PyProof.Rows.KTD.datumAt k nF=some r/\(r,tn)∈E8 xs ys:=by
 simp only[Yp,Y4,or_false] at h;rcases h with⟨rfl,rfl⟩|⟨rfl,rfl⟩|⟨rfl,rfl⟩|⟨rfl,rfl⟩;·exact⟨"m",by decide+kernel,by simp⟩
 ·exact⟨"f",by decide+kernel,by simp⟩
 ·exact⟨"w",by decide+kernel,by simp⟩
 ·exact⟨"s",by decide+kernel,by simp⟩
theorem jS.Fz(g:jS xs ys m c)(h:c.k≠c_):(c.k,c.tn)∈qJ xs ys:=g.kind.resolve_left h
theorem y_(nd:(ps.map (·.1)).Nodup)(hi:i<ps.length):bg (iK ps) (.inr (av ps i))=some (.int (i:Int)):=by
 have aux:∀(ps:dz) (k i:Nat),(ps.map (·.1)).Nodup->i<ps.length->bg ((ps.zipIdx k).map λp=>((.inr p.1.1:Key),V.int (p.2:Int))) (.inr (av ps i))=some (.int ((k+i:Nat):Int)):=by
  intro ps;induction ps with
  |nil=>intro k i _ h;cases h
  |cons p ps ih=>
   intro k i nd hi;obtain⟨n1,n2⟩:=Y0.mp (show(p.1::ps.map (·.1)).Nodup from nd);rw[List.zipIdx_cons,Wn];cases i with
   |zero=>exact iN rfl
   |succ i=>
    have eV:i<ps.length:=by simpa using hi
    have e:av (p::ps) (i+1)=av ps i:=rfl;have m:av ps i∈ps.map (·.1):=by
     unfold av;rw[Yd,Yb eV];exact Yi.mpr ⟨_,Wi eV,rfl⟩
    rw[e,jL (λz=>n1 (by rw[Jl z];exact m)),ih (k+1) i n2 eV]
    congr 2
    omega
 have:=aux ps 0 i nd hi
 rwa [Nat.zero_add] at this
theorem Kr(h:c.k=c_):cG ps c=.inl c.aQ:=if_pos h
theorem lK(h:c.k≠c_):cG ps c=.inr (av ps c.aQ.toNat):=if_neg h
inductive za(vs:List V)(H:Hp)(Q:VK)(E:XK):Prop
 |mk (k:Str) (aI:vs=[.str k]) (aX:Q (.bl (kL nF k)) H)
inductive DX(CL:Addr)(vs:List V)(H:Hp)(Q:VK)(E:XK):Prop
 |mk (L:Addr) (k:Str) (xs ys tn:List Int) (aI:vs=[.ref L,.str k]) (aX:fL H CL L xs ys) (bu:(k,tn)∈qJ xs ys) (bW:∀t:Addr,dw H t tn->Q (.ref t) H)
inductive zQ(vs:List V)(H:Hp)(Q:VK)(E:XK):Prop
 |mk (k a:Str) (o:Key) (aI:vs=[.str k,.str a,kV o]) (aX:k="sibling"->∃b,o=.inr b) (bu:Nw H (.tup ((keyOf k a o).map kV)) Q)
inductive K_(CL CJ:Addr)(vs:List V)(H:Hp)(Q:VK):Prop
 |mk (jl:JL) (st:JS) (L pl fa:Addr) (xs ys:List Int) (ps:dz) (F:List Fc) (z:Nat) (c:Fc) (aI:vs=[.ref jl.J,.ref L,.ref pl,.ref fa]) (ja:bX H CJ xs.length jl st) (me:ee xs.length st F) (la:fL H CL L xs ys) (gd:wm xs ys) (hp:H pl=some (.dK (iK ps))) (nd:(ps.map (·.1)).Nodup) (len:st.hd.length=ps.length) (m4:ps.length<=100) (hf:H fa=some (.tup ((dN ps z c).map kV))) (fg:jS xs ys ps.length c) (lv:∃f,c6 st f/\g_ f c)
   (q:∀(v:V) (gg:JL) (aR:JS) (H':Hp),gg.J=jl.J->(∀a∈gg.fp,a∈jl.fp)->Out jl.fp H H'->bX H' CJ xs.length gg aR->ee xs.length aR (F++[c])->aR.hd.length=st.hd.length->Q v H'):K_ CL CJ vs H Q
def EA(CL CJ:Addr):Sp:=λvs H Q _=>K_ CL CJ vs H Q
inductive Mm(CL CJ:Addr)(vs:List V)(H:Hp)(Q:VK):Prop
 |mk (jl:JL) (st:JS) (L pl fa:Addr) (xs ys:List Int) (ps:dz) (F:List Fc) (z:Nat) (c:Fc) (aI:vs=[.ref jl.J,.ref L,.ref pl,.ref fa]) (ja:bX H CJ xs.length jl st) (me:ee xs.length st F) (la:fL H CL L xs ys) (gd:wm xs ys) (hp:H pl=some (.dK (iK ps))) (nd:(ps.map (·.1)).Nodup) (len:st.hd.length=ps.length) (m4:ps.length<=100) (hf:H fa=some (.tup ((dN ps z c).map kV))) (fg:jS xs ys ps.length c)
   (q1:(∃f,c6 st f/\g_ f c)->∀H',au H H'->Q (.bl true) H') (q2:(∀f,c6 st f->¬g_ f c)->∀H',au H H'->Q (.bl false) H'):Mm CL CJ vs H Q
def NA(CL CJ:Addr):Sp:=λvs H Q _=>Mm CL CJ vs H Q
theorem zb:∀b:Bool,decide (V.str k=V.str c_)=b->(b=true↔k=c_):=λb e=>by
 grind
section
variable {K:ag}{mg:aN}{lI:Addr}
theorem WV:aS ["kind"] ["kind"] (aJ D_):=.bc
theorem WW(F:aL K "is_tie" "is_tie" D_ f fd)(sG:mg "TIE_LETTERS"=some (.ref lI))(tb:ua K lI nF):aG P w K mg base aK 1 f fd ["kind"] za:=by
 refine F.o WV λs H hr h=>?_;obtain⟨k,rfl,q⟩:=h;refine⟨_,(aw (aP (yU (Zbw (K:=K) rfl) (pv 0) (df (v:=.ref lI) rfl sG rfl) (by with_unfolding_all rfl)))),?_⟩;exact⟨_,rfl,k,lI,nF,rfl,rfl,tb,q⟩
abbrev wG:List Str:=["land","kind"]
theorem UI:aS wG wG (aJ Dz):=.bc
theorem UJ(F:aL K "tie_turn" "tie_turn" Dz f fd)(sG:mg "TIE_LETTERS"=some (.ref lI))(tb:ua K lI nF)(lc:wg K CL)(mP:HasFn P w K mg base 1 "is_tie" ["kind"] za)(De:cv P w K mg base 1 "step" CL Aa (Nq CL)):aG P w K mg base aK 2 f fd wG (DX CL):=by
 refine F.o UI λs H hr h=>?_;obtain⟨L,k,xs,ys,tn,rfl,la,hk,q⟩:=h;refine⟨_,(aq (aV (eQ (di (aY mP hr (aa (pv 1) ai)))) fG aZ) (aw (aP (cI De hr (by omega) (pv 0) (aa (a8 (ZQ (K:=K) rfl) (df (v:=.ref lI) rfl sG rfl) (pv 1)) ai))))),?_⟩;obtain⟨r,dr,hs⟩:=Ip hk;have ht:kL nF k=true:=by unfold kL;rw[dr];rfl
 obtain⟨dx,d,mo,rS,wi,im,jf,iw,st,h1,_⟩:=id la;refine⟨_,rfl,k,rfl,_,rfl,?_⟩;rw[ht];refine cR (a_ ?_);exact⟨_,rfl,L,dx,_,rfl,h1,rfl,_,rfl,lI,k,r,nF,rfl,rfl,tb,dr,L,r,xs,ys,tn,rfl,la,hs,q⟩
abbrev ud:List Str:=["kind","one","other"]
theorem UK:aS ud ud (aJ DA):=.bc
theorem UL(F:aL K "fact_key" "fact_key" DA f fd)(jJ:mg "SIBLING"=some (.str "sibling" t1))(bl:Bl mg):aG P w K mg base aK 1 f fd ud zQ:=by
 refine F.o UK λs H hr h=>?_;obtain⟨k,a,o,rfl,hs,q⟩:=h;refine⟨_,(aq (aV (bP c5 (pv 0) (df (v:=.str "sibling") rfl jJ ⟨_,rfl⟩)) (aw (aP (e_ (aa (pv 0) (aa (gU (Vo rfl) rfl bl.Zcm Za0 (aa (pv 1) (aa (pv 2) ai))) (aa (gU (Vp rfl) rfl bl.Zcn ZbG (aa (pv 1) (aa (pv 2) ai))) ai)))))) aZ) (aw (aP (e_ (aa (pv 0) (aa (pv 1) (aa (pv 2) ai))))))),?_⟩;refine⟨_,rfl,rfl,_,rfl,?_⟩;by_cases e:k="sibling"
 ·obtain⟨b,rfl⟩:=hs e;rw[decide_eq_true (by rw[e])];refine⟨_,rfl,_,rfl,_,rfl,_,_,rfl,_,rfl,_,rfl,_,_,rfl,by show 3<=sizeLine;decide,?_⟩;have ek:keyOf k a (.inr b)=[.inr k,.inr (L2.wA a b),.inr (L2.wB a b)]:=if_pos e;rw[ek] at q;exact q
 ·rw[decide_eq_false (λz=>e (V.str.inj z))];refine⟨_,rfl,_,rfl,_,rfl,by show 3<=sizeLine;decide,?_⟩;have ek:(keyOf k a o).map kV=[.str k,.str a,kV o]:=by
   cases o with
   |inl i=>rfl
   |inr b=>
    have:keyOf k a (.inr b)=[.inr k,.inr a,.inr b]:=if_neg e;rw[this];rfl
  rw[ek] at q;exact q
abbrev qY:List Str:=["joins","land","places","fact"]
abbrev O7:List Str:=["joins","land","places","fact","number","kind","one","other"]
theorem vh:aS O7 qY (aJ C0):=.bc
theorem T8(F:aL K "keep_fact" "keep_fact" C0 f fd)(tU:mg "SAID"=some (.str "said" t1))(sV:HasFn P w K mg base 2 "tie_turn" wG (DX CL))(Df:cv P w K mg base 3 "say" CJ Ad (Oj CJ))(Dg:cv P w K mg base 5 "tie" CJ jV (Om CJ)):aG P w K mg base aK 6 f fd qY (EA CL CJ):=by
 refine F.o vh λs H hr h=>?_;obtain⟨jl,st,L,pl,fa,xs,ys,ps,FF,z,c,rfl,ja,me,la,gd,hp,nd,len,m4,hf,fg,lv,q⟩:=h;refine⟨_,(aq (oP (pv 3) (mY (K:=K) (n:=4) rfl rfl (c8 (cE 4 vh.nd) (c8 (cE 5 vh.nd) (c8 (cE 6 vh.nd) (c8 (cE 7 vh.nd) mU)))))) (aq (aV (bP c5 (pv 5) (df (v:=.str "said") rfl tU ⟨_,rfl⟩)) (aw (aP (cI Df hr (by omega) (pv 0) (aa (d_ (bT hr) (pv 2) (pv 6) (λ_ _=>rfl)) (aa (pv 7) ai))))) aZ) (aw (aP (cI Dg hr (by omega) (pv 0) (aa (d_ (bT hr) (pv 2) (pv 6) (λ_ _=>rfl)) (aa (d_ (bT hr) (pv 2) (pv 7) (λ_ _=>rfl)) (aa (aY sV hr (aa (pv 1) (aa (pv 5) ai))) ai)))))))),?_⟩;obtain⟨dx,ho⟩:=ja.obj;have p1:=y_ nd fg.ok.one;have n8:xs.length<=8:=gd.2.2.2.2;have hi:c.one<st.hd.length:=by rw[len];exact fg.ok.one
 refine⟨_,rfl,fa,_,rfl,aE.of hf,rfl,_,_,rfl,bI ⟨_,_,rfl,bI ⟨_,_,rfl,bI ⟨_,_,rfl,bI ⟨rfl,?_⟩⟩⟩⟩⟩;refine⟨_,rfl,rfl,_,rfl,bb (λcc=>?_) (λcc=>a_ ?_)⟩
 ·have e:c.k=c_:=(zb _ rfl).mp cc;have eo:kV (cG ps c)=.int c.aQ:=by rw[Kr e];rfl
  refine⟨_,rfl,jl.J,dx,_,rfl,ho,rfl,_,rfl,_,rfl,pl,_,rfl,fK hp p1,_,rfl,?_⟩;have one:=me.wf.one n8 hi;have xT:=me.wf.zP;obtain⟨f0,d0,s0⟩:=lv;obtain⟨s0',h0⟩:=id d0;have mm:c.aQ∈(st.bO (st.ae c.one)).map (λz=>(st.bC c.one).getD z.toNat 0):=Yi.mpr ⟨s0' (st.ae c.one),(h0 c.one hi).1,by rw[←s0.1 e,(h0 c.one hi).2];rfl⟩;refine⟨jl,st,xs.length,c.one,_,_,_,c.aQ,?_,ja,one,by omega,λ_ l' H' k1 k2 o3 j3=>?_,λno=>absurd mm no⟩
  ·show[V.ref jl.J,V.int (c.one:Int),kV (cG ps c)]=_;rw[eo]
  ·have ec:c=⟨c_,c.one,c.aQ,c.tn⟩:=by rw[←e]
   refine q _ l' _ H' k1 (λa ha=>by rw[k2] at ha;exact ha) o3 j3 ?_ rfl;rw[ec];exact Ml me hi mm
 ·have e:c.k≠c_:=λz=>cc ((zb _ rfl).mpr z);obtain⟨⟨o0,om⟩,ft,tl⟩:=fg.ok.iJ e;have eo:kV (cG ps c)=.str (av ps c.aQ.toNat):=by rw[lK e];rfl
  have p2:=y_ nd om;have hj:c.aQ.toNat<st.hd.length:=by rw[len];exact om
  refine⟨_,rfl,jl.J,dx,_,rfl,ho,rfl,_,rfl,_,rfl,pl,_,rfl,fK hp p1,_,rfl,_,rfl,pl,.int (c.aQ.toNat:Int),rfl,?_,_,rfl,_,rfl,L,c.k,xs,ys,c.tn,rfl,la,fg.Fz e,λt ht=>?_⟩
  ·show eM H pl (kV (cG ps c)) _;rw[eo];exact fK hp p2
  refine⟨jl,st,xs.length,c.one,c.aQ.toNat,c.tn,t,rfl,ja,me.wf,me.live,n8,by omega,hi,hj,ht,ft,tl,λb l' aR H' k1 k2 o3 j3 to=>?_⟩;have ec:c=⟨c.k,c.one,(c.aQ.toNat:Int),c.tn⟩:=by rw[W5 o0]
  have ZdK:gf xs.length st.hd.length ⟨c.k,c.one,(c.aQ.toNat:Int),c.tn⟩:=by rw[←ec,len];exact fg.ok
  obtain⟨tm,tf⟩:=YQ me to e ZdK;have eb:b=true:=by
   cases eb:b with
   |true=>rfl
   |false=>
    obtain⟨f0,d0,s0⟩:=lv;obtain⟨es,no⟩:=to.no eb;exact absurd (s0.2 e) (no f0 d0)
  refine q _ l' aR H' k1 k2 o3 j3 ?_ to.len;have:=tm eb;rw[←ec] at this;exact this
theorem vm:aS O7 qY (aJ C1):=.bc
theorem T9(F:aL K "fact_fits" "fact_fits" C1 f fd)(tU:mg "SAID"=some (.str "said" t1))(sV:HasFn P w K mg base 2 "tie_turn" wG (DX CL))(lG:cv P w K mg base 2 "open_at" CJ wC (yO CJ))(sJ:cv P w K mg base 4 "left" CJ jV (E9 CJ)):aG P w K mg base aK 5 f fd qY (NA CL CJ):=by
 refine F.o vm @λbh A outer vs Q E s H hr h=>?_;obtain⟨jl,st,L,pl,fa,xs,ys,ps,FF,z,c,rfl,ja,me,la,gd,hp,nd,len,m4,hf,fg,q1,q2⟩:=h;have hu:=hr.m8;refine⟨_,(aq (oP (pv 3) (mY (K:=K) (n:=4) rfl rfl (c8 (cE 4 vm.nd) (c8 (cE 5 vm.nd) (c8 (cE 6 vm.nd) (c8 (cE 7 vm.nd) mU)))))) (aq (aV (bP c5 (pv 5) (df (v:=.str "said") rfl tU ⟨_,rfl⟩)) (aw (aP (yU (kU (K:=K) rfl) (pv 7) (cI lG hr (by omega) (pv 0) (aa (d_ (bT hr) (pv 2) (pv 6) (λ_ _=>rfl)) ai)) (by with_unfolding_all rfl)))) aZ) (aw (aP (eC (vO (K:=K) rfl (E2 hu)) (cI sJ hr (by omega) (pv 0) (aa (d_ (bT hr) (pv 2) (pv 6) (λ_ _=>rfl)) (aa (d_ (bT hr) (pv 2) (pv 7) (λ_ _=>rfl)) (aa (aY sV hr (aa (pv 1) (aa (pv 5) ai))) ai)))) (dM ai)))))),?_⟩;obtain⟨dx,ho⟩:=ja.obj;have p1:=y_ nd fg.ok.one;have n8:xs.length<=8:=gd.2.2.2.2;have hi:c.one<st.hd.length:=by rw[len];exact fg.ok.one
 refine⟨_,rfl,fa,_,rfl,aE.of hf,rfl,_,_,rfl,bI ⟨_,_,rfl,bI ⟨_,_,rfl,bI ⟨_,_,rfl,bI ⟨rfl,?_⟩⟩⟩⟩⟩;refine⟨_,rfl,rfl,_,rfl,bb (λcc=>?_) (λcc=>a_ ?_)⟩
 ·have e:c.k=c_:=(zb _ rfl).mp cc;have eo:kV (cG ps c)=.int c.aQ:=by rw[Kr e];rfl
  have one:=me.wf.one n8 hi;refine⟨_,rfl,_,rfl,jl.J,dx,_,rfl,ho,rfl,_,rfl,_,rfl,pl,_,rfl,fK hp p1,jl,st,xs.length,c.one,_,_,_,rfl,ja,one.hd,one.ld,one.fr,one.fC,one.j_,λp ns H1 np g1 pm so kX=>⟨p,_,rfl,.inl (aj.of kX),?_,Ec ns,?_⟩⟩
  ·show ij (kV (cG ps c))=true;rw[eo];rfl
  show Q (.bl (if(false:Bool)=true then !dY (kV (cG ps c)) (ns.map V.int) else dY (kV (cG ps c)) (ns.map V.int))) H1;rw[if_neg Yf,eo,y8];have ec:c=⟨c_,c.one,c.aQ,c.tn⟩:=by rw[←e]
  by_cases m:c.aQ∈ns
  ·rw[decide_eq_true m];refine q1 ?_ H1 g1;have QV:=Ml (tn:=c.tn) me hi (pm.subset m);obtain⟨f,d⟩:=QV.live;obtain⟨_,s⟩:=(QV.iff f).mp d;refine⟨f,((vt me.wf hi _ f).mp d).1,?_⟩;rw[ec];exact s _ (Yj _ Yh)
  ·rw[decide_eq_false m];refine q2 (λf d=>?_) H1 g1;rw[ec];exact ZbR me hi (λz=>m (pm.symm.subset z)) f d
 ·have e:c.k≠c_:=λz=>cc ((zb _ rfl).mpr z);obtain⟨⟨o0,om⟩,ft,tl⟩:=fg.ok.iJ e;have eo:kV (cG ps c)=.str (av ps c.aQ.toNat):=by rw[lK e];rfl
  have p2:=y_ nd om;have hj:c.aQ.toNat<st.hd.length:=by rw[len];exact om
  have pf:=Mi me.wf n8 hi hj;refine⟨_,rfl,jl.J,dx,_,rfl,ho,rfl,_,rfl,_,rfl,pl,_,rfl,fK hp p1,_,rfl,_,rfl,pl,.int (c.aQ.toNat:Int),rfl,?_,_,rfl,_,rfl,L,c.k,xs,ys,c.tn,rfl,la,fg.Fz e,λt ht=>?_⟩
  ·show eM H pl (kV (cG ps c)) _;rw[eo];exact fK hp p2
  refine⟨jl,st,xs.length,c.one,c.aQ.toNat,_,_,_,_,_,_,c.tn,t,rfl,ja,me.wf.one n8 hi,me.wf.one n8 hj,ht,λp hp=>by rw[tl];exact Nv me.wf hi (x:=p.1) (y:=p.2) hp,Yz pf (by omega),λp ns H1 np g1 kX pm _=>?_⟩;have ms:=K7 pm;refine⟨by show 0<=sizeLine;exact Yw _,λe0 H2 n2 g2 he0=>?_⟩;refine⟨p,e0,ns.map V.int,rfl,rfl,aj.of (g2 _ _ kX),aj.of he0,?_⟩;rw[if_pos rfl];have sat:∀f,g_ f c↔f c.aQ.toNat=ap c.tn (f c.one):=λf=>⟨λh=>h.2 e,λh=>⟨λz=>absurd z e,λ_=>h⟩⟩;cases ns with
  |nil=>
   refine q2 (λf d z=>?_) H2 (g1.trans g2);have m:=vI me.wf hi hj d;rw[(sat f).mp z] at m;exact absurd ((ms _).mpr m) (λz=>nomatch z)
  |cons a r=>
   refine q1 ?_ H2 (g1.trans g2);have m:=(ms a).mp Yh;obtain⟨f,d,e1,e2⟩:=K6 me.wf hi hj me.live m;exact⟨f,d,(sat f).mpr (by rw[e1,e2])⟩
end
def BS.keys(b:BS):List (List Key):=b.fs.map λp=>gO b.ps p.2
def BS.told(b:BS)(k:List Key):Bool:=(bg (eW b.ps b.fs) k).isSome
structure cM(xs ys:List Int)(b:BS):Prop where
 gd:wm xs ys
 nm:(b.ps.map (·.1)).Nodup
 m:b.ps.length<=64
 fl:b.fs.length<=63
 fg:∀p∈b.fs,jS xs ys b.ps.length p.2
 zs:(b.fs.map (·.1)).Nodup
 lt:∀p∈b.fs,p.1<b.co
 ky:b.keys.Nodup
 pr:((bK b.ps b.fs).map (·.1)).Nodup
 lv:∃f,xS xs.length b.ps.length f/\∀c∈b.F,g_ f c
 dl:b.dn.length<=200
 ul:b.un.length<=200
structure bV(H H':Hp)(l l':BL):Prop where
 h:l'.h=l.h
 out:Out l.fp H H'
 grow:dW l.fp l'.fp H
theorem bV.of(g:au H H'):bV H H' l l:=⟨rfl,Out.of g,dW.refl _ _⟩
theorem bV.trans(a:bV H H1 l l1)(b:bV H1 H2 l1 l2):bV H H2 l l2:=⟨b.h.trans a.h,Eg a.out a.grow b.out,a.grow.trans a.out b.grow⟩
theorem bV.same(a:bV H H1 l l1)(g:au H1 H2):bV H H2 l l1:=⟨a.h,a.out.trans (Out.of g),a.grow⟩
theorem bV.after(g:au H H1)(a:bV H1 H2 l l1):bV H H2 l l1:=⟨a.h,(Out.of g).trans a.out,a.grow.same g⟩
theorem yQ[DecidableEq κ](kvs:List (κ×V))(k:κ):(bg kvs k).isSome=true↔k∈kvs.map (·.1):=by
 induction kvs with
 |nil=>exact⟨(λz=>nomatch z),(λz=>nomatch z)⟩
 |cons p r ih=>
  by_cases e:p.1=k
  ·rw[iN e]
   grind
  ·rw[jL e,ih]
   grind
theorem oo{κ:Type}[DecidableEq κ]{kvs:List (κ×V)}{k:κ}(h:k∉kvs.map (·.1)):bg kvs k=none:=by
 cases e:bg kvs k with
 |none=>rfl
 |some v=>exact absurd ((yQ kvs k).mp (by rw[e];rfl)) h
theorem Mn{κ:Type}[DecidableEq κ]{kvs:List (κ×V)}{k:κ}{v:V}(nd:(kvs.map (·.1)).Nodup)(h:(k,v)∈kvs):bg kvs k=some v:=by
 induction kvs with
 |nil=>cases h
 |cons p r ih=>
  obtain⟨n1,n2⟩:=Y0.mp (show(p.1::r.map (·.1)).Nodup from nd);rcases Yp.mp h with h|h;·rw[←h];exact iN rfl
  ·rw[jL (λz=>n1 (by rw[z];exact Yi.mpr ⟨_,h,rfl⟩))];exact ih n2 h
theorem qk(h:i<ps.length):av ps i∈ps.map (·.1):=by
 unfold av
 grind
inductive La(C CL CJ:Addr)(vs:List V)(H:Hp)(Q:VK)(E:XK):Prop
 |mk (l:BL) (b:BS) (xs ys:List Int) (aI:vs=[.ref l.h]) (aX:a9 H C CL CJ l xs ys b) (bu:Nw H (.lst (b.ps.map λp=>V.str p.1)) Q)
inductive Eh(C CL CJ:Addr)(vs:List V)(H:Hp)(Q:VK)(E:XK):Prop
 |mk (l:BL) (b:BS) (xs ys:List Int) (z:Str) (v:V) (aI:vs=[.ref l.h,.str z]) (aX:a9 H C CL CJ l xs ys b) (bu:bg (eG b.ps) (.inr z)=some v) (bW:Q v H)
inductive FA(C CL CJ:Addr)(vs:List V)(H:Hp)(Q:VK)(E:XK):Prop
 |mk (l:BL) (b:BS) (xs ys:List Int) (k a:Str) (o:Key) (aI:vs=[.ref l.h,.str k,.str a,kV o]) (aX:a9 H C CL CJ l xs ys b) (bu:k="sibling"->∃b,o=.inr b) (bW:∀H',au H H'->Q (.bl (b.told (keyOf k a o))) H')
inductive DH(C CL CJ:Addr)(vs:List V)(H:Hp)(Q:VK)(E:XK):Prop
 |mk (l:BL) (b:BS) (xs ys:List Int) (k a:Str) (aI:vs=[.ref l.h,.str k,.str a]) (aX:a9 H C CL CJ l xs ys b) (bW:∀H',au H H'->Q ((bg (bK b.ps b.fs) [.inr k,.inr a]).getD .aA) H')
abbrev fq:List Str:=["mother","father"]
def m_(b:BS)(a:Str):List V:=fq.filterMap λk=>bg (bK b.ps b.fs) [.inr k,.inr a]
theorem YS(g:Nat->Option V):((List.range 2).filter λi=>(g i).isSome).map (λi=>(g i).getD .aA)=[g 0,g 1].filterMap id:=by
 show(([0,1]:List Nat).filter _).map _=_
 grind
theorem YT(b:BS)(k:List Key):b.told k=true↔k∈b.keys:=by
 unfold BS.told;rw[yQ];unfold eW BS.keys
 grind
inductive ID(C CL CJ:Addr)(vs:List V)(H:Hp)(Q:VK)(E:XK):Prop
 |mk (l:BL) (b:BS) (xs ys:List Int) (a:Str) (aI:vs=[.ref l.h,.str a]) (aX:a9 H C CL CJ l xs ys b) (bW:∀(p:Addr) (H':Hp),H p=none->au H H'->H' p=some (.lst (m_ b a))->Q (.ref p) H')
def eK(H:Hp)(ps:dz)(a:Addr)(p:Nat×Fc):Prop:=H a=some (.tup ((dN ps p.1 p.2).map kV))
inductive NB(C CL CJ:Addr)(vs:List V)(H:Hp)(Q:VK)(E:XK):Prop
 |mk (l:BL) (b:BS) (xs ys:List Int) (aI:vs=[.ref l.h]) (aX:a9 H C CL CJ l xs ys b) (zs:(b.fs.map (·.1)).Nodup) (fl:b.fs.length<=63) (bW:∀(p:Addr) (as:List Addr) (c7:List (Nat×Fc)) (H':Hp),H p=none->au H H'->c7.Perm b.fs->(c7.map (·.1)).Pairwise (·<·)->H' p=some (.lst (as.map V.ref))->Paired (eK H' b.ps) as c7->Q (.ref p) H')
def DI(K:ag):Sp:=λvs H Q _=>∃(r:Addr) (xs:List V),vs=[.ref r]/\aE K H r xs/\Q (.bl (decide (xs.length=2))) H
theorem EB:∀{as:List Addr} {fs:List (Nat×Fc)} {p:Nat×Fc},Paired (eK H ps) as fs->(fs.map (·.1)).Nodup->p∈fs->∃a,bg (bf (fs.map (·.1)) as) (.inl (p.1:Int))=some (.ref a)/\eK H ps a p:=by
 intro as fs p pr;induction pr with
 |nil=>grind
 |@cons a q as fs f t ih=>
  intro nd h;obtain⟨n1,n2⟩:=Y0.mp (show(q.1::fs.map (·.1)).Nodup from nd);have e0:bf ((q::fs).map (·.1)) (a::as)=(Sum.inl (q.1:Int),V.ref a)::bf (fs.map (·.1)) as:=rfl;rw[e0];rcases Yp.mp h with rfl|h;·exact⟨a,iN rfl,f⟩
  ·obtain⟨a',e1,e2⟩:=ih n2 h;refine⟨a',?_,e2⟩;rw[jL (p:=((Sum.inl (q.1:Int):Key),V.ref a)) (λz=>n1 (by
    have e:=AV z;have e':q.1=p.1:=by omega
    rw[e'];exact Yi.mpr ⟨_,h,rfl⟩))]
   exact e1
theorem JC:∀{ks:List Nat} {as:List Addr},ks.length=as.length->(bf ks as).map (·.1)=(ks.map λk:Nat=>(k:Int)).map Sum.inl
 |[],[],_=>rfl
 |k::ks,a::as,h=>by
  have e0:bf (k::ks) (a::as)=(Sum.inl (k:Int),V.ref a)::bf ks as:=rfl;rw[e0,Wn,JC (by simpa using h)];rfl
 |[],_::_,h=>rfl
 |_::_,[],h=>by simp at h
theorem VB(nd:(fs.map (·.1)).Nodup)(pm:ns.Perm ((fs.map (·.1)).map λk:Nat=>(k:Int)))(so:ns.Pairwise (·<=·)):∃c7:List (Nat×Fc),c7.Perm fs/\(c7.map (·.1)).Pairwise (·<·)/\ns=(c7.map (·.1)).map λk:Nat=>(k:Int):=by
 have aux:∀{ns:List Int} {fs:List (Nat×Fc)},ns.Perm ((fs.map (·.1)).map λk:Nat=>(k:Int))->∃c7:List (Nat×Fc),c7.Perm fs/\ns=(c7.map (·.1)).map λk:Nat=>(k:Int):=by
  intro ns;induction ns with
  |nil=>
   intro fs pm;have:=pm.symm.eq_nil;have e:fs=[]:=by simpa using this
   exact⟨[],by rw[e],rfl⟩
  |cons a ns ih=>
   intro fs pm;have ma:a∈(fs.map (·.1)).map λk:Nat=>(k:Int):=pm.subset Yh;rw[Y8] at ma;obtain⟨p,hp,rfl⟩:=Yi.mp ma;obtain⟨l1,l2,rfl⟩:=List.append_of_mem hp;have pm':ns.Perm (((l1++l2).map (·.1)).map λk:Nat=>(k:Int)):=by
    have h1:(((l1++p::l2).map (·.1)).map λk:Nat=>(k:Int)).Perm ((p.1:Int)::((l1++l2).map (·.1)).map λk:Nat=>(k:Int)):=by
     have:=(List.perm_middle (a:=p) (l₁:=l1) (l₂:=l2)).map λq:Nat×Fc=>((q.1:Nat):Int);simpa[Y8,Function.comp_def] using this
    exact(pm.trans h1).cons_inv
   obtain⟨c7,q1,q2⟩:=ih pm';exact⟨p::c7,(q1.cons p).trans List.perm_middle.symm,by rw[q2];rfl⟩
 obtain⟨c7,q1,q2⟩:=aux pm;refine⟨c7,q1,?_,q2⟩;have nd':(c7.map (·.1)).Nodup:=(q1.map _).nodup_iff.mpr nd;rw[q2,Wr] at so;exact(so.and nd').imp λh=>by
  have h1:=h.1;have h2:=h.2;omega
section
variable {K:ag}{mg:aN}{cS:Addr}
theorem Sx:aS iz iz (aJ B0):=.bc
theorem WX(F:aL K "people" "Hearth.people" B0 f fd)(hc:fH K C)(bl:Bl mg):aG P w K mg base aK 1 f fd iz (La C CL CJ):=by
 refine F.o Sx λs H hr h=>?_;obtain⟨l,b,xs,ys,rfl,ba,q⟩:=h;refine⟨_,(aw (aP (fO (UB rfl) rfl bl.qu qh (aa (pF K 0) ai)))),?_⟩;obtain⟨dx,h1⟩:=ba.obj;refine⟨_,rfl,l.h,C,dx,_,_,rfl,h1,hc.cls,hc.qj,rfl,l.sd,_,rfl,ba.cJ,λp H' np g hp=>q p H' np g ?_⟩;rw[hp,Y8];rfl
abbrev nG:List Str:=["self","name"]
theorem Sn:aS nG nG (aJ BQ):=.bc
theorem VC(F:aL K "side_of" "Hearth.side_of" BQ f fd)(hc:fH K C)(bl:Bl mg):aG P w K mg base aK 1 f fd nG (Eh C CL CJ):=by
 refine F.o Sn λs H hr h=>?_;obtain⟨l,b,xs,ys,z,v,rfl,ba,ev,q⟩:=h;refine⟨_,(aq (aV (qp (yE (bT hr) (pv 1) (pF K 0)) (by with_unfolding_all rfl)) fG aZ) (aw (aP (d_ (bT hr) (pF K 0) (pv 1) (λ_ _=>rfl))))),?_⟩;obtain⟨dx,h1⟩:=ba.obj;exact⟨_,rfl,_,rfl,l.h,C,dx,_,_,rfl,h1,hc.cls,hc.qj,rfl,l.sd,some v,rfl,fK ba.cJ ev,_,rfl,cR (a_ ⟨_,rfl,l.h,C,dx,_,_,rfl,h1,hc.cls,hc.qj,rfl,_,rfl,l.sd,v,rfl,fK ba.cJ ev,q⟩)⟩
theorem T_:aS iG iG (aJ C3):=.bc
theorem Ua(F:aL K "is_person" "is_person" C3 f fd)(bl:Bl mg):aG P w K mg base aK 1 f fd iG (DI K):=by
 refine F.o T_ λs H hr h=>?_;obtain⟨r,xs,rfl,AQ,q⟩:=h;refine⟨_,(aw (aP (eC c5 (dI K bl (pv 0)) aO))),?_⟩;refine⟨_,rfl,r,xs,rfl,.inr AQ,rfl,?_⟩;have e:decide (V.int (xs.length:Int)=V.int 2)=decide (xs.length=2):=by
  rw[Wm,decide_eq_true_iff,decide_eq_true_iff];exact⟨λz=>by have:=V.int.inj z;omega,λz=>by rw[z];rfl⟩
 rw[←e] at q;exact q
abbrev kN:List Str:=["self","kind","one","other"]
theorem Ts:aS kN kN (aJ CK):=.bc
theorem ZbS(F:aL K "has" "Hearth.has" CK f fd)(hc:fH K C)(mH:HasFn P w K mg base 1 "fact_key" ud zQ):aG P w K mg base aK 2 f fd kN (FA C CL CJ):=by
 refine F.o Ts λs H hr h=>?_;obtain⟨l,b,xs,ys,k,a,o,rfl,ba,hs,q⟩:=h;refine⟨_,(aw (aP (ZaF (zr (bT hr) (aY mH hr (aa (pv 1) (aa (pv 2) (aa (pv 3) ai)))) (pF K 0)) (by with_unfolding_all rfl)))),?_⟩;refine⟨_,rfl,_,rfl,_,rfl,k,a,o,rfl,hs,λp H1 np g1 hp=>?_⟩;obtain⟨dx,h1⟩:=ba.obj;refine⟨_,rfl,l.h,C,dx,_,_,rfl,g1 _ _ h1,hc.cls,hc.y9,rfl,l.kn,_,rfl,eM.t (g1 _ _ ba.known) hp,?_⟩;exact q H1 g1
abbrev wH:List Str:=["self","kind","name"]
theorem Sg:aS wH wH (aJ BG):=.bc
theorem Ub(F:aL K "parent_of" "Hearth.parent_of" BG f fd)(hc:fH K C):aG P w K mg base aK 1 f fd wH (DH C CL CJ):=by
 refine F.o Sg λs H hr h=>?_;obtain⟨l,b,xs,ys,k,a,rfl,ba,q⟩:=h;refine⟨_,(aw (aP (XJ (bT hr) (pF K 0) (e_ (aa (pv 1) (aa (pv 2) ai))) ⟨rfl,rfl,rfl,rfl⟩))),?_⟩;obtain⟨dx,h1⟩:=ba.obj;refine⟨_,rfl,l.h,C,dx,_,_,rfl,h1,hc.cls,hc.tE,rfl,l.pr,rfl,.inr ⟨_,.inl ba.parents⟩,_,rfl,_,rfl,by show 2<=sizeLine;decide,λp H1 np g1 hp=>?_⟩;exact⟨_,eM.t (k:=[.inr k,.inr a]) (g1 _ _ ba.parents) hp,q H1 g1⟩
theorem Sb:aS nG nG (aJ BE):=.bc
theorem Tt(F:aL K "parents_of" "Hearth.parents_of" BE f fd)(hc:fH K C)(eP:mg "PARENTS"=some (.ref cS))(qP:∀H,aE K H cS (fq.map V.str)):aG P w K mg base aK 1 f fd nG (ID C CL CJ):=by
 refine F.o Sb λs H hr h=>?_;obtain⟨l,b,xs,ys,a,rfl,ba,q⟩:=h;refine⟨_,(aw (aP (ku (x:="kind") (fr:=[("self",0),("name",1)]) (cl:=[("self",s.heap.objs.size+1),("name",s.heap.objs.size+1+1)]) rfl (.gM ⟨rfl,⟨rfl,trivial⟩⟩ ⟨⟨rfl,.inl rfl,.inl rfl,rfl⟩,⟨⟨rfl,.inl rfl,.inl rfl,rfl⟩,trivial⟩⟩) (MK (df (v:=.ref cS) rfl eP rfl)) (λ_ _ _ _=>tK (qp (zr (bT hr) (e_ (aa (pv 0) (aa (pv 2) ai))) (vN (K:=K) rfl (pv 1) rfl)) (by with_unfolding_all rfl))) (λ_ _ _ _=>(d_ (bT hr) (vN (K:=K) rfl (pv 1) rfl) (e_ (aa (pv 0) (aa (pv 2) ai))) (λ_ _=>rfl)))))),?_⟩;obtain⟨dx,h1⟩:=ba.obj;let val:Nat->Option V:=λi=>bg (bK b.ps b.fs) [.inr (fq.getD i ""),.inr a];refine⟨cS,rfl,⟨_,qP _⟩,λD hD=>WC (K:=K) (a:=cS) (xs:=fq.map V.str) (qP _) (by show 2<=1000;decide) hD (λi=>(val i).isSome) (λi=>(val i).getD .aA) (λi v hi H1 g1 _ Kt Kf kt kf=>?_) λH1 g1 h2=>q D H1 hD g1 ?_⟩
 ·obtain⟨k,rfl,ek⟩:∃k:Str,v=.str k/\fq.getD i ""=k:=by
   match i,hi with
   |0,hi=>exact⟨"mother",(Yu hi).symm,rfl⟩
   |1,hi=>exact⟨"father",(Yu hi).symm,rfl⟩
   |i+2,hi=>simp at hi
  have ev:val i=bg (bK b.ps b.fs) [.inr k,.inr a]:=by show bg (bK b.ps b.fs) [.inr (fq.getD i ""),.inr a]=_;rw[ek]
  refine⟨_,rfl,_,rfl,by show 2<=sizeLine;decide,λp H2 np g2 hp=>?_⟩;refine⟨_,rfl,l.h,C,dx,_,_,rfl,g2 _ _ (g1 _ _ h1),hc.cls,hc.tE,rfl,l.pr,_,rfl,eM.t (k:=[.inr k,.inr a]) (g2 _ _ (g1 _ _ ba.parents)) hp,_,rfl,?_⟩;rw[ev] at kt kf;cases e:bg (bK b.ps b.fs) [.inr k,.inr a] with
  |none=>
   rw[e] at kf;exact cR (kf H2 rfl g2)
  |some u=>
   rw[e] at kt;refine dk ?_;refine⟨_,rfl,l.h,C,dx,_,_,rfl,g2 _ _ (g1 _ _ h1),hc.cls,hc.tE,rfl,_,rfl,_,rfl,by show 2<=sizeLine;decide,λp3 H3 np3 g3 A8=>?_⟩;refine⟨l.pr,u,rfl,?_,kt u H3 rfl (g2.trans g3) rfl⟩;have z:=eM.t (k:=[.inr k,.inr a]) (g3 _ _ (g2 _ _ (g1 _ _ ba.parents))) A8;rw[e] at z;exact z
 ·rw[h2];have e:((List.range (fq.map V.str).length).filter λi=>(val i).isSome).map (λi=>(val i).getD .aA)=m_ b a:=by
   exact YS val
  rw[e]
theorem S6:aS iz iz (aJ Ct):=.bc
theorem Zad(F:aL K "kept" "Hearth.kept" Ct f fd)(hc:fH K C)(bl:Bl mg):aG P w K mg base aK 1 f fd iz (NB C CL CJ):=by
 refine F.o S6 λs H hr h=>?_;obtain⟨l,b,xs,ys,rfl,ba,zs,fl,q⟩:=h;refine⟨_,(aw (aP (ku (x:="number") (fr:=[("self",0)]) (cl:=[("self",s.heap.objs.size+1)]) rfl (.gM ⟨rfl,trivial⟩ ⟨⟨rfl,.inl rfl,.inl rfl,rfl⟩,trivial⟩) (gW (K:=K) rfl (gU (Tn rfl) rfl bl.yK yD (aa (pF K 0) ai))) (λ_ _ _ _=>mV) (λ_ _ _ _=>(d_ (bT hr) (vN (K:=K) rfl (pv 1) rfl) (pv 0) (λ_ _=>rfl)))))),?_⟩;obtain⟨dx,h1⟩:=ba.obj;have al:(b.fs.map (·.1)).length=l.bJ.length:=by rw[Ya];exact(de ba.fact).symm
 refine⟨_,rfl,l.h,C,dx,_,_,rfl,h1,hc.cls,hc.oN,rfl,l.fc,_,(b.fs.map (·.1)).map (λk:Nat=>(k:Int)),rfl,ba.facts,JC al,by rw[Ya,Ya];omega,λns pm so p H1 np g1 hp=>?_⟩;obtain⟨c7,q1,q2,q3⟩:=VB zs pm so;have fl':c7.length<=63:=by rw[q1.length_eq];exact fl
 subst q3;have nl:(((c7.map (·.1)).map λk:Nat=>(k:Int)).map V.int).length=c7.length:=by rw[Ya,Ya,Ya]
 refine⟨p,rfl,⟨_,aj.of hp⟩,λD hD=>?_⟩;refine sS (K:=K) (aj.of hp) (by omega) hD (λ_=>true) (λi y H2=>∃a pr,c7[i]?=some pr/\y=.ref a/\eK H2 b.ps a pr/\eK H b.ps a pr) (λi y H2 H3 br ⟨a,pr,e1,e2,e3,e4⟩=>⟨a,pr,e1,e2,br _ _ e3 (λz=>by
   have:H1 a=some _:=g1 _ _ e4;rw[z,hD] at this;cases this),e4⟩) (λi v hi H2 g2 _ Kt Kf kt _=>lR (dk ?_)) λjz H2 g2 h2 pr=>?_
 ·rw[Yg,Yg,Yg] at hi;cases ep:c7[i]? with
  |none=>rw[ep] at hi;cases hi
  |some pp=>
   rw[ep] at hi;obtain rfl:V.int (pp.1:Int)=v:=Yu hi;obtain⟨a,e1,e2⟩:=EB (H:=H) (ps:=b.ps) ba.fact zs (q1.subset (Ys ep));have pO:=g1.trans g2;refine⟨_,rfl,l.h,C,dx,_,_,rfl,pO _ _ h1,hc.cls,hc.oN,rfl,_,rfl,l.fc,.ref a,rfl,m9 (pO _ _ ba.facts) e1,kt _ H2 rfl (au.refl _) ⟨a,pp,ep,rfl,pO _ _ e2,e2⟩⟩
 ·rw[Dv,nl] at pr;obtain⟨as,ea,pa⟩:∃as:List Addr,jz=as.map V.ref/\Paired (eK H2 b.ps) as c7:=by
   have aux:∀{ys:List V} {is:List Nat} {gs:List (Nat×Fc)},Paired (λy i=>∃a pr,c7[i]?=some pr/\y=.ref a/\eK H2 b.ps a pr/\eK H b.ps a pr) ys is->is.map (λi=>c7[i]?)=gs.map some->∃as:List Addr,ys=as.map V.ref/\Paired (eK H2 b.ps) as gs:=by
    intro ys is gs pr;induction pr generalizing gs with
    |nil=>
     intro e;cases gs with
     |nil=>exact⟨[],rfl,.nil⟩
     |cons _ _=>cases e
    |cons f _ ih=>
     intro e;cases gs with
     |nil=>cases e
     |cons g gs=>
      obtain⟨a,pp,e1,e2,e3,_⟩:=f;injection e with e4 e5;obtain⟨as,r1,r2⟩:=ih e5;exact⟨a::as,by rw[e2,r1];rfl,.cons (by rw[←Yu (e1.symm.trans e4)];exact e3) r2⟩
   refine aux pr (Ws λi=>?_);rw[Yg,Yg];by_cases hi:i<c7.length;·rw[Js hi,Yb hi];exact congrArg some (Yb hi)
   ·rw[Y1 (by rw[W0];omega),Y1 (by omega)];rfl
  subst ea;exact q D as c7 H2 (g1.free hD) (g1.trans g2) q1 q2 h2 pa
end
theorem zc(h:i<ps.length):av (ps++[x]) i=av ps i:=by
 unfold av
 grind
theorem Ei(ok:gf n ps.length c):cG (ps++[x]) c=cG ps c:=by
 unfold cG;by_cases e:c.k=c_;·grind
 ·rw[if_neg e,if_neg e,zc (ok.iJ e).1.2]
theorem Zae(ok:gf n ps.length c):dN (ps++[x]) z c=dN ps z c:=by
 unfold dN;rw[Ei ok,zc ok.one]
theorem Mo(ok:gf n ps.length c):gO (ps++[x]) c=gO ps c:=by
 unfold gO;rw[Ei ok,zc ok.one]
theorem Zaf(ok:∀p∈fs,gf n ps.length p.2):eW (ps++[x]) fs=eW ps fs:=by
 exact Wt λp hp=>by rw[Mo (ok p hp)]
theorem Mp(ok:∀p∈fs,gf n ps.length p.2):bK (ps++[x]) fs=bK ps fs:=by
 exact Wt λp hp=>by
  have o:=ok p (Y3.mp hp).1;rw[Ei o,zc o.one]
theorem Zag(ps:dz)(n s:Str):eG (ps++[(n,s)])=eG ps++[(.inr n,.str s)]:=Yq
theorem Zah(ps:dz)(x:Str×Str):iK (ps++[x])=iK ps++[(.inr x.1,.int (ps.length:Int))]:=by
 unfold iK
 grind
theorem YU(ps:dz)(fs:List (Nat×Fc))(z:Nat)(c:Fc):eW ps (fs++[(z,c)])=eW ps fs++[(gO ps c,.int (z:Int))]:=Yq
theorem Lb(h:bF c.k=true):bK ps (fs++[(z,c)])=bK ps fs++[([.inr c.k,.inr (av ps c.one)],kV (cG ps c))]:=by
 unfold bK
 grind
theorem Lc(h:bF c.k=false):bK ps (fs++[(z,c)])=bK ps fs:=by
 unfold bK
 grind
theorem tO(k:Str):dY (.str k) (fq.map V.str)=bF k:=by
 show((("mother":Str)==k)||((("father":Str)==k)||false))=(decide (k="mother")||decide (k="father"))
 grind
theorem IE{α β γ:Type}[DecidableEq β][DecidableEq γ]{f:α->β}{g:α->γ}:∀{xs:List α} {x:α},(xs.map f).Nodup->(xs.map g).Nodup->x∈xs->xs.filter (λy=>decide (f y≠f x))=xs.filter (λy=>decide (g y≠g x)):=by
 intro xs x n1 n2 hx;have inj:∀{δ:Type} {h:α->δ},(xs.map h).Nodup->∀y∈xs,h y=h x->y=x:=by
  induction xs with
  |nil=>cases hx
  |cons a r ih=>grind
 refine List.filter_congr λy hy=>?_
 grind
theorem YV{ps:dz}{fs:List (Nat×Fc)}{z:Nat}{c:Fc}(zs:(fs.map (·.1)).Nodup)(ky:(fs.map λp=>gO ps p.2).Nodup)(m:(z,c)∈fs):fU (eW ps fs) (gO ps c)=eW ps (cL z fs):=by
 unfold eW fU cL;rw[List.filter_map];exact congrArg _ (IE (x:=(z,c)) ky zs m)
theorem YW{ps:dz}{fs:List (Nat×Fc)}{z:Nat}{c:Fc}(zs:(fs.map (·.1)).Nodup)(pr:((bK ps fs).map (·.1)).Nodup)(m:(z,c)∈fs)(h:bF c.k=true):fU (bK ps fs) [.inr c.k,.inr (av ps c.one)]=bK ps (cL z fs):=by
 unfold bK at pr⊢;rw[Y8] at pr;unfold fU cL;rw[List.filter_map,Jj];have e:=IE (f:=λp:Nat×Fc=>([.inr p.2.k,.inr (av ps p.2.one)]:List Key)) (x:=(z,c)) pr (zs.sublist (List.filter_sublist.map _)) (Y3.mpr ⟨m,h⟩);rw[Jj,Jj] at e;rw[Jj];exact congrArg _ (e.trans (congrArg (fs.filter ·) (funext λp=>Bool.and_comm _ _)))
theorem WY(zs:(fs.map (·.1)).Nodup)(m:(z,c)∈fs)(h:bF c.k=false):bK ps fs=bK ps (cL z fs):=by
 unfold bK cL;rw[Jj];refine congrArg _ (List.filter_congr λp hp=>?_);by_cases e:p.1=z
 ·have:p=(z,c):=by
   have aux:∀{fs:List (Nat×Fc)},(fs.map (·.1)).Nodup->p∈fs->(z,c)∈fs->p=(z,c):=by
    induction fs with
    |nil=>grind
    |cons a r ih=>grind
   exact aux zs hp m
  grind
 ·grind
inductive Move(xs ys:List Int)(H:Hp)(r:Addr)(b:BS):Int->BS->Prop
 |pin (n s:Str) (hr:H r=some (.tup [.str n,.str s])) (new:n∉b.ps.map (·.1)) (lim:b.ps.length<64):Move xs ys H r b 1 {b with ps:=b.ps++[(n,s)]}
 |fin (z:Nat) (c:Fc) (hr:eK H b.ps r (z,c)) (fg:jS xs ys b.ps.length c) (nz:z∉b.fs.map (·.1)) (nk:gO b.ps c∉b.keys) (np:bF c.k=true->[.inr c.k,.inr (av b.ps c.one)]∉(bK b.ps b.fs).map (·.1)) (lv:∃f,xS xs.length b.ps.length f/\∀c'∈b.F++[c],g_ f c') (lim:b.fs.length<63):Move xs ys H r b 1 {b with fs:=b.fs++[(z,c)]}
 |ue (z:Nat) (c:Fc) (hr:eK H b.ps r (z,c)) (m:(z,c)∈b.fs):Move xs ys H r b (-1) {b with fs:=cL z b.fs}
theorem Move.out{w:Int}(m:Move xs ys H r b w b')(k:∀us,H r=some (.tup us)->H' r=some (.tup us)):Move xs ys H' r b w b':=by
 cases m with
 |pin n s hr new lim=>exact .pin n s (k _ hr) new lim
 |fin z c hr fg nz nk np lv lim=>exact .fin z c (k _ hr) fg nz nk np lv lim
 |ue z c hr m=>exact .ue z c (k _ hr) m
theorem Move.ZcH{w:Int}(m:Move xs ys H r b w b')(dn un:List Ae):Move xs ys H r {b with dn:=dn,un:=un} w {b' with dn:=dn,un:=un}:=by
 cases m with
 |pin n s hr new lim=>exact .pin n s hr new lim
 |fin z c hr fg nz nk np lv lim=>exact .fin z c hr fg nz nk np lv lim
 |ue z c hr m=>exact .ue z c hr m
inductive Mq(C CL CJ:Addr)(vs:List V)(H:Hp)(Q:VK):Prop
 |mk (l:BL) (b:BS) (xs ys:List Int) (fa:Addr) (z:Nat) (c:Fc) (aI:vs=[.ref l.h,.ref fa]) (ba:a9 H C CL CJ l xs ys b) (hf:eK H b.ps fa (z,c)) (nz:z∉b.fs.map (·.1)) (nk:gO b.ps c∉b.keys) (np:bF c.k=true->[.inr c.k,.inr (av b.ps c.one)]∉(bK b.ps b.fs).map (·.1)) (fl:b.fs.length<=63)
   (q:∀H',Out [l.fc,l.kn,l.pr] H H'->H' l.fc=some (.dK (bf ((b.fs++[(z,c)]).map (·.1)) (l.bJ++[fa])))->H' l.kn=some (.dT (eW b.ps (b.fs++[(z,c)])))->H' l.pr=some (.dT (bK b.ps (b.fs++[(z,c)])))->Q .aA H'):Mq C CL CJ vs H Q
def NC(C CL CJ:Addr):Sp:=λvs H Q _=>Mq C CL CJ vs H Q
inductive Mr(C CL CJ:Addr)(vs:List V)(H:Hp)(Q:VK)(E:XK):Prop
 |mk (l:BL) (b b':BS) (xs ys:List Int) (r:Addr) (aI:vs=[.ref l.h,.ref r]) (ba:a9 H C CL CJ l xs ys b) (ok:cM xs ys b) (mv:Move xs ys H r b 1 b') (q:∀(l':BL) (H':Hp),bV H H' l l'->a9 H' C CL CJ l' xs ys b'->Q .aA H')
inductive Ks(C CL CJ:Addr)(vs:List V)(H:Hp)(Q:VK)(E:XK):Prop
 |mk (l:BL) (b b':BS) (xs ys:List Int) (r:Addr) (aI:vs=[.ref l.h,.ref r]) (ba:a9 H C CL CJ l xs ys b) (ok:cM xs ys b) (mv:Move xs ys H r b (-1) b') (q:∀(l':BL) (H':Hp),bV H H' l l'->a9 H' C CL CJ l' xs ys b'->Q .aA H')
inductive Ms(C CL CJ:Addr)(vs:List V)(H:Hp)(Q:VK)(E:XK):Prop
 |mk (l:BL) (b b':BS) (xs ys:List Int) (r:Addr) (w:Int) (c2:Nat) (aI:vs=[.ref l.h,.int w,.ref r,.int (c2:Int)]) (ba:a9 H C CL CJ l xs ys b) (ok:cM xs ys b) (mv:Move xs ys H r b w b') (q:∀(l':BL) (H':Hp),bV H H' l l'->a9 H' C CL CJ l' xs ys {b' with co:=c2}->Q .aA H')
inductive yR(C CL CJ:Addr)(vs:List V)(H:Hp)(Q:VK)(E:XK):Prop
 |mk (l:BL) (b b':BS) (xs ys:List Int) (r:Addr) (w:Int) (c2:Nat) (row:List Key) (aI:vs=[.ref l.h,.int w,.ref r,.int (c2:Int)]) (ba:a9 H C CL CJ l xs ys b) (ok:cM xs ys b) (dl:b.dn.length<200) (hr:H r=some (.tup (row.map kV))) (mv:Move xs ys H r b w b') (q:∀(l':BL) (H':Hp),bV H H' l l'->a9 H' C CL CJ l' xs ys {b' with co:=c2,dn:=b.dn++[⟨w,row,b.co,c2⟩],un:=[]}->Q .aA H')
section
variable {K:ag}{mg:aN}{cS:Addr}
theorem Mt{ps:dz}{c:Fc}(e:c.k="sibling"):∃b,cG ps c=.inr b:=⟨_,lK (by rw[e];decide+kernel)⟩
abbrev qZ:List Str:=["self","fact"]
abbrev O8:List Str:=["self","fact","number","kind","one","other"]
theorem u_:aS O8 qZ (aJ BH):=.bc
theorem Zai(F:aL K "note_fact" "Hearth.note_fact" BH f fd)(hc:fH K C)(eP:mg "PARENTS"=some (.ref cS))(qP:∀H,aE K H cS (fq.map V.str))(mH:HasFn P w K mg base 1 "fact_key" ud zQ):aG P w K mg base aK 2 f fd qZ (NC C CL CJ):=by
 refine F.o u_ λs H hr h=>?_;obtain⟨l,b,xs,ys,fa,z,c,rfl,ba,hf,nz,nk,np,fl,q⟩:=h;refine⟨_,(aq (oP (pv 1) (mY (K:=K) (n:=4) rfl rfl (c8 (cE 2 u_.nd) (c8 (cE 3 u_.nd) (c8 (cE 4 u_.nd) (c8 (cE 5 u_.nd) mU)))))) (aq (oE (bT hr) (pF K 0) (pv 2) (pv 1)) (aq (Kb (bT hr) (pF K 0) (aY mH hr (aa (pv 3) (aa (pv 4) (aa (pv 5) ai)))) (pv 2)) (aw (aV (fP (kU (K:=K) rfl) (pv 3) (df (v:=.ref cS) rfl eP rfl) (by with_unfolding_all rfl)) (aw (Kb (bT hr) (pF K 0) (e_ (aa (pv 3) (aa (pv 4) ai))) (pv 5))) aZ))))),?_⟩;obtain⟨dx,h1⟩:=ba.obj;have sz:(10000:Nat)<=sizeLine:=by rw[sizeLine_eq];omega
 have al:(b.fs.map (·.1)).length=l.bJ.length:=by rw[Ya];exact(de ba.fact).symm
 have A9:l.h≠l.fc:=ff h1 ba.facts (λz=>by cases z);have nh2:l.h≠l.kn:=ff h1 ba.known (λz=>by cases z);have QW:l.kn≠l.fc:=ff ba.known ba.facts (λz=>by cases z);have i_:l.pr≠l.fc:=ff ba.parents ba.facts (λz=>by cases z);have Hv:l.pr≠l.kn:=λe=>by
  have:=ba.nd;unfold BL.own at this;simp[e] at this
 refine⟨_,rfl,fa,_,rfl,aE.of hf,rfl,_,_,rfl,bI ⟨_,_,rfl,bI ⟨_,_,rfl,bI ⟨_,_,rfl,bI ⟨rfl,?_⟩⟩⟩⟩⟩;refine⟨_,rfl,_,rfl,l.h,C,dx,_,_,rfl,h1,hc.cls,hc.oN,rfl,_,rfl,l.fc,_,.inl (z:Int),rfl,ba.facts,rfl,by unfold bf;rw[Ya,Jb,Ya];omega,λH1 b1 e1=>?_⟩;have vz:bg (bf (b.fs.map (·.1)) l.bJ) (.inl (z:Int))=none:=yG nz;rw[mN _ vz,yw z fa al] at e1;refine⟨_,rfl,_,rfl,l.h,C,dx,_,_,rfl,b1 _ _ h1 A9,hc.cls,hc.y9,rfl,_,rfl,_,rfl,_,rfl,c.k,av b.ps c.one,cG b.ps c,rfl,λe=>Mt e,λp H2 xP g2 dt=>?_⟩;refine⟨l.kn,p,_,gO b.ps c,rfl,g2 _ _ (b1 _ _ ba.known QW),rfl,dt,by unfold eW;rw[Ya];omega,λH3 b3 e3=>?_⟩;have vk:bg (eW b.ps b.fs) (gO b.ps c)=none:=oo (by
  have:(eW b.ps b.fs).map (·.1)=b.keys:=by unfold eW BS.keys;rw[Y8];rfl
  rw[this];exact nk)
 rw[mN _ vk] at e3
 replace e3:H3 l.kn=some (.dT (eW b.ps (b.fs++[(z,c)]))):=by rw[YU];exact e3
 have k3:∀{a:Addr} {o:HO},H a=some o->a≠l.fc->a≠l.kn->H3 a=some o:=λ{a o} e n1 n2=>b3 _ _ (g2 _ _ (b1 _ _ e n1)) n2;have rT:H3 l.fc=some (.dK (bf ((b.fs++[(z,c)]).map (·.1)) (l.bJ++[fa]))):=by
  have:=b3 _ _ (g2 _ _ e1) (λz=>QW z.symm);rw[this,Yq];rfl
 have xU:=k3 ba.parents i_ Hv;refine⟨_,rfl,cS,_,rfl,.inr (qP _),rfl,rfl,_,rfl,?_⟩;dsimp only;rw[if_neg Yf,show dY (kV (Sum.inr c.k)) (fq.map V.str)=bF c.k from tO c.k];refine bb (λcc=>?_) (λcc=>a_ ?_)
 ·refine⟨_,rfl,_,rfl,l.h,C,dx,_,_,rfl,k3 h1 A9 nh2,hc.cls,hc.tE,rfl,_,rfl,_,rfl,by show 2<=sizeLine;decide,λp4 H4 np4 g4 Hw=>?_⟩;refine⟨l.pr,p4,_,[.inr c.k,.inr (av b.ps c.one)],rfl,g4 _ _ xU,rfl,Hw,?_,λH5 b5 e5=>?_⟩
  ·unfold bK;rw[Ya];have:=Wl (λp:Nat×Fc=>bF p.2.k) b.fs;omega
  have vp:bg (bK b.ps b.fs) [.inr c.k,.inr (av b.ps c.one)]=none:=oo (np cc);rw[mN _ vp] at e5
  replace e5:H5 l.pr=some (.dT (bK b.ps (b.fs++[(z,c)]))):=by rw[Lb cc];exact e5
  refine q H5 (λa o e n=>?_) (b5 _ _ (g4 _ _ rT) (λz=>i_ z.symm)) (b5 _ _ (g4 _ _ e3) (λz=>Hv z.symm)) e5;simp only[Yp,Y4,or_false,not_or] at n;exact b5 _ _ (g4 _ _ (k3 e n.1 n.2.1)) n.2.2
 ·have ef:bF c.k=false:=by
   cases e:bF c.k with
   |true=>exact absurd e cc
   |false=>rfl
  refine q H3 (λa o e n=>?_) rT e3 (by rw[Lc ef];exact xU)
  grind
theorem ND{l:BL}{H H1:Hp}{jl gg:JL}(e2:l.d7=jl.fp)(o:Out l.own H H1)(gr:dW jl.fp gg.fp H1):dW l.fp ({l with d7:=gg.fp}:BL).fp H:=λa z=>by
 rcases Yx.mp (show a∈l.own++gg.fp from z) with q|q;·exact .inl (Ym _ q)
 ·rcases gr a q with m|m;·exact .inl (Yj _ (by rw[e2];exact m))
  ·by_cases ma:a∈l.own;·exact .inl (Ym _ ma)
   ·right
    cases e:H a with
    |none=>rfl
    |some u=>rw[o _ _ e ma] at m;cases m
theorem Oo{l:BL}{H H1 H2:Hp}{jl:JL}(e2:l.d7=jl.fp)(o:Out l.own H H1)(o2:Out jl.fp H1 H2):Out l.fp H H2:=λa u e n=>o2 _ _ (o _ _ e λz=>n (Ym _ z)) λz=>n (Yj _ (by rw[e2];exact z))
theorem ql{l:BL}{H H1:Hp}(o:Out l.own H H1):Out l.fp H H1:=λa u e n=>o _ _ e λz=>n (Ym _ z)
abbrev uf:List Str:=["self","row"]
theorem BV:aS ["self","row","name","side"] uf (aJ B3):=.bc
theorem WZ(F:aL K "put_in" "Hearth.put_in" B3 f fd)(hc:fH K C)(sN:HasFn P w K mg base 1 "is_person" iG (DI K))(sO:cv P w K mg base 2 "add" CJ iz (Fx CJ))(BI:cv P w K mg base 2 "note_fact" C qZ (NC C CL CJ))(sP:HasFn P w K mg base 6 "keep_fact" qY (EA CL CJ))(bl:Bl mg):aG P w K mg base aK 8 f fd uf (Mr C CL CJ):=by
 refine F.o BV @λbh A outer vs Q E s H hr h=>?_;obtain⟨l,b,b',xs,ys,r,rfl,ba,ok,mv,q⟩:=h;refine⟨_,(aw (aV (di (aY sN hr (aa (pv 1) ai))) (aq (oP (pv 1) (mY (K:=K) (n:=2) rfl rfl (c8 (cE 2 BV.nd) (c8 (cE 3 BV.nd) mU)))) (aq (oE (bT hr) (pF K 0) (pv 2) (gU (Vg) rfl bl.zL zk (aa (pF K 0) ai))) (aq (oE (bT hr) (pF K 0) (pv 2) (pv 3)) (aw (aV (bP yT (pF K 0) kA) (aw (cq (vZ sO hr (by omega) (pF K 0)))) aZ))))) (aq (cq (cI BI hr (by omega) (pv 0) (aa (pv 1) ai))) (aw (aV (bP yT (pF K 0) kA) (aw (cq (aY sP hr (aa (pF K 0) (aa (pF K 0) (aa (pF K 0) (aa (pv 1) ai))))))) aZ))))),?_⟩;obtain⟨dx,h1⟩:=ba.obj;have sz:(10000:Nat)<=sizeLine:=by rw[sizeLine_eq];omega
 have nd:=ba.nd;unfold BL.own at nd;have QX:=nd;simp only[Y0,Yp,Y4,or_false,not_or] at QX;obtain⟨⟨lq,bG,ia,lC,nW,mj,nX⟩,⟨xV,rV,rW,rX,uQ,uR⟩,⟨pP,rY,rZ,uS,uT⟩,_⟩:=QX;have q0:∀p∈b.fs,gf xs.length b.ps.length p.2:=λp hp=>(ok.fg p hp).ok;cases mv with
 |pin n s hR new lim=>
  refine⟨_,rfl,r,_,rfl,aE.of hR,_,rfl,dk ?_⟩;refine⟨_,rfl,r,_,rfl,aE.of hR,rfl,_,_,rfl,bI ⟨_,_,rfl,bI ⟨rfl,?_⟩⟩⟩;have kl:(eG b.ps).length=b.ps.length:=Ya _;have pl':(iK b.ps).length=b.ps.length:=by unfold iK;rw[Ya,List.length_zipIdx]
  refine⟨_,rfl,l.h,C,dx,_,_,rfl,h1,hc.cls,hc.qj,rfl,l.sd,_,rfl,ba.cJ,_,rfl,l.h,C,dx,_,_,rfl,h1,hc.cls,hc.vJ,rfl,_,rfl,l.pl,_,.inr n,rfl,ba.places,rfl,by omega,λH1 b1 e1=>?_⟩;have ZcI:(iK b.ps).map (·.1)=b.ps.map λp=>(.inr p.1:Key):=by
   unfold iK;rw[Y8];have:(λp:(Str×Str)×Nat=>((.inr p.1.1:Key),V.int (p.2:Int)).1)=(λp:Str×Str=>(.inr p.1:Key))∘Prod.fst:=rfl;show b.ps.zipIdx.map (λp:(Str×Str)×Nat=>((.inr p.1.1:Key),V.int (p.2:Int)).1)=_;rw[this,←Y8,List.zipIdx_map_fst]
  have O9:∀{ks:List Key},ks=(b.ps.map λp=>(.inr p.1:Key))->(.inr n:Key)∉ks:=λ{ks} e z=>by
   rw[e] at z;obtain⟨p,hp,ep⟩:=Yi.mp z;exact new (Yi.mpr ⟨p,hp,Jl ep⟩)
  have vp:bg (iK b.ps) (.inr n)=none:=oo (O9 ZcI);have vs':bg (eG b.ps) (.inr n)=none:=oo (O9 (by show(b.ps.map _).map _=_;rw[Y8];rfl));rw[mN _ vp,kl] at e1;refine⟨_,rfl,_,rfl,l.h,C,dx,_,_,rfl,b1 _ _ h1 bG,hc.cls,hc.qj,rfl,_,rfl,l.sd,_,.inr n,rfl,b1 _ _ ba.cJ xV,rfl,by omega,λH2 b2 e2=>?_⟩;rw[mN _ vs'] at e2;have k2:∀{a:Addr} {o:HO},H a=some o->a≠l.pl->a≠l.sd->H2 a=some o:=λ{a o} e n1 n2=>b2 _ _ (b1 _ _ e n1) n2;have o2:Out l.own H H2:=λa u e na=>k2 e (λz=>na (by rw[z];simp[BL.own])) (λz=>na (by rw[z];simp[BL.own]));have s2:H2 l.sd=some (.dK (eG (b.ps++[(n,s)]))):=by rw[Zag];exact e2
  have p2:H2 l.pl=some (.dK (iK (b.ps++[(n,s)]))):=by rw[Zah];exact b2 _ _ e1 (λz=>xV z.symm)
  have h2:=k2 h1 bG lq;have tp:∀{a:Addr} {us:List V} {H3:Hp},Out l.fp H H3->H a=some (.tup us)->H3 a=some (.tup us):=λo e=>o _ _ e (ba.tup e);have mk:∀(l':BL) (H3:Hp),l'={l with d7:=l'.d7}->Out l.fp H H3->dW l.fp l'.fp H->(∀a u,H2 a=some u->a∈l.own->H3 a=some u)->qX H3 CJ xs.length l' {b with ps:=b.ps++[(n,s)]}->Q .aA H3:=λl' H3 el o g k rk=>by
   refine q l' H3 ⟨by rw[el],o,g⟩ ?_;refine ba.build (l':=l') (b':={b with ps:=b.ps++[(n,s)]}) (by rw[el]) (by rw[el]) (by rw[el]) (by rw[el]) (by rw[el]) (by rw[el]) (by rw[el]) (by rw[el]) (by rw[el]) o g ⟨dx,?_⟩ (k _ _ s2 (by simp[BL.own])) (k _ _ p2 (by simp[BL.own])) ?_ ?_ ?_ ?_ ?_ ?_ ?_ ?_ rk
   ·have:l'.rk=l.rk:=by rw[el]
    rw[this];exact k _ _ h2 (by simp[BL.own])
   ·have:l'.bJ=l.bJ:=by rw[el]
    rw[this];exact k _ _ (k2 ba.facts (λz=>pP z.symm) (λz=>rV z.symm)) (by simp[BL.own])
   ·have:l'.bJ=l.bJ:=by rw[el]
    rw[this];have aux:∀{as:List Addr} {fs:List (Nat×Fc)},Paired (λa (p:Nat×Fc)=>H a=some (.tup ((dN b.ps p.1 p.2).map kV))) as fs->(∀p∈fs,gf xs.length b.ps.length p.2)->Paired (λa (p:Nat×Fc)=>H3 a=some (.tup ((dN (b.ps++[(n,s)]) p.1 p.2).map kV))) as fs:=by
     intro as fs pr;induction pr with
     |nil=>intro _;exact .nil
     |cons f _ ih=>intro m;exact .cons (by rw[Zae (m _ Yh)];exact tp o f) (ih λp hp=>m p (Yv _ hp))
    exact aux ba.fact q0
   ·show H3 l.kn=some (.dT (eW (b.ps++[(n,s)]) b.fs));rw[Zaf q0];exact k _ _ (k2 ba.known (λz=>rY z.symm) (λz=>rW z.symm)) (by simp[BL.own])
   ·show H3 l.pr=some (.dT (bK (b.ps++[(n,s)]) b.fs));rw[Mp q0];exact k _ _ (k2 ba.parents (λz=>rZ z.symm) (λz=>rX z.symm)) (by simp[BL.own])
   ·have:l'.gP=l.gP:=by rw[el]
    rw[this];exact k _ _ (k2 ba.done (λz=>uS z.symm) (λz=>uQ z.symm)) (by simp[BL.own])
   ·have:l'.gP=l.gP:=by rw[el]
    rw[this];exact L2.Paired.bp ba.jk λ_ _ e=>e.out o λa us e=>ba.tup e
   ·have:l'.jC=l.jC:=by rw[el]
    rw[this];exact k _ _ (k2 ba.gv (λz=>uT z.symm) (λz=>uR z.symm)) (by simp[BL.own])
   ·have:l'.jC=l.jC:=by rw[el]
    rw[this];exact L2.Paired.bp ba.kB λ_ _ e=>e.out o λa us e=>ba.tup e
  cases hj:ba.oY with
  |no j1 j2=>
   rw[j1] at h2;refine⟨_,rfl,l.h,C,dx,_,_,rfl,h2,hc.cls,hc.gT,rfl,rfl,_,rfl,cR (a_ ?_)⟩;exact mk l H2 rfl (ql o2) (dW.refl _ _) (λ_ _ e _=>e) (.no j1 j2)
  |at_ jl st j1 j2 ja me len eX=>
   have ke:=h2;rw[j1] at ke;have A_:=ja.gG o2 eX (ba.Fd ja me) λa us e z=>ba.tup e (Ym _ z);obtain⟨dj,ej⟩:=A_.obj;have wf:=me.wf;have ml:=wf.Nt;have xT:=wf.zP;have n8:xs.length<=8:=ok.gd.2.2.2.2;refine⟨_,rfl,l.h,C,dx,_,_,rfl,ke,hc.cls,hc.gT,rfl,rfl,_,rfl,dk ?_⟩;refine⟨_,rfl,l.h,C,dx,_,_,rfl,ke,hc.cls,hc.gT,rfl,jl.J,dj,_,rfl,ej,rfl,jl,st,xs.length,rfl,A_,by omega,by omega,by omega,by omega,wf.ll,λz=>Wc _ (wf.lm _ z),λz=>Wc _ (wf.lf _ z),λgg H3 k1 o3 gr Hx=>?_⟩;refine mk {l with d7:=gg.fp} H3 rfl (Oo j2 o2 o3) (ND j2 o2 gr) (λa u e m=>o3 _ _ e (eX a m)) ?_;refine .at_ gg _ (by rw[k1];exact j1) rfl Hx (me.more (by have:=ok.gd.2.2.2.1;omega)) ?_ λa m z=>?_;·rw[ic,len,Yl];rfl
   ·rcases gr a z with y|y;·exact eX a m y
    ·have:=ba.there (a:=a) (Ym _ m);have:H2 a≠none:=by
      have m':a∈l.own:=m;unfold BL.own at m';simp only[Yp,Y4,or_false] at m';rcases m' with rfl|rfl|rfl|rfl|rfl|rfl|rfl|rfl;·rw[h2];exact λz=>nomatch z
      ·rw[s2];exact λz=>nomatch z
      ·rw[p2];exact λz=>nomatch z
      ·rw[k2 ba.facts (λz=>pP z.symm) (λz=>rV z.symm)];exact λz=>nomatch z
      ·rw[k2 ba.known (λz=>rY z.symm) (λz=>rW z.symm)];exact λz=>nomatch z
      ·rw[k2 ba.parents (λz=>rZ z.symm) (λz=>rX z.symm)];exact λz=>nomatch z
      ·rw[k2 ba.done (λz=>uS z.symm) (λz=>uQ z.symm)];exact λz=>nomatch z
      ·rw[k2 ba.gv (λz=>uT z.symm) (λz=>uR z.symm)];exact λz=>nomatch z
     exact this y
 |fin z c hR fg nz nk np lv lim=>
  refine⟨_,rfl,r,_,rfl,aE.of hR,_,rfl,cR ?_⟩;refine⟨_,rfl,l.h,dx,_,rfl,h1,rfl,_,rfl,l,b,xs,ys,r,z,c,rfl,ba,hR,nz,nk,np,by omega,λH1 o1 f1 k1 p1=>?_⟩;have k2:∀{a:Addr} {o:HO},H a=some o->a≠l.fc->a≠l.kn->a≠l.pr->H1 a=some o:=λ{a o} e n1 n2 n3=>o1 _ _ e (by simp[n1,n2,n3]);have o2:Out l.own H H1:=λa u e na=>k2 e (λz=>na (by rw[z];simp[BL.own])) (λz=>na (by rw[z];simp[BL.own])) (λz=>na (by rw[z];simp[BL.own]));have h2:=k2 h1 ia lC nW;have QY:=nd;simp only[Y0,Yp,Y4,or_false,not_or] at QY;obtain⟨_,_,_,⟨xW,xX,uU,jj⟩,⟨Ba,xY,xZ⟩,⟨x6,x8⟩,_⟩:=QY;have s2:=k2 ba.cJ rV rW rX;have p2:=k2 ba.places pP rY rZ;have d2:=k2 ba.done (λz=>uU z.symm) (λz=>xY z.symm) (λz=>x6 z.symm);have u2:=k2 ba.gv (λz=>jj z.symm) (λz=>xZ z.symm) (λz=>x8 z.symm);have tp:∀{a:Addr} {us:List V} {H3:Hp},Out l.fp H H3->H a=some (.tup us)->H3 a=some (.tup us):=λo e=>o _ _ e (ba.tup e);have mk:∀(jf:List Addr) (H3:Hp),Out l.fp H H3->dW l.fp ({l with bJ:=l.bJ++[r],d7:=jf}:BL).fp H->(∀a u,H1 a=some u->a∈l.own->H3 a=some u)->qX H3 CJ xs.length {l with bJ:=l.bJ++[r],d7:=jf} {b with fs:=b.fs++[(z,c)]}->Q .aA H3:=λjf H3 o g k rk=>by
   refine q {l with bJ:=l.bJ++[r],d7:=jf} H3 ⟨rfl,o,g⟩ ?_;refine ba.build (l':={l with bJ:=l.bJ++[r],d7:=jf}) (b':={b with fs:=b.fs++[(z,c)]}) rfl rfl rfl rfl rfl rfl rfl rfl rfl o g ⟨dx,k _ _ h2 (by simp[BL.own])⟩ (k _ _ s2 (by simp[BL.own])) (k _ _ p2 (by simp[BL.own])) (k _ _ f1 (by simp[BL.own])) ?_ (k _ _ k1 (by simp[BL.own])) (k _ _ p1 (by simp[BL.own])) (k _ _ d2 (by simp[BL.own])) (L2.Paired.bp ba.jk λ_ _ e=>e.out o λa us e=>ba.tup e) (k _ _ u2 (by simp[BL.own])) (L2.Paired.bp ba.kB λ_ _ e=>e.out o λa us e=>ba.tup e) rk;exact mD (F:=λa (p:Nat×Fc)=>H3 a=some (.tup ((dN b.ps p.1 p.2).map kV))) (tp o hR) (L2.Paired.bp ba.fact λ_ _ e=>tp o e)
  cases hj:ba.oY with
  |no j1 j2=>
   rw[j1] at h2;refine⟨_,rfl,l.h,C,dx,_,_,rfl,h2,hc.cls,hc.gT,rfl,rfl,_,rfl,cR (a_ ?_)⟩;exact mk l.d7 H1 (ql o2) (dW.refl _ _) (λ_ _ e _=>e) (.no j1 j2)
  |at_ jl st j1 j2 ja me len eX=>
   have ke:=h2;rw[j1] at ke;have A_:=ja.gG o2 eX (ba.Fd ja me) λa us e z=>ba.tup e (Ym _ z);have la2:fL H1 CL l.L xs ys:=ba.land H1 (ql o2);refine⟨_,rfl,l.h,C,dx,_,_,rfl,ke,hc.cls,hc.gT,rfl,rfl,_,rfl,dk ?_⟩;refine⟨_,rfl,l.h,C,dx,_,_,rfl,ke,hc.cls,hc.gT,rfl,_,rfl,l.h,C,dx,_,_,rfl,ke,hc.cls,hc.v_,rfl,_,rfl,l.h,C,dx,_,_,rfl,ke,hc.cls,hc.vJ,rfl,_,rfl,jl,st,l.L,l.pl,r,xs,ys,b.ps,b.F,z,c,rfl,A_,me,la2,ok.gd,p2,ok.nm,len,by have:=ok.m;omega,tp (ql o2) hR,fg,?_,λv gg aR H3 e1 sub o3 Hx me3 ZdL=>?_⟩
   ·obtain⟨f0,i0,s0⟩:=lv;exact⟨f0,(me.iff f0).mpr ⟨by rw[len];exact i0,λc' m'=>s0 c' (Ym _ m')⟩,s0 c (Yj _ Yh)⟩
   have gr:dW jl.fp gg.fp H1:=λa z=>.inl (sub a z);refine mk gg.fp H3 (Oo j2 o2 o3) (ND j2 o2 gr) (λa u e m=>o3 _ _ e (eX a m)) ?_;refine .at_ gg aR (by rw[e1];exact j1) rfl Hx ?_ (by rw[ZdL];exact len) λa m z=>eX a m (sub a z);show ee xs.length aR ((b.fs++[(z,c)]).map (·.2));rw[Yq];exact me3
end
section
variable {K:ag}{mg:aN}{cS:Addr}
theorem Le{l l':BL}{H:Hp}(e1:l'.own=l.own)(e2:l'.d7=[]):dW l.fp l'.fp H:=λa z=>.inl (by
 unfold BL.fp at z;rw[e1,e2,We] at z;exact Ym _ z)
theorem va:aS ["self","row","number","kind","one","other"] uf (aJ BK):=.bc
theorem UM(F:aL K "take_out" "Hearth.take_out" BK f fd)(hc:fH K C)(eP:mg "PARENTS"=some (.ref cS))(qP:∀H,aE K H cS (fq.map V.str))(sN:HasFn P w K mg base 1 "is_person" iG (DI K))(mH:HasFn P w K mg base 1 "fact_key" ud zQ):aG P w K mg base aK 2 f fd uf (Ks C CL CJ):=by
 refine F.o va @λbh A outer vs Q E s H hr h=>?_;obtain⟨l,b,b',xs,ys,r,rfl,ba,ok,mv,q⟩:=h;refine⟨_,(aq (aV (di (aY sN hr (aa (pv 1) ai))) fG (aq (oP (pv 1) (mY (K:=K) (n:=4) rfl rfl (c8 (cE 2 va.nd) (c8 (cE 3 va.nd) (c8 (cE 4 va.nd) (c8 (cE 5 va.nd) mU)))))) (aq (X5 (pF K 0) (pv 2)) (aq (KW (bT hr) (pF K 0) (aY mH hr (aa (pv 3) (aa (pv 4) (aa (pv 5) ai))))) (aw (aV (fP (kU (K:=K) rfl) (pv 3) (df (v:=.ref cS) rfl eP rfl) (by with_unfolding_all rfl)) (aw (KW (bT hr) (pF K 0) (e_ (aa (pv 3) (aa (pv 4) ai))))) aZ)))))) (aw (fR (K:=K) rfl (pv 0) kA))),?_⟩;obtain⟨dx,h1⟩:=ba.obj;have sz:(10000:Nat)<=sizeLine:=by rw[sizeLine_eq];omega
 have nd:=ba.nd;unfold BL.own at nd;simp only[Y0,Yp,Y4,or_false,not_or] at nd;obtain⟨⟨lq,bG,ia,lC,nW,mj,nX⟩,⟨xV,rV,rW,rX,uQ,uR⟩,⟨pP,rY,rZ,uS,uT⟩,⟨xW,xX,uU,jj⟩,⟨Ba,xY,xZ⟩,⟨x6,x8⟩,_⟩:=nd;cases mv with
 |ue z c hR m=>
  have al:(b.fs.map (·.1)).length=l.bJ.length:=by rw[Ya];exact(de ba.fact).symm
  obtain⟨fa,Bb,_⟩:=EB (H:=H) (ps:=b.ps) ba.fact ok.zs m;have ZcJ:(eW b.ps b.fs).map (·.1)=b.keys:=by unfold eW BS.keys;rw[Y8];rfl
  refine⟨_,rfl,r,_,rfl,aE.of hR,_,rfl,cR ?_⟩;refine⟨_,rfl,r,_,rfl,aE.of hR,rfl,_,_,rfl,bI ⟨_,_,rfl,bI ⟨_,_,rfl,bI ⟨_,_,rfl,bI ⟨rfl,?_⟩⟩⟩⟩⟩;refine⟨_,rfl,l.h,C,dx,_,_,rfl,h1,hc.cls,hc.oN,rfl,_,rfl,l.fc,_,.inl (z:Int),rfl,ba.facts,rfl,by rw[Bb];rfl,λH1 b1 e1=>?_⟩;rw[yx z al,←mO] at e1;refine⟨_,rfl,l.h,C,dx,_,_,rfl,b1 _ _ h1 ia,hc.cls,hc.y9,rfl,_,rfl,_,rfl,_,rfl,c.k,av b.ps c.one,cG b.ps c,rfl,λe=>Mt e,λp H2 xP g2 dt=>?_⟩;refine⟨l.kn,p,_,gO b.ps c,rfl,g2 _ _ (b1 _ _ ba.known (λz=>xW z.symm)),rfl,dt,(yQ _ _).mpr (by rw[ZcJ];exact Yi.mpr ⟨_,m,rfl⟩),λH3 b3 e3=>?_⟩;rw[YV ok.zs ok.ky m] at e3;have k3:∀{a:Addr} {o:HO},H a=some o->a≠l.fc->a≠l.kn->H3 a=some o:=λ{a o} e n1 n2=>b3 _ _ (g2 _ _ (b1 _ _ e n1)) n2;have ef3:=b3 _ _ (g2 _ _ e1) xW;have xU:=k3 ba.parents (λz=>xX z.symm) (λz=>Ba z.symm);have last:∀H5,(∀{a:Addr} {o:HO},H3 a=some o->a≠l.pr->H5 a=some o)->H5 l.pr=some (.dT (bK b.ps (cL z b.fs)))->∀H6,aC l.h H5 H6->H6 l.h=some (.ins C dx (HF l.L l.sd l.pl l.fc l.kn l.pr (b.co:Int) l.dn l.un .aA))->Q .aA H6:=λH5 k5 e5 H6 b6 e6=>by
   have k6:∀{a:Addr} {o:HO},H a=some o->a≠l.fc->a≠l.kn->a≠l.pr->a≠l.h->H6 a=some o:=λ{a o} e n1 n2 n3 n4=>b6 _ _ (k5 (k3 e n1 n2) n3) n4;have o6:Out l.own H H6:=λa u e na=>k6 e (λz=>na (by rw[z];simp[BL.own])) (λz=>na (by rw[z];simp[BL.own])) (λz=>na (by rw[z];simp[BL.own])) (λz=>na (by rw[z];simp[BL.own]));have of:=ql o6;have tp:∀{a:Addr} {us:List V},H a=some (.tup us)->H6 a=some (.tup us):=λe=>of _ _ e (ba.tup e);refine q {l with rk:=.aA,d7:=[],bJ:=dG (b.fs.map (·.1)) l.bJ z} H6 ⟨rfl,of,Le rfl rfl⟩ ?_;exact ba.build (l':={l with rk:=.aA,d7:=[],bJ:=dG (b.fs.map (·.1)) l.bJ z}) (b':={b with fs:=cL z b.fs}) rfl rfl rfl rfl rfl rfl rfl rfl rfl of (Le rfl rfl) ⟨dx,e6⟩ (k6 ba.cJ rV rW rX (λz=>lq z.symm)) (k6 ba.places pP rY rZ (λz=>bG z.symm)) (b6 _ _ (k5 ef3 xX) (λz=>ia z.symm)) (DE ba.fact λa p e _ _=>tp e) (b6 _ _ (k5 e3 Ba) (λz=>lC z.symm)) (b6 _ _ e5 (λz=>nW z.symm)) (k6 ba.done (λz=>uU z.symm) (λz=>xY z.symm) (λz=>x6 z.symm) (λz=>mj z.symm)) (L2.Paired.bp ba.jk λ_ _ e=>e.out of λa us e=>ba.tup e) (k6 ba.gv (λz=>jj z.symm) (λz=>xZ z.symm) (λz=>x8 z.symm) (λz=>nX z.symm)) (L2.Paired.bp ba.kB λ_ _ e=>e.out of λa us e=>ba.tup e) (.no rfl rfl)
  refine⟨_,rfl,cS,_,rfl,.inr (qP _),rfl,rfl,_,rfl,?_⟩;dsimp only;rw[if_neg Yf,show dY (kV (Sum.inr c.k)) (fq.map V.str)=bF c.k from tO c.k];refine bb (λcc=>?_) (λcc=>a_ ?_)
  ·refine⟨_,rfl,l.h,C,dx,_,_,rfl,k3 h1 ia lC,hc.cls,hc.tE,rfl,_,rfl,_,rfl,by show 2<=sizeLine;decide,λp4 H4 np4 g4 Hw=>?_⟩;refine⟨l.pr,p4,_,[.inr c.k,.inr (av b.ps c.one)],rfl,g4 _ _ xU,rfl,Hw,(yQ _ _).mpr ?_,λH5 b5 e5=>?_⟩
   ·unfold bK;rw[Y8];exact Yi.mpr ⟨(z,c),Y3.mpr ⟨m,cc⟩,rfl⟩
   rw[YW ok.zs ok.pr m cc] at e5;have k5:∀{a:Addr} {o:HO},H3 a=some o->a≠l.pr->H5 a=some o:=λ{a o} e n=>b5 _ _ (g4 _ _ e) n;refine⟨_,rfl,l.h,C,dx,_,rfl,k5 (k3 h1 ia lC) nW,hc.cls,hc.gT,by show 10<1000;decide,λH6 b6 e6=>?_⟩;exact last H5 k5 e5 H6 b6 e6
  ·have ef:bF c.k=false:=by
    cases e:bF c.k with
    |true=>exact absurd e cc
    |false=>rfl
   refine⟨_,rfl,l.h,C,dx,_,rfl,k3 h1 ia lC,hc.cls,hc.gT,by show 10<1000;decide,λH6 b6 e6=>?_⟩;exact last H3 (λe _=>e) (by rw[←WY ok.zs m ef];exact xU) H6 b6 e6
abbrev lS:List Str:=["self","way","row","coming"]
theorem SM:aS lS lS (aJ Cd):=.bc
theorem YX(F:aL K "shift" "Hearth.shift" Cd f fd)(hc:fH K C)(mQ:mg "PUT_IN"=some (.int 1 t1))(B6:cv P w K mg base 8 "put_in" C uf (Mr C CL CJ))(BM:cv P w K mg base 2 "take_out" C uf (Ks C CL CJ)):aG P w K mg base aK 9 f fd lS (Ms C CL CJ):=by
 refine F.o SM @λbh A outer vs Q E s H hr h=>?_;obtain⟨l,b,b',xs,ys,r,w',c2,rfl,ba,ok,mv,q⟩:=h;refine⟨_,(aq (aV (bP c5 (pv 1) (df (v:=.int (1)) rfl mQ ⟨_,rfl⟩)) (aw (cq (cI B6 hr (by omega) (pv 0) (aa (pv 2) ai)))) (aw (cq (cI BM hr (by omega) (pv 0) (aa (pv 2) ai))))) (aw (fR (K:=K) rfl (pv 0) (pv 3)))),?_⟩;obtain⟨dx,h1⟩:=ba.obj;have last:∀(l':BL) (H1:Hp),bV H H1 l l'->a9 H1 C CL CJ l' xs ys b'->∀(iH:Addr) (H2:Hp),H1 l'.h=some (.ins C iH (HF l'.L l'.sd l'.pl l'.fc l'.kn l'.pr (b'.co:Int) l'.dn l'.un l'.rk))->aC l'.h H1 H2->H2 l'.h=some (.ins C iH (HF l'.L l'.sd l'.pl l'.fc l'.kn l'.pr (c2:Int) l'.dn l'.un l'.rk))->Q .aA H2:=λl' H1 wt cj iH H2 e1 b2 e2=>by
  have nd:=cj.nd;unfold BL.own at nd;simp only[Y0,Yp,Y4,or_false,not_or] at nd;obtain⟨⟨lq,bG,ia,lC,nW,mj,nX⟩,_⟩:=nd;have o2:Out l'.own H1 H2:=λa u e na=>b2 _ _ e (λz=>na (by rw[z];simp[BL.own]));have of:=ql o2;have uV:=(cj.owned (l':=l') (b':={b' with co:=c2}) rfl rfl rfl rfl rfl rfl rfl rfl rfl (.inl ⟨rfl,rfl,rfl,rfl⟩) o2 ⟨iH,e2⟩ (b2 _ _ cj.cJ (λz=>lq z.symm)) (b2 _ _ cj.places (λz=>bG z.symm)) (b2 _ _ cj.facts (λz=>ia z.symm)) (L2.Paired.bp cj.fact λ_ _ e=>(λe=>of _ _ e (cj.tup e)) e) (b2 _ _ cj.known (λz=>lC z.symm)) (b2 _ _ cj.parents (λz=>nW z.symm)) (b2 _ _ cj.done (λz=>mj z.symm)) (L2.Paired.bp cj.jk λ_ _ e=>e.out of λa us e=>cj.tup e) (b2 _ _ cj.gv (λz=>nX z.symm)) (L2.Paired.bp cj.kB λ_ _ e=>e.out of λa us e=>cj.tup e)).1;exact q l' H2 (wt.trans ⟨rfl,of,dW.refl _ _⟩) uV
 have go:∀(l':BL) (H1:Hp),bV H H1 l l'->a9 H1 C CL CJ l' xs ys b'->∃iH,H1 l.h=some (.ins C iH (HF l'.L l'.sd l'.pl l'.fc l'.kn l'.pr (b'.co:Int) l'.dn l'.un l'.rk))/\∀H2,aC l.h H1 H2->H2 l.h=some (.ins C iH (HF l'.L l'.sd l'.pl l'.fc l'.kn l'.pr (c2:Int) l'.dn l'.un l'.rk))->Q .aA H2:=λl' H1 wt cj=>by
  obtain⟨iH,e1⟩:=cj.obj;have eh:=wt.h
  grind
 have w12:w'=1\/w'=-1:=by cases mv<;>first|exact .inl rfl|exact .inr rfl
 rcases w12 with rfl|rfl
 ·refine⟨_,rfl,rfl,_,rfl,dk ?_⟩;refine⟨_,rfl,l.h,dx,_,rfl,h1,rfl,_,rfl,l,b,b',xs,ys,r,rfl,ba,ok,mv,λl' H1 wt cj=>?_⟩;obtain⟨iH,e1,k⟩:=go l' H1 wt cj;exact⟨_,rfl,_,rfl,l.h,C,iH,_,rfl,e1,hc.cls,hc.oG,by show 10<1000;decide,λH2 b2 e2=>k H2 b2 e2⟩
 ·refine⟨_,rfl,rfl,_,rfl,cR ?_⟩;refine⟨_,rfl,l.h,dx,_,rfl,h1,rfl,_,rfl,l,b,b',xs,ys,r,rfl,ba,ok,mv,λl' H1 wt cj=>?_⟩;obtain⟨iH,e1,k⟩:=go l' H1 wt cj;exact⟨_,rfl,_,rfl,l.h,C,iH,_,rfl,e1,hc.cls,hc.oG,by show 10<1000;decide,λH2 b2 e2=>k H2 b2 e2⟩
theorem So:aS lS lS (aJ BR):=.bc
theorem VD(F:aL K "do_deed" "Hearth.do_deed" BR f fd)(hc:fH K C)(Cf:cv P w K mg base 9 "shift" C lS (Ms C CL CJ)):aG P w K mg base aK 10 f fd lS (yR C CL CJ):=by
 refine F.o So λs H hr h=>?_;obtain⟨l,b,b',xs,ys,r,w',c2,row,rfl,ba,ok,dl,hR,mv,q⟩:=h;refine⟨_,(aq (cq (qx (K:=K) rfl (oV plainAttrs_list PySem.F.slot_list_append PySem.F.type_list_append sT (pF K 0) (aa (e_ (aa (pv 1) (aa (pv 2) (aa (pF K 0) (aa (pv 3) ai))))) ai)))) (aq (cq (ZU (K:=K) rfl (ZaS plainAttrs_list PySem.F.slot_list_clear PySem.F.type_list_clear WE (pF K 0)))) (aw (cq (cI Cf hr (by omega) (pv 0) (aa (pv 1) (aa (pv 2) (aa (pv 3) ai)))))))),?_⟩;obtain⟨dx,h1⟩:=ba.obj;have sz:(10000:Nat)<=sizeLine:=by rw[sizeLine_eq];omega
 have nd:=ba.nd;unfold BL.own at nd;simp only[Y0,Yp,Y4,or_false,not_or] at nd;obtain⟨⟨lq,bG,ia,lC,nW,mj,nX⟩,⟨xV,rV,rW,rX,uQ,uR⟩,⟨pP,rY,rZ,uS,uT⟩,⟨xW,xX,uU,jj⟩,⟨Ba,xY,xZ⟩,⟨x6,x8⟩,QZ,_⟩:=nd;have dal:=de ba.jk;refine⟨_,rfl,l.h,C,dx,_,_,rfl,h1,hc.cls,hc.Nz,rfl,.inl ⟨rfl,_,aj.of ba.done⟩,?_⟩;refine⟨_,rfl,_,rfl,_,rfl,l.h,C,dx,_,_,rfl,h1,hc.cls,hc.oG,rfl,_,rfl,by show 4<=sizeLine;omega,λp H1 np g1 e1=>?_⟩;refine⟨l.dn,_,_,rfl,rfl,g1 _ _ ba.done,by rw[Ya];omega,λH2 b2 e2=>?_⟩;have a1:=b2 _ _ (g1 _ _ h1) mj;have a7:=b2 _ _ (g1 _ _ ba.gv) (λz=>QZ z.symm);refine⟨_,rfl,l.h,C,dx,_,_,rfl,a1,hc.cls,hc.K9,rfl,.inl ⟨rfl,_,aj.of a7⟩,l.un,_,rfl,rfl,a7,λH3 b3 e3=>?_⟩;have k3:∀{a:Addr} {o:HO},H a=some o->a≠l.dn->a≠l.un->H3 a=some o:=λ{a o} e n1 n2=>b3 _ _ (b2 _ _ (g1 _ _ e) n1) n2;have o3:Out l.own H H3:=λa u e na=>k3 e (λz=>na (by rw[z];simp[BL.own])) (λz=>na (by rw[z];simp[BL.own]));have of:=ql o3;have tp:∀{a:Addr} {us:List V},H a=some (.tup us)->H3 a=some (.tup us):=λe=>of _ _ e (ba.tup e);have pu:p≠l.un:=λz=>by rw[z,ba.gv] at np;cases np
 have ed:H3 l.dn=some (.lst ((l.gP++[p]).map V.ref)):=by rw[Yq];exact b3 _ _ e2 QZ
 have kg:=(ba.owned (l':={l with gP:=l.gP++[p],jC:=[]}) (b':={b with dn:=b.dn++[⟨w',row,b.co,c2⟩],un:=[]}) rfl rfl rfl rfl rfl rfl rfl rfl rfl (.inl ⟨rfl,rfl,rfl,rfl⟩) o3 ⟨dx,k3 h1 mj nX⟩ (k3 ba.cJ uQ uR) (k3 ba.places uS uT) (k3 ba.facts uU jj) (L2.Paired.bp ba.fact λ_ _ e=>tp e) (k3 ba.known xY xZ) (k3 ba.parents x6 x8) ed (mD (F:=jO H3) ⟨r,b3 _ _ (b2 _ _ e1 (λz=>by rw[z,ba.done] at np;cases np)) pu,tp hR⟩ (L2.Paired.bp ba.jk λ_ _ e=>e.out of λa us e=>ba.tup e)) e3 .nil);have h3:=k3 h1 mj nX;refine⟨_,rfl,l.h,dx,_,rfl,h3,rfl,_,rfl,_,rfl,_,rfl,{l with gP:=l.gP++[p],jC:=[]},_,_,xs,ys,r,w',c2,rfl,kg.1,⟨ok.gd,ok.nm,ok.m,ok.fl,ok.fg,ok.zs,ok.lt,ok.ky,ok.pr,ok.lv,by show(b.dn++[_]).length<=200;rw[Yl];show b.dn.length+1<=200;omega,Yw _⟩,((mv.ZcH _ _).out λus e=>tp e),λl' H4 wt Hy=>?_⟩;exact q l' H4 (bV.trans (l1:={l with gP:=l.gP++[p],jC:=[]}) ⟨rfl,of,kg.2⟩ wt) Hy
end
theorem bX.ZdM(j:bX H C n l st)(h:a∈l.bJ):∃us,H a=some (.lst us):=by
 obtain⟨p,e⟩:=vA j.free h
 grind
theorem bX.r6(j:bX H C n l st)(e:H a=some o)(nl:∀us,o≠.lst us)(nt:∀us,o≠.tup us)(na:a∉l.fp)(br:aC a H H'):bX H' C n l st:=by
 refine j.gG (fp:=[a]) (λb u eb nb=>br _ _ eb λz=>nb (by rw[z];exact Yh)) (λb hb=>?_) (λb hb z=>?_) λb us eb z=>?_;·grind
 ·rw[Yr.mp hb] at z;obtain⟨us,q⟩:=j.ZdM z
  grind
 ·grind
inductive nv(H:Hp)(C CJ dx d:Addr)(l:BL)(b:BS)(n:Nat)(J:Addr)(F:List Fc)(m:Nat)(H6:Hp):Prop
 |mk (jl:JL) (st:JS) (eJ:jl.J=J) (keep:∀a u,H a=some u->a≠l.h->a≠d->H6 a=some u) (obj:H6 l.h=some (.ins C dx (HF l.L l.sd l.pl l.fc l.kn l.pr (b.co:Int) l.dn l.un (.ref J)))) (ja:bX H6 CJ n jl st) (me:ee n st F) (len:st.hd.length=m) (new:∀a∈jl.fp,H a=none):nv H C CJ dx d l b n J F m H6
theorem nv.r6(j:nv H C CJ dx d l b n J F m H6)(hd:H d'≠none)(e:H6 d'=some o)(nl:∀us,o≠.lst us)(nt:∀us,o≠.tup us)(nh:d'≠l.h)(br:aC d' H6 H7)(kd:∀u,H d=some u->d≠d'->d≠l.h->H7 d=some u):nv H C CJ dx d' l b n J F m H7:=by
 obtain⟨jl,st,eJ,keep,obj,ja,me,len,new⟩:=j;refine⟨jl,st,eJ,λa u ea n1 n2=>?_,br _ _ obj (λz=>nh z.symm),ja.r6 e nl nt (λz=>hd (new _ z)) br,me,len,new⟩;by_cases z:a=d;·grind
 ·exact br _ _ (keep a u ea n1 z) n2
theorem Ku:∀{ks:List Nat} {as:List Addr} {i:Nat} {k:Key} {y:V},(bf ks as)[i]?=some (k,y)->∃a,as[i]?=some a/\y=.ref a
 |[],as,i,k,y,h=>by
  unfold bf at h;simp at h
 |_::_,[],i,k,y,h=>by
  unfold bf at h;simp at h
 |q::ks,a::as,0,k,y,h=>by
  injection(Yu h) with _ e2
  grind
 |q::ks,a::as,i+1,k,y,h=>by
  have e0:bf (q::ks) (a::as)=(Sum.inl (q:Int),V.ref a)::bf ks as:=rfl;rw[e0] at h;have h':(bf ks as)[i]?=some (k,y):=by simpa using h
  obtain⟨b,e1,e2⟩:=Ku h'
  grind
inductive Mu(C CL CJ:Addr)(vs:List V)(H:Hp)(Q:VK)(E:XK):Prop
 |mk (l:BL) (b:BS) (xs ys:List Int) (aI:vs=[.ref l.h]) (ba:a9 H C CL CJ l xs ys b) (ok:cM xs ys b) (q:∀(l':BL) (jl:JL) (st:JS) (H':Hp),bV H H' l l'->a9 H' C CL CJ l' xs ys b->l'.rk=.ref jl.J->l'.d7=jl.fp->bX H' CJ xs.length jl st->ee xs.length st b.F->st.hd.length=b.ps.length->(∀a∈l'.own,a∉jl.fp)->(l.rk≠.aA->H'=H/\l'=l)->Q (.ref jl.J) H')
section
variable {K:ag}{mg:aN}
theorem B7:aS ["self","name","fact"] iz (aJ Cc):=.bc
theorem YY(F:aL K "joins" "Hearth.joins" Cc f fd)(hc:fH K C)(lc:wg K CL)(EC:tZ P w K mg base 1 "Joins" CJ Ab (Md CJ))(sO:cv P w K mg base 2 "add" CJ iz (Fx CJ))(sP:HasFn P w K mg base 6 "keep_fact" qY (EA CL CJ)):aG P w K mg base aK 8 f fd iz (Mu C CL CJ):=by
 refine F.o B7 λs H hr h=>?_;obtain⟨l,b,xs,ys,rfl,ba,ok,q⟩:=h;refine⟨_,(aq (aV (bP zf (pF K 0) kA) (aq (fR (K:=K) rfl (pv 0) (Fq EC hr (by omega) rfl (aa (vN (K:=K) rfl (pF K 0) rfl) ai))) (aq (Vj (H0:=H) rfl PassesOwn.never rfl (ZV (H0:=H) rfl (pF K 0)) (cE 1 B7.nd) (aw (cq (vZ sO hr (by omega) (pF K 0))))) (aw (Vk (H0:=H) rfl PassesOwn.never rfl (ZX (H0:=H) rfl (pF K 0)) (cE 2 B7.nd) (aw (cq (aY sP hr (aa (pF K 0) (aa (pF K 0) (aa (pF K 0) (aa (pv 2) ai))))))))))) aZ) (aw (aP (pF K 0)))),?_⟩;obtain⟨dx,h1⟩:=ba.obj;have n8:xs.length<=8:=ok.gd.2.2.2.2;have n0:0<xs.length:=by have:=ok.gd.2.2.2.1;omega
 have nd:=ba.nd;unfold BL.own at nd;simp only[Y0,Yp,Y4,or_false,not_or] at nd;obtain⟨⟨lq,bG,ia,lC,nW,mj,nX⟩,⟨xV,rV,rW,rX,uQ,uR⟩,⟨pP,rY,rZ,uS,uT⟩,⟨xW,xX,uU,jj⟩,_⟩:=nd;cases hj:ba.oY with
 |at_ jl st j1 j2 ja me len eX=>
  have k9:=h1;rw[j1] at k9;refine⟨_,rfl,l.h,C,dx,_,_,rfl,k9,hc.cls,hc.gT,rfl,rfl,_,rfl,cR (a_ ?_)⟩;exact⟨_,rfl,l.h,C,dx,_,_,rfl,k9,hc.cls,hc.gT,rfl,q l jl st H (bV.of (au.refl _)) ba j1 j2 ja me len eX λ_=>⟨rfl,rfl⟩⟩
 |no j1 j2=>
  have k9:=h1;rw[j1] at k9;refine zh (λσ H6=>∃(J:Addr) (o1 o2:Option V),σ=[some (.ref l.h),o1,o2]/\nv H C CJ dx l.h l b xs.length J b.F b.ps.length H6) (λnx hn=>?_) ?_
  ·refine⟨_,rfl,l.h,C,dx,_,_,rfl,k9,hc.cls,hc.gT,rfl,rfl,_,rfl,dk ?_⟩;obtain⟨dL,dS,mo,rS,wi,im,jf,iw,AM,hL,_⟩:=ba.landAt;refine⟨_,rfl,l.h,C,dx,_,_,rfl,k9,hc.cls,hc.v_,rfl,l.L,CL,dL,_,_,rfl,hL,lc.cls,lc.tT,rfl,λx Bc Be xI nd2=>?_⟩;have xJ:upd H Bc (.own x) x=none:=by rw[aF (λz=>nd2 z.symm)];exact Be
   have Q0:au H (upd (upd H Bc (.own x)) x (.ins CJ Bc [])):=(cY xI _).trans (cY xJ _);refine⟨x,Bc,xs.length,rfl,aW,λHz H2 eJ1 em1 fr1 b2 ja1=>⟨rfl,?_⟩⟩;have f1:∀a∈Hz.fp,H a=none:=λa ha=>by
    by_cases z:a=x;·rw[z];exact Be
    ·exact Q0.free (fr1 a ha z)
   have g2:au H H2:=λa o e=>b2 _ _ (Q0 _ _ e) (cN e Be);refine⟨_,rfl,l.h,C,dx,_,rfl,g2 _ _ k9,hc.cls,hc.gT,by show 10<1000;decide,λH3 b3 e3=>?_⟩;have Q3:H3 l.h=some (.ins C dx (HF l.L l.sd l.pl l.fc l.kn l.pr (b.co:Int) l.dn l.un (.ref x))):=e3;have A9:l.h∉Hz.fp:=λz=>by have:=f1 _ z;rw[h1] at this;cases this
   have jm3:nv H C CJ dx l.h l b xs.length x [] 0 H3:=⟨Hz,_,eJ1,λa u e n1 _=>b3 _ _ (g2 _ _ e) n1,Q3,ja1.r6 (g2 _ _ k9) (λus z=>nomatch z) (λus z=>nomatch z) A9 b3,ZcG,rfl,f1⟩;have s3:H3 l.sd=some (.dK (eG b.ps)):=b3 _ _ (g2 _ _ ba.cJ) (λz=>lq z.symm);dsimp only;refine iP (λσ H6=>∃o1 o2:Option V,σ=[some (.ref l.h),o1,o2]/\nv H C CJ dx l.h l b xs.length x [] b.ps.length H6) (λBf lD=>?_) ?_
   ·refine X3 (d:=l.sd) (kvs:=eG b.ps) (H1:=H3) (λR r=>⟨_,rfl,l.h,C,dx,_,_,rfl,Q3,hc.cls,hc.qj,rfl,r⟩) s3 (λi σ H6=>∃o1 o2:Option V,σ=[some (.ref l.h),o1,o2]/\nv H C CJ dx l.sd l b xs.length x [] i H6) (λod=>⟨none,none,rfl,jm3.r6 (by rw[ba.cJ];exact λz=>nomatch z) s3 (λus z=>nomatch z) (λus z=>nomatch z) (λz=>lq z.symm) (aC.put (aC.of (au.refl _))) (λu _ _ z=>absurd rfl z)⟩) ?_ ?_
    ·rintro od i k y aB H6 N rt bk hk ⟨o1,o2,rfl,jm⟩ fz hN;obtain⟨jl,st,eJ,keep,obj,ja,me,len,new⟩:=jm;have il:i<b.ps.length:=by
      have:=(Yk.mp hk).1
      rwa [Ya] at this
     have im:=ok.m;obtain⟨dj,ej⟩:=ja.obj;have wf:=me.wf;have ml:=wf.Nt;have xT:=wf.zP;refine bI ?_;refine⟨_,rfl,l.h,C,dx,_,_,rfl,obj,hc.cls,hc.gT,rfl,jl.J,dj,_,by rw[eJ],ej,rfl,jl,st,xs.length,by rw[eJ];rfl,ja,by omega,by omega,by omega,by omega,wf.ll,λz=>Wc _ (wf.lm _ z),λz=>Wc _ (wf.lf _ z),λgg H7 k1 o7 gr ja7=>?_⟩;have i_:∀{a:Addr} {u:HO},H a=some u->a∉jl.fp:=λ{a u} e z=>by rw[new _ z] at e;cases e
     refine hN _ _ ⟨_,_,rfl,gg,_,k1.trans eJ,λa u e n1 n2=>o7 _ _ (keep a u e n1 n2) (i_ e),o7 _ _ obj (i_ h1),ja7,me.more n0,by rw[ic,len],λa z=>?_⟩ (o7 _ _ fz (i_ ba.cJ));rcases gr a z with y|y;·exact new a y
     ·cases e:H a with
      |none=>rfl
      |some u=>
       by_cases z1:a=l.h;·rw[z1,obj] at y;cases y
       ·by_cases z2:a=l.sd;·rw[z2,fz] at y;cases y
        ·rw[keep a u e z1 z2] at y;cases y
    ·rintro od aB H6 ⟨o1,o2,rfl,jm⟩ fz;rw[Ya] at jm;refine lD _ _ ⟨o1,o2,rfl,?_⟩;obtain⟨jl,st,eJ,keep,obj,ja,me,len,new⟩:=jm;have i_:l.sd∉jl.fp:=λz=>by have:=new _ z;rw[ba.cJ] at this;cases this
     refine⟨jl,st,eJ,λa u e n1 _=>?_,by rw[aF lq];exact obj,ja.r6 fz (λus z=>nomatch z) (λus z=>nomatch z) i_ (aC.put (aC.of (au.refl _))),me,len,new⟩;by_cases z:a=l.sd
     ·subst z;rw[aW];rw[ba.cJ] at e;exact e
     ·rw[aF z];exact keep a u e n1 z
   ·rintro σ H6 ⟨o1,o2,rfl,jm⟩;obtain⟨jl0,Zfg,eJ0,ZcK,ZdN,ja0,me0,len0,Zfh⟩:=id jm;have f6:H6 l.fc=some (.dK (bf (b.fs.map (·.1)) l.bJ)):=ZcK _ _ ba.facts (λz=>ia z.symm) (λz=>ia z.symm);have al:=de ba.fact;refine X4 (d:=l.fc) (kvs:=bf (b.fs.map (·.1)) l.bJ) (H1:=H6) (λR r=>⟨_,rfl,l.h,C,dx,_,_,rfl,ZdN,hc.cls,hc.oN,rfl,r⟩) f6 (λi σ H6=>∃o1 o2:Option V,σ=[some (.ref l.h),o1,o2]/\nv H C CJ dx l.fc l b xs.length x (b.F.take i) b.ps.length H6) (λod=>⟨o1,o2,rfl,jm.r6 (by rw[ba.facts];exact λz=>nomatch z) f6 (λus z=>nomatch z) (λus z=>nomatch z) (λz=>ia z.symm) (aC.put (aC.of (au.refl _))) (λu _ _ z=>absurd rfl z)⟩) ?_ ?_
    ·rintro od i k y aB H7 N rt bk hk ⟨o1,o2,rfl,jm⟩ fz hN;obtain⟨fa,efa,rfl⟩:=Ku hk;obtain⟨⟨z,c⟩,Q4,dv⟩:=jI ba.fact efa;have mzc:=Ys Q4;obtain⟨jl,st,eJ,keep,obj,ja,me,len,new⟩:=jm;have i_:∀{a:Addr} {u:HO},H a=some u->a∉jl.fp:=λ{a u} e z=>by rw[new _ z] at e;cases e
     have of:Out l.fp H H7:=λa u e n=>keep a u e (λz=>n (by rw[z];simp[BL.fp,BL.own])) (λz=>n (by rw[z];simp[BL.fp,BL.own]));have fg:=ok.fg _ mzc;have im:=ok.m;have ec:b.F[i]?=some c:=by unfold BS.F;rw[Yg,Q4];rfl
     have tk:b.F.take (i+1)=b.F.take i++[c]:=by rw[Y6,ec];rfl
     refine bI ?_;refine⟨_,rfl,l.h,C,dx,_,_,rfl,obj,hc.cls,hc.gT,rfl,_,rfl,l.h,C,dx,_,_,rfl,obj,hc.cls,hc.v_,rfl,_,rfl,l.h,C,dx,_,_,rfl,obj,hc.cls,hc.vJ,rfl,_,rfl,jl,st,l.L,l.pl,fa,xs,ys,b.ps,b.F.take i,z,c,by rw[eJ];rfl,ja,me,ba.land H7 of,ok.gd,keep _ _ ba.places (λz=>bG z.symm) pP,ok.nm,len,by omega,of _ _ dv (ba.tup dv),fg,?_,λv gg aR H8 e1 sub o8 ja8 me8 ZdO=>?_⟩
     ·obtain⟨f0,i0,s0⟩:=ok.lv;exact⟨f0,(me.iff f0).mpr ⟨by rw[len];exact i0,λc' m'=>s0 c' (List.mem_of_mem_take m')⟩,s0 c (Ys ec)⟩
     ·refine hN _ _ ⟨_,_,rfl,gg,aR,e1.trans eJ,λa u e n1 n2=>o8 _ _ (keep a u e n1 n2) (i_ e),o8 _ _ obj (i_ h1),ja8,by rw[tk];exact me8,ZdO.trans len,λa z=>new a (sub a z)⟩ (o8 _ _ fz (i_ ba.facts))
    ·rintro od aB H7 ⟨o1,o2,rfl,jm⟩ fz;have dl:(bf (b.fs.map (·.1)) l.bJ).length=b.F.length:=by
      unfold bf BS.F;rw[Ya,Jb,Ya,Ya];omega
     rw[dl,Wq] at jm;refine hn _ _ ⟨x,o1,o2,rfl,?_⟩;obtain⟨jl,st,eJ,keep,obj,ja,me,len,new⟩:=jm;have i_:l.fc∉jl.fp:=λz=>by have:=new _ z;rw[ba.facts] at this;cases this
     refine⟨jl,st,eJ,λa u e n1 _=>?_,by rw[aF ia];exact obj,ja.r6 fz (λus z=>nomatch z) (λus z=>nomatch z) i_ (aC.put (aC.of (au.refl _))),me,len,new⟩;by_cases z:a=l.fc
     ·subst z;rw[aW];rw[ba.facts] at e;exact e
     ·rw[aF z];exact keep a u e n1 z
  ·rintro σ H6 ⟨J,o1,o2,rfl,jm⟩;obtain⟨jl,st,eJ,keep,obj,ja,me,len,new⟩:=jm;refine⟨_,rfl,l.h,C,dx,_,_,rfl,obj,hc.cls,hc.gT,rfl,?_⟩;have k6:∀{a:Addr} {u:HO},H a=some u->a≠l.h->H6 a=some u:=λ{a u} e n=>keep a u e n n;have of:Out l.fp H H6:=λa u e n=>k6 e (λz=>n (by rw[z];simp[BL.fp,BL.own]));have tp:∀{a:Addr} {us:List V},H a=some (.tup us)->H6 a=some (.tup us):=λe=>of _ _ e (ba.tup e);have gr:dW l.fp ({l with rk:=.ref jl.J,d7:=jl.fp}:BL).fp H:=λa z=>by
    rcases Yx.mp (show a∈l.own++jl.fp from z) with y|y;·exact .inl (Ym _ y)
    ·exact .inr (new a y)
   have eX:∀a∈l.own,a∉jl.fp:=λa m z=>ba.there (Ym _ m) (new a z);subst eJ;refine q {l with rk:=.ref jl.J,d7:=jl.fp} jl st H6 ⟨rfl,of,gr⟩ ?_ rfl rfl ja me len eX λz=>absurd j1 z;exact ba.build (l':={l with rk:=.ref jl.J,d7:=jl.fp}) (b':=b) rfl rfl rfl rfl rfl rfl rfl rfl rfl of gr ⟨dx,obj⟩ (k6 ba.cJ (λz=>lq z.symm)) (k6 ba.places (λz=>bG z.symm)) (k6 ba.facts (λz=>ia z.symm)) (L2.Paired.bp ba.fact λ_ _ e=>tp e) (k6 ba.known (λz=>lC z.symm)) (k6 ba.parents (λz=>nW z.symm)) (k6 ba.done (λz=>mj z.symm)) (L2.Paired.bp ba.jk λ_ _ e=>e.out of λa us e=>ba.tup e) (k6 ba.gv (λz=>nX z.symm)) (L2.Paired.bp ba.kB λ_ _ e=>e.out of λa us e=>ba.tup e) (.at_ jl st rfl rfl ja me len eX)
end
def fF(z:Str)(c:Nat):Bool:=!(Builtin.Str.occurrences z ⟨#[c]⟩ 0 z.length 1).isEmpty
abbrev mR:Str:="abcdefghijklmnopqrstuvwxyz"
abbrev kC:Str:="abcdefghijklmnopqrstuvwxyz0123456789"
def qK(z:Str):Bool:=match z.cps.toList with
 |[]=>false
 |c::r=>decide (z.length<=12)&&(fF mR c&&(c::r).all (fF kC))
theorem ZdP(v:Str):v.cps.toList.length=v.length:=by simp[Str.length]
theorem Zaj{z:Str}(h:z.cps.toList=[]):z="":=by
 cases z with|mk a=>cases a with|mk l=>cases h;rfl
theorem YZ(h:z.cps.toList=[]):qK z=false:=by unfold qK;rw[h]
theorem Kv(h:z.cps.toList=c::r):qK z=(decide (z.length<=12)&&(fF mR c&&(c::r).all (fF kC))):=by unfold qK;rw[h]
def Lf:Sp:=λvs H Q _=>∃z:Str,vs=[.str z]/\z.length<=1000/\∀H',au H H'->Q (.bl (qK z)) H'
section
variable {K:ag}{mg:aN}
theorem VE:aS ["text"] ["text"] (aJ DT):=.bc
theorem VF(F:aL K "is_name" "is_name" DT f fd){t1 t2 t3:Tok}(Cg:mg "LONGEST_NAME"=some (.int 12 t1))(BJ:mg "LETTERS_OF_NAMES"=some (.str "abcdefghijklmnopqrstuvwxyz" t2))(BW:mg "SIGNS_OF_NAMES"=some (.str "abcdefghijklmnopqrstuvwxyz0123456789" t3))(bl:Bl mg):
  aG P w K mg base aK 1 f fd ["text"] Lf:=by
 refine F.o VE λs H hr h=>?_;obtain⟨z,rfl,lz,q⟩:=h;refine⟨_,(aq (aV (PW.pt (pw_or (bP c5 (pv 0) bR) (pw_or (bP Fl (gU (TU) rfl bl.zL zk (aa (pv 0) ai)) (df (v:=.int (12)) rfl Cg ⟨_,rfl⟩)) (pw_or1 (fP TN (a8 vV (pv 0) aO) (df (v:=.str "abcdefghijklmnopqrstuvwxyz") rfl BJ ⟨_,rfl⟩) (by with_unfolding_all rfl)))))) (aw (aP fh)) aZ) (aw (aP (gU (OR (K:=K) rfl rfl) rfl bl.N8 M3 (aa (ku (x:="sign") (fr:=[]) (cl:=[]) rfl (.gM trivial trivial) (Zbt (pv 0)) (λ_ _ _ _=>mV) (λ_ _ _ _=>(yU VT (pv 0) (df (v:=.str "abcdefghijklmnopqrstuvwxyz0123456789") rfl BW ⟨_,rfl⟩) (by with_unfolding_all rfl)))) ai))))),?_⟩;have sz:(10000:Nat)<=sizeLine:=by rw[sizeLine_eq];omega
 cases ez:z.cps.toList with
 |nil=>
  have e:=Zaj ez;rw[YZ ez] at q;refine⟨_,rfl,rfl,_,rfl,bb (λ_=>?_) (λc=>absurd (decide_eq_true (by rw[e])) c)⟩;exact q H (au.refl H)
 |cons c r=>
  have zl:=ZdP z;rw[ez,Wb] at zl;rw[Kv ez] at q;refine⟨_,rfl,rfl,_,rfl,bb (λcc=>?_) (λ_=>?_)⟩
  ·have e:z="":=V.str.inj (of_decide_eq_true cc);have e0:(Str.ofString "").cps.toList=[]:=by decide+kernel
   rw[e,e0] at ez;cases ez
  refine⟨_,rfl,z,rfl,by omega,_,_,rfl,rfl,_,rfl,bb (λcc=>?_) (λcc=>?_)⟩
  ·have Q5:(12:Int)<(z.length:Int):=of_decide_eq_true cc;rw[decide_eq_false (by omega:¬z.length<=12)] at q;exact q H (au.refl H)
  have Bg:z.length<=12:=by
   grind
  rw[decide_eq_true Bg,J8] at q;refine⟨_,rfl,_,_,_,rfl,rfl,by omega,bY (j:=0) (by rw[ez];rfl),_,_,rfl,rfl,_,rfl,bb (λcc=>?_) (λcc=>a_ ?_)⟩
  ·have Q5:fF mR c=false:=by
    have z:(!fF mR c)=true:=cc;cases e:fF mR c;·rfl
    ·rw[e] at z;cases z
   rw[Q5,Bool.false_and] at q;exact q H (au.refl H)
  have cl:fF mR c=true:=by
   cases e:fF mR c;·exact absurd (show(!fF mR c)=true by rw[e];rfl) cc
   ·rfl
  rw[cl,J8,←ez] at q;refine⟨_,rfl,z,rfl,λD hD=>WG (by omega) hD (λc=>V.bl (fF kC c)) (λi c hi H1 g1 Kt k=>?_) λH1 g1 h1=>?_⟩;·exact⟨_,rfl,_,_,rfl,rfl,k H1 (au.refl _)⟩
  ·refine⟨D,z.cps.toList.map (fF kC),rfl,aj.of (by rw[h1,Y8];rfl),?_⟩;rw[G0];exact q H1 g1
end
theorem gf.more(h:gf n m c)(l:m<=m'):gf n m' c:=⟨by have:=h.one;omega,λns=>by obtain⟨⟨a,b⟩,d⟩:=h.iJ ns;exact⟨⟨a,by omega⟩,d⟩⟩
theorem jS.more(h:jS xs ys m c)(l:m<=m'):jS xs ys m' c:=⟨h.ok.more l,h.kind,h.ZdJ⟩
theorem ZbT{f g:Nat->Int}(ok:gf n m c)(e:∀i,i<m->g i=f i)(s:g_ f c):g_ g c:=⟨λh=>by rw[e _ ok.one];exact s.1 h,λh=>by rw[e _ ok.one,e _ (ok.iJ h).1.2];exact s.2 h⟩
section
variable {xs ys:List Int}{b:BS}
theorem cM.ZdQ(ok:cM xs ys b)(new:n∉b.ps.map (·.1))(lim:b.ps.length<64)(hc:b.co<=co)(dl:dn.length<=200)(ul:un.length<=200):cM xs ys {b with ps:=b.ps++[(n,s)],co:=co,dn:=dn,un:=un}:=by
 have q0:=λp hp=>(ok.fg p hp).ok;have len:(b.ps++[(n,s)]).length=b.ps.length+1:=by rw[Yl];rfl
 refine⟨ok.gd,?_,by show(b.ps++[(n,s)]).length<=64;omega,ok.fl,λp hp=>?_,ok.zs,λp hp=>Y2 (ok.lt p hp) hc,?_,?_,?_,dl,ul⟩
 ·show((b.ps++[(n,s)]).map (·.1)).Nodup;rw[Yq];refine Jc.mpr ⟨ok.nm,by simp,λu hu v hv z=>?_⟩
  grind
 ·show jS xs ys (b.ps++[(n,s)]).length p.2;rw[len];exact(ok.fg p hp).more (J1 _)
 ·show(b.fs.map λp=>gO (b.ps++[(n,s)]) p.2).Nodup;rw[(Wt λp hp=>by rw[Mo (q0 p hp)])];exact ok.ky
 ·show((bK (b.ps++[(n,s)]) b.fs).map (·.1)).Nodup;rw[Mp q0];exact ok.pr
 ·obtain⟨f,i0,s0⟩:=ok.lv;refine⟨λi=>if i<b.ps.length then f i else 0,λi hi=>?_,λc m=>?_⟩
  ·show 0<=(if i<b.ps.length then f i else 0)/\(if i<b.ps.length then f i else 0)<(xs.length:Int);by_cases h:i<b.ps.length;·rw[if_pos h];exact i0 i h
   ·rw[if_neg h];have:=ok.gd.2.2.2.1
    grind
  ·obtain⟨p,hp,rfl⟩:=Yi.mp m;exact ZbT (q0 p hp) (λi hi=>if_pos hi) (s0 _ m)
theorem cM.F_(ok:cM xs ys b)(fg:jS xs ys b.ps.length c)(nz:z∉b.fs.map (·.1))(nk:gO b.ps c∉b.keys)(np:bF c.k=true->[.inr c.k,.inr (av b.ps c.one)]∉(bK b.ps b.fs).map (·.1))(lv:∃f,xS xs.length b.ps.length f/\∀c'∈b.F++[c],g_ f c')(lim:b.fs.length<63)(hc:b.co<=co)(hz:z<co)(dl:dn.length<=200)(ul:un.length<=200):cM xs ys {b with fs:=b.fs++[(z,c)],co:=co,dn:=dn,un:=un}:=by
 have snoc:∀{α:Type} {l:List α} {x:α},l.Nodup->x∉l->(l++[x]).Nodup:=λ{α l x} h1 h2=>Jc.mpr ⟨h1,by simp,λu hu v hv e=>by
  have:v=x:=by simpa using hv
  exact h2 (by rw[←this,←e];exact hu)⟩
 refine⟨ok.gd,ok.nm,ok.m,by show(b.fs++[(z,c)]).length<=63;rw[Yl];exact lim,λp hp=>?_,?_,λp hp=>?_,?_,?_,?_,dl,ul⟩
 ·rcases Yx.mp hp with hp|hp;·exact ok.fg p hp
  ·rw[Yr.mp hp];exact fg
 ·show((b.fs++[(z,c)]).map (·.1)).Nodup;rw[Yq];exact snoc ok.zs nz
 ·rcases Yx.mp hp with hp|hp;·exact Y2 (ok.lt p hp) hc
  ·rw[Yr.mp hp];exact hz
 ·show((b.fs++[(z,c)]).map λp=>gO b.ps p.2).Nodup;rw[Yq];exact snoc ok.ky nk
 ·show((bK b.ps (b.fs++[(z,c)])).map (·.1)).Nodup;cases e:bF c.k with
  |true=>rw[Lb e,Yq];exact snoc ok.pr (np e)
  |false=>rw[Lc e];exact ok.pr
 ·obtain⟨f,i0,s0⟩:=lv;refine⟨f,i0,λc' m=>s0 c' ?_⟩;have m':c'∈(b.fs++[(z,c)]).map (·.2):=m;rw[Yq] at m';exact m'
theorem cM.drop(ok:cM xs ys b)(z:Nat)(hc:b.co<=co)(dl:dn.length<=200)(ul:un.length<=200):cM xs ys {b with fs:=cL z b.fs,co:=co,dn:=dn,un:=un}:=by
 have sub:(cL z b.fs).Sublist b.fs:=List.filter_sublist;refine⟨ok.gd,ok.nm,ok.m,Yz sub.length_le ok.fl,λp hp=>ok.fg p (sub.subset hp),ok.zs.sublist (sub.map _),λp hp=>Y2 (ok.lt p (sub.subset hp)) hc,ok.ky.sublist (sub.map _),?_,?_,dl,ul⟩
 ·show((bK b.ps (cL z b.fs)).map (·.1)).Nodup;refine ok.pr.sublist ?_;unfold bK
  grind
 ·obtain⟨f,i0,s0⟩:=ok.lv;exact⟨f,i0,λc m=>s0 c ((sub.map _).subset m)⟩
end
def BS.FC(b:BS)(n s:Str):BS:={b with ps:=b.ps++[(n,s)],co:=b.co,dn:=b.dn++[⟨1,[.inr n,.inr s],b.co,b.co⟩],un:=[]}
def BS.qL(b:BS)(c:Fc):BS:={b with fs:=b.fs++[(b.co,c)],co:=b.co+1,dn:=b.dn++[⟨1,dN b.ps b.co c,b.co,b.co+1⟩],un:=[]}
def BS.without(b:BS)(z:Nat)(c:Fc):BS:={b with fs:=cL z b.fs,co:=b.co,dn:=b.dn++[⟨-1,dN b.ps z c,b.co,b.co⟩],un:=[]}
def zA(s:Str):Bool:=dY (.str s) [.str "man",.str "woman"]
structure Ga(b:BS)(n s:Str):Prop where
 ZdR:qK n=true
 side:zA s=true
 new:n∉b.ps.map (·.1)
 lim:b.ps.length<64
 nl:n.length<=1000
structure O_(xs ys:List Int)(b:BS)(c:Fc):Prop where
 fg:jS xs ys b.ps.length c
 nk:gO b.ps c∉b.keys
 np:bF c.k=true->[.inr c.k,.inr (av b.ps c.one)]∉(bK b.ps b.fs).map (·.1)
 lv:∃f,xS xs.length b.ps.length f/\∀c'∈b.F++[c],g_ f c'
 lim:b.fs.length<63
inductive Lg(C CL CJ:Addr)(vs:List V)(H:Hp)(Q:VK)(E:XK):Prop
 |mk (l:BL) (b:BS) (xs ys:List Int) (n s:Str) (aI:vs=[.ref l.h,.str n,.str s]) (ba:a9 H C CL CJ l xs ys b) (np:Ga b n s) (q:∀H',au H H'->Q .aA H')
inductive Lh(C CL CJ:Addr)(vs:List V)(H:Hp)(Q:VK)(E:XK):Prop
 |mk (l:BL) (b:BS) (xs ys:List Int) (n s:Str) (aI:vs=[.ref l.h,.str n,.str s]) (ba:a9 H C CL CJ l xs ys b) (ok:cM xs ys b) (np:Ga b n s) (dl:b.dn.length<200) (q:∀(l':BL) (H':Hp),bV H H' l l'->a9 H' C CL CJ l' xs ys (b.FC n s)->Q .aA H')
inductive Fe(C CL CJ:Addr)(vs:List V)(H:Hp)(Q:VK)(E:XK):Prop
 |mk (l:BL) (b:BS) (xs ys:List Int) (fa:Addr) (c:Fc) (aI:vs=[.ref l.h,.ref fa]) (ba:a9 H C CL CJ l xs ys b) (ok:cM xs ys b) (hf:eK H b.ps fa (b.co,c)) (nf:O_ xs ys b c) (dl:b.dn.length<200) (q:∀(l':BL) (H':Hp),bV H H' l l'->a9 H' C CL CJ l' xs ys (b.qL c)->Q (.int (b.co:Int)) H')
inductive NF(C CL CJ:Addr)(vs:List V)(H:Hp)(Q:VK)(E:XK):Prop
 |mk (l:BL) (b:BS) (xs ys:List Int) (z:Nat) (c:Fc) (aI:vs=[.ref l.h,.int (z:Int)]) (ba:a9 H C CL CJ l xs ys b) (ok:cM xs ys b) (m:(z,c)∈b.fs) (dl:b.dn.length<200) (q:∀(l':BL) (H':Hp),bV H H' l l'->a9 H' C CL CJ l' xs ys (b.without z c)->Q .aA H')
inductive Mv(C CL CJ:Addr)(vs:List V)(H:Hp)(Q:VK)(E:XK):Prop
 |mk (x dx L:Addr) (xs ys:List Int) (aI:vs=[.ref x,.ref L]) (hx:H x=some (.ins C dx [])) (la:fL H CL L xs ys) (q:∀(l:BL) (H':Hp),l.h=x->(∀a∈l.fp,a≠x->H a=none)->aC x H H'->a9 H' C CL CJ l xs ys ⟨[],[],0,[],[]⟩->Q .aA H')
theorem fL.free(la:fL H CL L xs ys)(hf:∀a∈fp,H a=none\/∃C dx,H a=some (.ins C dx []))(o:Out fp H H'):fL H' CL L xs ys:=by
 obtain⟨dx,d,m,f,w,im,jf,iw,st,h1,h2,h3,h4,h5,h6,h7,h8,h9⟩:=la;have k:∀{a:Addr} {u:HO},H a=some u->(∀C dx,u≠.ins C dx [])->H' a=some u:=λ{a u} e n=>o _ _ e λz=>by
  grind
 exact⟨dx,d,m,f,w,im,jf,iw,st,k h1 (λ_ _ z=>by cases z),k h2 (λ_ _ z=>by cases z),k h3 (λ_ _ z=>by cases z),k h4 (λ_ _ z=>by cases z),k h5 (λ_ _ z=>by cases z),k h6 (λ_ _ z=>by cases z),k h7 (λ_ _ z=>by cases z),k h8 (λ_ _ z=>by cases z),k h9 (λ_ _ z=>by cases z)⟩
section
variable {K:ag}{mg:aN}
abbrev Af:List Str:=["hearth","name","side"]
theorem SN:aS Af Af (aJ B_):=.bc
theorem SO(F:aL K "check_person" "check_person" B_ f fd)(DY:HasFn P w K mg base 1 "is_name" ["text"] Lf)(qM:mg "MAN"=some (.str "man" t1))(qm:mg "WOMAN"=some (.str "woman" t2))(B8:cv P w K mg base 1 "people" C iz (La C CL CJ)):aG P w K mg base aK 2 f fd Af (Lg C CL CJ):=by
 refine F.o SN λs H hr h=>?_;obtain⟨l,b,xs,ys,n,s,rfl,ba,np,q⟩:=h;refine⟨_,(aq (aV (PW.pt (pw_or (eQ (di (aY DY hr (aa (pv 1) ai)))) (pw_or1 (fP (tS (K:=K) rfl) (pv 2) (e_ (aa (df (v:=.str "man") rfl qM ⟨_,rfl⟩) (aa (df (v:=.str "woman") rfl qm ⟨_,rfl⟩) ai))) (by with_unfolding_all rfl))))) fG aZ) (aw (aV (fP (kU (K:=K) rfl) (pv 1) (vZ B8 hr (by omega) (pv 0)) (by with_unfolding_all rfl)) fG aZ))),?_⟩;have sz:(10000:Nat)<=sizeLine:=by rw[sizeLine_eq];omega
 refine⟨_,rfl,n,rfl,np.nl,λH1 g1=>⟨_,rfl,?_⟩⟩;rw[np.ZdR];refine cR ?_;refine⟨_,rfl,by show 2<=sizeLine;omega,λp H2 xP g2 hp=>⟨p,_,rfl,.inr (aE.of hp),rfl,rfl,_,rfl,?_⟩⟩;have so:dY (.str s) [.str "man",.str "woman"]=true:=np.side;dsimp only;rw[if_pos rfl,so];refine cR (a_ ?_);have g:=g1.trans g2;have uV:=ba.same g;obtain⟨dx,h1⟩:=uV.obj;refine⟨_,rfl,_,rfl,l.h,dx,_,rfl,h1,rfl,l,b,xs,ys,rfl,uV,λp2 H3 np3 g3 dt=>?_⟩;have fl:(b.ps.map λp=>V.str p.1).all ij=true:=by
  rw[G0,Wp];intro p _;rfl
 refine⟨p2,_,rfl,.inl (aj.of dt),rfl,fl,_,rfl,?_⟩;try dsimp only
 have no:dY (.str n) (b.ps.map λp=>V.str p.1)=false:=by
  unfold dY;rw[List.any_map,PD];intro p hp z;have z':(p.1==n)=true:=z;exact np.new (by rw[←eq_of_beq z'];exact Yi.mpr ⟨p,hp,rfl⟩)
 rw[if_neg Yf,no];exact cR (a_ (q H3 (g.trans g3)))
abbrev Ag:List Str:=["self","name","side"]
theorem Sy:aS Ag Ag (aJ BZ):=.bc
theorem W_(F:aL K "person" "Hearth.person" BZ f fd)(hc:fH K C)(mQ:mg "PUT_IN"=some (.int 1 t1))(Ci:HasFn P w K mg base 2 "check_person" Af (Lg C CL CJ))(mn:cv P w K mg base 10 "do_deed" C lS (yR C CL CJ)):aG P w K mg base aK 11 f fd Ag (Lh C CL CJ):=by
 refine F.o Sy λs H hr h=>?_;obtain⟨l,b,xs,ys,n,s,rfl,ba,ok,np,dl,q⟩:=h;refine⟨_,(aq (cq (aY Ci hr (aa (pv 0) (aa (pv 1) (aa (pv 2) ai))))) (aw (cq (cI mn hr (by omega) (pv 0) (aa (df (v:=.int (1)) rfl mQ ⟨_,rfl⟩) (aa (e_ (aa (pv 1) (aa (pv 2) ai))) (aa (pF K 0) ai))))))),?_⟩;refine⟨_,rfl,_,rfl,_,rfl,l,b,xs,ys,n,s,rfl,ba,np,λH1 g1=>?_⟩;have cj:=ba.same g1;obtain⟨dx,h1⟩:=cj.obj;refine⟨_,rfl,l.h,dx,_,rfl,h1,rfl,_,rfl,_,rfl,by show 2<=sizeLine;decide,λr H2 nr g2 hR=>?_⟩;refine⟨_,rfl,l.h,C,dx,_,_,rfl,g2 _ _ h1,hc.cls,hc.oG,rfl,l,b,_,xs,ys,r,1,b.co,[.inr n,.inr s],rfl,cj.same g2,ok,dl,hR,.pin n s hR np.new np.lim,λl' H3 wt kg=>?_⟩;exact q l' H3 (bV.after (g1.trans g2) wt) kg
theorem vb:aS O8 qZ (aJ Cr):=.bc
theorem Zak(F:aL K "keep" "Hearth.keep" Cr f fd)(hc:fH K C)(mQ:mg "PUT_IN"=some (.int 1 t1))(Dh:HasFn P w K mg base 5 "fact_fits" qY (NA CL CJ))(Cj:cv P w K mg base 8 "joins" C iz (Mu C CL CJ))(mn:cv P w K mg base 10 "do_deed" C lS (yR C CL CJ)):aG P w K mg base aK 11 f fd qZ (Fe C CL CJ):=by
 refine F.o vb λs H hr h=>?_;obtain⟨l,b,xs,ys,fa,c,rfl,ba,ok,hf,nf,dl,q⟩:=h;refine⟨_,(aq (oP (pv 1) (mY (K:=K) (n:=4) rfl rfl (c8 (cE 2 vb.nd) (c8 (cE 3 vb.nd) (c8 (cE 4 vb.nd) (c8 (cE 5 vb.nd) mU)))))) (aq (aV (eQ (di (aY Dh hr (aa (vZ Cj hr (by omega) (pv 0)) (aa (pF K 0) (aa (pF K 0) (aa (pv 1) ai))))))) fG aZ) (aq (cq (cI mn hr (by omega) (pv 0) (aa (df (v:=.int (1)) rfl mQ ⟨_,rfl⟩) (aa (pv 1) (aa (bj ig (pv 2) aO) ai))))) (aw (aP (pv 2)))))),?_⟩;obtain⟨dx,h1⟩:=ba.obj;refine⟨_,rfl,fa,_,rfl,aE.of hf,rfl,_,_,rfl,bI ⟨_,_,rfl,bI ⟨_,_,rfl,bI ⟨_,_,rfl,bI ⟨rfl,?_⟩⟩⟩⟩⟩;refine⟨_,rfl,l.h,dx,_,rfl,h1,rfl,l,b,xs,ys,rfl,ba,ok,λl1 jl st H1 wt cj r1 r2 ja me len eX _=>?_⟩;obtain⟨uO,e1⟩:=cj.obj;have rF:H1 l.h=some (.ins C uO (HF l1.L l1.sd l1.pl l1.fc l1.kn l1.pr (b.co:Int) l1.dn l1.un l1.rk)):=by rw[←wt.h];exact e1
 have Q6:eK H1 b.ps fa (b.co,c):=wt.out _ _ hf (ba.tup hf);have im:=ok.m;refine⟨_,rfl,l.h,C,uO,_,_,rfl,rF,hc.cls,hc.v_,rfl,_,rfl,l.h,C,uO,_,_,rfl,rF,hc.cls,hc.vJ,rfl,_,rfl,jl,st,l1.L,l1.pl,fa,xs,ys,b.ps,b.F,b.co,c,rfl,ja,me,cj.landAt,ok.gd,cj.places,ok.nm,len,by omega,Q6,nf.fg,λ_ H2 g2=>?_,λno=>?_⟩
 ·refine⟨_,rfl,cR (a_ ?_)⟩;have uV:=cj.same g2;have uW:=g2 _ _ Q6;have nz:b.co∉b.fs.map (·.1):=λz=>by
   obtain⟨p,hp,e⟩:=Yi.mp z;have:=ok.lt p hp;omega
  refine⟨_,rfl,l.h,uO,_,rfl,g2 _ _ rF,rfl,_,rfl,_,rfl,_,_,rfl,rfl,l1,b,_,xs,ys,fa,1,b.co+1,dN b.ps b.co c,?_,uV,ok,dl,uW,.fin b.co c uW nf.fg nz nf.nk nf.np nf.lv nf.lim,λl' H3 Bh kg=>?_⟩;·rw[wt.h];rfl
  ·exact⟨_,rfl,q l' H3 ((wt.same g2).trans Bh) kg⟩
 ·obtain⟨f0,i0,s0⟩:=nf.lv;exact absurd (s0 c (Yj _ Yh)) (no f0 ((me.iff f0).mpr ⟨by rw[len];exact i0,λc' m'=>s0 c' (Ym _ m')⟩))
theorem S7:aS wD wD (aJ Cs):=.bc
theorem Zal(F:aL K "take" "Hearth.take" Cs f fd)(hc:fH K C)(Di:mg "TAKEN_OUT"=some (.int (-1) t1))(mn:cv P w K mg base 10 "do_deed" C lS (yR C CL CJ)):aG P w K mg base aK 11 f fd wD (NF C CL CJ):=by
 refine F.o S7 λs H hr h=>?_;obtain⟨l,b,xs,ys,z,c,rfl,ba,ok,m,dl,q⟩:=h;refine⟨_,(aq (aV (qp (yE (bT hr) (pv 1) (pF K 0)) (by with_unfolding_all rfl)) fG aZ) (aw (cq (cI mn hr (by omega) (pv 0) (aa (df (v:=.int (-1)) rfl Di ⟨_,rfl⟩) (aa (d_ (bT hr) (pF K 0) (pv 1) (λ_ _=>rfl)) (aa (pF K 0) ai))))))),?_⟩;obtain⟨dx,h1⟩:=ba.obj;obtain⟨fa,Bb,dv⟩:=EB (H:=H) (ps:=b.ps) ba.fact ok.zs m;refine⟨_,rfl,_,rfl,l.h,C,dx,_,_,rfl,h1,hc.cls,hc.oN,rfl,l.fc,some (.ref fa),rfl,m9 ba.facts Bb,_,rfl,cR (a_ ?_)⟩;refine⟨_,rfl,l.h,dx,_,rfl,h1,rfl,_,rfl,l.h,C,dx,_,_,rfl,h1,hc.cls,hc.oN,rfl,_,rfl,l.fc,.ref fa,rfl,m9 ba.facts Bb,_,rfl,l.h,C,dx,_,_,rfl,h1,hc.cls,hc.oG,rfl,l,b,_,xs,ys,fa,-1,b.co,dN b.ps z c,rfl,ba,ok,dl,dv,.ue z c dv m,λl' H3 wt kg=>?_⟩;exact q l' H3 wt kg
abbrev Ah:List Str:=["self","land"]
theorem S8:aS Ah Ah (aJ Cq):=.bc
theorem Y_(F:aL K "__init__" "Hearth.__init__" Cq f fd)(hc:fH K C):aG P w K mg base aK 1 f fd Ah (Mv C CL CJ):=by
 refine F.o S8 λs H hr h=>?_;obtain⟨x,dx,L,xs,ys,rfl,hx,la,q⟩:=h;refine⟨_,(aq (fR (K:=K) rfl (pv 0) (pv 1)) (aq (fR (K:=K) rfl (pv 0) sY) (aq (fR (K:=K) rfl (pv 0) sY) (aq (fR (K:=K) rfl (pv 0) sY) (aq (fR (K:=K) rfl (pv 0) JZ) (aq (fR (K:=K) rfl (pv 0) JZ) (aq (fR (K:=K) rfl (pv 0) aO) (aq (fR (K:=K) rfl (pv 0) (dM ai)) (aq (fR (K:=K) rfl (pv 0) (dM ai)) (aw (fR (K:=K) rfl (pv 0) kA))))))))))),?_⟩;refine⟨_,rfl,_,rfl,x,C,dx,[],rfl,hx,hc.cls,hc.v_,by show 0<1000;omega,λH1 b1 h1=>?_⟩;refine λsd H2 n2 g2 e2=>⟨_,rfl,x,C,dx,_,rfl,g2 _ _ h1,hc.cls,hc.qj,by show 1<1000;omega,λH3 b3 h3=>?_⟩;refine λpl H4 n4 g4 e4=>⟨_,rfl,x,C,dx,_,rfl,g4 _ _ h3,hc.cls,hc.vJ,by show 2<1000;omega,λH5 b5 h5=>?_⟩;refine λfc H6 n6 g6 e6=>⟨_,rfl,x,C,dx,_,rfl,g6 _ _ h5,hc.cls,hc.oN,by show 3<1000;omega,λH7 b7 h7=>?_⟩;refine λkn H8 n8 g8 e8=>⟨_,rfl,x,C,dx,_,rfl,g8 _ _ h7,hc.cls,hc.y9,by show 4<1000;omega,λH9 b9 h9=>?_⟩;refine λpr pK nQ r8 rM=>⟨_,rfl,x,C,dx,_,rfl,r8 _ _ h9,hc.cls,hc.tE,by show 5<1000;omega,λxg r9 h11=>?_⟩;refine⟨_,rfl,x,C,dx,_,rfl,h11,hc.cls,hc.oG,by show 6<1000;omega,λuX r_ AH=>?_⟩;refine⟨by show 0<=sizeLine;exact Yw _,λdn AI pQ fD Q7=>⟨_,rfl,x,C,dx,_,rfl,fD _ _ AH,hc.cls,hc.Nz,by show 7<1000;omega,λpM pR Q8=>?_⟩⟩;refine⟨by show 0<=sizeLine;exact Yw _,λun GQ kZ Q9 e15=>⟨_,rfl,x,C,dx,_,rfl,Q9 _ _ Q8,hc.cls,hc.K9,by show 8<1000;omega,λQg b16 h16=>?_⟩⟩;refine⟨_,rfl,x,C,dx,_,rfl,h16,hc.cls,hc.gT,by show 9<1000;omega,λnY b17 Q_=>?_⟩;rw[ZdH] at Q_;have Ra:aC x GQ nY:=b16.trans b17;have Rb:aC x AI nY:=pR.trans ((aC.of Q9).trans Ra);have Rc:aC x pK nY:=r9.trans (r_.trans ((aC.of fD).trans Rb));have j8:aC x H8 nY:=b9.trans ((aC.of r8).trans Rc);have j6:aC x H6 nY:=b7.trans ((aC.of g8).trans j8);have j4:aC x H4 nY:=b5.trans ((aC.of g6).trans j6);have j2:aC x H2 nY:=b3.trans ((aC.of g4).trans j4);have j0:aC x H nY:=b1.trans ((aC.of g2).trans j2);have i3:aC x H H3:=b1.trans ((aC.of g2).trans b3);have i5:aC x H H5:=i3.trans ((aC.of g4).trans b5);have i7:aC x H H7:=i5.trans ((aC.of g6).trans b7);have i9:aC x H H9:=i7.trans ((aC.of g8).trans b9);have i12:aC x H uX:=i9.trans ((aC.of r8).trans (r9.trans r_));have i14:aC x H pM:=i12.trans ((aC.of fD).trans pR);have fr:∀{a:Addr} {H':Hp},aC x H H'->a≠x->H' a=none->H a=none:=λ{a H'} k d n=>by
  cases e:H a with
  |none=>rfl
  |some o=>rw[k a o e d] at n;cases n
 have d2:sd≠x:=λz=>by rw[z,h1] at n2;cases n2
 have d4:pl≠x:=λz=>by rw[z,h3] at n4;cases n4
 have d6:fc≠x:=λz=>by rw[z,h5] at n6;cases n6
 have d8:kn≠x:=λz=>by rw[z,h7] at n8;cases n8
 have Bi:pr≠x:=λz=>by rw[z,h9] at nQ;cases nQ
 have HG:dn≠x:=λz=>by rw[z,AH] at pQ;cases pQ
 have Rf:un≠x:=λz=>by rw[z,Q8] at kZ;cases kZ
 have ne:∀{a c:Addr} {Ha Hc:Hp} {o:HO},Ha a=some o->aC x Ha Hc->a≠x->Hc c=none->a≠c:=λ{a c Ha Hc o} e k d n z=>by rw[←z,k a o e d] at n;cases n
 have k24:aC x H2 H3:=b3;have Rg:aC x H2 H5:=b3.trans ((aC.of g4).trans b5);have Rh:aC x H2 H7:=Rg.trans ((aC.of g6).trans b7);have Pa:aC x H2 H9:=Rh.trans ((aC.of g8).trans b9);have Pb:aC x H2 uX:=Pa.trans ((aC.of r8).trans (r9.trans r_));have ZdS:aC x H2 pM:=Pb.trans ((aC.of fD).trans pR);have Ri:aC x H4 H7:=b5.trans ((aC.of g6).trans b7);have Pc:aC x H4 H9:=Ri.trans ((aC.of g8).trans b9);have Pd:aC x H4 uX:=Pc.trans ((aC.of r8).trans (r9.trans r_));have ZdT:aC x H4 pM:=Pd.trans ((aC.of fD).trans pR);have Pf:aC x H6 H9:=b7.trans ((aC.of g8).trans b9);have Pg:aC x H6 uX:=Pf.trans ((aC.of r8).trans (r9.trans r_));have ZdU:aC x H6 pM:=Pg.trans ((aC.of fD).trans pR);have Ph:aC x H8 uX:=b9.trans ((aC.of r8).trans (r9.trans r_));have ZdV:aC x H8 pM:=Ph.trans ((aC.of fD).trans pR);have Oq:aC x pK uX:=r9.trans r_;have ZcL:aC x pK pM:=Oq.trans ((aC.of fD).trans pR);let l:BL:=⟨x,L,sd,pl,fc,kn,pr,dn,un,.aA,[],[],[],[]⟩;have Bj:∀a∈l.fp,a≠x->H a=none:=λa ha na=>by
  have uF:a∈[x,sd,pl,fc,kn,pr,dn,un]:=by
   have:l.fp=[x,sd,pl,fc,kn,pr,dn,un]:=rfl;rw[this] at ha;exact ha
  simp only[Yp,Y4,or_false] at uF;rcases uF with rfl|rfl|rfl|rfl|rfl|rfl|rfl|rfl;·exact absurd rfl na
  ·exact fr b1 na n2
  ·exact fr i3 na n4
  ·exact fr i5 na n6
  ·exact fr i7 na n8
  ·exact fr i9 na nQ
  ·exact fr i12 na pQ
  ·exact fr i14 na kZ
 refine q l nY rfl Bj j0 ⟨⟨dx,Q_⟩,λH' o=>?_,j2 _ _ e2 d2,j4 _ _ e4 d4,j6 _ _ e6 d6,.nil,j8 _ _ e8 d8,Rc _ _ rM Bi,Rb _ _ Q7 HG,.nil,Ra _ _ e15 Rf,.nil,.no rfl rfl,?_⟩
 ·refine la.free (fp:=l.fp) (λa ha=>?_) λa u e na=>o _ _ (j0 _ _ e λz=>na (by rw[z];exact Yh)) na;by_cases z:a=x;·rw[z];exact .inr ⟨C,dx,hx⟩
  ·exact .inl (Bj a ha z)
 ·show[x,sd,pl,fc,kn,pr,dn,un].Nodup;simp only[Y0,Yp,Y4,or_false,not_or,not_false_eq_true,W9,and_true];exact⟨⟨d2.symm,d4.symm,d6.symm,d8.symm,Bi.symm,HG.symm,Rf.symm⟩,⟨ne e2 k24 d2 n4,ne e2 Rg d2 n6,ne e2 Rh d2 n8,ne e2 Pa d2 nQ,ne e2 Pb d2 pQ,ne e2 ZdS d2 kZ⟩,⟨ne e4 b5 d4 n6,ne e4 Ri d4 n8,ne e4 Pc d4 nQ,ne e4 Pd d4 pQ,ne e4 ZdT d4 kZ⟩,⟨ne e6 b7 d6 n8,ne e6 Pf d6 nQ,ne e6 Pg d6 pQ,ne e6 ZdU d6 kZ⟩,⟨ne e8 b9 d8 nQ,ne e8 Ph d8 pQ,ne e8 ZdV d8 kZ⟩,⟨ne rM Oq Bi pQ,ne rM ZcL Bi kZ⟩,ne Q7 pR HG kZ⟩
end
def strOf:V->Str
 |.str s=>s
 |_=>""
def eS(b:BS)(a:Str):List Str:=(m_ b a).map strOf
inductive dJ(b:BS)(a:Str):Str->Prop
 |refl:dJ b a a
 |step {x y:Str}:dJ b a x->y∈eS b x->dJ b a y
theorem ED(ok:cM xs ys b)(h:bg (bK b.ps b.fs) [.inr k,.inr a]=some v):∃p∈b.fs,bF p.2.k=true/\p.2.k=k/\av b.ps p.2.one=a/\v=.str (av b.ps p.2.aQ.toNat)/\p.2.aQ.toNat<b.ps.length:=by
 have m:([.inr k,.inr a],v)∈bK b.ps b.fs:=by
  unfold bg at h;cases ef:(bK b.ps b.fs).find? λkv=>decide (kv.1=[.inr k,.inr a]) with
  |none=>grind
  |some q=>grind
 obtain⟨p,hp,e⟩:=Yi.mp m;obtain⟨kX,dt⟩:=Y3.mp hp;injection e with e1 e2;injection e1 with e3 e4;injection e4 with e5 _;have ns:p.2.k≠c_:=λz=>by
  rw[z] at dt;exact absurd dt (by decide+kernel)
 refine⟨p,kX,dt,Jl e3,Jl e5,?_,((ok.fg p kX).ok.iJ ns).1.2⟩;rw[←e2,lK ns];rfl
theorem JD(ok:cM xs ys b)(a:Str):m_ b a=(eS b a).map V.str/\(∀s∈eS b a,s∈b.ps.map (·.1))/\(eS b a).length<=2:=by
 have all:∀v∈m_ b a,∃s,v=.str s/\s∈b.ps.map (·.1):=λv hv=>by
  obtain⟨k,_,e⟩:=Ji.mp hv;obtain⟨p,_,_,_,_,e2,l⟩:=ED ok e;exact⟨_,e2,qk l⟩
 refine⟨?_,λs hs=>?_,?_⟩
 ·unfold eS;rw[Y8];refine(List.map_id _).symm.trans (Wt λv hv=>?_);obtain⟨s,rfl,_⟩:=all v hv;rfl
 ·obtain⟨v,hv,rfl⟩:=Yi.mp hs;obtain⟨s,rfl,m⟩:=all v hv;exact m
 ·unfold eS m_
  grind
def gk(ks:List Str)(as:List Addr):List (Key×V):=(ks.zip as).map λp=>(.inr p.1,.ref p.2)
theorem Li:∀{ks:List Str} {as:List Addr},ks.length=as.length->(gk ks as).map (·.1)=ks.map Sum.inr
 |[],[],_=>rfl
 |k::ks,a::as,h=>by
  have e0:gk (k::ks) (a::as)=(Sum.inr k,V.ref a)::gk ks as:=rfl;rw[e0,Wn,Li (by simpa using h)];rfl
 |[],_::_,h=>rfl
 |_::_,[],h=>by simp at h
theorem Ej:∀{ks:List Str} {as:List Addr} (k:Str) (a:Addr),ks.length=as.length->gk ks as++[(.inr k,.ref a)]=gk (ks++[k]) (as++[a])
 |[],[],_,_,_=>rfl
 |q::ks,c::as,k,a,h=>by
  have e0:gk (q::ks) (c::as)=(Sum.inr q,V.ref c)::gk ks as:=rfl;rw[e0,List.cons_append,Ej k a (by simpa using h)];rfl
 |[],_::_,_,_,h=>by simp at h
 |_::_,[],_,_,h=>by simp at h
theorem vS:∀{ks:List Str} {as:List Addr} {k:Str},ks.length=as.length->k∈ks->∃a∈as,bg (gk ks as) (.inr k)=some (.ref a)
 |[],_,_,_,h=>by cases h
 |q::ks,c::as,k,hl,h=>by
  have e0:gk (q::ks) (c::as)=(Sum.inr q,V.ref c)::gk ks as:=rfl;rw[e0];by_cases e:q=k;·exact⟨c,Yh,iN (by rw[e])⟩
  ·rcases Yp.mp h with h|h;·grind
   ·obtain⟨a,m,v⟩:=vS (by simpa using hl) h;exact⟨a,Yv _ m,by rw[jL (λz=>e (Jl z))];exact v⟩
 |_::_,[],_,h,_=>by simp at h
theorem qf(hl:ks.length=as.length)(h:k∉ks):bg (gk ks as) (.inr k)=none:=oo (by
 rw[Li hl];intro z;obtain⟨q,hq,e⟩:=Yi.mp z;exact h (by rw[←Jl e];exact hq))
inductive du(b:BS)(a:Str):Str->List Str->Prop
 |one:du b a a [a]
 |more {k y:Str} {us:List Str}:du b a k us->y∈eS b k->du b a y (us++[y])
theorem Lj{κ:Type}[DecidableEq κ](l m:List (κ×V))(k:κ):bg (l++m) k=(bg l k).or (bg m k):=by
 unfold bg;rw[List.find?_append];cases l.find? λkv=>decide (kv.1=k)<;>rfl
structure pE(b:BS)(a0:Str)(H H6:Hp)(ln:Addr)(ks:List Str)(as:List Addr):Prop where
 same:au H H6
 at_:H6 ln=some (.dK (gk ks as))
 len:ks.length=as.length
 lst:∀a∈as,∃us:List V,H6 a=some (.lst us)/\us.length<=ks.length/\a≠ln
 nd:ks.Nodup
 Bk:∀k c,bg (gk ks as) (.inr k)=some (.ref c)->∃us:List Str,H6 c=some (.lst (us.map V.str))/\us.length<=ks.length/\du b a0 k us
theorem yH{xs ys:List Int}{b:BS}(ok:cM xs ys b){ks:List Str}(nd:ks.Nodup)(sub:∀k∈ks,k∈b.ps.map (·.1)):ks.length<=b.ps.length:=by
 have:=nd.length_le_of_subset sub
 grind
theorem tJ(ok:cM xs ys b)(ma:a∈b.ps.map (·.1))(h:dJ b a z):z∈b.ps.map (·.1):=by
 cases h with
 |refl=>exact ma
 |step _ m=>exact(JD ok _).2.1 _ m
inductive EE(C CL CJ:Addr)(vs:List V)(H:Hp)(Q:VK)(E:XK):Prop
 |mk (l:BL) (b:BS) (xs ys:List Int) (a:Str) (aI:vs=[.ref l.h,.str a]) (ba:a9 H C CL CJ l xs ys b) (ok:cM xs ys b) (ma:a∈b.ps.map (·.1)) (q:∀(p:Addr) (ks:List Str) (as:List Addr) (H':Hp),pE b a H H' p ks as->(∀z,z∈ks↔dJ b a z)->Q (.ref p) H')
def wI(ln:Addr)(N:Nat):St->Hp->Nat:=λσ H=>(match H ln with|some (.dK kvs)=>2*(N-kvs.length)|_=>0)+(match List.getD (α:=Option V) σ 3 none with|some (V.ref nw)=>(match H nw with|some (.lst (_::_))=>1|_=>0)|_=>0)
inductive Rj(H:Hp)(b:BS)(a:Str)(h ln:Addr)(σ:St)(H6:Hp):Prop
 |mk (ks ns:List Str) (as:List Addr) (nw:Addr) (o4 o5 o6:Option V) (la:pE b a H H6 ln ks as) (hn:H6 nw=some (.lst (ns.map V.str))) (nn:nw≠ln) (sub:∀k∈ns,k∈ks) (cl:∀k∈ks,k∉ns->∀p∈eS b k,p∈ks) (sd:∀k∈ks,dJ b a k) (ma:a∈ks) (rO:ns.length<=64) (e:σ=[some (.ref h),some (.str a),some (.ref ln),some (.ref nw),o4,o5,o6]):Rj H b a h ln σ H6
inductive HH(H:Hp)(b:BS)(a:Str)(h ln nw fu:Addr)(pS ns:List Str)(j:Nat)(σ:St)(H6:Hp):Prop
 |mk (ks fs:List Str) (as:List Addr) (o5 o6:Option V) (la:pE b a H H6 ln ks as) (hn:H6 nw=some (.lst (ns.map V.str))) (hf:H6 fu=some (.lst (fs.map V.str))) (nn:nw≠ln/\fu≠ln/\fu≠nw) (af:fu∉as) (ek:ks=pS++fs) (cl:∀k∈ns.take j,∀p∈eS b k,p∈ks) (sd:∀k∈ks,dJ b a k) (e:σ=[some (.ref h),some (.str a),some (.ref ln),some (.ref nw),some (.ref fu),o5,o6]):HH H b a h ln nw fu pS ns j σ H6
inductive Rk(H:Hp)(b:BS)(a:Str)(h ln nw fu:Addr)(pS ns:List Str)(j:Nat)(one:Str)(pl:Addr)(i:Nat)(σ:St)(H6:Hp):Prop
 |mk (ks fs:List Str) (as:List Addr) (o6:Option V) (la:pE b a H H6 ln ks as) (hn:H6 nw=some (.lst (ns.map V.str))) (hf:H6 fu=some (.lst (fs.map V.str))) (hp:H6 pl=some (.lst ((eS b one).map V.str))) (nn:nw≠ln/\fu≠ln/\fu≠nw/\pl≠ln/\pl≠fu) (af:fu∉as) (ek:ks=pS++fs) (cl:∀k∈ns.take j,∀p∈eS b k,p∈ks) (cp:∀p∈(eS b one).take i,p∈ks) (sd:∀k∈ks,dJ b a k) (e:σ=[some (.ref h),some (.str a),some (.ref ln),some (.ref nw),some (.ref fu),some (.str one),o6]):Rk H b a h ln nw fu pS ns j one pl i σ H6
section
variable {K:ag}{mg:aN}
abbrev Ai:List Str:=["hearth","name"]
theorem pZ:aS ["hearth","name","lines","newest","further","one","parent"] Ai (aJ Dy):=.bc
theorem UN(F:aL K "lines_up" "lines_up" Dy f fd)(BF:cv P w K mg base 1 "parents_of" C nG (ID C CL CJ)):aG P w K mg base aK 2 f fd Ai (EE C CL CJ):=by
 refine F.o pZ λs H hr h=>?_;obtain⟨l,b,xs,ys,a,rfl,ba,ok,ma,q⟩:=h;refine⟨_,(aq (bM 2 pZ.nd (LX (oC (pv 1) (dM (aa (pv 1) ai)) LW) rfl rfl (λz=>nomatch z) (Nat.le_of_ble_eq_true rfl))) (aq (bM 3 pZ.nd (dM (aa (pv 1) ai))) (aq (D2 PassesOwn.never (DQ (K:=K) rfl (D4 (pv 3) (λ_=>rfl))) (aq (bM 4 pZ.nd (dM ai)) (aq (jd PassesOwn.never rfl (gW (K:=K) rfl (pv 3)) (cE 5 pZ.nd) (aw (jd PassesOwn.never rfl (gW (K:=K) rfl (cI BF hr (by omega) (pv 0) (aa (pv 5) ai))) (cE 6 pZ.nd) (aw (aV (qp (yE (bT hr) (pv 6) (pv 2)) (by with_unfolding_all rfl)) (aq (oE (bT hr) (pv 2) (pv 6) (bj LZ (d_ (bT hr) (pv 2) (pv 5) (λ_ _=>rfl)) (dM (aa (pv 6) ai)))) (aw (cq (qx (K:=K) rfl (oV plainAttrs_list PySem.F.slot_list_append PySem.F.type_list_append sT (pv 4) (aa (pv 6) ai)))))) aZ))))) (aw (bM 3 pZ.nd (pv 4)))))) (aw (aP (pv 2)))))),?_⟩;have sz:(10000:Nat)<=sizeLine:=by rw[sizeLine_eq];omega
 have im:=ok.m;refine bZ ?_;refine λln Rl=>⟨_,rfl,_,rfl,by show 1<=sizeLine;omega,λll H0 kh g0 lE=>?_⟩;refine⟨g0 _ _ aW,[(.inr a,.ref ll)],rfl,(by show 1<=15;omega),?_⟩;obtain⟨H1,kj⟩:∃H1,H1=upd H0 ln (.dK (qw [] [(.inr a,.ref ll)])):=⟨_,rfl⟩;rw[←kj];have HI:ll≠ln:=λz=>by rw[z,aW] at kh;cases kh
 have g1:au H H1:=λc o e=>by
  have nc:=cN e Rl;rw[kj,aF nc];exact g0 _ _ (by rw[aF nc];exact e)
 have Rm:pE b a H H1 ln [a] [ll]:=⟨g1,by rw[kj,aW];rfl,rfl,λc hc=>by
  rw[Yr.mp hc];exact⟨[.str a],by rw[kj,aF HI];exact lE,Ye _,HI⟩,by simp,λk c h=>by
  by_cases e:a=k
  ·subst e;have h':V.ref ll=V.ref c:=Yu ((iN (p:=((Sum.inr a:Key),V.ref ll)) (r:=[]) rfl).symm.trans h);cases h';exact⟨[a],by rw[kj,aF HI];exact lE,Ye _,.one⟩
  ·exact absurd h (by rw[qf (ks:=[a]) (as:=[ll]) rfl (λz=>e (Yr.mp z).symm)];exact λz=>nomatch z)⟩
 refine bZ ?_;refine⟨_,rfl,by show 1<=sizeLine;omega,λnw H2 Rn g2 hnw=>?_⟩;have nwl:nw≠ln:=λz=>by rw[z,Rm.at_] at Rn;cases Rn
 have FD:∀{Ha Hb:Hp} {ks:List Str} {as:List Addr},pE b a H Ha ln ks as->au Ha Hb->pE b a H Hb ln ks as:=λla g=>⟨la.same.trans g,g _ _ la.at_,la.len,λc hc=>by obtain⟨us,e,z,n⟩:=la.lst c hc;exact⟨us,g _ _ e,z,n⟩,la.nd,λk c h=>by obtain⟨us,e,r⟩:=la.Bk k c h;exact⟨us,g _ _ e,r⟩⟩;refine iP (λσ H6=>∃ks as,pE b a H H6 ln ks as/\(∀z,z∈ks↔dJ b a z)/\∃o3 o4 o5 o6:Option V,σ=[some (.ref l.h),some (.str a),some (.ref ln),o3,o4,o5,o6]) (λuK iI=>?_) ?_
 ·refine D3 (Rj H b a l.h ln) (wI ln 100) ⟨[a],[a],[ll],nw,none,none,none,FD Rm g2,hnw,nwl,λ_ h=>h,λk hk no=>absurd hk no,λk hk=>by rw[Yr.mp hk];exact .refl,Yh,by show 1<=64;omega,rfl⟩ ?_ ?_
  ·rintro σ H6 ⟨ks,ns,as,nw,o4,o5,o6,la,hn,nn,sub,cl,sd,Ro,rO,rfl⟩;have kf:ks.length<=64:=Yz (yH ok la.nd λk hk=>tJ ok ma (sd k hk)) im;refine⟨_,rfl,_,.inl ⟨_,aj.of hn,rfl⟩,?_⟩;refine bb (λc=>?_) (λc=>?_)
   ·have ZdW:ns≠[]:=λz=>by rw[z] at c;cases c
    have mu0:wI ln 100 [some (.ref l.h),some (.str a),some (.ref ln),some (.ref nw),o4,o5,o6] H6=2*(100-ks.length)+1:=by
     unfold wI;have kl:(gk ks as).length=ks.length:=by unfold gk;rw[Ya,Jb];have:=la.len;omega
     have g3:List.getD (α:=Option V) [some (.ref l.h),some (.str a),some (.ref ln),some (.ref nw),o4,o5,o6] 3 none=some (.ref nw):=rfl;rw[la.at_,g3];dsimp only;rw[hn,kl];cases ns with
     |nil=>exact absurd rfl ZdW
     |cons x r=>rfl
    refine bZ ?_;refine⟨by show 0<=sizeLine;exact Yw _,λfu H7 uY g7 hfu=>?_⟩;have xN:=FD la g7;have fln:fu≠ln:=λz=>by rw[z,la.at_] at uY;cases uY
    have fnw:fu≠nw:=λz=>by rw[z,hn] at uY;cases uY
    refine iP (HH H b a l.h ln nw fu ks ns ns.length) (λBf lD=>?_) ?_
    ·refine⟨_,rfl,nw,rfl,⟨_,aj.of (g7 _ _ hn)⟩,qe (K:=K) (a:=nw) (xs:=ns.map V.str) (HH H b a l.h ln nw fu ks ns) ⟨ks,[],as,o5,o6,xN,g7 _ _ hn,hfu,⟨nn,fln,fnw⟩,(λz=>by obtain⟨us,e,_⟩:=la.lst _ z;rw[uY] at e;cases e),by rw[We],λk hk=>(by rw[List.take_zero] at hk;cases hk),sd,rfl⟩ (λj σ H8 _ ⟨_,_,_,_,_,_,h,_,_,_,_,_,_,_⟩=>aj.of h) ?_ ?_⟩
     ·rintro j v σ H8 hj ⟨eI,fs,Bm,p5,p6,pT,Rp,x9,x_,Rq,ek,nZ,Bn,rfl⟩;rw[Yg] at hj;obtain⟨one,e1,rfl⟩:∃one,ns[j]?=some one/\V.str one=v:=by
       cases z:ns[j]? with
       |none=>rw[z] at hj;cases hj
       |some o=>rw[z] at hj;exact⟨o,rfl,Yu hj⟩
      have tkj:ns.take (j+1)=ns.take j++[one]:=by rw[Y6,e1];rfl
      have ZeU:one∈eI:=by rw[ek];exact Ym _ (sub _ (Ys e1))
      have Rr:=ba.same pT.same;obtain⟨dx8,h8⟩:=Rr.obj;obtain⟨pe,pin,uG⟩:=JD ok one;refine bI ?_;refine⟨_,rfl,l.h,dx8,_,rfl,h8,rfl,_,rfl,l,b,xs,ys,one,rfl,Rr,λpl H9 uZ g9 bG=>?_⟩;rw[pe] at bG;have pln:pl≠ln:=λz=>by rw[z,pT.at_] at uZ;cases uZ
      have plf:pl≠fu:=λz=>by rw[z,x9] at uZ;cases uZ
      refine⟨pl,rfl,⟨_,aj.of bG⟩,qe (K:=K) (a:=pl) (xs:=(eS b one).map V.str) (Rk H b a l.h ln nw fu ks ns j one pl) ⟨eI,fs,Bm,p6,FD pT g9,g9 _ _ Rp,g9 _ _ x9,bG,⟨x_.1,x_.2.1,x_.2.2,pln,plf⟩,Rq,ek,nZ,λp hp=>(by rw[List.take_zero] at hp;cases hp),Bn,rfl⟩ (λi σ HA _ ⟨_,_,_,_,_,_,_,h,_,_,_,_,_,_,_⟩=>aj.of h) ?_ ?_⟩
      ·rintro i v σ HA hi ⟨ib,ya,Bo,q6,d9,Bp,u3,HJ,jD,u4,u5,Bq,yb,u6,rfl⟩;rw[Yg] at hi;obtain⟨par,e2,rfl⟩:∃par,(eS b one)[i]?=some par/\V.str par=v:=by
        cases z:(eS b one)[i]? with
        |none=>rw[z] at hi;cases hi
        |some o=>rw[z] at hi;exact⟨o,rfl,Yu hi⟩
       have mp:=Ys e2;have Rt:(eS b one).take (i+1)=(eS b one).take i++[par]:=by rw[Y6,e2];rfl
       have Pj:one∈ib:=by rw[u5];exact Ym _ (sub _ (Ys e1))
       have kf9:ib.length<=64:=Yz (yH ok d9.nd λk hk=>tJ ok ma (u6 k hk)) im;refine bI ?_;by_cases rB:par∈ib
       ·obtain⟨ap,_,vp⟩:=vS d9.len rB;refine⟨_,rfl,_,rfl,ln,some (.ref ap),rfl,fK d9.at_ vp,_,rfl,cR (a_ ?_)⟩;refine⟨ib,ya,Bo,_,d9,Bp,u3,HJ,jD,u4,u5,Bq,λp hp=>?_,u6,rfl⟩;rw[Rt] at hp;rcases Yx.mp hp with hp|hp;·exact yb p hp
        ·rw[Yr.mp hp];exact rB
       ·obtain⟨ao,mao,vo⟩:=vS d9.len Pj;obtain⟨us,hao,ul,li⟩:=d9.Bk one ao vo;refine⟨_,rfl,_,rfl,ln,none,rfl,fK d9.at_ (qf d9.len rB),_,rfl,dk ?_⟩;refine⟨_,rfl,_,rfl,ln,.ref ao,rfl,fK d9.at_ vo,_,rfl,by show 1<=sizeLine;omega,λe1l HB neb gB heB=>?_⟩;refine⟨ao,e1l,us.map V.str,_,rfl,rfl,gB _ _ hao,heB,by rw[Ya];show us.length+1<=sizeLine;omega,λnl HC HK gC Ru=>?_⟩;have Rv:=gB.trans gC;refine⟨_,rfl,_,rfl,ln,_,.inr par,rfl,Rv _ _ d9.at_,rfl,?_,λHD bD eD=>?_⟩;·unfold gk;rw[Ya,Jb];omega
        rw[mN _ (qf d9.len rB),Ej par nl d9.len] at eD;have Gb:nl≠ln:=λz=>by rw[z,gB _ _ d9.at_] at HK;cases HK
        have kD:∀{c:Addr} {o:HO},HA c=some o->c≠ln->HD c=some o:=λ{c o} e n=>bD _ _ (Rv _ _ e) n;have Rw:HA nl=none:=gB.free HK;refine⟨_,rfl,.inl ⟨rfl,_,aj.of (kD u3 jD.2.1)⟩,_,rfl,fu,_,_,rfl,rfl,kD u3 jD.2.1,?_,λHE bE eE=>?_⟩
        ·rw[Ya];have:ya.length<=ib.length:=by rw[u5,Yl];omega
         omega
        have kE:∀{c:Addr} {o:HO},HA c=some o->c≠ln->c≠fu->HE c=some o:=λ{c o} e n1 n2=>bE _ _ (kD e n1) n2;have Gd:nl≠fu:=λz=>by rw[z,u3] at Rw;cases Rw
        refine⟨ib++[par],ya++[par],Bo++[nl],_,⟨λc o e=>?_,bE _ _ eD (λz=>jD.2.1 z.symm),by rw[Yl,Yl,d9.len];rfl,λc hc=>?_,?_,λk c h=>?_⟩,kE Bp jD.1 (λz=>jD.2.2.1 z.symm),?_,kE HJ jD.2.2.2.1 jD.2.2.2.2,jD,(λz=>by rcases Yx.mp z with z|z;exact u4 z;exact Gd (Yr.mp z).symm),by rw[u5,QS],λk hk p hp=>Ym _ (Bq k hk p hp),λp hp=>?_,λk hk=>?_,rfl⟩
        ·have nc:=cN e Rl;have ncf:c≠fu:=cN e ((la.same.free uY));exact kE (d9.same _ _ e) nc ncf
        ·rcases Yx.mp hc with hc|hc
         ·obtain⟨HL,e',z',n'⟩:=d9.lst c hc;have cf:c≠fu:=λz=>u4 (by rw[←z];exact hc);exact⟨HL,kE e' n' cf,by rw[Yl];omega,n'⟩
         ·rw[Yr.mp hc];exact⟨us.map V.str++[.str par],bE _ _ (bD _ _ Ru Gb) Gd,by rw[Yl,Yl,Ya];show us.length+1<=ib.length+1;omega,Gb⟩
        ·refine Jc.mpr ⟨d9.nd,by simp,λu hu v hv z=>?_⟩;have:v=par:=by simpa using hv
         exact rB (by rw[←this,←z];exact hu)
        ·rw[←Ej par nl d9.len,Lj] at h;by_cases hJ:k∈ib
         ·obtain⟨c',Rx,v'⟩:=vS d9.len hJ;rw[v'] at h;cases h;obtain⟨HL,e',z',li'⟩:=d9.Bk k _ v';obtain⟨_,_,_,n'⟩:=d9.lst _ Rx;have cf:c≠fu:=λz=>u4 (by rw[←z];exact Rx);exact⟨HL,kE e' n' cf,by rw[Yl];omega,li'⟩
         ·rw[qf d9.len hJ] at h;by_cases e:par=k
          ·subst e;have h':V.ref nl=V.ref c:=Yu ((iN (p:=((Sum.inr par:Key),V.ref nl)) (r:=[]) rfl).symm.trans h);cases h';exact⟨us++[par],by rw[Yq];exact bE _ _ (bD _ _ Ru Gb) Gd,by rw[Yl,Yl];show us.length+1<=ib.length+1;omega,.more li mp⟩
          ·exact absurd h (by rw[show bg [(Sum.inr par,V.ref nl)] (Sum.inr k)=none from qf (ks:=[par]) (as:=[nl]) rfl (λz=>e (Yr.mp z).symm)];exact λz=>nomatch z)
        ·rw[eE,Yq];rfl
        ·rw[Rt] at hp;rcases Yx.mp hp with hp|hp;·exact Ym _ (yb p hp)
         ·rw[Yr.mp hp];exact Yj _ Yh
        ·rcases Yx.mp hk with hk|hk;·exact u6 k hk
         ·rw[Yr.mp hk];exact .step (u6 one Pj) mp
      ·rintro σ HA ⟨ib,ya,Bo,q6,d9,Bp,u3,HJ,jD,u4,u5,Bq,yb,u6,rfl⟩;rw[Ya,Wq] at yb;refine⟨ib,ya,Bo,_,_,d9,Bp,u3,⟨jD.1,jD.2.1,jD.2.2.1⟩,u4,u5,λk hk=>?_,u6,rfl⟩;rw[tkj] at hk;rcases Yx.mp hk with hk|hk;·exact Bq k hk
       ·rw[Yr.mp hk];exact yb
     ·rintro σ H8 h8;rw[Ya] at h8;exact lD _ _ h8
    ·rintro σ H8 ⟨eI,fs,Bm,p5,p6,pT,Rp,x9,x_,Rq,ek,nZ,Bn,rfl⟩;rw[Wq] at nZ;refine⟨_,rfl,?_⟩;have kf8:eI.length<=64:=Yz (yH ok pT.nd λk hk=>tJ ok ma (Bn k hk)) im;have Ry:eI.length=ks.length+fs.length:=by rw[ek,Yl]
     refine⟨⟨eI,fs,Bm,fu,_,_,_,pT,x9,x_.2.1,λk hk=>by rw[ek];exact Yj _ hk,λk hk no p hp=>?_,Bn,by rw[ek];exact Ym _ Ro,by omega,rfl⟩,?_⟩
     ·rw[ek] at hk;rcases Yx.mp hk with hk|hk
      ·by_cases z:k∈ns;·exact nZ k z p hp
       ·rw[ek];exact Ym _ (cl k hk z p hp)
      ·exact absurd hk no
     ·rw[mu0];show wI ln 100 [some (.ref l.h),some (.str a),some (.ref ln),some (.ref fu),some (.ref fu),p5,p6] H8<_;unfold wI;have kl:(gk eI Bm).length=eI.length:=by unfold gk;rw[Ya,Jb];have:=pT.len;omega
      have g3:List.getD (α:=Option V) [some (.ref l.h),some (.str a),some (.ref ln),some (.ref fu),some (.ref fu),p5,p6] 3 none=some (.ref fu):=rfl;rw[pT.at_,g3];dsimp only;rw[x9,kl];cases fs with
      |nil=>
       show 2*(100-eI.length)+0<_;have:eI.length=ks.length+0:=Ry;omega
      |cons x r=>
       show 2*(100-eI.length)+1<_;have:eI.length=ks.length+(r.length+1):=Ry;omega
   ·have nse:ns=[]:=by
     cases ns with
     |nil=>rfl
     |cons x r=>exact absurd rfl c
    subst nse;refine iI _ _ ⟨ks,as,la,λz=>⟨λh=>sd z h,λh=>?_⟩,_,_,_,_,rfl⟩;induction h with
    |refl=>exact Ro
    |step _ m ih=>exact cl _ ih (λz=>nomatch z) _ m
  ·rintro σ H6 Q1 Q2 mo ⟨v1,w1,v2,w2,h⟩;exact⟨v1,w1,v2,w2,mo _ _ h⟩
 ·rintro σ H6 ⟨ks,as,la,iff,o3,o4,o5,o6,rfl⟩;exact⟨_,rfl,q ln ks as H6 la iff⟩
end
abbrev Rz(ll:Addr):List (Str×V):=[("word",.str "own elder"),("line",.ref ll)]
def Ot(c:Addr):Sp:=λvs H Q _=>∃(a p:Addr) (us:List Str),vs=[.ref a,.ref p]/\H a=some (xn a c none)/\H p=some (.lst (us.map V.str))/\
 ∀(d ll:Addr) (H':Hp),H d=none->d≠a->H ll=none->ll≠a->(∀b o,H b=some o->b≠a->H' b=some o)->H' a=some (xn a c (some d))->H' d=some (xq d (Rz ll))->H' ll=some (.lst (us.map V.str))->Q .aA H'
def pU(H:Hp)(C:Addr)(us:List Str)(E:XK):Prop:=∀(a d ll:Addr) (H':Hp),H a=none->H d=none->H ll=none->au H H'->H' a=some (xo a C (some d))->H' d=some (xq d (Rz ll))->H' ll=some (.lst (us.map V.str))->E (.ref C) (some d) H'
theorem pU.same{H H1:Hp}{C:Addr}{us:List Str}{E:XK}(x:pU H C us E)(g:au H H1):pU H1 C us E:=λa d ll H' h1 h2 h0 g' h3 h4=>x a d ll H' (g.free h1) (g.free h2) (g.free h0) (g.trans g') h3 h4
abbrev ug:List Str:=["self","line"]
def EF(P:Program)(w:World)(K:ag)(mg:aN)(base:Heap)(x:Str)(c:Addr):Prop:=
 ∃fi fd,nC K c fi/\aG P w K mg base aK 2 fi fd ug (Ot c)/\Binds K fd ug []/\mg x=some (.ref c)/\cZ K c/\cu K c "word"/\cu K c "line"
def Zam(c:Addr)(E:St->XK)(te:TE):TS:=λ_ σ H=>te σ H λv H1=>∃(p:Addr) (us:List Str),v=.ref p/\H1 p=some (.lst (us.map V.str))/\pU H1 c us (E σ)
theorem Xa{X:Cx}{j:Nat}{x:Str}{c:Addr}{E:St->XK}{e:Expr}{te:TE}{p pos cF:Pos}(h:EF X.prog X.w X.K X.mg X.base x c)(hr:bU j X.A)(hj:3<=j)(hc:X.calm=true)(hg:Gl X x)(hx:zI X E)(he:PE X e te)
  (eA:(x==("__debug__":Str))=false:=by decide)(dm:starEach [e] X.env=[(false,eval e X.env)]:=by rfl):
  PS X (.Raise (some (.Call (.Name x p) [e] [] cF)) none pos) (Zam c E te):=by
 obtain⟨fi,fd,xc,F,b,m,xa,na,nl⟩:=h;intro pins s σ H D I q;refine KJ xc F (hr.mono hj) hc hg m b .nil hx (aa (he.weak λσ _ v H1=>∃(p:Addr) (us:List Str),v=.ref p/\H1 p=some (.lst (us.map V.str))/\pU H1 c us (E σ)) ai dm) eA dm rfl pins s σ H D I ⟨q,?_⟩;rintro v H1 ⟨p',us,rfl,hp,xp⟩;refine⟨by show 1<=1000;omega,λa ha=>⟨a,p',us,rfl,aW,by rw[aF (cN hp ha)];exact hp,λd ll H' hd nd hl yc kp ea ed el=>⟨rfl,d,ea,?_⟩⟩⟩;have rJ:H1 d=none:=by rw[aF nd] at hd;exact hd
 have se:H1 ll=none:=by rw[aF yc] at hl;exact hl
 refine xp a d ll _ ha rJ se (λb o e=>?_) aW (by rw[aF nd];exact ed) (by rw[aF yc];exact el);have n1:=cN e ha;rw[aF n1];exact kp b o (by rw[aF n1];exact e) n1
theorem ZcM(ll:V):cw "line" ll [("word",V.str "own elder")]=([("word",.str "own elder"),("line",ll)]:List (Str×V)):=rfl
section
variable {K:ag}{mg:aN}{fk ck c:Addr}{xD:FuncData}{it:Value}
theorem Sz:aS ug ug (aJ sA):=.bc
theorem UO(F:aL K "__init__" "OwnElder.__init__" sA f fd)(sM:zK K ck "__init__" fk)(DC:aG P w K mg base aK 1 fk xD nS (Fp K))(vx:Binds K xD nS [it])(hit:RelV (.str "") it)(mF:mg "KinError"=some (.ref ck))(xa:cZ K c)(na:cu K c "word")(nl:cu K c "line")(bl:Bl mg):
  aG P w K mg base aK 2 f fd ug (Ot c):=by
 refine F.o Sz λs H hr h=>?_;obtain⟨a,p,us,rfl,ha,hp,q⟩:=h;refine⟨_,(aq (cq (KI sM DC (hr.mono (by omega)) rfl mF vx (.cons hit .nil) tV (aa (pv 0) (aa bR ai)))) (aw (LQ (pv 0) (fO (Th (K:=K) rfl) rfl bl.qu qh (aa (pv 1) ai))))),?_⟩;refine⟨_,rfl,a,c,_,Str.ofString "",rfl,ha,xa,na,by decide,by decide,λd hd nd=>?_⟩;have pa:p≠a:=λz=>by rw[z,ha] at hp;cases hp
 have pd:p≠d:=cN hp hd;obtain⟨H1,kj⟩:∃H1,H1=upd (upd H d (xq d [(Str.ofString "word",V.str (Str.ofString "own elder"))])) a (xn a c (some d)):=⟨_,rfl⟩;rw[←kj];have kX:H1 p=some (.lst (us.map V.str)):=by rw[kj,aF pa,aF pd];exact hp
 have HM:H1 a=some (xn a c (some d)):=by rw[kj,aW]
 have rJ:H1 d=some (xq d [(Str.ofString "word",V.str (Str.ofString "own elder"))]):=by rw[kj,aF nd,aW]
 refine⟨_,rfl,p,us.map V.str,rfl,.inl (aj.of kX),λll H2 kh g2 lE=>⟨_,rfl,a,c,rfl,xa,nl,.inr ⟨d,_,g2 _ _ HM,g2 _ _ rJ,nd,by show 1<1000;decide,?_⟩⟩⟩;have RA:ll≠a:=λz=>by rw[z,HM] at kh;cases kh
 have RB:ll≠d:=λz=>by rw[z,rJ] at kh;cases kh
 refine q d ll _ hd nd ?_ RA (λb o hb nb=>?_) (by rw[aF (λz=>nd z.symm)];exact g2 _ _ HM) (by rw[aW,ZcM]) (by rw[aF RB];exact lE)
 ·rw[kj,aF RA,aF RB] at kh;exact kh
 ·have bd:=cN hb hd;rw[aF bd];refine g2 _ _ ?_;rw[kj,aF nb,aF bd];exact hb
end
def dD(ps:dz)(i:Nat):Str:=(ps.getD i ("","")).2
theorem qg(nd:(ps.map (·.1)).Nodup)(hi:i<ps.length):bg (eG ps) (.inr (av ps i))=some (.str (dD ps i)):=by
 have kn:((eG ps).map (·.1)).Nodup:=by
  grind
 refine Mn kn (Yi.mpr ⟨ps[i],Wi hi,?_⟩);unfold av dD
 grind
def je(k h t:Str):Bool:=if k="mother" then decide (t="woman") else if k="father" then decide (t="man") else decide (k="sibling")||(decide (h="man")&&decide (t="woman"))
inductive EG(vs:List V)(H:Hp)(Q:VK)(E:XK):Prop
 |mk (k h t:Str) (aI:vs=[.str k,.str h,.str t]) (q:Q (.bl (je k h t)) H)
structure NG(b:BS)(k a:Str)(o:Str):Prop where
 par:bF k=true->[.inr k,.inr a]∉(bK b.ps b.fs).map (·.1)
 aQ:bF k=false->keyOf k a (.inr o)∉b.keys/\¬(k="sibling"/\a=o)
inductive NH(C CL CJ:Addr)(vs:List V)(H:Hp)(Q:VK)(E:XK):Prop
 |mk (l:BL) (b:BS) (xs ys:List Int) (k a o:Str) (aI:vs=[.ref l.h,.str k,.str a,.str o]) (ba:a9 H C CL CJ l xs ys b) (un:NG b k a o) (q:∀H',au H H'->Q (.bl false) H')
inductive Lk(C CL CJ:Addr)(vs:List V)(H:Hp)(Q:VK)(E:XK):Prop
 |mk (l:BL) (b:BS) (xs ys:List Int) (ch pa:Str) (aI:vs=[.ref l.h,.str ch,.str pa]) (ba:a9 H C CL CJ l xs ys b) (ok:cM xs ys b) (mp:pa∈b.ps.map (·.1)) (no:¬dJ b pa ch) (q:∀H',au H H'->Q .aA H')
structure t4(xs ys:List Int)(b:BS)(c:Fc):Prop where
 nf:O_ xs ys b c
 ns:c.k≠c_
 cJ:je c.k (dD b.ps c.one) (dD b.ps c.aQ.toNat)=true
 un:NG b c.k (av b.ps c.one) (av b.ps c.aQ.toNat)
 el:bF c.k=true->¬dJ b (av b.ps c.aQ.toNat) (av b.ps c.one)
inductive Ll(C CL CJ:Addr)(vs:List V)(H:Hp)(Q:VK)(E:XK):Prop
 |mk (l:BL) (b:BS) (xs ys:List Int) (c:Fc) (aI:vs=[.ref l.h,.str c.k,.str (av b.ps c.one),.str (av b.ps c.aQ.toNat)]) (ba:a9 H C CL CJ l xs ys b) (ok:cM xs ys b) (to:t4 xs ys b c) (q:∀H',au H H'->Q .aA H')
inductive NI(C CL CJ:Addr)(vs:List V)(H:Hp)(Q:VK)(E:XK):Prop
 |mk (l:BL) (b:BS) (xs ys:List Int) (c:Fc) (aI:vs=[.ref l.h,.str c.k,.str (av b.ps c.one),.str (av b.ps c.aQ.toNat)]) (ba:a9 H C CL CJ l xs ys b) (ok:cM xs ys b) (to:t4 xs ys b c) (dl:b.dn.length<200) (q:∀(l':BL) (H':Hp),bV H H' l l'->a9 H' C CL CJ l' xs ys (b.qL c)->Q (.int (b.co:Int)) H')
theorem iD(x y:Str):decide (V.str x=V.str y)=decide (x=y):=by
 grind
section
variable {K:ag}{mg:aN}{cS:Addr}
abbrev wJ:List Str:=["kind","here","there"]
theorem Uc:aS wJ wJ (aJ C2):=.bc
theorem Ud(F:aL K "sides_fit" "sides_fit" C2 f fd)(qM:mg "MAN"=some (.str "man" t1))(qm:mg "WOMAN"=some (.str "woman" t2))(jJ:mg "SIBLING"=some (.str "sibling" t3)):aG P w K mg base aK 1 f fd wJ EG:=by
 refine F.o Uc λs H hr h=>?_;obtain⟨k,h,t,rfl,q⟩:=h;refine⟨_,(aq (aV (bP c5 (pv 0) bR) (aw (aP (eC c5 (pv 2) (df (v:=.str "woman") rfl qm ⟨_,rfl⟩)))) aZ) (aq (aV (bP c5 (pv 0) bR) (aw (aP (eC c5 (pv 2) (df (v:=.str "man") rfl qM ⟨_,rfl⟩)))) aZ) (aw (aP (Fj (eC c5 (pv 0) (df (v:=.str "sibling") rfl jJ ⟨_,rfl⟩)) (m6 (qq (eC c5 (pv 1) (df (v:=.str "man") rfl qM ⟨_,rfl⟩)) (m6 (eC c5 (pv 2) (df (v:=.str "woman") rfl qm ⟨_,rfl⟩)))))))))),?_⟩;unfold je at q;refine⟨_,rfl,rfl,_,rfl,?_⟩;rw[iD];refine bb (λcc=>?_) (λcc=>a_ ?_)
 ·rw[if_pos (of_decide_eq_true cc)] at q;refine⟨_,rfl,rfl,?_⟩;rw[iD];exact q
 ·rw[if_neg (λz=>cc (decide_eq_true z))] at q;refine⟨_,rfl,rfl,_,rfl,?_⟩;rw[iD];refine bb (λc2=>?_) (λc2=>a_ ?_)
  ·rw[if_pos (of_decide_eq_true c2)] at q;refine⟨_,rfl,rfl,?_⟩;rw[iD];exact q
  ·rw[if_neg (λz=>c2 (decide_eq_true z))] at q;refine⟨_,rfl,rfl,_,rfl,?_⟩;rw[iD];refine bb (λc3=>?_) (λc3=>?_);·grind
   ·have e3:decide (k="sibling")=false:=by
     cases e:decide (k="sibling") with
     |true=>grind
     |false=>rfl
    rw[e3,Bool.false_or] at q;refine⟨_,rfl,rfl,_,rfl,?_⟩;rw[iD];refine bb (λc4=>?_) (λc4=>?_)
    ·rw[c4,J8] at q;refine⟨_,rfl,rfl,?_⟩;rw[iD];exact q
    ·grind
abbrev jW:List Str:=["hearth","kind","one","other"]
theorem HZ:aS jW jW (aJ ym):=.bc
theorem Zan(F:aL K "told_already" "told_already" ym f fd)(jJ:mg "SIBLING"=some (.str "sibling" t1))(eP:mg "PARENTS"=some (.ref cS))(qP:∀H,aE K H cS (fq.map V.str))(su:cv P w K mg base 1 "parent_of" C wH (DH C CL CJ))(sL:cv P w K mg base 2 "has" C kN (FA C CL CJ)):aG P w K mg base aK 3 f fd jW (NH C CL CJ):=by
 refine F.o HZ λs H hr h=>?_;obtain⟨l,b,xs,ys,k,a,o,rfl,ba,un,q⟩:=h;refine⟨_,(aq (aV (fP (kU (K:=K) rfl) (pv 1) (df (v:=.ref cS) rfl eP rfl) (by with_unfolding_all rfl)) (aw (aP (eC yT (cI su hr (by omega) (pv 0) (aa (pv 1) (aa (pv 2) ai))) kA))) aZ) (aw (aP (Fj (cI sL hr (by omega) (pv 0) (aa (pv 1) (aa (pv 2) (aa (pv 3) ai)))) (m6 (qq (eC c5 (pv 1) (df (v:=.str "sibling") rfl jJ ⟨_,rfl⟩)) (m6 (eC c5 (pv 2) (pv 3))))))))),?_⟩;obtain⟨dx,h1⟩:=ba.obj;refine⟨_,rfl,cS,_,rfl,.inr (qP _),rfl,rfl,_,rfl,?_⟩;try dsimp only
 rw[if_neg Yf,show dY (.str k) (fq.map V.str)=bF k from tO k];refine bb (λcc=>?_) (λcc=>a_ ?_)
 ·refine⟨_,rfl,l.h,dx,_,rfl,h1,rfl,_,rfl,_,rfl,l,b,xs,ys,k,a,rfl,ba,λH1 g1=>?_⟩;rw[oo (un.par cc)];exact⟨rfl,q H1 g1⟩
 ·have np:bF k=false:=by
   cases e:bF k with
   |true=>exact absurd e cc
   |false=>rfl
  obtain⟨u1,u2⟩:=un.aQ np;refine⟨_,rfl,l.h,dx,_,rfl,h1,rfl,_,rfl,_,rfl,_,rfl,l,b,xs,ys,k,a,.inr o,rfl,ba,λ_=>⟨o,rfl⟩,λH1 g1=>⟨_,rfl,?_⟩⟩;have e:b.told (keyOf k a (.inr o))=false:=by
   cases e:b.told (keyOf k a (.inr o)) with
   |true=>exact absurd ((YT _ _).mp e) u1
   |false=>rfl
  rw[e];refine cR ?_;refine⟨_,rfl,rfl,_,rfl,?_⟩;rw[iD];refine bb (λc3=>?_) (λc3=>?_)
  ·refine⟨_,rfl,_,rfl,rfl,?_⟩;rw[iD,decide_eq_false (λz=>u2 ⟨of_decide_eq_true c3,z⟩)];exact q H1 g1
  ·exact q H1 g1
abbrev wK:List Str:=["hearth","child","parent"]
theorem yk:aS ["hearth","child","parent","lines"] wK (aJ yn):=.bc
theorem SQ(F:aL K "check_elders" "check_elders" yn f fd)(sW:HasFn P w K mg base 2 "lines_up" Ai (EE C CL CJ)):aG P w K mg base aK 4 f fd wK (Lk C CL CJ):=by
 refine F.o yk λs H hr h=>?_;obtain⟨l,b,xs,ys,ch,pa,rfl,ba,ok,mp,no,q⟩:=h;refine⟨_,(aq (bM 3 yk.nd (aY sW hr (aa (pv 0) (aa (pv 2) ai)))) (aw (aV (qp (zr (bT hr) (pv 1) (pv 3)) (by with_unfolding_all rfl)) fG aZ))),?_⟩;refine⟨_,rfl,_,rfl,l,b,xs,ys,pa,rfl,ba,ok,mp,λp ks as H1 la iff=>bI ?_⟩;have nk:ch∉ks:=λz=>no ((iff ch).mp z);exact⟨_,rfl,_,rfl,p,none,rfl,fK la.at_ (qf la.len nk),_,rfl,cR (a_ (q H1 la.same))⟩
theorem Iq:aS jW jW (aJ yt):=.bc
theorem Ue(F:aL K "check_tie" "check_tie" yt f fd)(eP:mg "PARENTS"=some (.ref cS))(qP:∀H,aE K H cS (fq.map V.str))(mP:HasFn P w K mg base 1 "is_tie" ["kind"] za)(sQ:HasFn P w K mg base 1 "sides_fit" wJ EG)(oj:cv P w K mg base 1 "side_of" C nG (Eh C CL CJ))(vd:HasFn P w K mg base 3 "told_already" jW (NH C CL CJ))(ve:HasFn P w K mg base 4 "check_elders" wK (Lk C CL CJ)):aG P w K mg base aK 6 f fd jW (Ll C CL CJ):=by
 refine F.o Iq λs H hr h=>?_;obtain⟨l,b,xs,ys,c,rfl,ba,ok,to,q⟩:=h;refine⟨_,(aq (aV (eQ (di (aY mP hr (aa (pv 1) ai)))) fG aZ) (aq (aV (eQ (di (aY sQ hr (aa (pv 1) (aa (cI oj hr (by omega) (pv 0) (aa (pv 2) ai)) (aa (cI oj hr (by omega) (pv 0) (aa (pv 3) ai)) ai)))))) fG aZ) (aq (aV (di (aY vd hr (aa (pv 0) (aa (pv 1) (aa (pv 2) (aa (pv 3) ai)))))) fG aZ) (aw (aV (fP (kU (K:=K) rfl) (pv 1) (df (v:=.ref cS) rfl eP rfl) (by with_unfolding_all rfl)) (aw (cq (aY ve hr (aa (pv 0) (aa (pv 2) (aa (pv 3) ai)))))) aZ))))),?_⟩;obtain⟨dx,h1⟩:=ba.obj;obtain⟨r,dr,hs⟩:=Ip (to.nf.fg.Fz to.ns);have ht:kL nF c.k=true:=by unfold kL;rw[dr];rfl
 have om:=(to.nf.fg.ok.iJ to.ns).1.2;refine⟨_,rfl,c.k,rfl,_,rfl,?_⟩;rw[ht];refine⟨_,rfl,_,rfl,l.h,dx,_,rfl,h1,rfl,_,rfl,l,b,xs,ys,_,_,rfl,ba,qg ok.nm to.nf.fg.ok.one,⟨_,rfl,l.h,dx,_,rfl,h1,rfl,_,rfl,l,b,xs,ys,_,_,rfl,ba,qg ok.nm om,⟨c.k,_,_,rfl,_,rfl,?_⟩⟩⟩;rw[to.cJ];refine⟨_,rfl,_,rfl,_,rfl,_,rfl,l,b,xs,ys,c.k,_,_,rfl,ba,to.un,λH1 g1=>⟨_,rfl,cR (a_ ⟨_,rfl,cS,_,rfl,.inr (qP _),rfl,rfl,_,rfl,?_⟩)⟩⟩;rw[if_neg Yf,show dY (.str c.k) (fq.map V.str)=bF c.k from tO c.k];refine bb (λcc=>⟨_,rfl,_,rfl,_,rfl,l,b,xs,ys,_,_,rfl,ba.same g1,ok,qk om,to.el cc,λH2 g2=>q H2 (g1.trans g2)⟩) (λcc=>a_ (q H1 g1))
theorem Ii:aS kN kN (aJ yo):=.bc
theorem Zao(F:aL K "tie" "Hearth.tie" yo f fd)(hc:fH K C)(vv:HasFn P w K mg base 6 "check_tie" jW (Ll C CL CJ))(sH:cv P w K mg base 11 "keep" C qZ (Fe C CL CJ)):aG P w K mg base aK 12 f fd kN (NI C CL CJ):=by
 refine F.o Ii λs H hr h=>?_;obtain⟨l,b,xs,ys,c,rfl,ba,ok,to,dl,q⟩:=h;refine⟨_,(aq (cq (aY vv hr (aa (pv 0) (aa (pv 1) (aa (pv 2) (aa (pv 3) ai)))))) (aw (aP (cI sH hr (by omega) (pv 0) (aa (e_ (aa (pF K 0) (aa (pv 1) (aa (pv 2) (aa (pv 3) ai))))) ai))))),?_⟩;refine⟨_,rfl,_,rfl,_,rfl,_,rfl,l,b,xs,ys,c,rfl,ba,ok,to,λH1 g1=>?_⟩;have cj:=ba.same g1;obtain⟨dx,h1⟩:=cj.obj;refine⟨_,rfl,l.h,dx,_,rfl,h1,rfl,_,rfl,l.h,C,dx,_,_,rfl,h1,hc.cls,hc.oG,rfl,_,rfl,_,rfl,_,rfl,by show 4<=sizeLine;decide,λr H2 nr g2 hR=>?_⟩;have hf:eK H2 b.ps r (b.co,c):=by
  show H2 r=some (.tup ((dN b.ps b.co c).map kV));unfold dN;rw[lK to.ns];exact hR
 refine⟨l,b,xs,ys,r,c,rfl,cj.same g2,ok,hf,to.nf,dl,λl' H3 wt kg=>q l' H3 (bV.after (g1.trans g2) wt) kg⟩
end
theorem Zap{b:BS}{a z:Str}{us:List Str}(h:du b a z us):dJ b a z:=by
 induction h with
 |one=>exact .refl
 |more _ m ih=>exact .step ih m
abbrev eR(b:BS)(k a:Str):Prop:=[.inr k,.inr a]∈(bK b.ps b.fs).map (·.1)
inductive Mw(C CL CJ:Addr)(vs:List V)(H:Hp)(Q:VK)(E:XK):Prop
 |mk (l:BL) (b:BS) (xs ys:List Int) (k a o:Str) (aI:vs=[.ref l.h,.str k,.str a,.str o]) (ba:a9 H C CL CJ l xs ys b) (ok:cM xs ys b) (pk:bF k=true) (q:∀H',au H H'->∀c:Bool,(c=true↔eR b k a)->Q (.bl c) H')
inductive JE(C CL CJ c:Addr)(vs:List V)(H:Hp)(Q:VK)(E:XK):Prop
 |mk (l:BL) (b:BS) (xs ys:List Int) (ch pa:Str) (aI:vs=[.ref l.h,.str ch,.str pa]) (ba:a9 H C CL CJ l xs ys b) (ok:cM xs ys b) (mp:pa∈b.ps.map (·.1)) (q:¬dJ b pa ch->∀H',au H H'->Q .aA H') (x:∀us,us.length<=64->du b pa ch us->pU H c us E):JE C CL CJ c vs H Q E
def Kw(C CL CJ c:Addr):Sp:=λvs H Q E=>JE C CL CJ c vs H Q E
inductive Kx(C CL CJ cT cO:Addr)(vs:List V)(H:Hp)(Q:VK)(E:XK):Prop
 |mk (l:BL) (b:BS) (xs ys:List Int) (k:Str) (i j:Nat) (aI:vs=[.ref l.h,.str k,.str (av b.ps i),.str (av b.ps j)]) (ba:a9 H C CL CJ l xs ys b) (ok:cM xs ys b) (pk:bF k=true) (hi:i<b.ps.length) (hj:j<b.ps.length) (sd:je k (dD b.ps i) (dD b.ps j)=true) (nl:∀i,(av b.ps i).length<=1000)
  (q:¬eR b k (av b.ps i)->¬dJ b (av b.ps j) (av b.ps i)->∀H',au H H'->Q .aA H') (t:eR b k (av b.ps i)->XP H cT "told twice" E) (x:¬eR b k (av b.ps i)->∀us,us.length<=64->du b (av b.ps j) (av b.ps i) us->pU H cO us E):Kx C CL CJ cT cO vs H Q E
def Lm(C CL CJ cT cO:Addr):Sp:=λvs H Q E=>Kx C CL CJ cT cO vs H Q E
inductive Mx(C CL CJ cT cO:Addr)(vs:List V)(H:Hp)(Q:VK)(E:XK):Prop
 |mk (l:BL) (b:BS) (xs ys:List Int) (c:Fc) (aI:vs=[.ref l.h,.str c.k,.str (av b.ps c.one),.str (av b.ps c.aQ.toNat)]) (ba:a9 H C CL CJ l xs ys b) (ok:cM xs ys b) (pk:bF c.k=true) (hi:c.one<b.ps.length) (hj:c.aQ.toNat<b.ps.length) (sd:je c.k (dD b.ps c.one) (dD b.ps c.aQ.toNat)=true) (nl:∀i,(av b.ps i).length<=1000)
  (dl:b.dn.length<200) (nf:¬eR b c.k (av b.ps c.one)->¬dJ b (av b.ps c.aQ.toNat) (av b.ps c.one)->t4 xs ys b c) (q:¬eR b c.k (av b.ps c.one)->¬dJ b (av b.ps c.aQ.toNat) (av b.ps c.one)->∀(l':BL) (H':Hp),bV H H' l l'->a9 H' C CL CJ l' xs ys (b.qL c)->Q (.int (b.co:Int)) H')
  (t:eR b c.k (av b.ps c.one)->XP H cT "told twice" E) (x:¬eR b c.k (av b.ps c.one)->∀us,us.length<=64->du b (av b.ps c.aQ.toNat) (av b.ps c.one) us->pU H cO us E):Mx C CL CJ cT cO vs H Q E
def NJ(C CL CJ cT cO:Addr):Sp:=λvs H Q E=>Mx C CL CJ cT cO vs H Q E
section
variable {K:ag}{mg:aN}{cS gu dO:Addr}
theorem SA(F:aL K "told_already" "told_already" ym f fd){t1:Tok}(jJ:mg "SIBLING"=some (.str "sibling" t1))(eP:mg "PARENTS"=some (.ref cS))(qP:∀H,aE K H cS (fq.map V.str))(su:cv P w K mg base 1 "parent_of" C wH (DH C CL CJ))(sL:cv P w K mg base 2 "has" C kN (FA C CL CJ)):aG P w K mg base aK 3 f fd jW (Mw C CL CJ):=by
 refine F.o HZ λs H hr h=>?_;obtain⟨l,b,xs,ys,k,a,o,rfl,ba,ok,pk,q⟩:=h;refine⟨_,(aq (aV (fP (kU (K:=K) rfl) (pv 1) (df (v:=.ref cS) rfl eP rfl) (by with_unfolding_all rfl)) (aw (aP (eC yT (cI su hr (by omega) (pv 0) (aa (pv 1) (aa (pv 2) ai))) kA))) aZ) (aw (aP (Fj (cI sL hr (by omega) (pv 0) (aa (pv 1) (aa (pv 2) (aa (pv 3) ai)))) (m6 (qq (eC c5 (pv 1) (df (v:=.str "sibling") rfl jJ ⟨_,rfl⟩)) (m6 (eC c5 (pv 2) (pv 3))))))))),?_⟩;obtain⟨dx,h1⟩:=ba.obj;refine⟨_,rfl,cS,_,rfl,.inr (qP _),rfl,rfl,_,rfl,?_⟩;try dsimp only
 rw[if_neg Yf,show dY (.str k) (fq.map V.str)=bF k from tO k,pk];refine dk ?_;refine⟨_,rfl,l.h,dx,_,rfl,h1,rfl,_,rfl,_,rfl,l,b,xs,ys,k,a,rfl,ba,λH1 g1=>?_⟩;cases ev:bg (bK b.ps b.fs) [.inr k,.inr a] with
 |none=>
  refine⟨rfl,q H1 g1 false ⟨(λz=>nomatch z),λz=>?_⟩⟩;obtain⟨⟨k',v⟩,hm,e⟩:=Yi.mp z;have:=List.find?_eq_none.mp (show(bK b.ps b.fs).find? (λkv=>decide (kv.1=[.inr k,.inr a]))=none by
   unfold bg at ev;cases ef:(bK b.ps b.fs).find? λkv=>decide (kv.1=[.inr k,.inr a]) with
   |none=>rfl
   |some p=>rw[ef] at ev;cases ev) _ hm
  exact absurd (decide_eq_true e) this
 |some v=>
  obtain⟨p,_,_,_,_,e2,_⟩:=ED ok ev;subst e2;refine⟨rfl,q H1 g1 true ⟨λ_=>?_,λ_=>rfl⟩⟩;have ne:¬bg (bK b.ps b.fs) [.inr k,.inr a]=none:=by rw[ev];exact λz=>nomatch z
  exact Classical.byContradiction λn=>ne (oo n)
theorem SD(F:aL K "check_elders" "check_elders" yn f fd)(sW:HasFn P w K mg base 2 "lines_up" Ai (EE C CL CJ))(eO:EF P w K mg base "OwnElder" dO):aG P w K mg base (kR P w) 4 f fd wK (Kw C CL CJ dO):=by
 refine F.AB yk (λvs H Q E h=>?_) (λbh A outer s H vs Q E hr h=>?_)
 ·obtain⟨l,b,xs,ys,ch,pa,rfl,_⟩:=h;rfl
 obtain⟨l,b,xs,ys,ch,pa,rfl,ba,ok,mp,q,x⟩:=h;refine⟨_,(aq (bM 3 yk.nd (aY sW hr (aa (pv 0) (aa (pv 2) ai)))) (aw (aV (qp (zr (bT hr) (pv 1) (pv 3)) (by with_unfolding_all rfl)) (aw (Xa eO hr (by omega) rfl rfl zJ (d_ (bT hr) (pv 3) (pv 1) (λ_ _=>rfl)))) aZ))),?_⟩;refine⟨_,rfl,_,rfl,l,b,xs,ys,pa,rfl,ba,ok,mp,λp ks as H1 la iff=>bI ?_⟩;by_cases FE:ch∈ks
 ·obtain⟨c',mc,vc⟩:=vS la.len FE;obtain⟨us,Aq,ul,li⟩:=la.Bk ch c' vc;have kf:ks.length<=64:=Yz (yH ok la.nd λk hk=>tJ ok mp ((iff k).mp hk)) ok.m;exact⟨_,rfl,_,rfl,p,some (.ref c'),rfl,fK la.at_ vc,_,rfl,dk ⟨_,rfl,_,rfl,p,.ref c',rfl,fK la.at_ vc,c',us,rfl,Aq,(x us (by omega) li).same la.same⟩⟩
 ·exact⟨_,rfl,_,rfl,p,none,rfl,fK la.at_ (qf la.len FE),_,rfl,cR (a_ (q (λz=>FE ((iff ch).mpr z)) H1 la.same))⟩
theorem Tu(F:aL K "check_tie" "check_tie" yt f fd)(eP:mg "PARENTS"=some (.ref cS))(qP:∀H,aE K H cS (fq.map V.str))(mP:HasFn P w K mg base 1 "is_tie" ["kind"] za)(sQ:HasFn P w K mg base 1 "sides_fit" wJ EG)(oj:cv P w K mg base 1 "side_of" C nG (Eh C CL CJ))(Ck:HasFn P w K mg base 3 "told_already" jW (Mw C CL CJ))(Cm:FZ P w K mg base 4 "check_elders" wK (Kw C CL CJ dO))(EH:EW P w K mg base "Twice" "told twice" gu):
  aG P w K mg base (kR P w) 6 f fd jW (Lm C CL CJ gu dO):=by
 refine F.AB Iq (λvs H Q E h=>?_) (λbh A outer s H vs Q E hr h=>?_)
 ·obtain⟨l,b,xs,ys,k,i,j,rfl,_⟩:=h;rfl
 obtain⟨l,b,xs,ys,k,i,j,rfl,ba,ok,pk,hi,hj,sd,nl,q,tw,x⟩:=h;have vd:=Ck;have ve:=Cm;refine⟨_,(aq (aV (eQ (di (aY mP hr (aa (pv 1) ai)))) fG aZ) (aq (aV (eQ (di (aY sQ hr (aa (pv 1) (aa (cI oj hr (by omega) (pv 0) (aa (pv 2) ai)) (aa (cI oj hr (by omega) (pv 0) (aa (pv 3) ai)) ai)))))) fG aZ) (aq (aV (di (aY vd hr (aa (pv 0) (aa (pv 1) (aa (pv 2) (aa (pv 3) ai)))))) (aw (V8 EH hr (by omega) rfl rfl zJ (XE (vM (vY hr (pv 1)) (vM bR (vM (vY hr (pv 2)) (vM bR (vM (vY hr (pv 3)) Zbk)))))))) aZ) (aw (aV (fP (kU (K:=K) rfl) (pv 1) (df (v:=.ref cS) rfl eP rfl) (by with_unfolding_all rfl)) (aw (cq (M5 ve hr (by omega) zJ rfl (aa (pv 0) (aa (pv 2) (aa (pv 3) ai)))))) aZ))))),?_⟩;obtain⟨dx,h1⟩:=ba.obj;have lk:k.length<=1000/\kL nF k=true:=by
  unfold bF at pk;rcases RC.mp pk with z|z
  ·rw[of_decide_eq_true z];exact⟨by decide+kernel,by decide+kernel⟩
  ·rw[of_decide_eq_true z];exact⟨by decide+kernel,by decide+kernel⟩
 have li:=nl i;have lj:=nl j;have lim:(10000:Nat)<=sizeLine:=by rw[sizeLine_eq];omega
 refine⟨_,rfl,k,rfl,_,rfl,?_⟩;rw[lk.2];refine⟨_,rfl,_,rfl,l.h,dx,_,rfl,h1,rfl,_,rfl,l,b,xs,ys,_,_,rfl,ba,qg ok.nm hi,⟨_,rfl,l.h,dx,_,rfl,h1,rfl,_,rfl,l,b,xs,ys,_,_,rfl,ba,qg ok.nm hj,⟨k,_,_,rfl,_,rfl,?_⟩⟩⟩;rw[sd];refine⟨_,rfl,_,rfl,_,rfl,_,rfl,l,b,xs,ys,k,_,_,rfl,ba,ok,pk,λH1 g1 c hc=>⟨_,rfl,bb (λcc=>?_) (λcc=>a_ ?_)⟩⟩
 ·refine⟨_,rfl,.inl ⟨_,rfl,by omega,_,rfl,by omega,?_⟩⟩;refine⟨_,rfl,by decide,_,rfl,.inl ⟨_,rfl,by omega,_,rfl,by omega,_,rfl,by decide,_,rfl,.inl ⟨_,rfl,by omega,_,rfl,by omega,λz lz=>⟨z,rfl,?_,(tw (hc.mp cc)).same g1⟩⟩⟩⟩;have lz:z.length<=4000*5:=lz;omega
 have nt:¬eR b k (av b.ps i):=λz=>cc (hc.mpr z);refine⟨_,rfl,cS,_,rfl,.inr (qP _),rfl,rfl,_,rfl,?_⟩;rw[if_neg Yf,show dY (.str k) (fq.map V.str)=bF k from tO k,pk];refine dk ⟨_,rfl,_,rfl,_,rfl,l,b,xs,ys,_,_,rfl,ba.same g1,ok,qk hj,λna H2 g2=>q nt na H2 (g1.trans g2),λus ul l'=>(x nt us ul l').same g1⟩
theorem Za(F:aL K "tie" "Hearth.tie" yo f fd)(hc:fH K C)(Dj:FZ P w K mg base 6 "check_tie" jW (Lm C CL CJ gu dO))(sH:cv P w K mg base 11 "keep" C qZ (Fe C CL CJ)):aG P w K mg base (kR P w) 12 f fd kN (NJ C CL CJ gu dO):=by
 refine F.AB Ii (λvs H Q E h=>?_) (λbh A outer s H vs Q E hr h=>?_)
 ·obtain⟨l,b,xs,ys,c,rfl,_⟩:=h;rfl
 obtain⟨l,b,xs,ys,c,rfl,ba,ok,pk,hi,hj,sd,nl,dl,nf,q,tw,x⟩:=h;have vv:=Dj;refine⟨_,(aq (cq (M5 vv hr (by omega) zJ rfl (aa (pv 0) (aa (pv 1) (aa (pv 2) (aa (pv 3) ai)))))) (aw (aP (cI sH hr (by omega) (pv 0) (aa (e_ (aa (pF K 0) (aa (pv 1) (aa (pv 2) (aa (pv 3) ai))))) ai))))),?_⟩;refine⟨_,rfl,_,rfl,_,rfl,_,rfl,l,b,xs,ys,c.k,c.one,c.aQ.toNat,rfl,ba,ok,pk,hi,hj,sd,nl,λnt na H1 g1=>?_,tw,x⟩;have to:=nf nt na;have cj:=ba.same g1;obtain⟨dx,h1⟩:=cj.obj;refine⟨_,rfl,l.h,dx,_,rfl,h1,rfl,_,rfl,l.h,C,dx,_,_,rfl,h1,hc.cls,hc.oG,rfl,_,rfl,_,rfl,_,rfl,by show 4<=sizeLine;decide,λr H2 nr g2 hR=>?_⟩;have hf:eK H2 b.ps r (b.co,c):=by
  show H2 r=some (.tup ((dN b.ps b.co c).map kV));unfold dN;rw[lK to.ns];exact hR
 refine⟨l,b,xs,ys,r,c,rfl,cj.same g2,ok,hf,to.nf,dl,λl' H3 wt kg=>q nt na l' H3 (bV.after (g1.trans g2) wt) kg⟩
end
def RD(H:Hp)(ps:dz)(a:Addr)(c:Fc):Prop:=∃z:Int,H a=some (.tup [.int z,.str c.k,.str (av ps c.one),kV (cG ps c)])
def FL(H:Hp)(ps:dz)(fa:Addr)(F:List Fc):Prop:=∃as:List Addr,H fa=some (.lst (as.map V.ref))/\Paired (RD H ps) as F
theorem FL.get(h:FL H ps fa F):∃as:List Addr,H fa=some (.lst (as.map V.ref))/\as.length=F.length/\∀(H':Hp) (j:Nat) (v:V),au H H'->(as.map V.ref)[j]?=some v->∃(c0:Addr) (c:Fc) (z:Int),v=.ref c0/\F[j]?=some c/\F.take (j+1)=F.take j++[c]/\H' c0=some (.tup [.int z,.str c.k,.str (av ps c.one),kV (cG ps c)]):=by
 obtain⟨as,dv,gc⟩:=h;refine⟨as,dv,de gc,λH' j v g hj=>?_⟩;rw[Yg] at hj;obtain⟨c0,ec,rfl⟩:∃c0,as[j]?=some c0/\V.ref c0=v:=by
  cases e:as[j]? with
  |none=>grind
  |some c=>grind
 obtain⟨c,rT,z,hc⟩:=jI gc ec;exact⟨c0,c,z,rfl,rT,by rw[Y6,rT];rfl,g _ _ hc⟩
def Bt(t:TT)(σ:St)(H:Hp)(b:Bool):Prop:=∀k:Bool->Hp->Prop,(∀H',au H H'->k b H')->t σ H k
def Vt(t:TE)(σ:St)(H:Hp)(v:V):Prop:=∀k:VK,(∀H',au H H'->k v H')->t σ H k
section
variable {t u:TT}{e1 e2:TE}{σ:St}{H:Hp}{a b:Bool}{x y:V}
theorem Bt.and(h1:Bt t σ H a)(h2:∀H',a=true->au H H'->Bt u σ H' b):Bt (OB t u) σ H (a&&b):=λk hk=>h1 _ λH1 g1=>by
 cases a with
 |true=>exact dk (h2 H1 rfl g1 _ λH2 g2=>hk H2 (g1.trans g2))
 |false=>grind
theorem Vt.var(h:σ[i]?=some (some x)):Vt (nA i) σ H x:=λ_ hk=>⟨x,h,hk H (au.refl _)⟩
theorem Vt.test(h:Vt e1 σ H (.bl b)):Bt (Fm e1) σ H b:=λk hk=>h _ λH1 g1=>⟨b,rfl,hk H1 g1⟩
theorem Vt.eq(h1:Vt e1 σ H x)(h2:∀H',au H H'->Vt e2 σ H' y)(sc:FN x y=true):Vt (lW PB e1 e2) σ H (.bl (decide (x=y))):=λk hk=>h1 _ λH1 g1=>h2 H1 g1 _ λH2 g2=>⟨sc,hk H2 (g1.trans g2)⟩
theorem Vt.ZcN{K:ag}(h1:Vt e1 σ H (.str k)):Vt (lW (w8 K false) e1 (Od (jQ (tC (V.str "mother")) (jQ (tC (V.str "father")) kH)))) σ H (.bl (bF k)):=λq hk=>h1 _ λH1 g1=>by
 refine⟨by show 2<=sizeLine;rw[sizeLine_eq];omega,λp H2 np g2 hp=>⟨p,_,rfl,.inr (aE.of hp),rfl,rfl,?_⟩⟩;have e:dY (V.str k) [V.str "mother",V.str "father"]=bF k:=by
  rw[Wm];unfold dY bF;rw[Jv,Jv,List.any_nil,Bool.or_false,RE,RE,decide_eq_true_iff,decide_eq_true_iff];show((("mother":Str)==k)=true\/(("father":Str)==k)=true)↔_
  grind
 rw[e];exact hk H2 (g1.trans g2)
end
def Flat(o:V):Prop:=(∃z,o=.int z)\/∃z,o=.str z
theorem Zaq(k:Key):Flat (kV k):=by
 cases k with
 |inl z=>exact .inl ⟨z,rfl⟩
 |inr z=>exact .inr ⟨z,rfl⟩
theorem Ek(ok:cM xs ys b):y∈eS b a↔∃c∈b.F,bF c.k=true/\av b.ps c.one=a/\kV (cG b.ps c)=.str y:=by
 constructor
 ·intro h;obtain⟨v,hv,rfl⟩:=Yi.mp (show y∈(m_ b a).map strOf from h);unfold m_ at hv;obtain⟨k,_,e⟩:=Ji.mp hv;obtain⟨p,hp,h1,h2,h3,rfl,h5⟩:=ED ok e;have ns:p.2.k≠c_:=λz=>by
   rw[z] at h1;exact absurd h1 (by decide+kernel)
  exact⟨p.2,Yi.mpr ⟨p,hp,rfl⟩,h1,h3,by rw[lK ns];rfl⟩
 ·rintro⟨c,hc,h1,rfl,h3⟩;obtain⟨p,hp,rfl⟩:=Yi.mp (show c∈b.fs.map (·.2) from hc);have mm:(([.inr p.2.k,.inr (av b.ps p.2.one)]:List Key),kV (cG b.ps p.2))∈bK b.ps b.fs:=Yi.mpr ⟨p,Y3.mpr ⟨hp,h1⟩,rfl⟩;have e:=Mn ok.pr mm;refine Yi.mpr ⟨.str y,?_,rfl⟩;unfold m_;refine Ji.mpr ⟨p.2.k,?_,by rw[e,h3]⟩;unfold bF at h1;rw[RE,decide_eq_true_iff,decide_eq_true_iff] at h1;rcases h1 with z|z<;>rw[z];·exact Yh
  ·exact Yv _ Yh
structure u7(b:BS)(a:Str)(ks:List Str):Prop where
 nd:ks.Nodup
 sd:∀k∈ks,dJ b a k
 ma:a∈ks
theorem u7.len(u:u7 b a ks)(ok:cM xs ys b)(ma:a∈b.ps.map (·.1)):ks.length<=b.ps.length:=by
 have:=u.nd.length_le_of_subset (l₂:=b.ps.map (·.1)) λk hk=>tJ ok ma (u.sd k hk)
 grind
theorem u7.all(u:u7 b a ks)(cl:∀r,r<ks.length->∀k,ks[r]?=some k->∀p∈eS b k,p∈ks)(z:Str):z∈ks↔dJ b a z:=by
 refine⟨u.sd z,λh=>?_⟩;induction h with
 |refl=>exact u.ma
 |step _ hy ih=>
  obtain⟨r,hr,er⟩:=Wf.mp ih;exact cl r hr _ (by rw[Yb hr,er]) _ hy
inductive Aj(vs:List V)(H:Hp)(Q:VK)(E:XK):Prop
 |mk (fa:Addr) (xs ys:List Int) (b:BS) (a:Str) (aI:vs=[.ref fa,.str a]) (aX:FL H b.ps fa b.F) (ok:cM xs ys b) (ma:a∈b.ps.map (·.1)) (q:∀(p:Addr) (ks:List Str) (H':Hp),au H H'->H' p=some (.lst (ks.map V.str))->(∀z,z∈ks↔dJ b a z)->ks.length<=b.ps.length->Q (.ref p) H')
def muU(m:Nat):St->Hp->Nat:=λσ _=>match List.getD (α:=Option V) σ 3 none with|some (V.int z)=>m+1-z.toNat|_=>0
inductive RF(H:Hp)(b:BS)(a:Str)(fa gm:Addr)(σ:St)(H6:Hp):Prop
 |mk (ks:List Str) (r:Nat) (o4 o5 o6 o7:Option V) (g:au H H6) (hr:H6 gm=some (.lst (ks.map V.str))) (up:u7 b a ks) (rl:r<=ks.length) (cl:∀r',r'<r->∀k,ks[r']?=some k->∀p∈eS b k,p∈ks) (e:σ=[some (.ref fa),some (.str a),some (.ref gm),some (.int (r:Int)),o4,o5,o6,o7]):RF H b a fa gm σ H6
inductive HN(H:Hp)(b:BS)(a:Str)(fa gm:Addr)(r:Nat)(pS:List Str)(k:Str)(j:Nat)(σ:St)(H6:Hp):Prop
 |mk (ks tl:List Str) (o4 o5 o6 o7:Option V) (g:au H H6) (hr:H6 gm=some (.lst (ks.map V.str))) (up:u7 b a ks) (ek:ks=pS++tl) (cl:∀c∈b.F.take j,bF c.k=true->av b.ps c.one=k->∀y,kV (cG b.ps c)=.str y->y∈ks) (e:σ=[some (.ref fa),some (.str a),some (.ref gm),some (.int (r:Int)),o4,o5,o6,o7]):HN H b a fa gm r pS k j σ H6
theorem VG(h:Flat o):ij o=true:=by
 rcases h with⟨_,rfl⟩|⟨_,rfl⟩<;>rfl
theorem vF(ks:List Str):(ks.map V.str).all ij=true:=by
 rw[Wp];intro v hv;obtain⟨k,_,rfl⟩:=Yi.mp hv;rfl
theorem q5(y:Str)(ks:List Str):dY (.str y) (ks.map V.str)=true↔y∈ks:=by
 unfold dY;rw[Jr];constructor
 ·rintro⟨v,hv,e⟩;obtain⟨k,hk,rfl⟩:=Yi.mp hv;have:(k==y)=true:=e
  grind
 ·intro h;exact⟨.str y,Yi.mpr ⟨y,h,rfl⟩,by show(y==y)=true;rw[beq_iff_eq]⟩
section
variable {K:ag}{mg:aN}
abbrev wL:List Str:=["_law_facts","_law_name_here"]
theorem oB:aS ["_law_facts","_law_name_here","_law_row","_law_at","_law_number","_law_kind","_law_one","_law_other"] wL (aJ Ea):=.bc
theorem Xb(F:aL K "_law_up" "_law_up" Ea f fd)(bl:Bl mg):aG P w K mg base aK 1 f fd wL Aj:=by
 refine F.o oB λs H hr h=>?_;obtain⟨fa,xs,ys,b,a,rfl,rS,ok,ma,q⟩:=h;refine⟨_,(aq (bM 2 oB.nd (dM (aa (pv 1) ai))) (aq (bM 3 oB.nd aO) (aq (D2 PassesOwn.never (bP wb (pv 3) (dI K bl (pv 2))) (aq (jd PassesOwn.never rfl (gW (K:=K) rfl (pv 0)) (mY (K:=K) (n:=4) rfl rfl (c8 (cE 4 oB.nd) (c8 (cE 5 oB.nd) (c8 (cE 6 oB.nd) (c8 (cE 7 oB.nd) mU))))) (aw (aV (PW.pt (pw_and (fP (kU (K:=K) rfl) (pv 5) (e_ (aa bR (aa bR ai))) (by with_unfolding_all rfl)) (pw_and (bP c5 (pv 6) (a8 (iL K) (pv 2) (pv 3))) (pw_and1 (fP (tS (K:=K) rfl) (pv 7) (pv 2) (by with_unfolding_all rfl)))))) (aw (cq (qx (K:=K) rfl (oV plainAttrs_list PySem.F.slot_list_append PySem.F.type_list_append sT (pv 2) (aa (pv 7) ai))))) aZ))) (aw (ZaK (i:=3) oB.nd rfl (Or.inl rfl) aO ZaL)))) (aw (aP (pv 2)))))),?_⟩;have sz:(10000:Nat)<=sizeLine:=by rw[sizeLine_eq];omega
 obtain⟨as,dv,al,gt⟩:=rS.get;have m64:=ok.m;refine bZ ?_;refine⟨_,rfl,by show 1<=sizeLine;omega,λgm H1 nrw g1 hrw=>?_⟩;refine setC ?_;refine iP (λσ H6=>∃ks:List Str,au H H6/\H6 gm=some (.lst (ks.map V.str))/\(∀z,z∈ks↔dJ b a z)/\ks.length<=b.ps.length/\∃o3 o4 o5 o6 o7:Option V,σ=[some (.ref fa),some (.str a),some (.ref gm),o3,o4,o5,o6,o7]) (λuK iI=>?_) ?_
 ·refine D3 (RF H b a fa gm) (muU b.ps.length) ⟨[a],0,none,none,none,none,g1,hrw,⟨Y0.mpr ⟨(λz=>nomatch z),W9⟩,λk hk=>by rw[Yr.mp hk];exact .refl,Yh⟩,Yw _,λr hr=>absurd hr (Wy _),rfl⟩ ?_ ?_
  ·rintro σ H6 ⟨ks,r,o4,o5,o6,o7,g6,yd,up,rl,cl,rfl⟩;have kl:(ks.map V.str).length=ks.length:=Ya _;have gl:=up.len ok ma;refine⟨_,rfl,_,rfl,gm,_,rfl,.inl (aj.of yd),_,_,rfl,rfl,_,rfl,?_⟩;rw[kl];refine bb (λc=>?_) (λc=>?_)
   ·have HP:r<ks.length:=by have:=of_decide_eq_true c;omega
    obtain⟨k,ek⟩:∃k,ks[r]?=some k:=⟨_,Yb HP⟩;have mk:k∈ks:=Ys ek;refine iP (HN H b a fa gm r ks k b.F.length) (λBf lD=>?_) ?_
    ·refine⟨_,rfl,fa,rfl,⟨_,aj.of (g6 _ _ dv)⟩,qe (K:=K) (a:=fa) (xs:=as.map V.ref) (HN H b a fa gm r ks k) ⟨ks,[],o4,o5,o6,o7,g6,yd,up,by rw[We],λc hc=>(nomatch hc),rfl⟩ (λj σ H8 _ ⟨_,_,_,_,_,_,g,_,_,_,_,_⟩=>aj.of (g _ _ dv)) ?_ ?_⟩
     ·rintro j v σ H8 hj ⟨eI,tl,p4,p5,p6,p7,g8,u9,pV,e8,nZ,rfl⟩;obtain⟨c0,c,z,rfl,rT,tke,hc⟩:=gt H8 j v g8 hj;have mc:c∈b.F:=Ys rT;have Br:eI[r]?=some k:=by rw[e8,Y7 HP];exact ek
      have gl8:=pV.len ok ma;refine⟨c0,_,rfl,aE.of hc,rfl,_,_,rfl,bI ⟨_,_,rfl,bI ⟨_,_,rfl,bI ⟨_,_,rfl,bI ⟨rfl,?_⟩⟩⟩⟩⟩;refine(Bt.and (Vt.test (Vt.ZcN (k:=c.k) (Vt.var rfl))) λHA _ gA=>Bt.and (Vt.test (Vt.eq (x:=.str (av b.ps c.one)) (y:=.str k) (Vt.var rfl) (λHB gB kk hk=>⟨_,rfl,_,rfl,gm,_,_,_,rfl,rfl,aj.of (gB _ _ (gA _ _ u9)),bY (by rw[Yg,Br];rfl),hk _ (au.refl _)⟩) rfl)) λHB _ gB=>Vt.test (b:=!dY (kV (cG b.ps c)) (eI.map V.str)) λkk hk=>⟨_,rfl,_,rfl,gm,_,rfl,.inl (aj.of (gB _ _ (gA _ _ u9))),VG (Zaq _),vF _,hk _ (au.refl _)⟩) _ λH9 g9=>?_;rw[iD];have RG:∀ib:List Str,(∀x∈eI,x∈ib)->(bF c.k=true->av b.ps c.one=k->∀y,kV (cG b.ps c)=.str y->y∈ib)->∀c'∈b.F.take (j+1),bF c'.k=true->av b.ps c'.one=k->∀y,kV (cG b.ps c')=.str y->y∈ib:=λib sub hh c' m' h1 h2 y h3=>by
       rw[tke] at m';rcases Yx.mp m' with m'|m';·exact sub _ (nZ c' m' h1 h2 y h3)
       ·rw[Yr.mp m'] at h1 h2 h3;exact hh h1 h2 y h3
      refine bb (λcc=>?_) (λcc=>a_ ?_)
      ·rw[Jg,Jg,decide_eq_true_iff] at cc;obtain⟨c1,c2,c3⟩:=cc;have ns:c.k≠c_:=λz=>by rw[z] at c1;exact absurd c1 (by decide+kernel)
       have eo:kV (cG b.ps c)=.str (av b.ps c.aQ.toNat):=by rw[lK ns];rfl
       have RH:=g9 _ _ u9;refine⟨_,rfl,.inl ⟨rfl,_,aj.of RH⟩,_,rfl,gm,_,_,rfl,rfl,RH,by rw[Ya];omega,λpK b10 rM=>?_⟩;have no:av b.ps c.aQ.toNat∉eI:=λz=>by
        rw[eo,(q5 _ _).mpr z] at c3;cases c3
       refine⟨eI++[av b.ps c.aQ.toNat],tl++[av b.ps c.aQ.toNat],_,_,_,_,λd o e=>b10 _ _ (g9 _ _ (g8 _ _ e)) (cN e nrw),by rw[rM,Yq,eo];rfl,⟨?_,λx hx=>?_,Ym _ pV.ma⟩,by rw[e8,QS],RG _ (λx hx=>Ym _ hx) λ_ _ y hy=>?_,rfl⟩
       ·refine Jc.mpr ⟨pV.nd,by simp,λu hu w hw z=>?_⟩;rw[Yr] at hw;rw[z,hw] at hu;exact no hu
       ·rcases Yx.mp hx with hx|hx;·exact pV.sd x hx
        ·rw[Yr.mp hx];exact .step (pV.sd k (Ys Br)) ((Ek ok).mpr ⟨c,mc,c1,c2,eo⟩)
       ·rw[eo] at hy;rw[←V.str.inj hy];exact Yj _ Yh
      ·refine⟨eI,tl,_,_,_,_,g8.trans g9,g9 _ _ u9,pV,e8,RG _ (λ_ h=>h) λh1 h2 y h3=>?_,rfl⟩;rw[h1,J8,decide_eq_true h2,J8,h3] at cc;by_cases z:y∈eI;·exact z
       ·exact absurd (by rw[W1.mpr (λw=>z ((q5 _ _).mp w))];rfl) cc
     ·grind
    ·rintro σ H8 ⟨eI,tl,p4,p5,p6,p7,g8,u9,pV,e8,nZ,rfl⟩;rw[Wq] at nZ;have Br:eI[r]?=some k:=by rw[e8,Y7 HP];exact ek
     refine⟨_,rfl,_,_,rfl,rfl,?_⟩;refine⟨⟨eI,r+1,p4,p5,p6,p7,g8,u9,pV,by rw[e8,Yl];omega,λr' h' x hx p hp=>?_,rfl⟩,?_⟩
     ·by_cases z:r'=r
      ·rw[z,Br] at hx;cases hx;obtain⟨c,mc,h1,h2,h3⟩:=(Ek ok).mp hp;exact nZ c mc h1 h2 p h3
      ·rw[e8,Y7 (by omega)] at hx;rw[e8];exact Ym _ (cl r' (by omega) x hx p hp)
     ·show b.ps.length+1-(r+1)<b.ps.length+1-r;omega
   ·have re:¬((r:Int)<(ks.length:Int)):=λz=>c (decide_eq_true z);exact iI _ _ ⟨ks,g6,yd,up.all (λr' h'=>cl r' (by omega)),gl,_,_,_,_,_,rfl⟩
  ·rintro σ H6 Q1 Q2 mo ⟨v1,w1,v2,w2,v3,v4,w3,w4,v5,v6,w5,w6,v7,w7,h⟩;exact⟨v1,w1,v2,w2,v3,v4,w3,w4,v5,v6,w5,w6,v7,w7,mo _ _ h⟩
 rintro σ H6 ⟨ks,g6,yd,al,gl,o3,o4,o5,o6,o7,rfl⟩;exact⟨_,rfl,q gm ks H6 g6 yd al gl⟩
end
def jE(n:Nat):List Nat:=if n<10 then[48+n] else[48+n/10,48+n % 10]
def jF(n:Nat):Str:=.ofString (toString (n:Int))
theorem EI:∀n<61,(jF n).cps.toList=jE n:=by decide+kernel
def eY(k z:Nat):Nat:=if z/3 % 3=1 then 9 else(k*z+z) % 5
def jG(m:Nat):Str:=Txt.mul "q" (m:Int)
theorem Zar:∀m<10,(jG m).cps.toList=List.replicate m 113:=by decide+kernel
def sk:Str:="abcdefghijklmnopqrstuvwxyz"
theorem Ff:∀i<26,dy sk.cps.toList ((i:Nat):Int)=some (97+i):=by decide+kernel
def n_(i:Nat):Str:=⟨#[97+i]⟩
def cV(z k:Nat):Str:=if z % 3=0 then(n_ ((k*7+z) % 26)++jF (k/26))++jG (eY k z) else if z % 3=1 then(n_ (z % 26)++jG (eY k z))++jF ((k*17+z) % 61) else(n_ (z % 26)++jF ((k*17+z) % 61))++jG (eY k z)
theorem Fg(k z:Nat):eY k z<10:=by
 unfold eY;split<;>omega
theorem tP(a b:Str):(a++b).cps.toList=a.cps.toList++b.cps.toList:=Array.toList_append
theorem DZ(z k:Nat)(hk:k<60):(cV z k).cps.toList=if z % 3=0 then[97+(k*7+z) % 26,48+k/26]++List.replicate (eY k z) 113 else if z % 3=1 then(97+z % 26)::(List.replicate (eY k z) 113++jE ((k*17+z) % 61)) else(97+z % 26)::(jE ((k*17+z) % 61)++List.replicate (eY k z) 113):=by
 have f:=Zar _ (Fg k z);unfold cV;split
 ·rw[tP,tP,f,EI _ (by omega)];unfold jE;rw[if_pos (by omega)];rfl
 split
 ·rw[tP,tP,f,EI _ (by omega)];rfl
 ·rw[tP,tP,f,EI _ (by omega)];rfl
def HQ(l:List Nat):Nat:=l.foldl (λa c=>10*a+(c-48)) 0
theorem zR:HQ (jE n)=n:=by
 unfold jE;split;·exact(Nat.zero_add _).trans (Jy _ _)
 ·show 10*(10*0+(48+n/10-48))+(48+n % 10-48)=n;rw[Jy,Jy,Nat.mul_zero,Nat.zero_add,Nat.div_add_mod]
theorem NK(h:n<61):∀c∈jE n,48<=c/\c<58:=by
 unfold jE
 grind
theorem yy(h:n<61):(jE n).filter (λc=>decide (c<58))=jE n:=Qn.mpr λc hc=>decide_eq_true (NK h c hc).2
theorem yz(m:Nat):(List.replicate m 113).filter (λc=>decide (c<58))=[]:=by
 grind
theorem Xc(hk:k<60)(Qp:k'<60)(e:cV z k=cV z k'):k=k':=by
 have e:(cV z k).cps.toList=(cV z k').cps.toList:=by rw[e]
 rw[DZ z k hk,DZ z k' Qp] at e;by_cases h0:z % 3=0
 ·rw[if_pos h0,if_pos h0] at e;injection e with e1 e;injection e with e2 _;omega
 rw[if_neg h0,if_neg h0] at e;have key:(k*17+z) % 61=(k'*17+z) % 61->k=k':=λh=>by omega
 by_cases h1:z % 3=1
 ·rw[if_pos h1,if_pos h1] at e;injection e with _ e;have e2:=congrArg (List.filter λc=>decide (c<58)) e;rw[Wg,Wg,yz,yz,yy (by omega),yy (by omega),List.nil_append,List.nil_append] at e2;have e3:=congrArg HQ e2;rw[zR,zR] at e3;exact key e3
 ·rw[if_neg h1,if_neg h1] at e;injection e with _ e;have e2:=congrArg (List.filter λc=>decide (c<58)) e;rw[Wg,Wg,yz,yz,yy (by omega),yy (by omega),We,We] at e2;have e3:=congrArg HQ e2;rw[zR,zR] at e3;exact key e3
theorem NL:∀i<26,fF mR (97+i)=true/\fF kC (97+i)=true:=by decide+kernel
theorem NM:∀i<10,fF kC (48+i)=true:=by decide+kernel
theorem ZdX:fF kC 113=true:=by decide+kernel
theorem JG(hk:k<60):qK (cV z k)=true/\(cV z k).length<=12:=by
 have fl:=Fg k z;have rep:(List.replicate (eY k z) 113).all (fF kC)=true:=Wp.mpr λc hc=>by rw[List.eq_of_mem_replicate hc];exact ZdX
 have dg:∀n,n<61->(jE n).all (fF kC)=true/\(jE n).length<=2:=λn hn=>by
  refine⟨Wp.mpr λc hc=>?_,?_⟩
  ·have:=NK hn c hc;have e:=NM (c-48) (by omega)
   grind
  ·unfold jE;split<;>simp
 have len:(cV z k).length=(cV z k).cps.toList.length:=rfl;have c:=DZ z k hk;have main:∃(i:Nat) (r:List Nat),i<26/\(cV z k).cps.toList=(97+i)::r/\r.length<=11/\r.all (fF kC)=true:=by
  by_cases h0:z % 3=0
  ·rw[if_pos h0] at c;refine⟨_,_,by omega,c,?_,?_⟩
   ·show((48+k/26)::List.replicate (eY k z) 113).length<=11
    grind
   ·show((48+k/26)::List.replicate (eY k z) 113).all (fF kC)=true;rw[Jf,rep,NM _ (by omega)];rfl
  grind
 obtain⟨i,r,hi,e,lr,ar⟩:=main;have Bg:(cV z k).length<=12:=by
  grind
 refine⟨?_,Bg⟩;rw[Kv e,decide_eq_true Bg,(NL i hi).1,Jf,(NL i hi).2,ar];rfl
theorem Zas:∀m<10,(jG m).length<=9:=by decide+kernel
theorem My:∀n<61,(jF n).length<=2:=by decide+kernel
theorem EJ(a b:Str):(a++b).length=a.length+b.length:=Array.size_append
inductive NN(vs:List V)(H:Hp)(Q:VK)(E:XK):Prop
 |mk (k z:Nat) (aI:vs=[.int (k:Int),.int (z:Int)]) (hk:k<60) (hz:z<97) (q:Q (.str (cV z k)) H)
section
variable {K:ag}{mg:aN}
abbrev Ge:List Str:=["_law_k","_law_salt"]
theorem vw:aS ["_law_k","_law_salt","_law_letters","_law_fill","_law_number"] Ge (aJ DB):=.bc
theorem UP(F:aL K "_law_name" "_law_name" DB f fd)(bl:Bl mg):aG P w K mg base aK 1 f fd Ge NN:=by
 refine F.o vw λs H hr h=>?_;obtain⟨k,z,rfl,hk,hz,q⟩:=h;refine⟨_,(aq (bM 2 vw.nd bR) (aq (bM 3 vw.nd (bj L7 bR (bj fJ (bj ig (bj m7 (pv 0) (pv 1)) (pv 1)) aO))) (aq (bM 4 vw.nd (bj fJ (bj ig (bj m7 (pv 0) aO) (pv 1)) aO)) (aq (aV (bP c5 (bj fJ (bj Eo (pv 1) aO) aO) aO) (aw (bM 3 vw.nd (bj L7 bR aO))) aZ) (aq (aV (bP c5 (bj fJ (pv 1) aO) aO) (aw (aP (bj sR (bj sR (a8 vV (pv 2) (bj fJ (bj ig (bj m7 (pv 0) aO) (pv 1)) aO)) (fO Cz rfl bl.tY tR (aa (bj Eo (pv 0) aO) ai))) (pv 3)))) aZ) (aq (aV (bP c5 (bj fJ (pv 1) aO) aO) (aw (aP (bj sR (bj sR (a8 vV (pv 2) (bj fJ (pv 1) aO)) (pv 3)) (fO Cz rfl bl.tY tR (aa (pv 4) ai))))) aZ) (aw (aP (bj sR (bj sR (a8 vV (pv 2) (bj fJ (pv 1) aO)) (fO Cz rfl bl.tY tR (aa (pv 4) ai))) (pv 3)))))))))),?_⟩;have cm:wu (k:Int) (z:Int):=.inl ⟨by omega,by omega⟩;have RI:∀j:Int,wu (k:Int) j:=λj=>.inl ⟨by omega,by omega⟩;have c3:FK (z:Int) 3:=⟨by omega,by omega⟩;have c26:FK (k:Int) 26:=⟨by omega,by omega⟩;have sz:(10000:Nat)<=sizeLine:=by rw[sizeLine_eq];omega
 have RJ:((k:Int)*17+(z:Int)) % 61=(((k*17+z) % 61:Nat):Int):=by omega
 have m26:((k:Int)*7+(z:Int)) % 26=(((k*7+z) % 26:Nat):Int):=by omega
 have RK:(z:Int) % 26=((z % 26:Nat):Int):=by omega
 have d26:(k:Int)/26=((k/26:Nat):Int):=by omega
 have e5:((k:Int)*(z:Int)+(z:Int)) % 5=(((k*z+z) % 5:Nat):Int):=by rw[Int.natCast_emod,Int.natCast_add,Int.natCast_mul];rfl
 refine setC ?_;refine bZ ?_;refine⟨_,rfl,_,rfl,_,_,rfl,rfl,cm,_,rfl,_,_,rfl,rfl,_,_,rfl,rfl,by omega,"q",(k*z+z) % 5,rfl,congrArg V.int e5,by decide+kernel,by omega,?_⟩;refine bZ ?_;refine⟨_,rfl,_,_,rfl,rfl,RI _,_,rfl,_,_,rfl,rfl,_,_,rfl,rfl,by omega,?_⟩;refine zh (λσ H6=>H6=H/\σ=[some (.int (k:Int)),some (.int (z:Int)),some (.str sk),some (.str (jG (eY k z))),some (.int (((k*17+z) % 61:Nat):Int))]) (λBe rq=>?_) ?_
 ·refine⟨_,rfl,_,_,rfl,rfl,c3,_,_,rfl,rfl,by omega,rfl,_,rfl,bb (λc=>?_) (λc=>a_ ?_)⟩
  ·have c:=V.int.inj (of_decide_eq_true c);have c1:z/3 % 3=1:=by omega
   have fe:eY k z=9:=if_pos c1;refine⟨"q",9,rfl,rfl,by decide+kernel,by omega,bI (rq _ _ ⟨rfl,?_⟩)⟩;rw[fe,←RJ];rfl
  ·have c1:¬z/3 % 3=1:=λw=>c (decide_eq_true (congrArg V.int (by omega)));have fe:eY k z=(k*z+z) % 5:=if_neg c1;refine rq _ _ ⟨rfl,?_⟩;rw[fe,←RJ];rfl
 rintro σ H6 ⟨rfl,rfl⟩;have ls:=Zas _ (Fg k z);have ll:sk.length<=sizeLine:=Yz (show sk.length<=100 by decide+kernel) (by omega);have lg:∀n:Nat,n<61->(n:Int).natAbs.log2<1920:=λn hn=>W8 (Nat.log2_le_self _) (by omega);refine⟨_,rfl,_,_,rfl,rfl,by omega,rfl,_,rfl,bb (λc=>?_) (λc=>a_ ?_)⟩
 ·have h0:z % 3=0:=by have:=V.int.inj (of_decide_eq_true c);omega
  have ld:=My (k/26) (by omega);refine⟨_,rfl,_,rfl,_,_,rfl,rfl,RI _,_,rfl,_,_,rfl,rfl,_,_,rfl,rfl,by omega,sk,_,_,rfl,congrArg V.int m26,ll,Ff _ (by omega),_,rfl,_,_,rfl,rfl,c26,((k/26:Nat):Int),congrArg (λi=>[V.int i]) d26,lg _ (by omega),_,_,rfl,rfl,?_,_,rfl,_,_,rfl,rfl,?_,?_⟩
  ·show 1+(jF (k/26)).length<=sizeLine;omega
  ·show(n_ ((k*7+z) % 26)++jF (k/26)).length+(jG (eY k z)).length<=sizeLine;rw[EJ];show 1+_+_<=_;omega
  ·have e:cV z k=(n_ ((k*7+z) % 26)++jF (k/26))++jG (eY k z):=if_pos h0;rw[e] at q;exact q
 have h0:¬z % 3=0:=λw=>c (decide_eq_true (congrArg V.int (by omega)));have ld:=My ((k*17+z) % 61) (by omega);refine⟨_,rfl,_,_,rfl,rfl,by omega,rfl,_,rfl,bb (λc=>?_) (λc=>a_ ?_)⟩
 ·have h1:z % 3=1:=by have:=V.int.inj (of_decide_eq_true c);omega
  refine⟨_,rfl,_,rfl,_,_,rfl,rfl,by omega,sk,_,_,rfl,congrArg V.int RK,ll,Ff _ (by omega),_,rfl,_,_,rfl,rfl,?_,_,rfl,_,rfl,lg _ (by omega),_,_,rfl,rfl,?_,?_⟩
  ·show 1+(jG (eY k z)).length<=sizeLine;omega
  ·show(n_ (z % 26)++jG (eY k z)).length+(jF ((k*17+z) % 61)).length<=sizeLine;rw[EJ];show 1+_+_<=_;omega
  ·have e:cV z k=(n_ (z % 26)++jG (eY k z))++jF ((k*17+z) % 61):=(if_neg h0).trans (if_pos h1);rw[e] at q;exact q
 have h1:¬z % 3=1:=λw=>c (decide_eq_true (congrArg V.int (by omega)));refine⟨_,rfl,_,rfl,_,_,rfl,rfl,by omega,sk,_,_,rfl,congrArg V.int RK,ll,Ff _ (by omega),_,rfl,_,rfl,lg _ (by omega),_,_,rfl,rfl,?_,_,rfl,_,_,rfl,rfl,?_,?_⟩
 ·show 1+(jF ((k*17+z) % 61)).length<=sizeLine;omega
 ·show(n_ (z % 26)++jF ((k*17+z) % 61)).length+(jG (eY k z)).length<=sizeLine;rw[EJ];show 1+_+_<=_;omega
 ·have e:cV z k=(n_ (z % 26)++jF ((k*17+z) % 61))++jG (eY k z):=(if_neg h0).trans (if_neg h1);rw[e] at q;exact q
end
def jn(ps:dz)(F:List Fc)(k a:Str):Bool:=F.any λc=>decide (c.k=k)&&decide (av ps c.one=a)
inductive zd(vs:List V)(H:Hp)(Q:VK)(E:XK):Prop
 |mk (fa:Addr) (ps:dz) (F:List Fc) (k a:Str) (aI:vs=[.ref fa,.str k,.str a]) (aX:FL H ps fa F) (lf:F.length<=100) (q:∀H',au H H'->Q (.bl (jn ps F k a)) H')
inductive Ln(vs:List V)(H:Hp)(Q:VK)(E:XK):Prop
 |mk (ln fa:Addr) (xs ys:List Int) (b:BS) (us:List Str) (a z:Str) (aI:vs=[.ref ln,.ref fa,.str a,.str z]) (hl:H ln=some (.lst (us.map V.str))) (ul:us.length<=64) (aX:FL H b.ps fa b.F) (ok:cM xs ys b) (li:du b a z us) (q:∀H',au H H'->Q (.bl true) H')
theorem kinds_of{F:List Fc}{us:List V}{js:List Nat}(pr:Paired (λy j=>∃c,F[j]?=some c/\y=V.str c.k) us js):∃ks:List Str,us=ks.map V.str/\∀j c,j∈js->F[j]?=some c->c.k∈ks:=by
 induction pr with
 |nil=>exact⟨[],rfl,λj c h=>nomatch h⟩
 |@cons y j us js p _ ih=>
  obtain⟨ks,e,m⟩:=ih;obtain⟨c,ec,ey⟩:=p;refine⟨c.k::ks,by rw[ey,e];rfl,λj' c' h e'=>?_⟩;rcases Yp.mp h with rfl|h
  ·rw[ec] at e';cases e';exact Yh
  ·exact Yv _ (m j' c' h e')
theorem NO{b:BS}{a z:Str}{us:List Str}(h:du b a z us):us≠[]:=by
 cases h<;>simp
theorem Zb{b:BS}{a z:Str}{us:List Str}(h:du b a z us):us[0]?=some a:=by
 induction h with
 |one=>rfl
 |more l _ ih=>rw[Y7 (List.length_pos_iff.mpr (NO l))];exact ih
theorem Lo{b:BS}{a z:Str}{us:List Str}(h:du b a z us):us[us.length-1]?=some z:=by
 cases h with
 |one=>rfl
 |more l _=>simp
theorem Zc{b:BS}{a z:Str}{us:List Str}(h:du b a z us):∃r,us=r++[z]:=by
 cases h with
 |one=>exact⟨[],rfl⟩
 |more _ _=>exact⟨_,rfl⟩
theorem Zd{b:BS}{a z:Str}{us:List Str}(h:du b a z us):∀i u v,us[i]?=some u->us[i+1]?=some v->v∈eS b u:=by
 induction h with
 |one=>intro i u v _ h;simp at h
 |@more k y us l m ih=>
  intro i u v h1 h2;by_cases c:i+1<us.length
  ·rw[Y7 (by omega)] at h1;rw[Y7 c] at h2;exact ih i u v h1 h2
  ·have ll:i+1=us.length:=by
    have:=(Yk.mp h2).1;rw[Yl] at this;have:i+1<us.length+1:=this;omega
   rw[Jn (by omega),ll,Nat.sub_self] at h2;cases h2;rw[Y7 (by omega)] at h1;have:=Lo l;rw[show us.length-1=i by omega,h1] at this;cases this;exact m
section
variable {K:ag}{mg:aN}
abbrev uh:List Str:=["_law_facts","_law_kind","_law_one"]
theorem Tv:aS uh uh (aJ CD):=.bc
theorem Tw(F:aL K "_law_parent" "_law_parent" CD f fd):aG P w K mg base aK 1 f fd uh zd:=by
 refine F.o Tv λs H hr h=>?_;obtain⟨fa,ps,F,k,a,rfl,rS,lf,q⟩:=h;have hu:=hr.m8;refine⟨_,(aw (aP (eC (vO (K:=K) rfl (E2 hu)) (ku (x:="_law_fact") (fr:=[("_law_one",2),("_law_kind",1)]) (cl:=[("_law_one",s.heap.objs.size+1+1),("_law_kind",s.heap.objs.size+1)]) rfl (.gM ⟨rfl,⟨rfl,trivial⟩⟩ ⟨⟨rfl,.inl rfl,.inl rfl,rfl⟩,⟨⟨rfl,.inl rfl,.inl rfl,rfl⟩,trivial⟩⟩) (gW (K:=K) rfl (pv 0)) (λ_ _ _ _=>tK (PW.pt (pw_and (bP c5 (a8 (iT K) (pv 0) aO) (pv 2)) (pw_and1 (bP c5 (a8 (iT K) (pv 0) aO) (pv 1)))))) (λ_ _ _ _=>(pv 0))) (dM ai)))),?_⟩;obtain⟨as,dv,la,get⟩:=rS.get;refine⟨_,rfl,fa,rfl,⟨_,aj.of dv⟩,λD hD=>sS (K:=K) (aj.of dv) (by rw[Ya];omega) hD (λi=>(F[i]?.map λc=>decide (c.k=k)&&decide (av ps c.one=a)).getD false) (λ_ _ _=>True) (λ_ _ _ _ _ h=>h) (λi v hi H1 g1 _ Kt Kf kt kf=>?_) λus H1 g1 h1 pr=>?_⟩
 ·obtain⟨c0,c,z,rfl,ec,_,h0⟩:=get H1 i v g1 hi;have e:(F[i]?.map λc=>decide (c.k=k)&&decide (av ps c.one=a)).getD false=(decide (c.k=k)&&decide (av ps c.one=a)):=by rw[ec];rfl
  rw[e] at kt kf;refine⟨_,rfl,c0,_,_,_,rfl,rfl,aE.of h0,bY (j:=1) rfl,_,rfl,rfl,_,rfl,bb (λcc=>⟨_,rfl,c0,_,_,_,rfl,rfl,aE.of h0,bY (j:=2) rfl,_,rfl,rfl,_,rfl,bb (λc2=>⟨_,rfl,kt _ _ ?_ (au.refl _) trivial⟩) (λc2=>kf _ ?_ (au.refl _))⟩) (λcc=>cR (kf _ ?_ (au.refl _)))⟩;·rw[←iD,←iD,cc,c2];rfl
  ·rw[←iD,←iD,cc,W1.mpr c2];rfl
  ·rw[←iD,W1.mpr cc];rfl
 ·rw[Ya,la] at pr;refine⟨by show 0<=sizeLine;exact Yw _,λl0 H2 n0 g2 h2=>⟨D,l0,us,rfl,rfl,aj.of (g2 _ _ h1),aj.of h2,?_⟩⟩;have e:(if true=true then !us.isEmpty else us.isEmpty)=jn ps F k a:=by
   rw[if_pos rfl];have ll:=de pr;unfold jn;cases ha:F.any λc=>decide (c.k=k)&&decide (av ps c.one=a) with
   |true=>
    obtain⟨c,hc,e2⟩:=Jr.mp ha;obtain⟨i,hi,ei⟩:=Wf.mp hc;have mm:i∈(List.range F.length).filter λi=>(F[i]?.map λc=>decide (c.k=k)&&decide (av ps c.one=a)).getD false:=Y3.mpr ⟨Wd.mpr hi,by rw[Yb hi,ei];exact e2⟩;cases us with
    |nil=>rw[List.length_eq_zero_iff.mp ll.symm] at mm;cases mm
    |cons=>rfl
   |false=>
    have nil:(List.range F.length).filter (λi=>(F[i]?.map λc=>decide (c.k=k)&&decide (av ps c.one=a)).getD false)=[]:=List.filter_eq_nil_iff.mpr λi hi=>by
     have eV:=Wd.mp hi;rw[Yb eV];exact W1.mp (PD.mp ha|>λh=>W1.mpr (h _ (Wi eV)))
    rw[nil] at ll;cases us with
    |nil=>rfl
    |cons=>cases ll
  rw[e];exact q H2 (g1.trans g2)
abbrev Gf:List Str:=["_law_line","_law_facts","_law_begin","_law_goal"]
theorem BN:aS ["_law_line","_law_facts","_law_begin","_law_goal","_law_k","_law_kinds"] Gf (aJ BO):=.bc
theorem UQ(F:aL K "_law_line_holds" "_law_line_holds" BO f fd)(bl:Bl mg):aG P w K mg base aK 1 f fd Gf Ln:=by
 refine F.o BN λs H hr h=>?_;obtain⟨ln,fa,xs,ys,b,us,a,z,rfl,hl,ul,rS,ok,li,q⟩:=h;have hu:=hr.m8;refine⟨_,(aq (aV (PW.pt (pw_or (eQ (di (i8 K bl (pv 0) (iR rfl bl.qu qh)))) (pw_or (bP (vO (K:=K) rfl (Ng hu)) (pv 0) (dM ai)) (pw_or (bP jP (a8 (iL K) (pv 0) aO) (pv 2)) (pw_or1 (bP jP (a8 (iL K) (pv 0) (zC ze aO)) (pv 3))))))) (aw (aP fh)) aZ) (aq (jd PassesOwn.never rfl (qa rfl bl.kz (aa (dI K bl (pv 0)) ai)) (oH (i:=4) BN.nd rfl (Or.inr rfl)) (aq (aV (eQ (di (i8 K bl (a8 (iL K) (pv 0) (pv 4)) (iR rfl bl.tY tR)))) (aw (aP fh)) aZ) (aw (aV (bP Fl (pv 4) aO) (aq (Dr (i:=5) (x:="_law_fact") (fr:=[("_law_line",0),("_law_k",4)]) (cl:=[("_law_line",s.heap.objs.size+1),("_law_k",s.heap.objs.size+1+1)]) rfl BN.nd rfl (Or.inl rfl) (.gM ⟨rfl,⟨rfl,trivial⟩⟩ ⟨⟨rfl,.inl rfl,.inl rfl,rfl⟩,⟨⟨rfl,.inl rfl,.inl rfl,rfl⟩,trivial⟩⟩) (gW (K:=K) rfl (pv 1)) (λ_ _ _ _=>tK (bP (ZbI (K:=K) rfl hu) (yI (ZZ (K:=K) rfl) (pv 0) (yX aO) yW) (e_ (aa (a8 (iL K) (pv 1) (bj ML (pv 2) aO)) (aa (a8 (iL K) (pv 1) (pv 2)) ai))))) (λ_ _ _ _=>(a8 (iT K) (pv 0) aO))) (aw (aV (PW.pt (pw_and (fP (tS (K:=K) rfl) bR (pv 5) (by with_unfolding_all rfl)) (pw_and1 (fP (tS (K:=K) rfl) bR (pv 5) (by with_unfolding_all rfl))))) (aw (aP fh)) aZ))) aZ)))) (aw (aP fh)))),?_⟩;have lim:(10000:Nat)<=sizeLine:=by rw[sizeLine_eq];omega
 obtain⟨u0,ur,eu⟩:∃u0 ur,us=u0::ur:=by
  cases us with
  |nil=>exact absurd rfl (NO li)
  |cons u r=>exact⟨u,r,rfl⟩
 have hd:=Zb li;have lt:=Lo li;obtain⟨us1,eu1⟩:=Zc li;have ml:(us.map V.str)[0]?=some (.str a):=by rw[Yg,hd];rfl
 refine⟨_,rfl,_,_,_,true,rfl,.lst hl,M_,_,rfl,bb (λc=>by cases c) (λ_=>?_)⟩;refine⟨_,rfl,Yw _,λl0 H1 n0 g1 h0=>⟨ln,l0,us.map V.str,rfl,rfl,aj.of (g1 _ _ hl),aj.of h0,_,rfl,bb (λc=>?_) (λ_=>?_)⟩⟩
 ·rw[if_neg Yf,eu] at c;cases c
 have se:=g1 _ _ hl;refine⟨_,rfl,ln,_,_,_,rfl,rfl,aj.of se,bY (j:=0) ml,_,rfl,rfl,_,rfl,bb (λc=>?_) (λ_=>?_)⟩
 ·rw[decide_eq_true rfl] at c;cases c
 refine⟨_,rfl,_,rfl,ln,_,_,.str z,rfl,rfl,aj.of se,by rw[eu1,Yq];exact D5 _ _,_,rfl,rfl,_,rfl,bb (λc=>?_) (λ_=>a_ ?_)⟩
 ·rw[decide_eq_true rfl] at c;cases c
 obtain⟨as,dv,la,get⟩:=rS.get;have fl:=ok.fl;have lF:b.F.length<=63:=by show(b.fs.map (·.2)).length<=63;rw[Ya];exact fl
 refine iP (λ_ H'=>au H H') (λuK iI=>?_) (λσ H' g=>q H' g);refine⟨_,rfl,ln,_,rfl,.inl (aj.of se),_,rfl,by rw[Ya];omega,by rw[Ya];omega,yB (lo:=0) (n:=(((us.map V.str).length:Nat):Int).toNat) (λ_ σ H'=>au H H'/\∃o4 o5:Option V,σ=[some (.ref ln),some (.ref fa),some (.str a),some (.str z),o4,o5]) ⟨g1,none,none,rfl⟩ ?_ (λσ H' h=>iI _ _ h.1)⟩;rintro i σ H2 hi ⟨g2,o4,o5,rfl⟩;have eV:i<us.length:=by
  have:i<(((us.map V.str).length:Nat):Int).toNat:=hi;rw[Ya,Y5] at this;exact this
 have e0:(0:Int)+(i:Int)=(i:Int):=G3 _;rw[e0];have ui:=Yb eV;have mi:(us.map V.str)[i]?=some (.str us[i]):=by rw[Yg,ui];rfl
 refine bI ?_;refine⟨_,rfl,_,rfl,ln,_,_,_,rfl,rfl,aj.of (g2 _ _ hl),bY mi,_,_,_,true,rfl,.str _,EV,_,rfl,bb (λc=>by cases c) (λ_=>a_ ?_)⟩;refine⟨_,rfl,_,_,rfl,rfl,_,rfl,bb (λcc=>?_) (λ_=>a_ ⟨g2,_,_,rfl⟩)⟩;obtain⟨k,rfl⟩:∃k,i=k+1:=by
  have:=of_decide_eq_true cc;exact⟨i-1,by omega⟩
 have hk:k<us.length:=by omega
 have uk:=Yb hk;have mk:(us.map V.str)[k]?=some (.str us[k]):=by rw[Yg,uk];rfl
 have stp:=Zd li k _ _ uk ui;have ek:((k+1:Nat):Int)-1=(k:Int):=by omega
 obtain⟨c,hc,c1,c2,c3⟩:=(Ek ok).mp stp;refine bZ ?_;refine⟨_,rfl,fa,rfl,⟨_,aj.of (g2 _ _ dv)⟩,λD hD=>sS (K:=K) (aj.of (g2 _ _ dv)) (by rw[Ya];omega) hD (λj=>(b.F[j]?.map λc=>decide ([V.str (av b.ps c.one),kV (cG b.ps c)]=[V.str us[k],V.str us[k+1]])).getD false) (λj y _=>∃c,b.F[j]?=some c/\y=.str c.k) (λ_ _ _ _ _ h=>h) (λj v hj H3 g3 _ Kt Kf kt kf=>?_) λRL H3 g3 h3 pr=>?_⟩
 ·obtain⟨c0,c',z0,rfl,ec,_,h0⟩:=get H3 j v (g2.trans g3) hj;have e:(b.F[j]?.map λc=>decide ([V.str (av b.ps c.one),kV (cG b.ps c)]=[V.str us[k],V.str us[k+1]])).getD false=decide ([V.str (av b.ps c'.one),kV (cG b.ps c')]=[V.str us[k],V.str us[k+1]]):=by rw[ec];rfl
  rw[e] at kt kf;have Bs:=g3 _ _ (g2 _ _ hl);refine⟨_,rfl,_,rfl,c0,_,rfl,aE.of h0,λh=>absurd (show HT.bH 4 0 (some 2)=0 from h.1) (by decide),λp np=>?_⟩;have g4:=cY np (.tup (iV [V.int z0,V.str c'.k,V.str (av b.ps c'.one),kV (cG b.ps c')] (some 2) none));refine⟨_,rfl,_,rfl,_,_,rfl,rfl,ln,_,_,_,rfl,rfl,aj.of (g4 _ _ Bs),by rw[ek];exact bY mk,_,rfl,_,rfl,ln,_,_,_,rfl,rfl,aj.of (g4 _ _ Bs),bY mi,by show 2<=sizeLine;omega,λt H5 nt g5 ht=>?_⟩;refine⟨p,t,[V.str (av b.ps c'.one),kV (cG b.ps c')],[V.str us[k],V.str us[k+1]],rfl,rfl,aE.of (g5 _ _ aW),aE.of ht,?_,rfl,_,rfl,bb (λc1=>?_) (λc1=>?_)⟩;·cases cG b.ps c'<;>rfl
  ·rw[if_neg Yf] at c1;exact⟨_,rfl,c0,_,_,_,rfl,rfl,aE.of (g5 _ _ (g4 _ _ h0)),bY (j:=1) rfl,kt _ _ c1 (g4.trans g5) ⟨c',ec,rfl⟩⟩
  ·rw[if_neg Yf] at c1;exact kf _ (W1.mpr c1) (g4.trans g5)
 rw[Ya,la] at pr;obtain⟨ks,rfl,mks⟩:=kinds_of pr;have min:c.k∈ks:=by
  obtain⟨j,hj,ej⟩:=Wf.mp hc;have RM:b.F[j]?=some c:=by rw[Yb hj,ej]
  refine mks j c (Y3.mpr ⟨Wd.mpr hj,?_⟩) RM;rw[RM];exact decide_eq_true (by rw[c2,c3])
 have one:dY (.str "mother") (ks.map V.str)=true\/dY (.str "father") (ks.map V.str)=true:=by
  unfold bF at c1;rcases RC.mp c1 with z|z
  ·rw[of_decide_eq_true z] at min;exact .inl ((q5 _ _).mpr min)
  ·rw[of_decide_eq_true z] at min;exact .inr ((q5 _ _).mpr min)
 have fin:au H H3:=g2.trans g3;refine⟨_,rfl,D,_,rfl,.inl (aj.of h3),rfl,vF ks,_,rfl,?_⟩;rw[if_pos rfl];rcases one with o|o
 ·rw[o];exact⟨fin,_,_,rfl⟩
 ·refine bb (λ_=>⟨_,rfl,D,_,rfl,.inl (aj.of h3),rfl,vF ks,_,rfl,?_⟩) (λ_=>⟨fin,_,_,rfl⟩);rw[if_pos rfl,o];exact⟨fin,_,_,rfl⟩
end
inductive Lp(C CL CJ:Addr)(vs:List V)(H:Hp)(Q:VK):Prop
 |mk (l:BL) (b:BS) (xs ys:List Int) (c:Fc) (aI:vs=[.ref l.h,.str c.k,.str (av b.ps c.one),.str (av b.ps c.aQ.toNat)]) (ba:a9 H C CL CJ l xs ys b) (ok:cM xs ys b) (pk:bF c.k=true) (hi:c.one<b.ps.length) (hj:c.aQ.toNat<b.ps.length) (sd:je c.k (dD b.ps c.one) (dD b.ps c.aQ.toNat)=true) (nl:∀i,(av b.ps i).length<=1000)
  (dl:b.dn.length<200) (nf:¬eR b c.k (av b.ps c.one)->¬dJ b (av b.ps c.aQ.toNat) (av b.ps c.one)->t4 xs ys b c)
  (q:¬eR b c.k (av b.ps c.one)->¬dJ b (av b.ps c.aQ.toNat) (av b.ps c.one)->∀(l':BL) (p:Addr) (H':Hp),bV H H' l l'->a9 H' C CL CJ l' xs ys (b.qL c)->H' p=some (.tup [.str (Str.ofString "kept"),.int (b.co:Int)])->Q (.ref p) H')
  (t:eR b c.k (av b.ps c.one)->∀(p:Addr) (H':Hp),au H H'->H' p=some (.tup [.str (Str.ofString "refused"),.str (Str.ofString "told twice"),.str (Str.ofString "told twice")])->Q (.ref p) H')
  (x:¬eR b c.k (av b.ps c.one)->∀us,us.length<=64->du b (av b.ps c.aQ.toNat) (av b.ps c.one) us->∀(p ll:Addr) (H':Hp),au H H'->H ll=none->H' ll=some (.lst (us.map V.str))->H' p=some (.tup [.str (Str.ofString "own elder"),.ref ll,.str (Str.ofString "own elder")])->Q (.ref p) H'):Lp C CL CJ vs H Q
def EK(C CL CJ:Addr):Sp:=λvs H Q _=>Lp C CL CJ vs H Q
section
variable {K:ag}{mg:aN}{mI gu dO:Addr}
abbrev Ak:List Str:=["_law_book","_law_kind","_law_one","_law_other"]
theorem Ir:aS ["_law_book","_law_kind","_law_one","_law_other","e"] Ak (aJ C4):=.bc
theorem Ug(F:aL K "_law_asked" "_law_asked" C4 f fd)(CP:Nd P w K mg base 12 "tie" C kN (NJ C CL CJ gu dO))(mF:mg "KinError"=some (.ref mI))(DJ:cZ K mI)(yA:mg "OwnElder"=some (.ref dO))(oz:cZ K dO)(nw:cu K dO "word")(nl0:cu K dO "line")(qo:cZ K gu)(RN:cu K gu "word")
  (mr1:PySem.W.mroIn K dO (.ref dO)=some true)(mr2:PySem.W.mroIn K gu (.ref dO)=some false)(mr3:PySem.W.mroIn K gu (.ref mI)=some true):aG P w K mg base aK 14 f fd Ak (EK C CL CJ):=by
 refine F.o Ir @λbh A outer vs Q E s H hr h=>?_;obtain⟨l,b,xs,ys,c,rfl,ba,ok,pk,hi,hj,sd,nl,dl,nf,q,tw,x⟩:=h;have vq:=CP;refine⟨_,(aw (ZI (B1:=dO) (B2:=mI) (i:=4) ⟨rfl,rfl⟩ Ir.nd rfl rfl rfl yA oz rfl mF DJ (λpn xe E hx ow=>(aw (aP (e_ (aa bR (aa (Zbl vq hr (by omega) hx (pv 0) (aa (pv 1) (aa (pv 2) (aa (pv 3) ai)))) ai)))))) (λ_=>(aw (aP (e_ (aa bR (aa (yL (K:=K) rfl (pv 4)) (aa (yL (K:=K) rfl (pv 4)) ai))))))) (λ_=>(aw (aP (e_ (aa bR (aa (yL (K:=K) rfl (pv 4)) (aa (yL (K:=K) rfl (pv 4)) ai))))))))),?_⟩;obtain⟨dx,h1⟩:=ba.obj;refine⟨_,rfl,l.h,dx,_,rfl,h1,rfl,_,rfl,_,rfl,_,rfl,l,b,xs,ys,c,rfl,ba,ok,pk,hi,hj,sd,nl,dl,nf,λnt na l' H1 wt cj=>?_,λtold=>?_,λnt us ul li=>?_⟩;·exact⟨by show 2<=sizeLine;decide,λp H2 np g2 hp=>q nt na l' p H2 (wt.same g2) (cj.same g2) hp⟩
 ·intro a' d' H1 ha hd g h1 h2;refine⟨gu,d',rfl,rfl,qo,.inr ⟨mr2,mr3,λz' h3=>?_⟩⟩;refine⟨_,rfl,z',gu,d',_,_,rfl,h3,h2,qo,RN,rfl,_,rfl,z',gu,d',_,_,rfl,h3,h2,qo,RN,rfl,?_⟩;exact⟨by show 3<=sizeLine;decide,λp H4 np g4 hp=>tw told p H4 (g.trans g4) hp⟩
 ·intro a' d' ll H1 ha hd lE g h1 h2 h4;refine⟨dO,d',rfl,rfl,oz,.inl ⟨mr1,λz' h3=>?_⟩⟩;refine⟨_,rfl,z',dO,d',_,_,rfl,h3,h2,oz,nl0,rfl,_,rfl,z',dO,d',_,_,rfl,h3,h2,oz,nw,rfl,?_⟩;exact⟨by show 3<=sizeLine;decide,λp H4 np g4 hp=>x nt us ul li p ll H4 (g.trans g4) lE (g4 _ _ h4) hp⟩
end
theorem Ze{n:Nat}:bw (aH n) (aH n)=aH n:=by
 unfold bw;refine(Wt λx hx=>?_).trans (List.map_id _);obtain⟨i,hi,rfl⟩:=Yi.mp hx;have hi:=Wd.mp hi;rw[Yd,show((i:Int).toNat)=i from rfl,jK hi];rfl
theorem Zf(n:Nat):inv (aH n)=aH n:=by
 refine Ws λi=>?_;by_cases hi:i<n;·rw[vP (by rw[eZ];exact hi),jK hi,vE (vy (oM (List.Perm.refl (aH n)))) (jK hi)]
 ·rw[Y1 (by rw[gS,eZ];omega),Y1 (by rw[eZ];omega)]
def iE(n:Nat)(k:Str)(i j:Nat):Fc:=⟨k,i,(j:Int),aH n⟩
structure dA(C CL CJ:Addr)(H:Hp)(n z:Nat)(l:BL)(b:BS)(nl sd fl:Addr):Prop where
 ba:a9 H C CL CJ l (aH n) (aH n) b
 ok:cM (aH n) (aH n) b
 names:H nl=some (.lst (b.ps.map λp=>V.str p.1))
 n1:nl∉l.fp
 cJ:H sd=some (.dK (eG b.ps))
 n2:sd∉l.fp
 facts:∃as:List Addr,H fl=some (.lst (as.map V.ref))/\Paired (eK H b.ps) as b.fs
 n3:fl∉l.fp
 nm:b.ps.map (·.1)=(List.range b.ps.length).map (cV z)
 og:∀p∈b.ps,p.2="man"\/p.2="woman"
 par:∀p∈b.fs,bF p.2.k=true/\p.2.tn=aH n
 num:b.fs.map (·.1)=List.range b.fs.length
 np:2<=b.ps.length
theorem Mz{k:Str}(h:bF k=true):k="mother"\/k="father":=by
 unfold bF at h;rcases RC.mp h with z|z;·exact .inl (of_decide_eq_true z)
 ·exact .inr (of_decide_eq_true z)
theorem wa{k:Str}(h:bF k=true):k≠c_/\k≠"sibling":=by
 rcases Mz h with rfl|rfl<;>exact⟨by decide+kernel,by decide+kernel⟩
theorem MA{k a:Str}{o:Key}(h:bF k=true):keyOf k a o=[.inr k,.inr a,o]:=by
 have:=(wa h).2;cases o with
 |inl _=>rfl
 |inr _=>exact if_neg this
theorem dA.iJ{C CL CJ:Addr}{H:Hp}{n z:Nat}{l:BL}{b:BS}{nl sd fl:Addr}(s:dA C CL CJ H n z l b nl sd fl)(hn:2<=n){k:Str}{i j:Nat}(pk:bF k=true)(hi:i<b.ps.length)(hj:j<b.ps.length)(sf:je k (dD b.ps i) (dD b.ps j)=true)(lf:b.fs.length<63)
  (nt:¬eR b k (av b.ps i))(na:¬dJ b (av b.ps j) (av b.ps i)):t4 (aH n) (aH n) b (iE n k i j):=by
 have ns:=(wa pk).1;have Pk:=Zf n;have hJ:(k,aH n)∈qJ (aH n) (aH n):=by
  rcases Mz pk with rfl|rfl;·rw[qJ,Pk];exact Yh
  ·rw[qJ,Ze,Pk];exact Yv _ Yh
 have sat:∀c:Fc,bF c.k=true->c.tn=aH n->g_ (λ_=>0) c:=λc h e=>⟨λz=>absurd z (wa h).1,λ_=>by
  rw[e];exact(Ez ⟨Int.le_refl 0,by omega⟩).symm⟩
 refine⟨⟨⟨⟨hi,λ_=>⟨⟨by show(0:Int)<=(j:Int);omega,hj⟩,oM (List.Perm.refl _),by rw[eZ];exact eZ n⟩⟩,.inr hJ,λz=>absurd z ns⟩,λhm=>?_,λ_=>nt,⟨λ_=>0,λi _=>⟨Int.le_refl 0,by rw[eZ];show(0:Int)<(n:Int);omega⟩,λc hc=>?_⟩,lf⟩,ns,sf,⟨λ_=>nt,λh=>by rw[show(iE n k i j).k=k from rfl,pk] at h;cases h⟩,λ_=>na⟩
 ·obtain⟨p,hp,e⟩:=Yi.mp hm;have e:keyOf p.2.k (av b.ps p.2.one) (cG b.ps p.2)=keyOf k (av b.ps i) (cG b.ps (iE n k i j)):=e;rw[MA (s.par p hp).1,MA pk] at e;injection e with e1 e;injection e with e2 _;refine nt (Yi.mpr ⟨_,Yi.mpr ⟨p,Y3.mpr ⟨hp,(s.par p hp).1⟩,rfl⟩,?_⟩);show[Sum.inr p.2.k,Sum.inr (av b.ps p.2.one)]=_;rw[e1,e2]
 ·rcases Yx.mp hc with hc|hc
  ·obtain⟨p,hp,rfl⟩:=Yi.mp (show c∈b.fs.map (·.2) from hc);exact sat _ (s.par p hp).1 (s.par p hp).2
  ·rw[Yr.mp hc];exact sat _ pk rfl
theorem dA.same{C CL CJ:Addr}{H H':Hp}{n z:Nat}{l:BL}{b:BS}{nl sd fl:Addr}(g:au H H')(s:dA C CL CJ H n z l b nl sd fl):dA C CL CJ H' n z l b nl sd fl:=
 ⟨s.ba.same g,s.ok,g _ _ s.names,s.n1,g _ _ s.cJ,s.n2,let⟨as,h1,h2⟩:=s.facts;⟨as,g _ _ h1,L2.Paired.bp h2 λ_ _ e=>g _ _ e⟩,s.n3,s.nm,s.og,s.par,s.num,s.np⟩
theorem dA.FL{C CL CJ:Addr}{H:Hp}{n z:Nat}{l:BL}{b:BS}{nl sd fl:Addr}(s:dA C CL CJ H n z l b nl sd fl):FL H b.ps fl b.F:=by
 obtain⟨as,h1,h2⟩:=s.facts;refine⟨as,h1,?_⟩;have:∀{as:List Addr} {fs:List (Nat×Fc)},Paired (eK H b.ps) as fs->Paired (RD H b.ps) as (fs.map (·.2)):=λh=>by
  induction h with
  |nil=>exact .nil
  |cons e _ ih=>exact .cons ⟨_,e⟩ ih
 exact this h2
theorem dA.jn{C CL CJ:Addr}{H:Hp}{n z:Nat}{l:BL}{b:BS}{nl sd fl:Addr}(s:dA C CL CJ H n z l b nl sd fl){k a:Str}(pk:bF k=true):jn b.ps b.F k a=true↔eR b k a:=by
 unfold AO.jn;rw[Jr];constructor
 ·rintro⟨c,hc,e⟩;obtain⟨p,hp,rfl⟩:=Yi.mp (show c∈b.fs.map (·.2) from hc);obtain⟨e1,e2⟩:=Bool.and_eq_true_iff.mp e;refine Yi.mpr ⟨_,Yi.mpr ⟨p,Y3.mpr ⟨hp,(s.par p hp).1⟩,rfl⟩,?_⟩;show[Sum.inr p.2.k,Sum.inr (av b.ps p.2.one)]=_;rw[of_decide_eq_true e1,of_decide_eq_true e2]
 ·intro h;obtain⟨kv,hkv,e⟩:=Yi.mp h;obtain⟨p,hp,rfl⟩:=Yi.mp hkv;have e:[Sum.inr p.2.k,Sum.inr (av b.ps p.2.one)]=[(.inr k:Key),.inr a]:=e;injection e with e1 e;injection e with e2 _;exact⟨p.2,Yi.mpr ⟨p,(Y3.mp hp).1,rfl⟩,by rw[Jl e1,Jl e2];simp⟩
theorem Tx{α β:Type}{F:α->β->Prop}{as:List α}{bs:List β}(h:Paired F as bs){a:α}{b:β}(e:F a b):Paired F (as++[a]) (bs++[b]):=by
 induction h with
 |nil=>exact .cons e .nil
 |cons e1 _ ih=>exact .cons e1 ih
theorem Dk{X:Cx}:cU X (.type "int") (λxs H Q=>∃b:Bool,xs=[.bl b]/\Q (.int (if b=true then 1 else 0)) H):=by
 rintro pins s σ H xs us Q I r ⟨b,rfl,q⟩;obtain⟨u,rfl,rfl⟩:=vals1 r;exact call_int_bool ⟨.int (if b=true then 1 else 0),H,I.tok _,⟨_,rfl⟩,q⟩
section
variable {H H':Hp}{n z:Nat}{xs ys:List Int}{l l':BL}{b:BS}{nl sd fl:Addr}
theorem bV.off(w:bV H H' l l')(h:H a=some o)(n:a∉l.fp):H' a=some o/\a∉l'.fp:=
 ⟨w.out _ _ h n,λz=>(w.grow a z).elim n λq=>by rw[h] at q;cases q⟩
theorem bV.dw(w:bV H H' l l')(ba:a9 H C CL CJ l xs ys b)(h:H a=some (.tup us)):H' a=some (.tup us):=w.out _ _ h (ba.tup h)
theorem a9.fresh(ba:a9 H C CL CJ l xs ys b)(h:H a=none):a∉l.fp:=λz=>ba.there z h
theorem dA.F_(s:dA C CL CJ H n z l b nl sd fl)(hn:2<=n){k:Str}{i j:Nat}(pk:bF k=true)(to:t4 (aH n) (aH n) b (iE n k i j))(co:b.co=b.fs.length)(dl:b.dn.length<200){H1 H2:Hp}(wt:bV H H1 l l')(cj:a9 H1 C CL CJ l' (aH n) (aH n) (b.qL (iE n k i j)))(g:au H1 H2){as:List Addr}(ko:H fl=some (.lst (as.map V.ref)))(gc:Paired (eK H b.ps) as b.fs)
  {t fl':Addr}(ht:H2 t=some (.tup [.int (b.co:Int),.str k,.str (av b.ps i),.str (av b.ps j)]))(ye:H1 fl'=none)(wM:H2 fl'=some (.lst ((as++[t]).map V.ref))):dA C CL CJ H2 n z l' (b.qL (iE n k i j)) nl sd fl':=by
 have ns:=(wa pk).1;obtain⟨m1,m2⟩:=wt.off s.names s.n1;obtain⟨m3,m4⟩:=wt.off s.cJ s.n2;have hf:eK H2 b.ps t (b.co,iE n k i j):=by
  show H2 t=some (.tup ((dN b.ps b.co (iE n k i j)).map kV));unfold dN;rw[lK ns];exact ht
 refine⟨cj.same g,?_,g _ _ m1,m2,g _ _ m3,m4,⟨as++[t],wM,?_⟩,cj.fresh ye,s.nm,s.og,λp hp=>?_,?_,s.np⟩
 ·exact s.ok.F_ to.nf.fg (λm=>by
   obtain⟨p,hp,e⟩:=Yi.mp m;have:=s.ok.lt p hp;omega) to.nf.nk to.nf.np to.nf.lv to.nf.lim (co:=b.co+1) (J1 _) (W7 _) (by rw[Yl];show _+1<=200;omega) (Yw _)
 ·exact Tx (L2.Paired.bp gc λ_ _ e=>g _ _ (wt.dw s.ba e)) hf
 ·rcases Yx.mp hp with hp|hp;·exact s.par p hp
  ·rw[Yr.mp hp];exact⟨pk,rfl⟩
 ·show(b.fs++[(b.co,iE n k i j)]).map (·.1)=List.range (b.fs++[(b.co,iE n k i j)]).length;rw[Yq,Yl,s.num];show _++[b.co]=List.range (b.fs.length+1);rw[Jw,co]
end
inductive JH(C CL CJ:Addr)(vs:List V)(H:Hp)(Q:VK):Prop
 |mk (n z:Nat) (l:BL) (b:BS) (cl nl sd:Addr) (cs:List Int) (aI:vs=[.ref l.h,.ref cl,.ref nl,.ref sd]) (hn:2<=n) (hc:H cl=some (.lst (cs.map V.int))) (nc:cl∉l.fp) (lc:cs.length<=60) (s:∀fl H',au H H'->H fl=none->H' fl=some (.lst [])->dA C CL CJ H' n z l b nl sd fl) (nf:b.fs=[]) (co:b.co=0) (dl:b.dn.length<=40)
  (q:∀(l':BL) (b':BS) (fl:Addr) (H':Hp),bV H H' l l'->dA C CL CJ H' n z l' b' nl sd fl->b'.ps=b.ps->b'.co=b'.fs.length->b'.fs.length<=60->b'.dn.length<=100->Q (.ref fl) H'):JH C CL CJ vs H Q
def Ky(C CL CJ:Addr):Sp:=λvs H Q _=>JH C CL CJ vs H Q
section
variable {K:ag}{mg:aN}
abbrev Gg:List Str:=["_law_book","_law_cells","_law_names","_law_sides"]
theorem oq:aS ["_law_book","_law_cells","_law_names","_law_sides","_law_facts","_law_cell_here","_law_drawn","_law_one","_law_other","_law_kind"] Gg (aJ C5):=.bc
theorem Uh(F:aL K "_law_build" "_law_build" C5 f fd)(mE:HasFn P w K mg base 1 "_law_draws" xF (yZ K))(mC:HasFn P w K mg base 1 "_law_parent" uh zd)(mS:HasFn P w K mg base 1 "_law_up" wL Aj)(vq:cv P w K mg base 12 "tie" C kN (NI C CL CJ))(bl:Bl mg):aG P w K mg base aK 13 f fd Gg (Ky C CL CJ):=by
 refine F.o oq λs H hr h=>?_;obtain⟨n,z,l,b,cl,nl,sd,cs,rfl,hn,hc,nc,lc,s0,nf,co,dl,q⟩:=h;have hu:=hr.m8;refine⟨_,(aq (bM 4 oq.nd (dM ai)) (aq (jd PassesOwn.never rfl (gW (K:=K) rfl (pv 1)) (cE 5 oq.nd) (aq (bM 6 oq.nd (aY mE hr (aa (pv 5) (aa (dM (aa aO (aa aO ai))) ai)))) (aq (bM 7 oq.nd (a8 (iL K) (pv 2) (bj fJ (a8 (iL K) (pv 6) aO) (dI K bl (pv 2))))) (aq (bM 8 oq.nd (a8 (iL K) (pv 2) (bj fJ (a8 (iL K) (pv 6) aO) (dI K bl (pv 2))))) (aq (bM 9 oq.nd (a8 (iL K) (dM (aa bR (aa bR ai))) (fO Dk rfl bl.wc vW (aa (eC c5 (d_ (bT hr) (pv 3) (pv 8) (λ_ _=>rfl)) bR) ai)))) (aw (aV (PW.pt (pw_and (eQ (di (aY mC hr (aa (pv 4) (aa (pv 9) (aa (pv 7) ai)))))) (pw_and1 (fP (tS (K:=K) rfl) (pv 7) (aY mS hr (aa (pv 4) (aa (pv 8) ai))) (by with_unfolding_all rfl))))) (aq (aV (bP jP (cI vq hr (by omega) (pv 0) (aa (pv 9) (aa (pv 7) (aa (pv 8) ai)))) (dI K bl (pv 4))) (aw (aP kA)) aZ) (aw (bM 4 oq.nd (bj LZ (pv 4) (dM (aa (e_ (aa (dI K bl (pv 4)) (aa (pv 9) (aa (pv 7) (aa (pv 8) ai))))) ai)))))) aZ))))))) (aw (aP (pv 4))))),?_⟩;have lim:(10000:Nat)<=sizeLine:=by rw[sizeLine_eq];omega
 refine bZ ?_;refine⟨by show 0<=sizeLine;omega,λRO H1 nf0 g1 xK=>?_⟩;have AM:=s0 RO H1 g1 nf0 xK;dsimp only;refine iP (λσ H'=>∃(l':BL) (b':BS) (fl:Addr) (o5 o6 o7 o8 o9:Option V),bV H H' l l'/\dA C CL CJ H' n z l' b' nl sd fl/\b'.ps=b.ps/\b'.co=b'.fs.length/\b'.fs.length<=60/\b'.dn.length<=100/\σ=[some (.ref l.h),some (.ref cl),some (.ref nl),some (.ref sd),some (.ref fl),o5,o6,o7,o8,o9]) (λnx iI=>?_) ?_
 ·refine⟨_,rfl,cl,rfl,⟨_,aj.of (g1 _ _ hc)⟩,qe (K:=K) (a:=cl) (xs:=cs.map V.int) (λi σ H'=>∃(l':BL) (b':BS) (fl:Addr) (o5 o6 o7 o8 o9:Option V),bV H H' l l'/\dA C CL CJ H' n z l' b' nl sd fl/\b'.ps=b.ps/\b'.co=b'.fs.length/\b'.fs.length<=i/\b'.dn.length<=40+i/\σ=[some (.ref l.h),some (.ref cl),some (.ref nl),some (.ref sd),some (.ref fl),o5,o6,o7,o8,o9]) ⟨l,b,RO,none,none,none,none,none,bV.of g1,AM,rfl,by rw[co,nf];rfl,by rw[nf];exact Ye _,by omega,rfl⟩ (λi σ H' _ ⟨_,_,_,_,_,_,_,_,wt,_⟩=>aj.of (wt.off hc nc).1) (λi v σ H' hi ⟨l',b',fl,o5,o6,o7,o8,o9,wt,st,kq,iM,lf,ld,e⟩=>?_) (λσ H' ⟨l',b',fl,o5,o6,o7,o8,o9,wt,st,kq,iM,lf,ld,e⟩=>iI _ _ ⟨l',b',fl,o5,o6,o7,o8,o9,wt,st,kq,iM,by rw[Ya] at lf;omega,by rw[Ya] at ld;omega,e⟩)⟩;obtain⟨cc,rfl,hci⟩:=mW hi;have dZ:i<cs.length:=(Yk.mp hci).1;subst e;have np:=st.np;refine bI (bZ ?_);refine⟨_,rfl,by show 2<=sizeLine;omega,λpl H2 uZ g2 bG=>⟨cc,pl,[61,59],rfl,aj.of bG,by decide,by decide,λdr ds H3 nd g3 sr bd=>?_⟩⟩;obtain⟨d0,d1,rfl⟩:∃d0 d1,ds=[d0,d1]:=by
   cases bd with
   |cons _ bd=>
    cases bd with
    |cons _ bd=>
     cases bd;exact⟨_,_,rfl⟩
  have s3:=st.same (g2.trans g3);have Gh:(b'.ps.map λp=>V.str p.1).length=b'.ps.length:=Ya _;have pos:(0:Int)<(((b'.ps.map λp=>V.str p.1).length:Nat):Int):=by rw[Gh];omega
  have ix:∀d:Int,∃j:Nat,j<b'.ps.length/\dy (b'.ps.map λp=>V.str p.1) (d % (((b'.ps.map λp=>V.str p.1).length:Nat):Int))=some (.str (av b'.ps j)):=λd=>by
   have h1:=W4 d (show(((b'.ps.map λp=>V.str p.1).length:Nat):Int)≠0 by omega);have h2:=Wo d pos;obtain⟨j,ej⟩:∃j:Nat,d % (((b'.ps.map λp=>V.str p.1).length:Nat):Int)=(j:Int):=⟨_,(W5 h1).symm⟩;rw[ej] at h2⊢;have hj:j<b'.ps.length:=by omega
   refine⟨j,hj,bY ?_⟩;rw[Yg,Yb hj];unfold av;rw[Yd,Yb hj];rfl
  obtain⟨i1,uP,a1⟩:=ix d0;obtain⟨j1,yf,a2⟩:=ix d1;refine bZ ?_;refine⟨_,rfl,_,rfl,dr,_,_,_,rfl,rfl,aj.of sr,bY (j:=0) rfl,_,rfl,nl,_,rfl,.inl (aj.of s3.names),_,_,rfl,rfl,pos,nl,_,_,_,rfl,rfl,aj.of s3.names,a1,?_⟩;refine bZ ?_;refine⟨_,rfl,_,rfl,dr,_,_,_,rfl,rfl,aj.of sr,bY (j:=1) rfl,_,rfl,nl,_,rfl,.inl (aj.of s3.names),_,_,rfl,rfl,pos,nl,_,_,_,rfl,rfl,aj.of s3.names,a2,?_⟩;refine bZ ?_;refine⟨by show 2<=sizeLine;omega,λl2 H4 A4 g4 rA=>?_⟩;have s4:=s3.same g4;refine⟨_,rfl,_,rfl,sd,.str (dD b'.ps j1),rfl,fK s4.cJ (qg s4.ok.nm yf),rfl,_,rfl,?_⟩;have sj:dD b'.ps j1="man"\/dD b'.ps j1="woman":=by
   have:=s4.og b'.ps[j1] (Wi yf);unfold dD;rw[Yd,Yb yf];exact this
  obtain⟨k,ak,pk,sf⟩:∃k:Str,dy [V.str (Str.ofString "mother"),V.str (Str.ofString "father")] (if decide (V.str (dD b'.ps j1)=V.str (Str.ofString "man"))=true then 1 else 0)=some (.str k)/\bF k=true/\je k (dD b'.ps i1) (dD b'.ps j1)=true:=by
   rcases sj with e|e;·exact⟨"father",by rw[e,if_pos (decide_eq_true rfl)];exact bY (j:=1) rfl,by decide+kernel,by rw[e];unfold je;rw[if_neg (by decide+kernel),if_pos rfl];exact decide_eq_true rfl⟩
   ·exact⟨"mother",by rw[e,if_neg (by decide+kernel)];exact bY (j:=0) rfl,by decide+kernel,by rw[e];unfold je;rw[if_pos rfl];exact decide_eq_true rfl⟩
  refine⟨l2,_,_,_,rfl,rfl,aj.of rA,ak,?_⟩;have lF:b'.F.length<=100:=by show(b'.fs.map (·.2)).length<=100;rw[Ya];omega
  have HR:=(g2.trans g3).trans g4;refine⟨_,rfl,_,rfl,_,rfl,fl,b'.ps,b'.F,k,av b'.ps i1,rfl,s4.FL,lF,λH5 g5=>⟨_,rfl,bb (λc1=>?_) (λc1=>cR (a_ ⟨l',b',fl,_,_,_,_,_,wt.same (HR.trans g5),s4.same g5,kq,iM,by omega,by omega,rfl⟩))⟩⟩;have nt:¬eR b' k (av b'.ps i1):=λh=>by
   rw[(s4.jn pk).mpr h] at c1;cases c1
  have s5:=s4.same g5;refine⟨_,rfl,_,rfl,_,rfl,fl,aH n,aH n,b',av b'.ps j1,rfl,s5.FL,s5.ok,qk yf,λp ks H6 g6 hp iff _=>⟨p,_,rfl,.inl (aj.of hp),rfl,vF ks,_,rfl,bb (λc2=>?_) (λc2=>a_ ⟨l',b',fl,_,_,_,_,_,wt.same ((HR.trans g5).trans g6),s5.same g6,kq,iM,by omega,by omega,rfl⟩)⟩⟩;have na:¬dJ b' (av b'.ps j1) (av b'.ps i1):=λh=>by
   rw[if_pos rfl,(q5 _ _).mpr ((iff _).mpr h)] at c2;cases c2
  have s6:=s5.same g6;have yg:=wt.same ((HR.trans g5).trans g6);have to:=s6.iJ hn pk uP yf sf (by omega) nt na;obtain⟨dx,h6⟩:=s6.ba.obj;have eh:=yg.h;rw[eh] at h6;obtain⟨as,ko,gc⟩:=s6.facts;have la:as.length=b'.fs.length:=de gc;refine⟨_,rfl,l.h,dx,_,rfl,h6,rfl,_,rfl,_,rfl,_,rfl,l',b',aH n,aH n,iE n k i1 j1,by rw[eh];rfl,s6.ba,s6.ok,to,by omega,λoh H7 HS ba7=>?_⟩;have Gi:=(HS.off ko s6.n3).1;refine⟨_,rfl,fl,_,rfl,.inl (aj.of Gi),rfl,_,rfl,bb (λc3=>?_) (λ_=>a_ ?_)⟩
  ·rw[Ya,la,←iM,decide_eq_true rfl] at c3;cases c3
  refine⟨_,rfl,_,rfl,fl,_,rfl,.inl (aj.of Gi),_,rfl,_,rfl,_,rfl,by show 4<=sizeLine;omega,λtu H8 ntu g8 RP=>⟨by show 1<=sizeLine;omega,λl1 H9 nl1 g9 se=>⟨fl,l1,_,_,rfl,rfl,g9 _ _ (g8 _ _ Gi),se,by rw[Ya];show _+1<=_;omega,λfl' HA ZdY gA wM=>bI ?_⟩⟩⟩;have RQ:=(g8.trans g9).trans gA;rw[Ya,la,←iM] at RP;have s7:=s6.F_ hn pk to iM (by omega) HS ba7 RQ ko gc (t:=tu) (fl':=fl') ((g9.trans gA) _ _ RP) ((g8.trans g9).free ZdY) (by rw[wM,Yq];rfl);refine⟨oh,b'.qL (iE n k i1 j1),fl',_,_,_,_,_,(yg.trans HS).same RQ,s7,kq,?_,?_,?_,rfl⟩
  ·show b'.co+1=(b'.fs++[_]).length;rw[Yl,iM];rfl
  ·show(b'.fs++[_]).length<=i+1;rw[Yl];exact Qv lf
  ·show(b'.dn++[_]).length<=40+(i+1);rw[Yl];exact Qv ld
 ·rintro σ H' ⟨l',b',fl,o5,o6,o7,o8,o9,wt,st,kq,iM,lf,ld,rfl⟩;exact⟨_,rfl,q l' b' fl H' wt st kq iM lf ld⟩
end
def Bu:Key->Dt
 |.inl i=>.int i
 |.inr z=>.str z
def RS(ps:dz)(fs:List (Nat×Fc)):Dt:=.lst (fs.map λp=>.tup ((dN ps p.1 p.2).map Bu))
theorem ZbU(H:Hp)(m:Nat)(k:Key):At H m (kV k) (Bu k):=by
 cases k<;>(unfold Bu At;rfl)
theorem MB(H:Hp)(m:Nat):∀ks:List Key,Paired (At H m) (ks.map kV) (ks.map Bu)
 |[]=>.nil
 |k::ks=>.cons (ZbU H m k) (MB H m ks)
theorem MC(h:H p=some (.lst (as.map V.ref)))(pr:Paired (eK H ps) as fs)(l:fs.length<=1000):At H 3 (.ref p) (RS ps fs):=by
 refine⟨p,_,rfl,h,by rw[Ya];exact l,?_⟩;clear h l;induction pr with
 |nil=>exact .nil
 |cons e _ ih=>
  exact .cons ⟨_,_,rfl,e,by show 4<=1000;omega,MB H 1 _⟩ ih
theorem ZcO{fs c7:List (Nat×Fc)}(pm:c7.Perm fs)(h1:(c7.map (·.1)).Pairwise (·<·))(h2:(fs.map (·.1)).Pairwise (·<·)):c7=fs:=by
 rw[Wr] at h1 h2;exact List.Perm.eq_of_pairwise (λa b _ _ h1 h2=>by omega) h1 h2 pm
theorem dA.short{C CL CJ:Addr}{H:Hp}{n z:Nat}{l:BL}{b:BS}{nl sd fl:Addr}(s:dA C CL CJ H n z l b nl sd fl)(pl:b.ps.length<=40)(i:Nat):(av b.ps i).length<=1000:=by
 by_cases hi:i<b.ps.length
 ·have h:(b.ps.map (·.1))[i]?=some (av b.ps i):=by
   rw[Yg,Yb hi];unfold av;rw[Yd,Yb hi];rfl
  rw[s.nm,Yg,Js hi] at h;have e:cV z i=av b.ps i:=Yu h;have:=(JG (z:=z) (show i<60 by omega)).2;rw[←e];omega
 ·unfold av;rw[Yd,Y1 (by omega)];exact Yw _
theorem dA.kind{C CL CJ:Addr}{H:Hp}{n z:Nat}{l:BL}{b:BS}{nl sd fl:Addr}(s:dA C CL CJ H n z l b nl sd fl){j:Nat}(hj:j<b.ps.length):∃k:Str,dy [V.str (Str.ofString "mother"),V.str (Str.ofString "father")] (if decide (V.str (dD b.ps j)=V.str (Str.ofString "man"))=true then 1 else 0)=some (.str k)/\bF k=true/\∀i,je k (dD b.ps i) (dD b.ps j)=true:=by
 have sj:dD b.ps j="man"\/dD b.ps j="woman":=by
  have:=s.og b.ps[j] (Wi hj);unfold dD;rw[Yd,Yb hj];exact this
 rcases sj with e|e;·exact⟨"father",by rw[e,if_pos (decide_eq_true rfl)];exact bY (j:=1) rfl,by decide+kernel,λi=>by rw[e];unfold je;rw[if_neg (by decide+kernel),if_pos rfl];exact decide_eq_true rfl⟩
 ·exact⟨"mother",by rw[e,if_neg (by decide+kernel)];exact bY (j:=0) rfl,by decide+kernel,λi=>by rw[e];unfold je;rw[if_pos rfl];exact decide_eq_true rfl⟩
theorem ZbV{ks:List Str}{p:Str->Bool}{us:List V}{js:List Nat}(pr:Paired (λy i=>y=V.str (ks.getD i "")) us js):(∀j∈js,j<ks.length/\p (ks.getD j "")=true)->∃gs:List Str,us=gs.map V.str/\∀x∈gs,x∈ks/\p x=true:=by
 induction pr with
 |nil=>exact λ_=>⟨[],rfl,λx hx=>nomatch hx⟩
 |@cons y j us js e _ ih=>
  intro h;obtain⟨gs,e1,h1⟩:=ih λj hj=>h j (Yv _ hj);obtain⟨hj,pj⟩:=h j Yh;refine⟨ks.getD j ""::gs,by rw[e,e1];rfl,λx hx=>?_⟩;rcases Yp.mp hx with rfl|hx
  ·refine⟨?_,pj⟩;rw[Yd,Yb hj];exact Wi hj
  ·exact h1 x hx
theorem ZbW{gs:List Str}(h:gs≠[])(d:Int):(0:Int)<(((gs.map V.str).length:Nat):Int)/\∃x∈gs,dy (gs.map V.str) (d % (((gs.map V.str).length:Nat):Int))=some (.str x):=by
 have pos:(0:Int)<(((gs.map V.str).length:Nat):Int):=by
  rw[Ya];have:=List.length_pos_iff.mpr h;omega
 refine⟨pos,?_⟩;have h1:=W4 d (show(((gs.map V.str).length:Nat):Int)≠0 by omega);have h2:=Wo d pos;obtain⟨j,ej⟩:∃j:Nat,d % (((gs.map V.str).length:Nat):Int)=(j:Int):=⟨_,(W5 h1).symm⟩;rw[ej] at h2⊢;have hj:j<gs.length:=by rw[Ya] at h2;omega
 exact⟨gs[j],Wi hj,bY (by rw[Yg,Yb hj];rfl)⟩
theorem ZbX{ps:dz}{x:Str}(h:x∈ps.map (·.1)):∃i,i<ps.length/\x=av ps i:=by
 obtain⟨i,hi,e⟩:=Wf.mp h;have eV:i<ps.length:=by rw[Ya] at hi;exact hi
 refine⟨i,eV,?_⟩;unfold av;rw[Yd,Yb eV,←e,List.getElem_map];rfl
inductive Lq(K:ag)(C CL CJ:Addr)(vs:List V)(H:Hp)(Q:VK):Prop
 |mk (n z:Nat) (l:BL) (b:BS) (cl nl sd fl:Addr) (cs:List Int) (aI:vs=[.ref l.h,.ref cl,.ref fl,.ref nl,.ref sd]) (hn:2<=n) (hc:aj K H cl (cs.map V.int)) (s:dA C CL CJ H n z l b nl sd fl) (pl:b.ps.length<=40) (fl:b.fs.length<=60) (dl:b.dn.length<=100)
  (q:∀H':Hp,au H H'->Q (.bl true) H'):Lq K C CL CJ vs H Q
def MD(K:ag)(C CL CJ:Addr):Sp:=λvs H Q _=>Lq K C CL CJ vs H Q
section
variable {K:ag}{mg:aN}
abbrev Gj:List Str:=["_law_book","_law_script","_law_facts","_law_names","_law_sides"]
theorem lH:aS ["_law_book","_law_script","_law_facts","_law_names","_law_sides","_law_k","_law_drawn","_law_begin","_law_kind","_law_up_here","_law_goal","_law_found"] Gj (aJ Ca):=.bc
theorem SR(F:aL K "_law_refusals" "_law_refusals" Ca f fd)(mJ:HasFn P w K mg base 1 "_law_cell" xE (ES K))(mE:HasFn P w K mg base 1 "_law_draws" xF (yZ K))(mG:HasFn P w K mg base 4 "_law_same" k_ (oS 4))(mC:HasFn P w K mg base 1 "_law_parent" uh zd)(mS:HasFn P w K mg base 1 "_law_up" wL Aj)(p_:HasFn P w K mg base 14 "_law_asked" Ak (EK C CL CJ))(yj:HasFn P w K mg base 1 "_law_line_holds" Gf Ln)(Cw:cv P w K mg base 1 "kept" C iz (NB C CL CJ))(bl:Bl mg):aG P w K mg base aK 15 f fd Gj (MD K C CL CJ):=by
 refine F.o lH λs H hr h=>?_;obtain⟨n,z,l,b,cl,nl,sd,fl,cs,rfl,hn,hc,st,pl,lf,dl,q⟩:=h;have hu:=hr.m8;refine⟨_,(aq (jd PassesOwn.never rfl (qa rfl bl.kz (aa aO ai)) (cE 5 lH.nd) (aq (bM 6 lH.nd (aY mE hr (aa (bj ig (aY mJ hr (aa (pv 1) (aa (bj ig aO (pv 5)) ai))) aO) (aa (dM (aa aO (aa aO (aa aO ai)))) ai)))) (aq (bM 7 lH.nd (a8 (iL K) (pv 3) (bj fJ (a8 (iL K) (pv 6) aO) (dI K bl (pv 3))))) (aq (iQ (i:=8) lH.nd rfl (Or.inr rfl) (a8 (iL K) (dM (aa bR (aa bR ai))) (fO Dk rfl bl.wc vW (aa (eC c5 (d_ (bT hr) (pv 4) (pv 7) (λ_ _=>rfl)) bR) ai)))) (aq (Dr (i:=9) (x:="_law_one") (fr:=[("_law_kind",8),("_law_facts",2)]) (cl:=[("_law_kind",s.heap.objs.size+1+1),("_law_facts",s.heap.objs.size+1)]) rfl lH.nd rfl (Or.inl rfl) (.gM ⟨rfl,⟨rfl,trivial⟩⟩ ⟨⟨rfl,.inl rfl,.inl rfl,rfl⟩,⟨⟨rfl,.inl rfl,.inl rfl,rfl⟩,trivial⟩⟩) (gW (K:=K) rfl (aY mS hr (aa (pv 2) (aa (pv 7) ai)))) (λ_ _ _ _=>tK (eQ (di (zH mC hr (by omega) rfl (aa (pv 2) (aa (pv 1) (aa (pv 0) ai))))))) (λ_ _ _ _=>(pv 0))) (aq (aV (bP (vO (K:=K) rfl (Ng hu)) (pv 9) (dM ai)) (aw Ur) aZ) (aq (bM 10 lH.nd (a8 (iL K) (pv 9) (bj fJ (a8 (iL K) (pv 6) aO) (dI K bl (pv 9))))) (aq (aV (bP c5 (a8 (iL K) (pv 6) aO) aO) (aw (bM 10 lH.nd (a8 (iL K) (pv 9) (zC ze aO)))) aZ) (aq (bM 11 lH.nd (aY p_ hr (aa (pv 0) (aa (pv 8) (aa (pv 10) (aa (pv 7) ai)))))) (aq (aV (PW.pt (pw_or (bP jP (a8 (iT K) (pv 11) aO) bR) (pw_or1 (eQ (di (aY mG hr (aa (a8 (iT K) (pv 11) aO) (aa bR ai)))))))) (aw (aP fh)) aZ) (aq (aV (eQ (di (aY yj hr (aa (a8 (iT K) (pv 11) aO) (aa (pv 2) (aa (pv 7) (aa (pv 10) ai))))))) (aw (aP fh)) aZ) (aq (cq (qx (K:=K) rfl (oV plainAttrs_list PySem.F.slot_list_append PySem.F.type_list_append sT (a8 (iT K) (pv 11) aO) (aa bR ai)))) (aq (bM 11 lH.nd (aY p_ hr (aa (pv 0) (aa (pv 8) (aa (pv 10) (aa (pv 7) ai)))))) (aq (aV (PW.pt (pw_or (bP jP (a8 (iT K) (pv 11) aO) bR) (pw_or1 (eQ (di (aY yj hr (aa (a8 (iT K) (pv 11) aO) (aa (pv 2) (aa (pv 7) (aa (pv 10) ai)))))))))) (aw (aP fh)) aZ) (aw (aV (eQ (di (aY mG hr (aa (vZ Cw hr (by omega) (pv 0)) (aa (pv 2) ai))))) (aw (aP fh)) aZ)))))))))))))))) (aw (aP fh))),?_⟩;have lim:(10000:Nat)<=sizeLine:=by rw[sizeLine_eq];omega
 have np:=st.np;have yc:=st.short pl;have lF:b.F.length<=100:=by show(b.fs.map (·.2)).length<=100;rw[Ya];omega
 have Gh:(b.ps.map λp=>V.str p.1).length=b.ps.length:=Ya _;have pos:(0:Int)<(((b.ps.map λp=>V.str p.1).length:Nat):Int):=by rw[Gh];omega
 have Ho:(b.fs.map (·.1)).Pairwise (·<·):=by rw[st.num];exact List.pairwise_lt_range
 refine iP (λ_ H'=>au H H') (λuK iI=>?_) (λσ H' g=>q H' g);refine⟨_,rfl,by decide,by decide,yB (lo:=0) (n:=(8:Int).toNat) (λ_ σ H'=>au H H'/\∃o5 o6 o7 o8 o9 oa ob:Option V,σ=[some (.ref l.h),some (.ref cl),some (.ref fl),some (.ref nl),some (.ref sd),o5,o6,o7,o8,o9,oa,ob]) ⟨au.refl _,none,none,none,none,none,none,none,rfl⟩ ?_ (λσ H' h=>iI _ _ h.1)⟩;rintro i σ H1 hi ⟨g1,o5,o6,o7,o8,o9,oa,ob,rfl⟩;refine bI (bZ ?_);refine⟨_,rfl,_,rfl,_,_,rfl,rfl,cl,cs,_,rfl,g1.seq hc,by omega,λcc=>⟨_,_,rfl,rfl,by show 3<=sizeLine;omega,λpl H2 uZ g2 bG=>⟨_,pl,[61,59,3],rfl,aj.of bG,by decide,by decide,λdr ds H3 nd g3 sr bd=>?_⟩⟩⟩;obtain⟨d0,d1,d2,rfl⟩:∃d0 d1 d2,ds=[d0,d1,d2]:=by
  cases bd with
  |cons _ bd=>
   cases bd with
   |cons _ bd=>
    cases bd with
    |cons _ bd=>
     cases bd;exact⟨_,_,_,rfl⟩
 have fD:=(g1.trans g2).trans g3;have s3:=st.same fD;obtain⟨j,hj,a1⟩:∃j:Nat,j<b.ps.length/\dy (b.ps.map λp=>V.str p.1) (d0 % (((b.ps.map λp=>V.str p.1).length:Nat):Int))=some (.str (av b.ps j)):=by
  have h1:=W4 d0 (show(((b.ps.map λp=>V.str p.1).length:Nat):Int)≠0 by omega);have h2:=Wo d0 pos;obtain⟨j,ej⟩:∃j:Nat,d0 % (((b.ps.map λp=>V.str p.1).length:Nat):Int)=(j:Int):=⟨_,(W5 h1).symm⟩;rw[ej] at h2⊢;have hj:j<b.ps.length:=by omega
  refine⟨j,hj,bY ?_⟩;rw[Yg,Yb hj];unfold av;rw[Yd,Yb hj];rfl
 refine bZ ?_;refine⟨_,rfl,_,rfl,dr,_,_,_,rfl,rfl,aj.of sr,bY (j:=0) rfl,_,rfl,nl,_,rfl,.inl (aj.of s3.names),_,_,rfl,rfl,pos,nl,_,_,_,rfl,rfl,aj.of s3.names,a1,?_⟩;refine bZ ?_;refine⟨by show 2<=sizeLine;omega,λl2 H4 A4 g4 rA=>?_⟩;have s4:=s3.same g4;refine⟨_,rfl,_,rfl,sd,.str (dD b.ps j),rfl,fK s4.cJ (qg s4.ok.nm hj),rfl,_,rfl,?_⟩;obtain⟨k,ak,pk,sf⟩:=s4.kind hj;refine⟨l2,_,_,_,rfl,rfl,aj.of rA,ak,?_⟩;have g14:=fD.trans g4;have ZdZ:=g4 _ _ sr;refine bZ ?_;refine⟨_,rfl,_,rfl,fl,aH n,aH n,b,av b.ps j,rfl,s4.FL,s4.ok,qk hj,λp ks H5 g5 hp iff kl=>⟨p,rfl,⟨_,aj.of hp⟩,λD hD=>sS (K:=K) (aj.of hp) (by rw[Ya];omega) hD (λi=>!(jn b.ps b.F k (ks.getD i ""))) (λi y _=>y=.str (ks.getD i "")) (λ_ _ _ _ _ h=>h) (λi v hi H6 g6 _ Kt Kf kt kf=>?_) λus H6 g6 h6 pr=>?_⟩⟩
 ·rw[Yg] at hi;obtain⟨u,eu,rfl⟩:=Option.map_eq_some_iff.mp hi;have e:ks.getD i ""=u:=by rw[Yd,eu];rfl
  rw[e] at kt kf;exact⟨_,rfl,_,rfl,_,rfl,fl,b.ps,b.F,k,u,rfl,(s4.same (g5.trans g6)).FL,lF,λH7 g7=>⟨_,rfl,bb (λc=>⟨_,rfl,kt _ _ c g7 rfl⟩) (λc=>kf _ (W1.mpr c) g7)⟩⟩
 rw[Ya] at pr;obtain⟨gs,rfl,hgs⟩:=ZbV (p:=λx=>!(jn b.ps b.F k x)) pr λj hj=>by
  obtain⟨h1,h2⟩:=Y3.mp hj;exact⟨Wd.mp h1,h2⟩
 have RT:=(g14.trans g5).trans g6;refine⟨_,rfl,Yw _,λl0 H7 n0 g7 h0=>⟨D,l0,gs.map V.str,rfl,rfl,aj.of (g7 _ _ h6),aj.of h0,_,rfl,bb (λc=>⟨RT.trans g7,_,_,_,_,_,_,_,rfl⟩) (λc=>a_ ?_)⟩⟩;have RU:gs≠[]:=λz=>by
  rw[if_neg Yf,z] at c;exact c rfl
 have h7:=g7 _ _ h6;have RV:=RT.trans g7;have Pl:=g7 _ _ (g6 _ _ (g5 _ _ ZdZ));obtain⟨gp,x0,mx0,ax0⟩:=ZbW RU d1;refine bZ ?_;refine⟨_,rfl,_,rfl,dr,_,_,_,rfl,rfl,aj.of Pl,bY (j:=1) rfl,_,rfl,D,_,rfl,.inl (aj.of h7),_,_,rfl,rfl,gp,D,_,_,_,rfl,rfl,aj.of h7,ax0,?_⟩;refine iP (λσ H8=>H7=H8/\∃x∈gs,σ=[some (.ref l.h),some (.ref cl),some (.ref fl),some (.ref nl),some (.ref sd),some (.int (0+(i:Int))),some (.ref dr),some (.str (av b.ps j)),some (.str k),some (.ref D),some (.str x),ob]) (λBf lD=>?_) ?_
 ·refine⟨_,rfl,dr,_,_,_,rfl,rfl,aj.of Pl,bY (j:=2) rfl,rfl,_,rfl,bb (λ_=>?_) (λ_=>a_ (lD _ _ ⟨rfl,x0,mx0,rfl⟩))⟩;obtain⟨RW,xl,rfl⟩:∃RW xl,gs=RW++[xl]:=⟨_,_,(J9 RU).symm⟩;exact⟨_,rfl,_,rfl,D,_,_,.str xl,rfl,rfl,aj.of h7,by rw[Yq];exact D5 _ _,bI (lD _ _ ⟨rfl,xl,Yj _ Yh,rfl⟩)⟩
 rintro σ _ ⟨rfl,x,mx,rfl⟩;obtain⟨mk,Bv⟩:=hgs x mx;have yh:=(iff x).mp mk;obtain⟨gi,RX,rfl⟩:=ZbX (tJ st.ok (qk hj) yh);have s7:=st.same RV;have nt:¬eR b k (av b.ps gi):=λh=>by
  have Bv:(!(jn b.ps b.F k (av b.ps gi)))=true:=Bv;rw[(s7.jn pk).mpr h] at Bv;cases Bv
 refine bZ ?_;refine⟨_,rfl,_,rfl,_,rfl,_,rfl,l,b,aH n,aH n,iE n k gi j,rfl,s7.ba,s7.ok,pk,RX,hj,sf gi,yc,by omega,λ_ na=>absurd yh na,λ_ na=>absurd yh na,λtold=>absurd told nt,λ_ us ul li p2 ll H8 g8 kh lE dt=>?_⟩;refine⟨_,rfl,p2,_,_,_,rfl,rfl,aE.of dt,bY (j:=0) rfl,rfl,_,rfl,bb (λc=>by rw[decide_eq_true rfl] at c;cases c) (λ_=>?_)⟩;refine⟨_,rfl,p2,_,_,_,rfl,rfl,aE.of dt,bY (j:=2) rfl,_,_,.str _,3,rfl,rfl,Nb _,Nb _,λH9 g9=>⟨_,rfl,cR (a_ ?_)⟩⟩;refine⟨_,rfl,p2,_,_,_,rfl,rfl,aE.of (g9 _ _ dt),bY (j:=1) rfl,_,rfl,_,rfl,_,rfl,ll,fl,aH n,aH n,b,us,av b.ps j,av b.ps gi,rfl,g9 _ _ lE,ul,(s7.same (g8.trans g9)).FL,st.ok,li,λHA gA=>⟨_,rfl,cR (a_ ?_)⟩⟩;have Bw:=g9.trans gA;refine⟨_,rfl,p2,_,_,_,rfl,rfl,aE.of (Bw _ _ dt),bY (j:=1) rfl,.inl ⟨rfl,_,aj.of (Bw _ _ lE)⟩,ll,_,_,rfl,rfl,Bw _ _ lE,by rw[Ya];omega,λHB bB eB=>?_⟩;have RY:au H7 HB:=λd o e=>bB _ _ (Bw _ _ (g8 _ _ e)) (cN e kh);have sB:=s7.same RY;dsimp only;refine bZ ?_;refine⟨_,rfl,_,rfl,_,rfl,_,rfl,l,b,aH n,aH n,iE n k gi j,rfl,sB.ba,sB.ok,pk,RX,hj,sf gi,yc,by omega,λ_ na=>absurd yh na,λ_ na=>absurd yh na,λtold=>absurd told nt,λ_ RL ul2 li2 p3 l3 HC gC nl3 Bs A8=>?_⟩;have sC:=sB.same gC;refine⟨_,rfl,p3,_,_,_,rfl,rfl,aE.of A8,bY (j:=0) rfl,rfl,_,rfl,bb (λc=>by rw[decide_eq_true rfl] at c;cases c) (λ_=>?_)⟩;refine⟨_,rfl,p3,_,_,_,rfl,rfl,aE.of A8,bY (j:=1) rfl,_,rfl,_,rfl,_,rfl,l3,fl,aH n,aH n,b,RL,av b.ps j,av b.ps gi,rfl,Bs,ul2,sC.FL,st.ok,li2,λHD gD=>⟨_,rfl,cR (a_ ?_)⟩⟩;have sD:=sC.same gD;obtain⟨dx,ho⟩:=sD.ba.obj;refine⟨_,rfl,l.h,dx,_,rfl,ho,rfl,l,b,aH n,aH n,rfl,sD.ba,st.ok.zs,st.ok.fl,λkp ka c7 HE Hv gE pm so9 hk pkk=>?_⟩;obtain rfl:=ZcO pm so9 Ho;have sE:=sD.same gE;obtain⟨as,ko,gc⟩:=sE.facts;exact⟨_,rfl,_,_,RS b.ps b.fs,3,rfl,rfl,MC hk pkk (by omega),MC ko gc (by omega),λHF gF=>⟨_,rfl,cR (a_ ⟨(((RV.trans RY).trans (gC.trans gD)).trans gE).trans gF,_,_,_,_,_,_,_,rfl⟩)⟩⟩
end
inductive Lr(C CL CJ:Addr)(vs:List V)(H:Hp)(Q:VK):Prop
 |mk (n z:Nat) (l:BL) (b:BS) (nl sd fl:Addr) (aI:vs=[.ref l.h,.ref fl,.ref sd]) (hn:2<=n) (s:dA C CL CJ H n z l b nl sd fl) (pl:b.ps.length<=40) (co:b.co=b.fs.length) (fl:b.fs.length<=60) (dl:b.dn.length<=100)
  (q:∀H':Hp,Q (.bl true) H'):Lr C CL CJ vs H Q
def ME(C CL CJ:Addr):Sp:=λvs H Q _=>Lr C CL CJ vs H Q
def wo:St->Hp->Nat:=λσ H=>match List.getD (α:=Option V) σ 1 none with
 |some (V.ref a)=>match H a with
  |some (.lst xs)=>xs.length
  |_=>0
 |_=>0
theorem Ls{σ:St}{H:Hp}{a:Addr}{xs:List V}(h1:List.getD (α:=Option V) σ 1 none=some (.ref a))(h2:H a=some (.lst xs)):wo σ H=xs.length:=by
 unfold wo;rw[h1];dsimp only;rw[h2]
theorem Ij{α β:Type}{F:α->β->Prop}:∀{Bx:List α} {t:α} {bs:List β},Paired F (Bx++[t]) bs->∃By b,bs=By++[b]/\Paired F Bx By/\F t b
 |[],t,bs,h=>by
  cases h with
  |cons e h=>
   cases h;exact⟨[],_,rfl,.nil,e⟩
 |a::as,t,bs,h=>by
  cases h with
  |cons e h=>
   obtain⟨By,b,rfl,h1,h2⟩:=Ij h;exact⟨_::By,b,rfl,.cons e h1,h2⟩
theorem Zg{gn:List (Nat×Fc)}{zz:Nat}{c:Fc}(num:(gn++[(zz,c)]).map (·.1)=List.range (gn++[(zz,c)]).length):cL zz (gn++[(zz,c)])=gn/\gn.map (·.1)=List.range gn.length:=by
 rw[Yq,Yl] at num;have num:gn.map (·.1)++[zz]=List.range (gn.length+1):=num;rw[Jw] at num;obtain⟨e1,e2⟩:=List.append_inj' num rfl;have e2:zz=gn.length:=List.cons.inj e2 |>.1;refine⟨?_,e1⟩;unfold cL;rw[Wg,Qn.mpr λp hp=>decide_eq_true ?_,List.filter_cons_of_neg (by simp),List.filter_nil,We];have:p.1∈List.range gn.length:=by rw[←e1];exact Yi.mpr ⟨p,hp,rfl⟩
 have:=Wd.mp this;omega
theorem Zh(xs:List V)(x:V):iV (xs++[x]) none (some (-1))=xs:=by
 unfold iV;have e:HT.bH (xs++[x]).length (xs++[x]).length (some (-1))=xs.length:=by
  unfold HT.bH;dsimp only;rw[if_pos (show(-1:Int)<0 by decide),Yl];show((-1:Int)+((xs.length+1:Nat):Int)).toNat=xs.length;omega
 rw[e];show((xs++[x]).drop 0).take (xs.length-0)=xs;rw[List.drop_zero,Nat.sub_zero,List.take_left]
theorem dA.ZcP{C CL CJ:Addr}{H:Hp}{n z:Nat}{l l':BL}{b:BS}{nl sd fl:Addr}(s:dA C CL CJ H n z l b nl sd fl){gn:List (Nat×Fc)}{zz:Nat}{c:Fc}(ef:b.fs=gn++[(zz,c)])(dl:b.dn.length<200){H1 H2:Hp}(wt:bV H H1 l l')(cj:a9 H1 C CL CJ l' (aH n) (aH n) (b.without zz c))(g:au H1 H2){as:List Addr}(gc:Paired (eK H b.ps) as gn)
  {fl':Addr}(ye:H1 fl'=none)(wM:H2 fl'=some (.lst (as.map V.ref))):dA C CL CJ H2 n z l' (b.without zz c) nl sd fl'/\(b.without zz c).fs=gn:=by
 obtain⟨m1,m2⟩:=wt.off s.names s.n1;obtain⟨m3,m4⟩:=wt.off s.cJ s.n2;obtain⟨e1,e2⟩:=Zg (by rw[←ef];exact s.num);have e:(b.without zz c).fs=gn:=by
  show cL zz b.fs=gn;rw[ef];exact e1
 refine⟨⟨cj.same g,?_,g _ _ m1,m2,g _ _ m3,m4,⟨as,wM,?_⟩,cj.fresh ye,s.nm,s.og,λp hp=>?_,?_,s.np⟩,e⟩;·exact s.ok.drop zz (Ye _) (by rw[Yl];show _+1<=200;omega) (Yw _)
 ·rw[e];exact L2.Paired.bp gc λ_ _ e=>g _ _ (wt.dw s.ba e)
 ·rw[e] at hp;exact s.par p (by rw[ef];exact Ym _ hp)
 ·rw[e];exact e2
section
variable {K:ag}{mg:aN}
abbrev Gk:List Str:=["_law_book","_law_facts","_law_sides"]
theorem jH:aS ["_law_book","_law_facts","_law_sides","_law_ties","_law_number","_law_kind","_law_one","_law_other","_law_turned","_law_due","_law_found"] Gk (aJ CF):=.bc
theorem Tz(F:aL K "_law_let_by" "_law_let_by" CF f fd)(mG:HasFn P w K mg base 4 "_law_same" k_ (oS 4))(mC:HasFn P w K mg base 1 "_law_parent" uh zd)(mS:HasFn P w K mg base 1 "_law_up" wL Aj)(p_:HasFn P w K mg base 14 "_law_asked" Ak (EK C CL CJ))(Cy:cv P w K mg base 11 "take" C wD (NF C CL CJ))(bl:Bl mg):aG P w K mg base aK 15 f fd Gk (ME C CL CJ):=by
 refine F.o jH λs H hr h=>?_;obtain⟨n,z,l,b,nl,sd,fl,rfl,hn,st,pl,co,lf,dl,q⟩:=h;have hu:=hr.m8;refine⟨_,(aq (bM 3 jH.nd (dI K bl (pv 1))) (aq (D2 PassesOwn.never (bP (vO (K:=K) rfl (E2 hu)) (pv 1) (dM ai)) (aq (oP (a8 (iL K) (pv 1) (zC ze aO)) (mY (K:=K) (n:=4) rfl rfl (c8 (cE 4 jH.nd) (c8 (cE 5 jH.nd) (c8 (cE 6 jH.nd) (c8 (cE 7 jH.nd) mU)))))) (aq (bM 8 jH.nd (a8 (iL K) (dM (aa bR (aa bR ai))) (fO Dk rfl bl.wc vW (aa (eC c5 (d_ (bT hr) (pv 2) (pv 6) (λ_ _=>rfl)) bR) ai)))) (aq (cq (cI Cy hr (by omega) (pv 0) (aa (pv 4) ai))) (aq (bM 1 jH.nd (yI (D7 (K:=K) rfl) (pv 1) yW (yX (zC ze aO)))) (aq (bM 9 jH.nd bR) (aq (aV (di (aY mC hr (aa (pv 1) (aa (pv 8) (aa (pv 7) ai))))) (aw (bM 9 jH.nd bR)) (aw (aV (fP (kU (K:=K) rfl) (pv 7) (aY mS hr (aa (pv 1) (aa (pv 6) ai))) (by with_unfolding_all rfl)) (aw (bM 9 jH.nd bR)) aZ))) (aq (bM 10 jH.nd (aY p_ hr (aa (pv 0) (aa (pv 8) (aa (pv 7) (aa (pv 6) ai)))))) (aq (aV (bP jP (a8 (iT K) (pv 10) aO) (pv 9)) (aw (aP fh)) aZ) (aw (aV (bP c5 (pv 9) bR) (aw (aP (aY mG hr (aa (a8 (iT K) (pv 10) aO) (aa (pv 3) ai))))) aZ))))))))))) (aw (aP fh)))),?_⟩;have lim:(10000:Nat)<=sizeLine:=by rw[sizeLine_eq];omega
 obtain⟨Bx,Zd0,Zd1⟩:=st.facts;have la0:Bx.length=b.fs.length:=de Zd1;refine bZ ?_;refine⟨_,rfl,fl,_,rfl,.inl (aj.of Zd0),?_⟩;rw[Ya,la0];refine iP (λ_ _=>True) (λuK iI=>?_) (λσ H' _=>q H');refine D3 (λσ H'=>∃(l':BL) (b':BS) (fl':Addr) (o4 o5 o6 o7 o8 o9 oa:Option V),bV H H' l l'/\dA C CL CJ H' n z l' b' nl sd fl'/\b'.co=b.co/\b'.ps=b.ps/\b'.dn.length+b'.fs.length<=170/\σ=[some (.ref l.h),some (.ref fl'),some (.ref sd),some (.int (b.fs.length:Int)),o4,o5,o6,o7,o8,o9,oa]) wo ⟨l,b,fl,none,none,none,none,none,none,none,bV.of (au.refl _),st,rfl,rfl,by omega,rfl⟩ ?_ ?_
 ·rintro σ H1 ⟨l',b',fl',o4,o5,o6,o7,o8,o9,oa,wt,s1,iM,kq,ldn,rfl⟩;obtain⟨as,ko,gc⟩:=s1.facts;have la:as.length=b'.fs.length:=de gc;refine⟨_,rfl,Yw _,λl0 H2 n0 g2 h0=>⟨fl',l0,as.map V.ref,rfl,rfl,aj.of (g2 _ _ ko),aj.of h0,_,rfl,bb (λc=>?_) (λ_=>iI _ _ trivial)⟩⟩;have ane:as≠[]:=λz=>by
   rw[if_pos rfl,z] at c;cases c
  obtain⟨RZ,t,rfl⟩:∃RZ t,as=RZ++[t]:=⟨_,_,(J9 ane).symm⟩;obtain⟨gn,⟨zz,c⟩,ef,Zd2,ht⟩:=Ij gc;have mc:(zz,c)∈b'.fs:=by rw[ef];exact Yj _ Yh
  have pc:=(s1.par _ mc).1;have ns:=(wa pc).1;have wN:=(s1.ok.fg _ mc).ok.1;have Pm:=((s1.ok.fg _ mc).ok.2 ns).1.2;have ht:H1 t=some (.tup [.int (zz:Int),.str c.k,.str (av b'.ps c.one),.str (av b'.ps c.aQ.toNat)]):=by
   have:H1 t=some (.tup ((dN b'.ps zz c).map kV)):=ht;unfold dN at this;rw[lK ns] at this;exact this
  have lfs:b'.fs.length=gn.length+1:=by rw[ef,Yl];rfl
  have f63:=s1.ok.fl;refine⟨_,rfl,_,rfl,fl',_,_,.ref t,rfl,rfl,aj.of (g2 _ _ ko),by rw[Yq];exact D5 _ _,t,_,rfl,aE.of (g2 _ _ ht),rfl,_,_,rfl,bI ⟨_,_,rfl,bI ⟨_,_,rfl,bI ⟨_,_,rfl,bI ⟨rfl,?_⟩⟩⟩⟩⟩;dsimp only;refine bZ ?_;refine⟨by show 2<=sizeLine;omega,λl2 H3 A4 g3 rA=>?_⟩;have fD:=g2.trans g3;have s3:=s1.same fD;refine⟨_,rfl,_,rfl,sd,.str (dD b'.ps c.one),rfl,fK s3.cJ (qg s3.ok.nm wN),rfl,_,rfl,?_⟩;obtain⟨k,ak,pk,sf⟩:=s3.kind wN;refine⟨l2,_,_,_,rfl,rfl,aj.of rA,ak,?_⟩;have Bh:=wt.same fD;obtain⟨dx,h3⟩:=s3.ba.obj;have eh:=Bh.h;rw[eh] at h3;refine⟨_,rfl,l.h,dx,_,rfl,h3,rfl,_,rfl,l',b',aH n,aH n,zz,c,by rw[eh];rfl,s3.ba,s3.ok,mc,by omega,λoh H4 HU Hy=>?_⟩;dsimp only;have Zd3:=(HU.off (fD _ _ ko) s3.n3).1;refine bZ ?_;refine⟨_,rfl,_,rfl,_,rfl,fl',_,rfl,aj.of Zd3,λf2 H5 nf2 g5 uW=>?_⟩;rw[Yq,show[t].map V.ref=[V.ref t] from rfl,Zh] at uW;obtain⟨s5,e5⟩:=s3.ZcP ef (by omega) HU Hy g5 (L2.Paired.bp Zd2 λ_ _ e=>fD _ _ e) nf2 uW;have wt5:=(Bh.trans HU).same g5;have lF:(b'.without zz c).F.length<=100:=by show((b'.without zz c).fs.map (·.2)).length<=100;rw[Ya,e5];omega
  have d5:(b'.without zz c).dn.length=b'.dn.length+1:=by show(b'.dn++[_]).length=_;rw[Yl];rfl
  refine setC ?_;refine iP (λσ H6=>au H5 H6/\∃oi:Str,(oi="refused"/\eR (b'.without zz c) k (av b'.ps c.aQ.toNat)\/oi="own elder"/\¬eR (b'.without zz c) k (av b'.ps c.aQ.toNat)/\dJ (b'.without zz c) (av b'.ps c.one) (av b'.ps c.aQ.toNat)\/oi="kept"/\¬eR (b'.without zz c) k (av b'.ps c.aQ.toNat)/\¬dJ (b'.without zz c) (av b'.ps c.one) (av b'.ps c.aQ.toNat))/\σ=[some (.ref l.h),some (.ref f2),some (.ref sd),some (.int (b.fs.length:Int)),some (.int (zz:Int)),some (.str c.k),some (.str (av b'.ps c.one)),some (.str (av b'.ps c.aQ.toNat)),some (.str k),some (.str oi),oa]) (λBf lD=>?_) ?_
  ·refine⟨_,rfl,_,rfl,_,rfl,f2,b'.ps,(b'.without zz c).F,k,av b'.ps c.aQ.toNat,rfl,s5.FL,lF,λH6 g6=>⟨_,rfl,bb (λc1=>bI (lD _ _ ⟨g6,"refused",.inl ⟨rfl,(s5.jn pk).mp c1⟩,rfl⟩)) (λc1=>?_)⟩⟩;have nt:¬eR (b'.without zz c) k (av b'.ps c.aQ.toNat):=λh=>c1 ((s5.jn pk).mpr h);refine⟨_,rfl,_,rfl,_,rfl,f2,aH n,aH n,b'.without zz c,av b'.ps c.one,rfl,(s5.same g6).FL,s5.ok,qk wN,λp ks H7 g7 hp iff _=>⟨p,_,rfl,.inl (aj.of hp),rfl,vF ks,_,rfl,bb (λc2=>bI (lD _ _ ⟨g6.trans g7,"own elder",.inr (.inl ⟨rfl,nt,?_⟩),rfl⟩)) (λc2=>a_ (lD _ _ ⟨g6.trans g7,"kept",.inr (.inr ⟨rfl,nt,?_⟩),rfl⟩))⟩⟩;·exact(iff _).mp ((q5 _ _).mp c2)
   ·exact λh=>c2 ((q5 _ _).mpr ((iff _).mpr h))
  rintro σ H6 ⟨g6,oi,hd,rfl⟩;have s6:=s5.same g6;have yg:=wt5.same g6;have go:∀(ow:Option V) (p:Addr) (H7:Hp),au H6 H7->ow=some (.ref p)->∃(oh:BL) (yi:BS) (Pn:Addr) (o4 o5 o6 o7 o8 o9 oa:Option V),bV H H7 l oh/\dA C CL CJ H7 n z oh yi nl sd Pn/\yi.co=b.co/\yi.ps=b.ps/\yi.dn.length+yi.fs.length<=170/\[some (.ref l.h),some (.ref f2),some (.ref sd),some (.int (b.fs.length:Int)),some (.int (zz:Int)),some (.str c.k),some (.str (av b'.ps c.one)),some (.str (av b'.ps c.aQ.toNat)),some (.str k),some (.str oi),ow]=[some (.ref l.h),some (.ref Pn),some (.ref sd),some (.int (b.fs.length:Int)),o4,o5,o6,o7,o8,o9,oa]:=λow p H7 g7 _=>
   ⟨oh,b'.without zz c,f2,_,_,_,_,_,_,_,yg.same g7,s6.same g7,iM,kq,by rw[d5,e5];omega,rfl⟩
  have mu:∀(aB:St) (H7:Hp),au H6 H7->List.getD (α:=Option V) aB 1 none=some (.ref f2)->wo aB H7<wo [some (.ref l.h),some (.ref fl'),some (.ref sd),some (.int (b.fs.length:Int)),o4,o5,o6,o7,o8,o9,oa] H1:=λaB H7 g7 e=>by
   rw[Ls e (g7 _ _ (g6 _ _ uW)),Ls rfl ko,Ya,Ya,Yl];exact W7 _
  have sh:=s6.short (show b'.ps.length<=40 by rw[kq];exact pl);refine bZ ?_;refine⟨_,rfl,_,rfl,_,rfl,_,rfl,oh,b'.without zz c,aH n,aH n,iE n k c.aQ.toNat c.one,by rw[yg.h];rfl,s6.ba,s6.ok,pk,Pm,wN,sf _,sh,by rw[d5];omega,λnt na=>s6.iJ hn pk Pm wN (sf _) (by rw[e5];omega) nt na,λnt na l3 p H7 _ _ hp=>?_,λtold p H7 g7 hp=>?_,λnt us ul li p ll H7 g7 kh lE hp=>?_⟩
  ·obtain rfl:oi="kept":=by
    rcases hd with⟨_,h⟩|⟨_,_,h⟩|⟨h,_⟩;·exact absurd h nt
    ·exact absurd h na
    ·exact h
   refine⟨_,rfl,p,_,_,_,rfl,rfl,aE.of hp,bY (j:=0) rfl,_,rfl,rfl,_,rfl,bb (λc=>by rw[decide_eq_true rfl] at c;cases c) (λ_=>a_ ?_)⟩;refine⟨_,rfl,rfl,_,rfl,bb (λ_=>?_) (λc=>absurd (decide_eq_true rfl) c)⟩;have ec:(b'.without zz c).co=b.fs.length:=by rw[←co];exact iM
   rw[ec] at hp;exact⟨_,rfl,p,_,_,_,rfl,rfl,aE.of hp,bY (j:=1) rfl,_,rfl,_,_,.int _,3,rfl,rfl,Na _,Na _,λH8 _=>q H8⟩
  ·obtain rfl:oi="refused":=by
    rcases hd with⟨h,_⟩|⟨_,h,_⟩|⟨_,h,_⟩;·exact h
    ·exact absurd told h
    ·exact absurd told h
   refine⟨_,rfl,p,_,_,_,rfl,rfl,aE.of hp,bY (j:=0) rfl,_,rfl,rfl,_,rfl,bb (λc=>by rw[decide_eq_true rfl] at c;cases c) (λ_=>a_ ?_)⟩;exact⟨_,rfl,rfl,_,rfl,bb (λc=>absurd c (by decide+kernel)) (λ_=>a_ ⟨go _ p H7 g7 rfl,mu _ H7 g7 rfl⟩)⟩
  ·obtain rfl:oi="own elder":=by
    rcases hd with⟨_,h⟩|⟨h,_⟩|⟨_,_,h⟩;·exact absurd h nt
    ·exact h
    ·exact absurd (Zap li) h
   refine⟨_,rfl,p,_,_,_,rfl,rfl,aE.of hp,bY (j:=0) rfl,_,rfl,rfl,_,rfl,bb (λc=>by rw[decide_eq_true rfl] at c;cases c) (λ_=>a_ ?_)⟩;exact⟨_,rfl,rfl,_,rfl,bb (λc=>absurd c (by decide+kernel)) (λ_=>a_ ⟨go _ p H7 g7 rfl,mu _ H7 g7 rfl⟩)⟩
 ·rintro σ H6 Q1 Q2 mo ⟨v1,w1,zl,h⟩;refine⟨v1,w1,zl,λl0 H1 n0 g1 h0=>?_⟩;obtain⟨a1,a2,a3,a4,a5,a6,a7,v,e,k⟩:=h l0 H1 n0 g1 h0;exact⟨a1,a2,a3,a4,a5,a6,a7,v,e,mo _ _ k⟩
end
def zS(K:ag):Sp:=λvs H Q _=>∃(a:Addr) (ns:List Int),vs=[.ref a]/\aj K H a (ns.map V.int)/\ns.length<=63/\∀H',Q (.bl true) H'
theorem cM.nil(gd:wm xs ys):cM xs ys ⟨[],[],0,[],[]⟩:=
 ⟨gd,W9,Yw _,Yw _,λ_ h=>(nomatch h),W9,λ_ h=>(nomatch h),W9,W9,⟨λ_=>0,λ_ h=>absurd h (Wy _),λ_ h=>(nomatch h)⟩,Yw _,Yw _⟩
theorem Xd{ps:dz}{m f w im jf iw st:Addr}:eG ps≠qy m f w im jf iw st:=λe=>by
 cases ps with
 |nil=>cases e
 |cons p r=>
  have e:(Sum.inr p.1,V.str p.2)::eG r=qy m f w im jf iw st:=e;injection e with e1 _;injection e1 with _ e2;cases e2
theorem jN{H:Hp}{a b:Addr}{o o':HO}(h:H a=some o)(h':H b=some o')(n:o≠o'):a≠b:=λe=>by
 rw[e,h'] at h;exact n (Yu h).symm
section
variable {H H':Hp}{xs ys:List Int}{l l':BL}{b:BS}{sd:Addr}{ps:dz}
theorem fL.bar{L:Addr}(h:fL H CL L xs ys)(hs:H sd=some (.dK (eG ps)))(g:aC sd H H'):fL H' CL L xs ys:=by
 obtain⟨dx,d,m,f,w,im,jf,iw,st,h1,h2,h3,h4,h5,h6,h7,h8,h9⟩:=h;have t:∀{a:Addr} {ns:List Int},dw H a ns->dw H' a ns:=λ{a ns} e=>g _ _ e (jN e hs (λz=>nomatch z));exact⟨dx,d,m,f,w,im,jf,iw,st,g _ _ h1 (jN h1 hs (λz=>nomatch z)),g _ _ h2 (jN h2 hs (λz=>Xd (HO.dK.inj z).symm)),t h3,t h4,t h5,t h6,t h7,t h8,t h9⟩
theorem bX.bar{n:Nat}{jl:JL}{st:JS}(a:bX H CJ n jl st)(hs:H sd=some (.dK (eG ps)))(ns:sd∉jl.fp)(g:aC sd H H'):bX H' CJ n jl st:=by
 unfold JL.fp at ns;simp only[Yp,not_or] at ns;obtain⟨_,_,_,n4,n5,_⟩:=ns;refine⟨let⟨dx,h⟩:=a.obj;⟨dx,g _ _ h (jN h hs (λz=>nomatch z))⟩,g _ _ a.heads (jN a.heads hs (λz=>nomatch z)),g _ _ a.fV (jN a.fV hs (λz=>nomatch z)),L2.Paired.bp a.lead λ_ _ h=>g _ _ h (jN h hs (λz=>nomatch z)),g _ _ a.iy (Ne.symm n4),L2.Paired.bp a.mem λ_ _ h=>g _ _ h (jN h hs (λz=>nomatch z)),g _ _ a.frees (Ne.symm n5),L2.Paired.bp a.free λ_ _ h=>g _ _ h (jN h hs (λz=>nomatch z)),a.nd,a.out⟩
theorem a9.bar(h:a9 H C CL CJ l xs ys b)(hs:H sd=some (.dK (eG ps)))(ns:sd∉l.fp)(g:aC sd H H'):a9 H' C CL CJ l xs ys b:=by
 have own:∀a∈l.own,a≠sd:=λa ha e=>ns (by rw[←e];exact Ym _ ha);have dd:∀a d,jO H a d->jO H' a d:=λ_ _ ⟨r,e1,e2⟩=>⟨r,g _ _ e1 (jN e1 hs (λz=>nomatch z)),g _ _ e2 (jN e2 hs (λz=>nomatch z))⟩;refine⟨let⟨dx,e⟩:=h.obj;⟨dx,g _ _ e (own _ (by simp[BL.own]))⟩,λH2 o=>?_,g _ _ h.cJ (own _ (by simp[BL.own])),g _ _ h.places (own _ (by simp[BL.own])),g _ _ h.facts (own _ (by simp[BL.own])),L2.Paired.bp h.fact λ_ _ e=>g _ _ e (jN e hs (λz=>nomatch z)),g _ _ h.known (own _ (by simp[BL.own])),g _ _ h.parents (own _ (by simp[BL.own])),g _ _ h.done (own _ (by simp[BL.own])),L2.Paired.bp h.jk λ_ _ e=>dd _ _ e,g _ _ h.gv (own _ (by simp[BL.own])),L2.Paired.bp h.kB λ_ _ e=>dd _ _ e,?_,h.nd⟩
 ·have l3:=h.land (λa=>if a=sd then H sd else H2 a) λa u e n=>by
   by_cases z:a=sd
   ·show(if a=sd then _ else _)=_;rw[if_pos z,←z];exact e
   ·show(if a=sd then _ else _)=_;rw[if_neg z];exact o _ _ (g _ _ e z) n
  refine l3.bar (ps:=ps) (sd:=sd) (by show(if sd=sd then _ else _)=_;rw[if_pos rfl];exact hs) λa u e z=>?_;have e:(if a=sd then H sd else H2 a)=some u:=e;rw[if_neg z] at e;exact e
 ·cases h.oY with
  |no e1 e2=>exact .no e1 e2
  |at_ jl st e1 e2 ja me len eX=>exact .at_ jl st e1 e2 (ja.bar hs (λz=>ns (Yj _ (by rw[e2];exact z))) g) me len eX
end
structure gQ(C CL CJ:Addr)(H:Hp)(n z j m:Nat)(h s1 D sd:Addr)(ms:List Int)(l:BL)(b:BS):Prop where
 eh:l.h=h
 ba:a9 H C CL CJ l (aH n) (aH n) b
 ok:cM (aH n) (aH n) b
 sc:H s1=some (.lst (ms.map V.int))
 n0:s1∉l.fp
 names:H D=some (.lst ((List.range m).map λk=>V.str (cV z k)))
 n1:D∉l.fp
 cJ:H sd=some (.dK (eG b.ps))
 n2:sd∉l.fp
 nm:b.ps.map (·.1)=(List.range j).map (cV z)
 og:∀p∈b.ps,p.2="man"\/p.2="woman"
 nf:b.fs=[]
 co:b.co=0
 dl:b.dn.length=j
section
variable {H H':Hp}{n z j m:Nat}{h s1 D sd:Addr}{ms:List Int}{l l':BL}{b:BS}
theorem gQ.len(p:gQ C CL CJ H n z j m h s1 D sd ms l b):b.ps.length=j:=by
 have:=congrArg List.length p.nm
 rwa [Ya,Ya,W0] at this
theorem gQ.same(g:au H H')(p:gQ C CL CJ H n z j m h s1 D sd ms l b):gQ C CL CJ H' n z j m h s1 D sd ms l b:=
 ⟨p.eh,p.ba.same g,p.ok,g _ _ p.sc,p.n0,g _ _ p.names,p.n1,g _ _ p.cJ,p.n2,p.nm,p.og,p.nf,p.co,p.dl⟩
theorem gQ.new(p:gQ C CL CJ H n z j m h s1 D sd ms l b)(hj:j<60)(sx:Str)(hs:zA sx=true):Ga b (cV z j) sx:=by
 have:=p.len;obtain⟨f1,f2⟩:=JG (z:=z) hj;refine⟨f1,hs,λmm=>?_,by omega,by omega⟩;rw[p.nm] at mm;obtain⟨i,hi,e⟩:=Yi.mp mm;have hi:=Wd.mp hi;have:=Xc (by omega) hj e;omega
theorem gQ.none_(p:gQ C CL CJ H n z j m h s1 D sd ms l b)(hj:j<60):bg (eG b.ps) (.inr (cV z j))=none:=oo λhm=>by
 obtain⟨q,hq,e⟩:=Yi.mp hm;obtain⟨q',jq,rfl⟩:=Yi.mp hq;exact(p.new hj "man" (by decide+kernel)).new (Yi.mpr ⟨q',jq,Jl e⟩)
theorem gQ.more(p:gQ C CL CJ H n z j m h s1 D sd ms l b)(hj:j<60){sx:Str}(hx:sx="man"\/sx="woman"){H1 H2:Hp}(g:aC sd H H1)(nD:D≠sd)(n1':s1≠sd)(e8:H1 sd=some (.dK (eG (b.ps++[(cV z j,sx)]))))(wt:bV H1 H2 l l')(ba:a9 H2 C CL CJ l' (aH n) (aH n) (b.FC (cV z j) sx))(so:zA sx=true):gQ C CL CJ H2 n z (j+1) m h s1 D sd ms l' (b.FC (cV z j) sx):=by
 obtain⟨a1,a2⟩:=wt.off (g _ _ p.sc n1') p.n0;obtain⟨a3,a4⟩:=wt.off (g _ _ p.names nD) p.n1;obtain⟨a5,a6⟩:=wt.off e8 p.n2;have np:=p.new hj sx so;have dl:=p.dl;refine⟨wt.h.trans p.eh,ba,p.ok.ZdQ np.new np.lim (Ye _) (by rw[Yl];show _+1<=200;omega) (Yw _),a1,a2,a3,a4,a5,a6,?_,λq hq=>?_,p.nf,p.co,?_⟩
 ·show(b.ps++[(cV z j,sx)]).map (·.1)=_;rw[Yq,p.nm,Jw,Yq];rfl
 ·rcases Yx.mp hq with hq|hq;·exact p.og q hq
  ·rw[Yr.mp hq];exact hx
 ·show(b.dn++[_]).length=j+1;rw[Yl,dl];rfl
theorem gQ.all(p:gQ C CL CJ H n z m m h s1 D sd ms l b)(hm:2<=m){H2:Hp}{fl:Addr}(g:au H H2)(nf:H fl=none)(hf:H2 fl=some (.lst [])):dA C CL CJ H2 n z l b D sd fl:=by
 have ll:=p.len;refine⟨p.ba.same g,p.ok,?_,p.n1,g _ _ p.cJ,p.n2,⟨[],hf,by rw[p.nf];exact .nil⟩,p.ba.fresh nf,by rw[ll];exact p.nm,p.og,λq hq=>(by rw[p.nf] at hq;exact nomatch hq),by rw[p.nf];rfl,by omega⟩;rw[g _ _ p.names];have e:(b.ps.map λp=>V.str p.1)=(b.ps.map (·.1)).map V.str:=by rw[Y8];rfl
 rw[e,p.nm,Y8];rfl
end
theorem Zat{ds:List Int}{a:Int}(h:Paired Bd ds [a]):∃v,ds=[v]/\Bd v a:=by
 cases h with
 |cons r t=>cases t;exact⟨_,rfl,r⟩
theorem Zi(h:xs.length<=63):(iV xs (some 4) none).length<=59:=by
 unfold iV;have e:HT.bH xs.length 0 (some 4)=min 4 xs.length:=HT.Zs _ _ 4;exact Yz (List.length_take_le' _ _) (by rw[List.length_drop,e];omega)
section
variable {K:ag}{mg:aN}
abbrev Al:List Str:=["_law_script"]
theorem lP:aS ["_law_script","_law_size","_law_alone","_law_book","_law_salt","_law_names","_law_sides","_law_k","_law_facts"] Al (aJ qI):=.bc
theorem ZbY(F:aL K "law" "law" qI f fd)(mJ:HasFn P w K mg base 1 "_law_cell" xE (ES K))(mE:HasFn P w K mg base 1 "_law_draws" xF (yZ K))(DK:HasFn P w K mg base 1 "_law_name" Ge NN)(Dm:HasFn P w K mg base 13 "_law_build" Gg (Ky C CL CJ))(Cn:HasFn P w K mg base 15 "_law_refusals" Gj (MD K C CL CJ))(CQ:HasFn P w K mg base 15 "_law_let_by" Gk (ME C CL CJ))
  (D0:HasFn P w K mg base 7 "land_of" z_ (K3 CL))(El:tZ P w K mg base 1 "Hearth" C Ah (Mv C CL CJ))(B9:cv P w K mg base 11 "person" C Ag (Lh C CL CJ))(bl:Bl mg):aG P w K mg base (kR P w) 16 f fd Al (zS K):=by
 refine F.AB lP (λvs H Q E h=>?_) (λbh A outer s H vs Q E hr h=>?_)
 ·obtain⟨a,ns,rfl,_⟩:=h;rfl
 obtain⟨a,ns,rfl,hs,hlen,q⟩:=h;have hu:=hr.m8;refine⟨_,(aq (bM 0 lP.nd (yI (D7 (K:=K) rfl) (pv 0) yW (yX aO))) (aq (bM 1 lP.nd (bj ig aO (bj fJ (aY mJ hr (aa (pv 0) (aa aO ai))) aO))) (aq (bM 2 lP.nd (fO (SJ rfl) rfl bl.tL tG (aa (fO Il rfl bl.kz yJ (aa (pv 1) ai)) ai))) (aq (bM 3 lP.nd (Fq El hr (by omega) rfl (aa (aY D0 hr (aa (pv 2) (aa (pv 2) ai))) ai))) (aq (iQ (i:=4) lP.nd rfl (Or.inr rfl) (bj fJ (aY mJ hr (aa (pv 0) (aa aO ai))) aO)) (aq (Dr (i:=5) (x:="_law_k") (fr:=[("_law_salt",4)]) (cl:=[("_law_salt",s.heap.objs.size+1)]) rfl lP.nd rfl (Or.inl rfl) (.gM ⟨rfl,trivial⟩ ⟨⟨rfl,.inl rfl,.inl rfl,rfl⟩,trivial⟩) (qa rfl bl.kz (aa (bj ig aO (bj fJ (aY mJ hr (aa (pv 0) (aa aO ai))) aO)) ai)) (λ_ _ _ _=>mV) (λ_ _ _ _=>(zH DK hr (by omega) rfl (aa (pv 0) (aa (pv 1) ai))))) (aq (bM 6 lP.nd sY) (aq (jd Zdg rfl (qa rfl bl.kz (aa (dI K bl (pv 5)) ai)) (cE 7 lP.nd) (aq (oE (bT hr) (pv 6) (a8 (iL K) (pv 5) (pv 7)) (a8 (iL K) (dM (aa bR (aa bR ai))) (a8 (iL K) (aY mE hr (aa (bj ig (aY mJ hr (aa (pv 0) (aa aO ai))) (pv 7)) (aa (dM (aa aO ai)) ai))) aO))) (aw (cq (cI B9 hr (by omega) (pv 3) (aa (a8 (iL K) (pv 5) (pv 7)) (aa (d_ (bT hr) (pv 6) (a8 (iL K) (pv 5) (pv 7)) (λ_ _=>rfl)) ai))))))) (aq (bM 8 lP.nd (aY Dm hr (aa (pv 3) (aa (yI (D7 (K:=K) rfl) (pv 0) (yX aO) yW) (aa (pv 5) (aa (pv 6) ai)))))) (aq (aV (PW.pt (pw_or (bP zf (pv 8) kA) (pw_or1 (eQ (di (aY Cn hr (aa (pv 3) (aa (pv 0) (aa (pv 8) (aa (pv 5) (aa (pv 6) ai))))))))))) (aw (aP fh)) aZ) (aw (aP (aY CQ hr (aa (pv 3) (aa (pv 8) (aa (pv 6) ai)))))))))))))))),?_⟩;have sz:(10000:Nat)<=sizeLine:=by rw[sizeLine_eq];omega
 obtain⟨ms,em⟩:=KG ns none (some 63);have lms:ms.length<=ns.length:=by
  have:=CU (ns.map V.int) none (some 63);rw[em,Ya,Ya] at this;exact this
 obtain⟨cs,ec⟩:=KG ms (some 4) none;have lcs:cs.length<=59:=by
  have:=Zi (xs:=ms.map V.int) (by rw[Ya];omega);rw[ec,Ya] at this;exact this
 refine bZ ?_;refine⟨_,rfl,_,rfl,a,_,rfl,hs,λs1 H0 n1 g0 HV=>?_⟩;rw[em] at HV;refine bZ ?_;refine⟨_,rfl,s1,ms,0,rfl,aj.of HV,Int.le_refl 0,λc0=>⟨_,_,rfl,rfl,(by show(0:Int)<7;decide),_,_,rfl,rfl,?_⟩⟩;try dsimp only
 have m0:=W4 c0 (show(7:Int)≠0 by decide);have m1:=Wo c0 (show(0:Int)<7 by decide);obtain⟨n,en⟩:∃n:Nat,2+c0 % 7=(n:Int):=⟨(2+c0 % 7).toNat,by omega⟩;rw[en];have n2:2<=n:=by omega
 have n8:n<=8:=by omega
 refine bZ ?_;refine⟨_,rfl,_,rfl,λrp H1 nrp g1 hrp=>⟨rp,n,rfl,hrp,by omega,λal H2 nal g2 R0=>?_⟩⟩;have lu:=eZ n;have gd:wm (aH n) (aH n):=⟨oM (List.Perm.refl _),oM (List.Perm.refl _),rfl,by omega,by omega⟩;refine bZ ?_;refine⟨_,rfl,_,rfl,al,al,aH n,aH n,rfl,R0,R0,gd.1,gd.2.1,gd.2.2.1,gd.2.2.2.1,gd.2.2.2.2,λLd H4 g4 la=>λx dx nx xI nd=>?_⟩;have xJ:upd H4 dx (.own x) x=none:=by rw[aF (λz=>nd z.symm)];exact nx
 obtain⟨H5,e5⟩:∃H5,H5=upd (upd H4 dx (.own x)) x (.ins C dx []):=⟨_,rfl⟩;have g5:au H4 H5:=by rw[e5];exact(cY xI _).trans (cY xJ _)
 have hx5:H5 x=some (.ins C dx []):=by rw[e5];exact aW
 rw[←e5];refine⟨x,dx,Ld,aH n,aH n,rfl,hx5,la.same g5,λl H6 eh Bj b6 ba=>⟨rfl,?_⟩⟩;subst eh;have keep:∀{a:Addr} {o:HO},H4 a=some o->H6 a=some o/\a∉l.fp:=λ{a o} e=>by
  have na:a≠l.h:=cN e nx;refine⟨b6 _ _ (g5 _ _ e) na,λz=>?_⟩;have:=Bj a z na;rw[g5 _ _ e] at this;cases this
 obtain⟨Bz,ns6⟩:=keep (g4 _ _ (g2 _ _ (g1 _ _ HV)));refine bZ ?_;refine⟨_,rfl,s1,ms,1,rfl,aj.of Bz,by decide,λc3=>⟨_,_,rfl,rfl,(by show(0:Int)<97;decide),?_⟩⟩;try dsimp only
 have z0:=W4 c3 (show(97:Int)≠0 by decide);have z1:=Wo c3 (show(0:Int)<97 by decide);obtain⟨z,ez⟩:∃z:Nat,c3 % 97=(z:Int):=⟨(c3 % 97).toNat,by omega⟩;rw[ez];have hz:z<97:=by omega
 refine bZ ?_;refine⟨_,rfl,s1,ms,2,rfl,aj.of Bz,by decide,λc4=>⟨_,_,rfl,rfl,(by show(0:Int)<30;decide),_,_,rfl,rfl,?_⟩⟩;try dsimp only
 have m0:=W4 c4 (show(30:Int)≠0 by decide);have m1:=Wo c4 (show(0:Int)<30 by decide);obtain⟨m,em⟩:∃m:Nat,2+c4 % 30=(m:Int):=⟨(2+c4 % 30).toNat,by omega⟩;rw[em];have m31:m<=31:=by omega
 have mp:2<=m:=by omega
 refine⟨(m:Int),rfl,by omega,by omega,λD hD=>Du (lo:=0) (n:=(m:Int).toNat) (λi zs H7=>au H6 H7/\H7 D=some (.lst zs)/\zs=(List.range i).map λk=>V.str (cV z k)) ⟨cY hD _,aW,rfl⟩ ?_ ?_⟩
 ·rintro i zs H7 hi ⟨g7,h7,e7⟩;rw[Y5] at hi;rw[G3];refine lR (dk ⟨_,rfl,_,rfl,i,z,rfl,by omega,hz,h7,by rw[e7,Ya,W0];omega,λd o qd=>?_,aW,?_⟩)
  ·rw[aF (cN qd hD)];exact g7 d o qd
  ·rw[e7,Jw,Yq];rfl
 rintro zs H7 ⟨g7,h7,e7⟩;rw[Y5] at e7;subst e7;refine bI ?_;dsimp only;refine bZ ?_;refine λsd H8 HW g8 h8=>?_;have R1:=g8 _ _ h7;have R3:D≠sd:=cN h7 HW;have nss:s1≠sd:=cN (g7 _ _ Bz) HW;have R4:((List.range m).map λk=>V.str (cV z k)).length=m:=by rw[Ya,W0]
 have p0:gQ C CL CJ H8 n z 0 m l.h s1 D sd ms l ⟨[],[],0,[],[]⟩:=⟨rfl,(ba.same g7).same g8,.nil gd,g8 _ _ (g7 _ _ Bz),ns6,R1,ba.fresh hD,h8,(ba.same g7).fresh HW,rfl,λq hq=>(nomatch hq),rfl,rfl,rfl⟩;refine iP (λσ H'=>∃(l':BL) (b:BS) (o7:Option V),gQ C CL CJ H' n z m m l.h s1 D sd ms l' b/\σ=[some (.ref s1),some (.int (n:Int)),some (.ref al),some (.ref l.h),some (.int (z:Int)),some (.ref D),some (.ref sd),o7,none]) (λuK iI=>?_) ?_
 ·refine⟨_,rfl,D,_,rfl,.inl (aj.of R1),_,rfl,by omega,by omega,yB (lo:=0) (n:=((((List.range m).map λk=>V.str (cV z k)).length:Nat):Int).toNat) (λj σ H'=>∃(l':BL) (b:BS) (o7:Option V),gQ C CL CJ H' n z j m l.h s1 D sd ms l' b/\σ=[some (.ref s1),some (.int (n:Int)),some (.ref al),some (.ref l.h),some (.int (z:Int)),some (.ref D),some (.ref sd),o7,none]) ⟨l,_,none,p0,rfl⟩ ?_ ?_⟩
  ·rintro j σ H9 hj ⟨l',b,o7,p,rfl⟩;rw[Y5,R4] at hj;rw[G3];have pl:=p.len;refine bI ?_;refine⟨by show 2<=sizeLine;omega,λsl HA Hl gA hsl=>?_⟩;have pA:=p.same gA;refine⟨_,rfl,s1,ms,3,rfl,aj.of pA.sc,by decide,λc3=>⟨_,rfl,_,_,rfl,rfl,by show 1<=sizeLine;omega,λpq HB npq gB hpq=>⟨_,pq,[2],rfl,aj.of hpq,by decide,by decide,λdr ds HC ndr gC sr bd=>?_⟩⟩⟩;obtain⟨d0,rfl,b0⟩:=Zat bd;obtain⟨sx,es,hx,so⟩:∃sx:Str,dy [V.str "man",V.str "woman"] d0=some (.str sx)/\(sx="man"\/sx="woman")/\zA sx=true:=by
    have:d0=0\/d0=1:=by unfold Bd at b0;omega
    rcases this with rfl|rfl;·exact⟨_,rfl,.inl rfl,by decide+kernel⟩
    ·exact⟨_,rfl,.inr rfl,by decide+kernel⟩
   have pC:=pA.same (gB.trans gC);have HX:dy ((List.range m).map λk=>V.str (cV z k)) (j:Int)=some (.str (cV z j)):=bY (by rw[Yg,Js hj];rfl);refine⟨dr,_,_,.int d0,rfl,rfl,aj.of sr,rfl,sl,_,_,.str sx,rfl,rfl,aj.of (gC _ _ (gB _ _ hsl)),es,?_⟩;refine⟨_,rfl,_,rfl,_,rfl,D,_,_,.str (cV z j),rfl,rfl,aj.of pC.names,HX,sd,_,.inr (cV z j),rfl,pC.cJ,rfl,by rw[Ya];omega,λHD bD eD=>?_⟩;have vn:=pC.none_ (show j<60 by omega);rw[mN _ vn] at eD;have eD':HD sd=some (.dK (eG (b.ps++[(cV z j,sx)]))):=by
    rw[eD];show _=some (HO.dK ((b.ps++[(cV z j,sx)]).map _));rw[Yq];rfl
   have R5:=pC.ba.bar pC.cJ pC.n2 bD;obtain⟨dx,ho⟩:=R5.obj;have eh:=pC.eh;rw[eh] at ho;have R6:=bD _ _ pC.names R3;refine⟨_,rfl,l.h,dx,_,rfl,ho,rfl,_,rfl,_,rfl,D,_,_,_,rfl,rfl,aj.of R6,HX,_,rfl,_,rfl,_,rfl,D,_,_,_,rfl,rfl,aj.of R6,HX,sd,.str sx,rfl,fK eD (by rw[Lj,vn];exact iN rfl),l',b,aH n,aH n,cV z j,sx,by rw[eh];rfl,R5,pC.ok,pC.new (by omega) sx so,by have:=pC.dl;omega,λoh HE wt ba9=>?_⟩;exact⟨oh,_,_,pC.more (by omega) hx bD R3 nss eD' wt ba9 so,rfl⟩
  ·rintro σ H9 ⟨l',b,o7,p,rfl⟩;rw[Y5,R4] at p;exact iI _ _ ⟨l',b,o7,p,rfl⟩
 rintro σ H9 ⟨l',b,o7,p,rfl⟩;have pl:=p.len;refine bZ ?_;refine⟨_,rfl,_,rfl,_,rfl,s1,_,rfl,aj.of p.sc,λca HA nca gA hca=>⟨_,rfl,_,rfl,n,z,l',b,ca,D,sd,cs,by rw[p.eh];rfl,n2,by rw[hca,ec],p.ba.fresh nca,by omega,λfl HB gB ye ko=>(p.same gA).all mp gB ye ko,p.nf,p.co,by have:=p.dl;omega,λl2 b2 fl HB wt s2 kq iM lf ld=>?_⟩⟩;have pA:=p.same gA;have lX:=(wt.off pA.sc pA.n0).1;have e2:l2.h=l.h:=wt.h.trans p.eh;have uG:b2.ps.length<=40:=by rw[kq];omega
 refine⟨_,rfl,rfl,_,rfl,bb (λc=>by cases c) (λ_=>?_)⟩;refine⟨_,rfl,_,rfl,_,rfl,_,rfl,_,rfl,n,z,l2,b2,s1,D,sd,fl,ms,by rw[e2];rfl,n2,aj.of lX,s2,uG,lf,ld,λHC gC=>⟨_,rfl,cR (a_ ?_)⟩⟩;exact⟨_,rfl,_,rfl,_,rfl,n,z,l2,b2,D,sd,fl,by rw[e2];rfl,n2,s2.same gC,uG,iM,lf,ld,λHD=>q HD⟩
end
section
open PySem PySem.W PySem.Spec PyProof.Rows
inductive BA(K:ag)(C f:Addr):Prop
 |mk {N t:Addr} {nm qn:Str} {bs sub:List Value} {sn:List Str} {ab:Bool} {col:Option Bool} {dd:Option Addr} {k0 k1 k2 k3 k5:Option Value} {od an td:Option Addr} {sl ts:Array (Option Value)} {oc kV dc pm cd ct tc:Value} {tk:Tok} {tn:Nat}
  (a:nsIn K mainGlobals "KinError"=some (some (.ref C))) (l:K.lookup C=some (excClassObj nm qn C N bs (([]:List Addr).map Value.ref++kK) true sn sub ab col dd k0 k1 k2 k3 k5 "ValueError.__new__"))
  (g1:PySem.W.findIn K (.ref C) "__getattribute__"=some (some (.builtin "BaseException.__getattribute__"))) (g2:PySem.W.findIn K (.ref C) "__getattr__"=some none) (g3:PySem.W.findIn K (.ref C) "__setattr__"=some (some (.builtin "object.__setattr__"))) (g4:PySem.W.findIn K (.ref C) "__class__"=some (some (.builtin "object.__class__")))
  (g5:specialIn K (.builtin "object.__class__") "__get__"=some (some (.builtin "getset_descriptor.__get__"))) (g6:takesIn K (.builtin "object.__class__")=some true)
  (ci:PySem.W.findIn K (.ref C) "__init__"=some (some (.ref f)))
  (fl:K.lookup f=some ⟨oc,od,.func (fnOf "__init__" "KinError.__init__" (iO sy) (fQ sy) (aJ sy) (.ref t) kV dc pm an cd ct),sl⟩) (fc:codeIn K cd "KinError.__init__"=true) (fk:keepIn K (.ref f)=true) (ft:K.lookup t=some ⟨tc,td,.seq #[.str "" tk] tn,ts⟩):BA K C f
theorem BA.b{K:ag}{h:Heap}{mg:aN}{C f:Addr}(p:BA K C f)(X:K.In h)(G:h.Ns mainGlobals mg):
  ∃fd it,t_ K "__init__" "KinError.__init__" sy f fd/\Binds K fd nS []/\Binds K fd nS [it]/\RelV (.str "") it/\cZ K C/\mg "KinError"=some (.ref C):=by
 obtain⟨a,l,g1,g2,g3,g4,g5,g6,ci,fl,fc,fk,ft⟩:=p
 rename_i tk tn
 have xa:cZ K C:=⟨⟨_,_,_,_,[],_,_,_,_,_,_,_,_,_,_,l⟩,g1,g2,g3,g4,g5,g6⟩;refine⟨_,.str "" tk,⟨⟨_,_,_,_,_,_,_,_,_,_,rfl,fl,fc⟩,fk⟩,λs us KX hl=>?_,λs us KX hl=>?_,⟨_,rfl⟩,xa,mg_of X G a⟩
 ·rw[We] at hl⊢;match us,hl with
  |[u0,u1,u2],_=>exact BindsTo.of_defaults rfl (KX _ _ ft) rfl rfl rfl
 ·have hl:us.length=2:=by
   rw[Yl] at hl;exact Nat.succ.inj hl
  match us,hl with
  |[u0,u1],_=>exact BindsTo.of_defaults rfl (KX _ _ ft) rfl rfl rfl
inductive BB(K:ag)(cs:List Addr)(C f:Addr):Prop
 |mk {N:Addr} {nm qn:Str} {bs sub:List Value} {sn:List Str} {ab:Bool} {col:Option Bool} {dd:Option Addr} {k0 k1 k2 k3 k5:Option Value} {od an:Option Addr} {sl:Array (Option Value)} {oc kV dc pm cd ct:Value}
  (a:nsIn K mainGlobals "OwnElder"=some (some (.ref C))) (l:K.lookup C=some (excClassObj nm qn C N bs (cs.map Value.ref++kK) true sn sub ab col dd k0 k1 k2 k3 k5 "ValueError.__new__"))
  (g1:PySem.W.findIn K (.ref C) "__getattribute__"=some (some (.builtin "BaseException.__getattribute__"))) (g2:PySem.W.findIn K (.ref C) "__getattr__"=some none) (g3:PySem.W.findIn K (.ref C) "__setattr__"=some (some (.builtin "object.__setattr__"))) (g4:PySem.W.findIn K (.ref C) "__class__"=some (some (.builtin "object.__class__")))
  (g5:specialIn K (.builtin "object.__class__") "__get__"=some (some (.builtin "getset_descriptor.__get__"))) (g6:takesIn K (.builtin "object.__class__")=some true)
  (ci:PySem.W.findIn K (.ref C) "__init__"=some (some (.ref f))) (cn:isFn K (.ref f)=true) (ck:keepIn K (.ref C)=true)
  (fl:K.lookup f=some ⟨oc,od,.func (fnOf "__init__" "OwnElder.__init__" (iO sA) (fQ sA) (aJ sA) .none kV dc pm an cd ct),sl⟩) (fc:codeIn K cd "OwnElder.__init__"=true) (fk:keepIn K (.ref f)=true)
  (na:PySem.W.findIn K (.ref C) "word"=some none) (nl:PySem.W.findIn K (.ref C) "line"=some none):BB K cs C f
theorem BB.b{K:ag}{h:Heap}{mg:aN}{cs:List Addr}{C f:Addr}(p:BB K cs C f)(X:K.In h)(G:h.Ns mainGlobals mg):
  ∃fd,aL K "__init__" "OwnElder.__init__" sA f fd/\Binds K fd ug []/\cZ K C/\nC K C f/\mg "OwnElder"=some (.ref C)/\cu K C "word"/\cu K C "line":=by
 obtain⟨a,l,g1,g2,g3,g4,g5,g6,ci,cn,ck,fl,fc,fk,na,nl⟩:=p;have xa:cZ K C:=⟨⟨_,_,_,_,cs,_,_,_,_,_,_,_,_,_,_,l⟩,g1,g2,g3,g4,g5,g6⟩;exact⟨_,qt fl fc fk,(qt fl fc fk).binds (jA.at (by intro _ _ _ _ _ _ _;rfl)),xa,nC.of xa ci cn ck,mg_of X G a,na,nl⟩
end
theorem all_mk{l:PySem.W.OpenLaw}{w:World}{K:ag}{h:Heap}{mg:aN}{fa:Addr}(X:K.In h)(G:h.Ns mainGlobals mg)(dv:mg "law"=some (.ref fa))
  (p1:cA K "is_turn" DR f1)
  (p2:cA K "still" Ew f2)
  (p3:cA K "behind" D9 f3)
  (p4:cA K "back" E5 f4)
  (p5:cA K "check_turn" CB f5)
  (p6:cA K "check_rows" CC f6)
  (p7:cA K "check_parents" BX f7)
  (p8:cA K "land_of" DS f8)
  (p9:cA K "followed" Dx f9)
  (p10:cA K "turned_back" Co GP)
  (p11:cA K "lines_up" Dy f11)
  (p12:cA K "is_tie" D_ f12)
  (p13:cA K "tie_turn" Dz f13)
  (p14:cA K "fact_key" DA f14)
  (p15:cA K "keep_fact" C0 f15)
  (p16:cA K "fact_fits" C1 f16)
  (p17:cA K "is_name" DT f17)
  (p18:cA K "check_person" B_ f18)
  (R7:cA K "check_tie" yt f19)
  (p20:cA K "sides_fit" C2 f20)
  (R8:cA K "told_already" ym f21)
  (R9:cA K "check_elders" yn f22)
  (p23:cA K "check_saying" S3 f23)
  (p24:cA K "check_section" SK f24)
  (p25:cA K "is_person" C3 f25)
  (p26:cA K "_law_cell" IZ f26)
  (p27:cA K "_law_draws" IA f27)
  (p28:cA K "_law_same" yv f28)
  (p29:cA K "_law_name" DB f29)
  (p30:cA K "_law_up" Ea f30)
  (p31:cA K "_law_asked" C4 f31)
  (p32:cA K "_law_parent" CD f32)
  (p33:cA K "_law_line_holds" BO f33)
  (p34:cA K "_law_build" C5 f34)
  (p35:cA K "_law_refusals" Ca f35)
  (p36:cA K "_law_let_by" CF f36)
  (p37:cA K "law" qI f37)
  (z:pN K ["len","abs","list","range","tuple","any","all","isinstance","bool","int","str","sorted","min","max","sum","dict","reversed","ValueError"])
  (TB:nsIn K mainGlobals "LEAST_SIZE"=some (some (.int (2) Zel)))
  (Ui:nsIn K mainGlobals "MOST_SIZE"=some (some (.int (8) Zer)))
  (SS:nsIn K mainGlobals "LONGEST_NAME"=some (some (.int (12) Zed)))
  (Xe:nsIn K mainGlobals "PUT_IN"=some (some (.int (1) ZeN)))
  (Uj:nsIn K mainGlobals "TAKEN_OUT"=some (some (.int (-1) Zes)))
  (S9:nsIn K mainGlobals "TIE_LETTERS"=some (some (.ref lI)))
  (Ia:PyProof.Rows.KTD.tabLook PyProof.Rows.KTD.flatLooks (λb=>K.lookup b) lI [("mother",PyData.str "m"),("father",PyData.str "f"),("wed",PyData.str "w"),("sibling",PyData.str "s")]=true)
  (VH:nsIn K mainGlobals "PARENTS"=some (some (.ref cS)))
  (VI:K.lookup cS=some ⟨.type "tuple",ZeJ,.seq #[.str "mother" Zet,.str "father" Zeu] ZeK,ZeL⟩)
  (ZbZ:nsIn K mainGlobals "MAN"=some (some (.str "man" ZeV)))
  (Zj:nsIn K mainGlobals "WOMAN"=some (some (.str "woman" ZeQ)))
  (Sh:nsIn K mainGlobals "LETTERS_OF_NAMES"=some (some (.str "abcdefghijklmnopqrstuvwxyz" Zd5)))
  (Sq:nsIn K mainGlobals "SIGNS_OF_NAMES"=some (some (.str "abcdefghijklmnopqrstuvwxyz0123456789" Zd9)))
  (Zau:nsIn K mainGlobals "SAID"=some (some (.str "said" ZeS)))
  (VJ:nsIn K mainGlobals "SIBLING"=some (some (.str "sibling" ZeM)))
  (UR:BA K mI US)
  (sM:zK K mI "__init__" US)
  (UT:BB K [mI] dO ZeC)
  (Zk:AN K "Twice" "Twice.__init__" [mI] CM gu ZeR)
  (Zb0:xC K "Land" cP)
  (lc:wg K cP)
  (UU:cK K cP "__init__" "Land.__init__" C6 ZeD)
  (UW:cK K cP "step" "Land.step" C7 ZeE)
  (Zav:xC K "Joins" bQ)
  (jc:lO K bQ)
  (Uk:cK K bQ "__init__" "Joins.__init__" CG Zev)
  (UX:cK K bQ "add" "Joins.add" C8 ZeF)
  (UY:cK K bQ "tie" "Joins.tie" C9 ZeG)
  (UZ:cK K bQ "say" "Joins.say" C_ ZeH)
  (SU:cK K bQ "open_at" "Joins.open_at" BY Zee)
  (Ul:cK K bQ "left" "Joins.left" CH Zew)
  (SE:cK K bQ "together" "Joins.together" BP Zea)
  (TC:cK K bQ "pairs" "Joins.pairs" Cp Zem)
  (S_:cK K bQ "narrow" "Joins.narrow" Cb Zei)
  (Sa:cK K bQ "bring_together" "Joins.bring_together" BC Zd4)
  (Um:cK K bQ "move" "Joins.move" CI Zex)
  (Zl:xC K "Hearth" c9)
  (hc:fH K c9)
  (TH:cK K c9 "__init__" "Hearth.__init__" Cq Zen)
  (SV:cK K c9 "person" "Hearth.person" BZ Zef)
  (Iu:cK K c9 "tie" "Hearth.tie" yo Zey)
  (Zez:cK K c9 "say" "Hearth.say" T4 ZeA)
  (TK:cK K c9 "keep" "Hearth.keep" Cr Zeo)
  (TL:cK K c9 "take" "Hearth.take" Cs Zep)
  (SW:cK K c9 "people" "Hearth.people" B0 Zeg)
  (SG:cK K c9 "side_of" "Hearth.side_of" BQ Zeb)
  (TM:cK K c9 "kept" "Hearth.kept" Ct Zeq)
  (Uo:cK K c9 "has" "Hearth.has" CK ZeB)
  (Sj:cK K c9 "parent_of" "Hearth.parent_of" BG Zd7)
  (Si:cK K c9 "parents_of" "Hearth.parents_of" BE Zd6)
  (Ta:cK K c9 "joins" "Hearth.joins" Cc Zej)
  (SH:cK K c9 "do_deed" "Hearth.do_deed" BR Zec)
  (Tb:cK K c9 "shift" "Hearth.shift" Cd Zek)
  (SX:cK K c9 "put_in" "Hearth.put_in" B3 Zeh)
  (Sk:cK K c9 "note_fact" "Hearth.note_fact" BH Zd8)
  (Sr:cK K c9 "take_out" "Hearth.take_out" BK Zd_)
  (Ss:PySem.W.mroIn K gu (.ref mI)=some true)
  (Se:PySem.W.mroIn K dO (.ref dO)=some true)
  (Su:PySem.W.mroIn K gu (.ref dO)=some false)
  :∃fd:FuncData,(∀(s:Shared) (v:Value),BindsTo s fd ⟨[v],[]⟩ [("_law_script",v)])/\∀base:Heap,K.In base->base.Ns mainGlobals mg->aG l.prog w K mg base (kR l.prog w) 16 fa fd Al (zS K):=by
 obtain @⟨od,an,sl,oc,kV,dc,pm,cd,ct,ax,lx,cx,kx⟩:=p37;have e:=dv.symm.trans (mg_of X G ax);cases e;have bl:=z.bl X G;have CN:=mg_of X G TB;have Dc:=mg_of X G Ui;have Cg:=mg_of X G SS;have mQ:=mg_of X G Xe;have Di:=mg_of X G Uj;have sG:=mg_of X G S9;have eP:=mg_of X G VH;have qc:∀H,aE K H cS [.str "mother",.str "father"]:=λ_=>.inr ⟨_,_,_,VI,rfl,rfl,by show 2<=sizeLine;decide,(.cons ⟨_,rfl⟩ (.cons ⟨_,rfl⟩ .nil))⟩;have qM:=mg_of X G ZbZ;have qm:=mg_of X G Zj;have BJ:=mg_of X G Sh;have BW:=mg_of X G Sq;have tU:=mg_of X G Zau;have jJ:=mg_of X G VJ;obtain⟨_,_,JI,vx,U0,U1,DJ,mF⟩:=UR.b X G;obtain⟨_,VL,VM,oz,VN,yA,Dn,Dp⟩:=UT.b X G;obtain⟨_,Zaw,Zax,qo,Zay,Zaz,Em⟩:=Zk.b X G uA;have Zb1:=lc.cls;have lM:=jc.cls;have gq:=hc.cls;refine⟨fnOf "law" "law" (iO qI) (fQ qI) (aJ qI) .none kV dc pm an cd ct,λs v=>.of_eq rfl,λbase _ _=>?_⟩;have F:=qt (st:=qI) lx cx kx;have D:h_ l.prog w K mg base:=⟨X,G⟩;have EH:EW l.prog w K mg base "Twice" "told twice" gu:=⟨_,_,Zay,X7 Zaw sM (IB JI bl) vx mF qo Em,Zax,Zaz,qo,Em⟩;have eO:EF l.prog w K mg base "OwnElder" dO:=⟨_,_,VN,UO VL sM (IB JI bl) U0 U1 mF oz Dn Dp bl,VM,yA,oz,Dn,Dp⟩;have mJ:=D.d p26 (λ_ F=>Z0 F bl.zL);have mE:=D.d p27 (λ_ F=>X8 F bl.Zck);have sZ:=D.d p1 (λ_ F=>Vr F bl);have oy:=D.d p9 (λ_ F=>UG F bl);have mw:=D.d p10 (λ_ F=>S5 F bl);have tN:=D.d p2 (λ_ F=>YC F bl);have De:=D.m Zb1 UW (λ_ F=>Z4 F lc);have EC:=D.j Zav Uk (λ_ F=>YH F jc bl);have sv:=D.m lM SE (λ_ F=>UH F jc bl);have lG:=D.m lM SU (λ_ F=>Vw F jc bl);have sF:=D.m lM S_ (λ_ F=>WR F jc bl);have mP:=D.d p12 (λ_ F=>WW F sG Ia);have mH:=D.d p14 (λ_ F=>UL F jJ bl);have B8:=D.m gq SW (λ_ F=>WX (CL:=cP) (CJ:=bQ) F hc bl);have oj:=D.m gq SG (λ_ F=>VC (CL:=cP) (CJ:=bQ) F hc bl);have sN:=D.d p25 (λ_ F=>Ua F bl);have su:=D.m gq Sj (λ_ F=>Ub (CL:=cP) (CJ:=bQ) F hc);have BF:=D.m gq Si (λ_ F=>Tt (CL:=cP) (CJ:=bQ) F hc eP qc);have Cw:=D.m gq TM (λ_ F=>Zad (CL:=cP) (CJ:=bQ) F hc bl);have DY:=D.d p17 (λ_ F=>VF F Cg BJ BW bl);have El:=D.j Zl TH (λ_ F=>Y_ (CL:=cP) (CJ:=bQ) F hc);have sQ:=D.d p20 (λ_ F=>Ud F qM qm jJ);have mS:=D.d p30 (λ_ F=>Xb F bl);have DK:=D.d p29 (λ_ F=>UP F bl);have mC:=D.d p32 (λ_ F=>Tw F);have yj:=D.d p33 (λ_ F=>UQ F bl);have mG:HasFn l.prog w K mg base 4 "_law_same" k_ (oS 4):=let⟨_,F,b,k,m⟩:=D.p (ps:=k_) p28;⟨_,_,Ma F b k m bl 4,b,k,m⟩;have pX:=D.d p5 (λ_ F=>ZbL F sZ);have sI:=D.d p6 (λ_ F=>Z2 F sZ CN Dc bl);have sO:=D.m lM UX (λ_ F=>ZbM F jc tN bl);have Df:=D.m lM UZ (λ_ F=>ZbN F lG sF bl);have yp:=D.m lM Um (λ_ F=>Z6 F jc oy mw bl);have Cv:=D.m lM TC (λ_ F=>YL F jc sv lG bl);have sV:=D.d p13 (λ_ F=>UJ (CL:=cP) F sG Ia lc mP De);have sL:=D.m gq Uo (λ_ F=>ZbS (CL:=cP) (CJ:=bQ) F hc mH);have BI:=D.m gq Sk (λ_ F=>Zai (CL:=cP) (CJ:=bQ) F hc eP qc mH);have BM:=D.m gq Sr (λ_ F=>UM (CL:=cP) (CJ:=bQ) F hc eP qc sN mH);have Ci:=D.d p18 (λ_ F=>SO (C:=c9) (CL:=cP) (CJ:=bQ) F DY qM qm B8);have sW:=D.d p11 (λ_ F=>UN (C:=c9) (CL:=cP) (CJ:=bQ) F BF);have tH:=D.d p3 (λ_ F=>ZcE F pX oy bl);have v8:=D.d p4 (λ_ F=>ZcF F pX mw bl);have BD:=D.m lM Sa (λ_ F=>YK F jc mw yp bl);have sJ:=D.m lM Ul (λ_ F=>Z7 F Cv bl);have vd:=D.d R8 (λ_ F=>Zan (C:=c9) (CL:=cP) (CJ:=bQ) F jJ eP qc su sL);have ve:=D.d R9 (λ_ F=>SQ (C:=c9) (CL:=cP) (CJ:=bQ) F sW);have Ck:=D.d R8 (λ_ F=>SA (C:=c9) (CL:=cP) (CJ:=bQ) F jJ eP qc su sL);have Cm:=D.dX R9 (λ_ F=>SD (C:=c9) (CL:=cP) (CJ:=bQ) F sW eO);have B4:=D.d p7 (λ_ F=>Vs F tH bl);have Dg:=D.m lM UY (λ_ F=>ZbQ F jc sJ sv BD sF bl);have Dh:=D.d p16 (λ_ F=>T9 (CL:=cP) (CJ:=bQ) F tU sV lG sJ);have vv:=D.d R7 (λ_ F=>Ue (C:=c9) (CL:=cP) (CJ:=bQ) F eP qc mP sQ oj vd ve);have Dj:=D.dX R7 (λ_ F=>Tu (C:=c9) (CL:=cP) (CJ:=bQ) F eP qc mP sQ oj Ck Cm EH);have E7:=D.j Zb0 UU (λ_ F=>Z3 F lc sI B4 v8 tN bl);have sP:=D.d p15 (λ_ F=>T8 (CL:=cP) (CJ:=bQ) F tU sV Df Dg);have D0:=D.d p8 (λ_ F=>Vv (C:=cP) F sI tH E7);have B6:=D.m gq SX (λ_ F=>WZ (CL:=cP) (CJ:=bQ) F hc sN sO BI sP bl);have Cj:=D.m gq Ta (λ_ F=>YY (CL:=cP) (CJ:=bQ) F hc lc EC sO sP);have Cf:=D.m gq Tb (λ_ F=>YX (CL:=cP) (CJ:=bQ) F hc mQ B6 BM);have mn:=D.m gq SH (λ_ F=>VD (CL:=cP) (CJ:=bQ) F hc Cf);have B9:=D.m gq SV (λ_ F=>W_ (CL:=cP) (CJ:=bQ) F hc mQ Ci mn);have sH:=D.m gq TK (λ_ F=>Zak (CL:=cP) (CJ:=bQ) F hc mQ Dh Cj mn);have Cy:=D.m gq TL (λ_ F=>Zal (CL:=cP) (CJ:=bQ) F hc Di mn);have vq:=D.m gq Iu (λ_ F=>Zao (CL:=cP) (CJ:=bQ) F hc vv sH);have CP:=D.mX gq Iu (λ_ F=>Za (CL:=cP) (CJ:=bQ) F hc Dj sH);have p_:=D.d p31 (λ_ F=>Ug (C:=c9) (CL:=cP) (CJ:=bQ) F CP mF DJ yA oz Dn Dp qo Em Se Su Ss);have Dm:=D.d p34 (λ_ F=>Uh (C:=c9) (CL:=cP) (CJ:=bQ) F mE mC mS vq bl);have Cn:=D.d p35 (λ_ F=>SR (C:=c9) (CL:=cP) (CJ:=bQ) F mJ mE mG mC mS p_ yj Cw bl);have CQ:=D.d p36 (λ_ F=>Tz (C:=c9) (CL:=cP) (CJ:=bQ) F mG mC mS p_ Cy bl);exact ZbY F mJ mE DK Dm Cn CQ D0 El B9 bl
theorem walk{l:PySem.W.OpenLaw}{q:Program}{loose:List Str}{XP:(Str->Option Value)->Heap->Prop}{YP:World->Heap->Prop}{d:DefRec}{K:Params->ag}(hn:l.most=some 63)(w_:d.params.defaults=[])
  (hY:∀(w:World) (h:Heap),YP w h->(K w.params).In h)
  (F:∀(w:World) (mg:aN) (fa:Addr) (h:Heap),(K w.params).In h->h.Ns mainGlobals mg->mg d.name=some (.ref fa)->
   ∃fd:FuncData,(∀(s:Shared) (u:Value),BindsTo s fd ⟨[u],[]⟩ [("_law_script",u)])/\∀base:Heap,(K w.params).In base->base.Ns mainGlobals mg->aG l.prog w (K w.params) mg base (kR l.prog w) 16 fa fd Al (zS (K w.params))):
  PySem.W.WalkO q loose XP YP l.row.toRowW d [] (λf vs=>PySem.call f vs):=
 L2.Zx (n:=63) (k:=16) (x:="_law_script") (CX:=λw=>kR l.prog w) (sp:=λw=>zS (K w.params)) hn (by decide) w_ ⟨rfl,by decide,by decide,rfl⟩ hY F (λ_ _ a ns hl _ hS=>⟨a,ns,rfl,hS,hl,λ_=>rfl⟩) λ_ _ _ _ _ h=>by obtain⟨_,_,_,_,_,_,_,_,_,_,_,_,_,_,z⟩:=h;exact z
end AO
namespace PySem.W.Fast
def tw6801148125180612496:=0
def tw3342897709361170935:=0
def tw11227868540738875424:=0
def tw11219948048243560512:=0
def tw7847237255058038560:=0
def tw14880689110377249857:=0
def tw3111311532277863681:=0
def tw609502037547140451:=0
def tw7335592111362613668:=0
def tw1709741812684693573:=0
def tw9615215197921961509:=0
def tw15332160022790253509:=0
def tw16928121449429167174:=0
def tw4479103188577631271:=0
def tw5780186719235674215:=0
def tw923215120211286279:=0
def tw5711645968929377832:=0
def tw2624529787153172296:=0
def tw17226444543177517386:=0
def tw342459179136452170:=0
def tw12024724200633398891:=0
def tw12559991547948920491:=0
def tw5059059721591504715:=0
def tw3033130521126330510:=0
def tw5527273609885139214:=0
def tw12454140323038241102:=0
def tw1582351223119777167:=0
def tw4649040851198314223:=0
def tw9695688654223980816:=0
def tw1802282960180105840:=0
def tw9794679541968765744:=0
def tw12866865261312506065:=0
def tw230025554023296625:=0
def tw11099561202853876882:=0
def tw11793779183188171219:=0
def tw3134429067822402291:=0
def tw15291129269432637331:=0
def tw61783045087684595:=0
def tw15227640359694581236:=0
def tw5721688165390330452:=0
def tw182602137414405302:=0
def tw856830971739068598:=0
def tw3070132428684906038:=0
def tw13297575102244829399:=0
def tw17745702156167506199:=0
def tw13766469660961669591:=0
def tw11353808738296405464:=0
def tw17479823322642722457:=0
def tw15140132136581548953:=0
def tw3532675607726713178:=0
def tw7316112895694727898:=0
def tw16746508019182311771:=0
def tw3200828348438599099:=0
def tw17780034407496318012:=0
def tw9829037230227423612:=0
def tw17533281837407823102:=0
def tw4094019628661868639:=0
def tw5965236572824601724:=0
def tw8327607368389577355:=0
def tw6139994342493519404:=0
def tw14014351000856864890:=0
def tw5514507979662145653:=0
def tw1086006076024162729:=0
def tw2914146634992719080:=0
def tw4215911758869789421:=0
def tw13986878164516523994:=0
def tw13352835633971301413:=0
def tw11715282029891691065:=0
def tw10856122995229324158:=0
def tw9560165716545869079:=0
def tw8959777822543275238:=0
def tw14358930671398327740:=0
def tw15653566555275729704:=0
def tw1569728106467322874:=0
def tw13930335626367429617:=0
def tw5759523791056005233:=0
def tw16507543234682323298:=0
def tw696262433787949882:=0
def tw14201040674652201752:=0
def tw7831237690267962571:=0
def tw15504559130313861538:=0
def tw16439912491363634635:=0
def tw5436122574026770987:=0
def tw17758338322449484250:=0
def tw9374515661383083935:=0
def tw261565806437871665:=0
def tw8726998752747292319:=0
def tw15145457194431734430:=0
def tw12076299323689320294:=0
def tw17440334559105545611:=0
def tw2842630065060451116:=0
def tw17218784240179899014:=0
def tw16191402898667260799:=0
def tw9276402667458948952:=0
def tw2626772950633990982:=0
def tw11419034213622411347:=0
def tw10963674142527073685:=0
def tw13868255389226374867:=0
def tw2090675764366692339:=0
def tw10962483661529229877:=0
def tw5625725986381646246:=0
def tw109311499840819283:=0
def tw78405742492101524:=0
def tw18432092965902621753:=0
def tw17309022195867030495:=0
def tw10062977435730669564:=0
def tw2678066131956747136:=0
def tw1952188504124674594:=0
def tw5448216820816647211:=0
def tw2222438758066905538:=0
def tw13254861378149510395:=0
def tw2656957615946390027:=0
def tw17242445373419159334:=0
def tw9410147738935906669:=0
def tw11055696934292404926:=0
def tw1815823068412091736:=0
def tw14579049408824295986:=0
def tw14006602280079338207:=0
def tw3283052132380480747:=0
def tw12856825080431165383:=0
def tw17046275942170212241:=0
def tw15690101928210768608:=0
def tw11177859230345380163:=0
def tw10280271558521119676:=0
def tw10446989301417089188:=0
def tw7171775753070806843:=0
def tw16506820801896375230:=0
def tw8231351361636542301:=0
def tw5369083391296950614:=0
def tw8738203167096958741:=0
def tw2796327054291988998:=0
def tw17364031389564638868:=0
def tw8374079183489304981:=0
def tw13483206864899245106:=0
def tw9315488609213851268:=0
def tw15120674956799467367:=0
def tw990244576479390409:=0
def tw18255367900612127406:=0
def tw6630035814169163029:=0
def tw2962225442059516257:=0
def tw3340593052323754894:=0
def tw6779070155754995551:=0
def tw14174098850206950202:=0
def tw11714781035691001001:=0
def tw2345863653397651039:=0
def tw12434881574440074480:=0
def tw17766458034498311367:=0
def tw15633611511759639542:=0
def tw1172139056878097311:=0
def tw13233899086415254335:=0
def tw7133344523944127280:=0
def tw18174476528449085165:=0
def tw8913386170414488045:=0
def tw3381587640134590111:=0
def tw4195575002166770201:=0
def tw17160656202302911499:=0
def tw14936558882373281101:=0
def tw3747562450772204883:=0
def tw9321661683801640380:=0
def tw9266252830445300472:=0
def tw11828183763714986220:=0
def tw10723343733118108184:=0
def tw10399271907662793651:=0
def tw1419259448707401403:=0
def tw808942202841952755:=0
def tw12829738189458881434:=0
def tw12201364282496742821:=0
def tw6307430388289538486:=0
def tw8189010295593222477:=0
def tw15138846014192616724:=0
def tw5042053200787437201:=0
def tw10701978673050052234:=0
def tw3480585675808346431:=0
def tw7955738720763202319:=0
def tw10130975136101020258:=0
def tw13237094367658739078:=0
def tw12573924250253569935:=0
def tw6957455983773618313:=0
def tw11867764248564278985:=0
def tw14077139881343125910:=0
def tw4122271482010818783:=0
def tw9762910046690467089:=0
def tw5832440953729722834:=0
def tw8422208044514610472:=0
def tw6047673756392157097:=0
def tw11733118848707272707:=0
def tw1120639299632148795:=0
def tw9498413806269340228:=0
def tw15231812773118057247:=0
def tw17533797338187535305:=0
def tw4393889981882861499:=0
def tw1451405687999227043:=0
def tw8638015958255891328:=0
def tw3253754261513306012:=0
def tw16351006780323926273:=0
def tw2334155371644316273:=0
def tw4322964878710727408:=0
def tw15944025043492266234:=0
def tw10411452960949174035:=0
def tw8315698850453895534:=0
def tw1044018120537983068:=0
def tw6599451004227802679:=0
def tw11261758793665796879:=0
def tw13091766350165829146:=0
def tw9745177852754889124:=0
def tw17102495715438614596:=0
def tw16660351707597206450:=0
def tw39436120875019567:=0
def tw801952038769600991:=0
def tw9314823318646656913:=0
def tw8090666729592190910:=0
def tw18211780040214323400:=0
def tw11532716424931733193:=0
def tw10287426640800590816:=0
def tw10297002369016348993:=0
def tw18051024840524808136:=0
def tw11554466365263442632:=0
def tw7571366407606525878:=0
def tw15088850308809752145:=0
def tw3441392645664142226:=0
def tw1342743594105431044:=0
def tw6955523887748271354:=0
def tw132009906981068752:=0
def tw3155709965226496036:=0
def tw1554664688277985444:=0
def tw5217839242507437180:=0
def tw17809225033866856590:=0
def tw15396042297543940743:=0
def tw2588212953242822953:=0
def tw4226301523475095316:=0
def tw11082035538601410938:=0
def tw2609281027842118525:=0
def tw15878423022404070545:=0
def tw6268188375637509240:=0
def tw4999558996923141127:=0
def tw3129207736109898071:=0
def tw4122305179622018403:=0
def tw15321604018971154647:=0
def tw5147478044217836570:=0
def tw7162590497983436834:=0
def tw1522474485514950092:=0
def tw7419911804221580677:=0
def tw8185842119011335843:=0
def tw14947974203583489871:=0
def tw13607746221388993373:=0
def tw3325060495725805225:=0
def tw13785371659308871085:=0
def tw14878114744778457179:=0
def tw15629717764711159162:=0
def tw7298147297682699304:=0
def tw15777768641477839877:=0
def tw2497071161625819347:=0
def tw8400840283062637565:=0
def tw5861675460529675283:=0
def tw8707609793168261497:=0
def tw7284773081769107803:=0
def tw488057740639612065:=0
def tw4367648424961038248:=0
def tw17741376951426011197:=0
def tw15891527842902083283:=0
def tw14588111894925035602:=0
def tw15598299264599994126:=0
def tw12032767400589489761:=0
def tw17086552312494191129:=0
def tw8920463322343378443:=0
def tw13206519052523136367:=0
def tw2206373493886259050:=0
def tw11359274909054020229:=0
def tw15532661030602842535:=0
def tw15550979993557055930:=0
def tw5019982421011557059:=0
def tw10434844346375824643:=0
def tw12500295251127728466:=0
def tw10619595880358283626:=0
def tw17858402946940454622:=0
def tw5904591191384310018:=0
def tw1920260504482390876:=0
def tw7178321364541162984:=0
def tw9767424145417913535:=0
def tw252312094474485608:=0
def tw16611448488812177360:=0
def tw6513503222081550735:=0
def tw4984859126108368093:=0
def tw18058620114101721594:=0
def tw11773988328844311957:=0
def tw15452742692697102805:=0
def tw16618246192831730483:=0
def tw14837993698755557103:=0
def tw14556760251686082391:=0
def tw11037630475356960522:=0
def tw6862405687400659901:=0
def tw16416110807123814844:=0
def tw8334970784018223240:=0
def tw4429042157409010715:=0
def tw3828838406017904053:=0
def tw2806853745666602940:=0
def tw13778023580811928001:=0
def tw9300380328078733671:=0
def tw8790760558594389177:=0
def tw11085819434376243304:=0
def tw8860876366805975929:=0
def tw7119578327415281057:=0
def tw14504288781805540472:=0
def tw15111512815293570379:=0
def tw8089285870996982577:=0
def tw1717177362680384142:=0
def tw12190927246620837220:=0
def tw717442441051286168:=0
def tw4063213712896039877:=0
def tw1911643640237186381:=0
def tw7953065525298080603:=0
def tw5081263275784571826:=0
def tw2655364020432302489:=0
def tw17826228514369780803:=0
def tw15610372801878802937:=0
def tw14335359677317635357:=0
def tw10523226532562546664:=0
def tw10473673457945065576:=0
def tw1022420182869381373:=0
def tw17226204797130493241:=0
def tw16325773634155526118:=0
def tw7997268127640686226:=0
def tw3516272005572540946:=0
def tw3305139383662266559:=0
def tw13759096497027227128:=0
def tw13441347486705543488:=0
def tw12906903655267459658:=0
def tw10858356275635635336:=0
def tw12723514560104490350:=0
def tw3153716549797937400:=0
def tw8623733470967918062:=0
def tw17974975339734292092:=0
def tw13712452049627553997:=0
def tw17930807954393134669:=0
def tw1469510289002397165:=0
def tw13433913515887400508:=0
def tw7919259619486158788:=0
def tw7425219857878303828:=0
def tw7374050011859958180:=0
def tw6033279047985850947:=0
def tw3758035072222230499:=0
def tw3438210398376993512:=0
def tw1628047960327455098:=0
def tw13336329077468728768:=0
def tw13269883184854911450:=0
def tw12230569840211498912:=0
def tw15962711990570691026:=0
def tw113801895709878059:=0
def tw10934849013785545064:=0
def tw7130296197311634836:=0
def tw5816923669307616118:=0
def tw5346607254319197023:=0
def tw5416772365505502029:=0
def tw2680335136806051714:=0
def tw3892714147706867815:=0
def tw7800892504168007347:=0
def tw4911963515909427674:=0
def tw1945138292155788719:=0
def tw15447460379047415520:=0
def tw1943311143110755822:=0
def tw17062552215201932270:=0
def tw4436521050589125337:=0
def tw13510491704357668642:=0
def tw2786054863502577210:=0
def tw13653971176883108348:=0
def tw14904467726543535366:=0
def tw10664430923206501413:=0
def tw15067015367998081079:=0
def tw13771288687142086062:=0
def tw13619737650624026383:=0
def tw13369507795453077188:=0
def tw11591900261583145722:=0
def tw10791072815548057333:=0
def tw1458271646292758149:=0
def tw7958739772116876971:=0
def tw18192959206319008503:=0
def tw14051687586383685536:=0
end PySem.W.Fast
open PySem PySem.W PyProof.Rows
set_option maxRecDepth 100000 in
set_option maxHeartbeats 0 in
theorem PySem.Challenge.cw_kinhearth_k25_nobody_among_their_forebea_holds : PySem.Challenge.rw_kinhearth_k25_nobody_among_their_forebea.Holds := by
 w_on; o_law; k_head; (case hw=>w_witness2)
 k_fill
 refine AO.walk (l:=PySem.Challenge.rw_kinhearth_k25_nobody_among_their_forebea) rfl rfl (λ w h Y=>kIn_of Y) ?F
 case F=>
  intro w mg fa h KX G xf
  apply AO.all_mk KX G xf <;> repeat' first | k_is | (show _=_; k_is) | kernel_rfl | constructor
