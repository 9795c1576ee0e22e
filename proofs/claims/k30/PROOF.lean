import PyProof.Rows.All
import Wide.All
import OpenK.AllK
import Wide.FinOn
import Lean
import PyProof.EqAt
import PyProof.EqKinds
import PyProof.TupleCall
import PyProof.NeKinds
import PyProof.ConsumeWalk
import PyProof.ListRange
import PyProof.TupleOfSeq
import PyProof.Rows.SortWalk
import PyProof.CompFree
import PySem.Challenge.RW_kinhearth_k30_pairs_between_two
set_option Elab.async false
set_option linter.all false
set_option maxRecDepth 100000
set_option maxHeartbeats 4000000
abbrev ah:=PySem.W.Frag
abbrev a8:=PySem.Value->PySem.Shared->Prop
abbrev aU:=List (PySem.Addr×PySem.Obj)
abbrev aQ:=PySem.Str->Option PySem.Value
open PySem
open PySem.W (instObj methodObj lookIn plainGet hasDictIn handedIn plainGet_of findObj_own isFn plainOver takerIn set_plain any_some makesIn typeIn emptyDict keepIn specialIn takesIn kitOne kia_one kitx_list kitx_dict callWith_K methodCall_KW cellsFrom_some fnOf codeIn notCls check_slot KitX osa_eq kitCls findCls subIn nsIn mg_of kIn_of)
open PySem.F (slot_tuple_add excBase_ValueError slot_dict_delitem slot_dict_pop slot_dict_get entry_dict_get plainAttrs_dict type_dict_get plainAttrs_list)
abbrev Ya:=@List.length_map
abbrev Yb:=@Heap.get?_push_of_some
abbrev Yc:=@List.getElem?_eq_getElem
abbrev Yd:=@Nat.le_refl
abbrev Ye:=@List.getElem?_map
abbrev Yf:=@List.getD_eq_getElem?_getD
abbrev Yg:=@List.mem_of_getElem?
abbrev Yh:=@List.mem_map
abbrev Yi:=@List.length_append
abbrev Yj:=@Bool.false_ne_true
abbrev Yk:=@List.mem_singleton
abbrev Yl:=@List.getElem?_eq_some_iff
abbrev Ym:=@List.map_append
abbrev Yn:=@Option.some.inj
abbrev Yo:=@List.mem_cons_self
abbrev Yp:=@List.mem_cons
abbrev Yq:=@List.mem_append
abbrev Yr:=@List.mem_append_right
abbrev Ys:=@Heap.lt_size
abbrev Yt:=@List.mem_append_left
abbrev Yu:=@Heap.get?_push_size
abbrev Yv:=@List.size_toArray
abbrev Yw:=@List.mem_cons_of_mem
abbrev Yx:=@Nat.zero_le
abbrev Yy:=@Nat.ne_of_lt
abbrev Yz:=@List.nodup_cons
abbrev Y0:=@Nat.le_trans
abbrev Y1:=@List.take_add_one
abbrev Y2:=@Nat.lt_of_lt_of_le
abbrev Y3:=@List.not_mem_nil
abbrev Y4:=@List.getElem?_eq_none
abbrev Y5:=@List.mem_filter
abbrev Y6:=@Int.toNat_natCast
abbrev Y7:=@List.length_cons
abbrev Y8:=@List.length_take
abbrev Y9:=@Array.getD_eq_getD_getElem?
abbrev Wa:=@Heap.get?_update_other
abbrev Wb:=@List.take_length
abbrev Wc:=@Nat.lt_irrefl
abbrev Wd:=@List.append_nil
abbrev We:=@List.getElem?_append_left
abbrev Wf:=@Sum.inr.inj
abbrev Wg:=@List.mem_range
abbrev Wh:=@List.length_filter_le
abbrev Wi:=@List.map_map
abbrev Wj:=@Bool.eq_iff_iff
abbrev Wk:=@Nat.not_lt_zero
abbrev Wl:=@Bool.and_eq_true
abbrev Wm:=@List.all_eq_true
abbrev Wn:=@Heap.get?_update_self
abbrev Wo:=@List.ext_getElem?
abbrev Wp:=@List.map_cons
abbrev Wq:=@Int.emod_lt_of_pos
abbrev Wr:=@List.filter_append
abbrev Ws:=@List.mem_iff_getElem
abbrev Wt:=@List.take_of_length_le
abbrev Wu:=@Nat.lt_succ_of_lt
abbrev Wv:=@List.nodup_append
abbrev Ww:=@Array.getElem?_eq_getElem
abbrev Wx:=@List.pairwise_iff_getElem
abbrev Wy:=@List.length_replicate
abbrev Wz:=@List.lookup_cons
abbrev W0:=@List.filter_cons
abbrev W1:=@List.pairwise_map
abbrev W3:=@Nat.le_succ_of_le
abbrev W4:=@List.length_set
abbrev W5:=@Int.emod_nonneg
abbrev W6:=@Array.length_toList
abbrev W7:=@List.map_congr_left
abbrev W8:=@List.nodup_iff_pairwise_ne
abbrev W9:=@Nat.lt_of_le_of_lt
abbrev Ja:=@List.nodup_nil
abbrev Jb:=@Option.isSome_iff_exists
abbrev Jc:=@List.length_range
abbrev Jd:=@List.length_zip
abbrev Je:=@Nat.ne_of_gt
abbrev Jf:=@List.filterMap_cons
abbrev Jg:=@List.all_cons
abbrev Jh:=@Nat.lt_succ_self
abbrev Ji:=@List.mem_filterMap
abbrev Jj:=@List.filter_filter
abbrev Jk:=@Nat.le_of_lt
abbrev Jl:=@Nat.le_of_ble_eq_true
abbrev Jm:=@List.any_cons
abbrev Jn:=@Bool.eq_false_iff
abbrev Jo:=@List.append_assoc
abbrev Jp:=@List.getElem?_append_right
abbrev Jq:=@Array.getElem?_eq_some_iff
abbrev Jr:=@Array.perm_iff_toList_perm
abbrev Js:=@List.pairwise_append
abbrev Jt:=@Heap.size_push
abbrev Ju:=@List.getElem_mem
abbrev Jv:=@List.length_drop
abbrev Jw:=@Int.toNat_of_nonneg
abbrev Jx:=@List.getElem?_range
abbrev Jy:=@List.filter_cons_of_pos
abbrev Jz:=@List.getElem?_cons_succ
abbrev J0:=@List.filter_map
abbrev J1:=@Bool.true_and
abbrev J3:=@Array.getElem?_eq_none
abbrev J7:=@Nat.le_succ
abbrev J8:=@Heap.get?_push_ne
abbrev J9:=@Array.getElem?_toList
abbrev JY:=@List.any_eq_true
abbrev Td:=@List.getElem?_set_ne
abbrev BZ:=@Bool.false_or
abbrev JN:=@List.of_mem_zip
abbrev TU:=@Heap.get?_update_ne
abbrev Kd:=@List.find?_cons
abbrev Lr:=@Bool.or_eq_true
abbrev Ca:=@Int.zero_add
abbrev Us:=@List.zip_cons_cons
abbrev Tp:=@List.any_eq_false
abbrev T5:=@Option.isSome_map
abbrev Cf:=@Sum.inl.inj
abbrev T4:=@List.cons_append
abbrev UE:=@List.mem_flatMap
abbrev JM:=@Nat.le_of_eq
abbrev J_:=@Int.ne_of_gt
abbrev TK:=@List.length_nil
abbrev Kw:=@List.all_map
abbrev Ue:=@List.nil_append
namespace L2
open PySem PySem.Spec PyProof.Rows
abbrev Key:=Sum Int Str
def se:Key->Value->Bool
 |.inl k,v=>Value.isInt k v
 |.inr x,v=>Value.isStrOf x v
def Zgg(w:World):Key->Int
 |.inl k=>hashInt k
 |.inr x=>hashStr w x
theorem lW:∀{k:Key} {v:Value},se k v=true->(∃i t,k=Sum.inl i/\v=Value.int i t)\/(∃x t,k=Sum.inr x/\v=Value.str x t)
 |.inl i,v,h=>by
  obtain⟨t,e⟩:=Value.isInt_shape h
  grind
 |.inr x,v,h=>by
  obtain⟨t,e⟩:=Value.isStrOf_shape h
  grind
def Zao(i:Int)(t:Tok):se (.inl i) (.int i t)=true:=by simp[se,Value.isInt]
def Zap(x:Str)(t:Tok):se (.inr x) (.str x t)=true:=by simp[se,Value.isStrOf]
def ZdX(a b:Int):decide ((Sum.inl a:Key)=Sum.inl b)=(a==b):=by
 grind
def ZdY(a b:Str):decide ((Sum.inr a:Key)=Sum.inr b)=decide (a=b):=by
 grind
def ZdZ(a:Int)(b:Str):decide ((Sum.inl a:Key)=Sum.inr b)=false:=decide_eq_false (λq=>nomatch q)
def Zd0(a:Str)(b:Int):decide ((Sum.inr a:Key)=Sum.inl b)=false:=decide_eq_false (λq=>nomatch q)
def dE(prog:Program)(w:World):PySem.KeyKind prog w Key where
 is:=se
 hash:=Zgg w
 inj:=λv a b ha hb=>by
  rcases lW ha with⟨i,t,rfl,rfl⟩|⟨x,t,rfl,rfl⟩
  ·rcases lW hb with⟨j,u,rfl,e⟩|⟨y,u,rfl,e⟩;·injection e with e1 _;rw[e1]
   ·exact nomatch e
  ·rcases lW hb with⟨j,u,rfl,e⟩|⟨y,u,rfl,e⟩;·exact nomatch e
   ·injection e with e1 _;rw[e1]
 byValue:=λk v h=>by
  rcases lW h with⟨i,t,rfl,rfl⟩|⟨x,t,rfl,rfl⟩<;>rfl
 pyHash:=λhv h=>by
  rcases lW hv with⟨i,t,rfl,rfl⟩|⟨x,t,rfl,rfl⟩;·exact wpAny_pyHash_int h
  ·exact wpAny_pyHash_str h
 eqBool:=λhu hv h=>by
  rcases lW hu with⟨i,t,rfl,rfl⟩|⟨x,t,rfl,rfl⟩
  ·rcases lW hv with⟨j,u,rfl,rfl⟩|⟨y,u,rfl,rfl⟩;·rw[ZdX] at h;exact wpAny_eqBool_int h
   ·rw[ZdZ] at h;exact SeqAt.EqAt.int_str i t y u _ _ _ _ h
  ·rcases lW hv with⟨j,u,rfl,rfl⟩|⟨y,u,rfl,rfl⟩;·rw[Zd0] at h;exact SeqAt.EqAt.str_int x t j u _ _ _ _ h
   ·rw[ZdY] at h;exact wpAny_eqBool_str h
 «strs»:=λk x t v h=>by
  rcases lW h with⟨i,u,rfl,e⟩|⟨y,u,rfl,e⟩;·exact nomatch e
  ·injection e with e1 _;subst e1;cases v<;>rfl
def YC(prog:Program)(w:World)(i:Int)(t:Tok):(dE prog w).is (.inl i) (.int i t)=true:=Zao i t
def YD(prog:Program)(w:World)(x:Str)(t:Tok):(dE prog w).is (.inr x) (.str x t)=true:=Zap x t
inductive V where
 |az|bl (b:Bool)|int (i:Int)|str (x:Str)|jI (b:Array UInt8)|sV (b:UInt64)|ref (a:Addr)|ty (n:String)
 deriving DecidableEq
def RelV:V->Value->Prop
 |.az,u=>u=Value.none
 |.bl b,u=>u=Value.bool b
 |.int i,u=>∃t,u=Value.int i t
 |.str x,u=>∃t,u=Value.str x t
 |.jI b,u=>∃t,u=Value.bytes b t
 |.sV b,u=>∃t,u=Value.float b t
 |.ref a,u=>u=Value.ref a
 |.ty n,u=>u=Value.type n
abbrev Vals:List V->List Value->Prop:=Paired RelV
def Vals.length{xs:List V}{us:List Value}(r:Vals xs us):xs.length=us.length:=Paired.length r
theorem Vals.get:∀{xs:List V} {us:List Value} {i:Nat} {x:V},Vals xs us->xs[i]?=some x->∃u,us[i]?=some u/\RelV x u
 |_,_,_,_,.nil,e=>by simp at e
 |_,_,0,_,.cons r _,e=>by simp at e;subst e;exact⟨_,rfl,r⟩
 |_,_,i+1,x,.cons _ t,e=>by
  obtain⟨u,h1,h2⟩:=Vals.get t (by simpa using e)
  grind
theorem Vals.set{x:V}{u:Value}(r:RelV x u):∀{xs:List V} {us:List Value} (i:Nat),Vals xs us->Vals (xs.set i x) (us.set i u)
 |_,_,_,.nil=>.nil
 |_,_,0,.cons _ t=>.cons r t
 |_,_,i+1,.cons q t=>.cons q (Vals.set r i t)
theorem Vals.append:∀{xs ys:List V} {us ws:List Value},Vals xs us->Vals ys ws->Vals (xs++ys) (us++ws):=by
 intro xs ys us ws h h';induction h with
 |nil=>exact h'
 |cons r t ih=>exact .cons r ih
theorem Vals.take:∀{xs:List V} {us:List Value} (n:Nat),Vals xs us->Vals (xs.take n) (us.take n)
 |_,_,0,_=>.nil
 |_,_,_+1,.nil=>.nil
 |_,_,n+1,.cons r t=>.cons r (Vals.take n t)
theorem Vals.drop:∀{xs:List V} {us:List Value} (n:Nat),Vals xs us->Vals (xs.drop n) (us.drop n)
 |_,_,0,r=>r
 |_,_,_+1,.nil=>.nil
 |_,_,n+1,.cons _ t=>Vals.drop n t
def d7:Option V->Option Value->Prop
 |some v,some u=>RelV v u
 |none,none=>True
 |_,_=>False
def KV{κ:Type}:List (κ×V)->List (κ×Value)->Prop:=Paired λ(p:κ×V) (q:κ×Value)=>p.1=q.1/\RelV p.2 q.2
def kV:Key->V
 |.inl i=>.int i
 |.inr x=>.str x
inductive HO where
 /--a list-/
 |lst(xs:List V)
 /--a tuple(never changes)-/
 |tup(xs:List V)
 /--a dict Zft keys are ints and texts;one Zft keys are tuples of ints and texts(pq empty one is both)-/
 |dK(kvs:List (Key×V))|dT(kvs:List (List Key×V))
 /--a set of ints:ai members,ai size-/
 |set (S:Int->Bool) (n:Nat)
 /--an instance of pq class at C,ai dict at dx,ai attributes-/
 |ins (C dx:Addr) (fs:List (Str×V))
 /--pq dict of pq instance at x-/
 |own (x:Addr)
 /--pq dict of an exception-/
 |xd (fs:List (Str×V))
 /--a bound method,f of x-/
 |met (f x:Addr)
 /--a range object lo,lo+1,.. below hi-/
 |jJ (lo hi:Int)
 /--a Zfu ZiF is known to pq object (pq PR;a dict while a loop walks it):read,never written while it is so-/
 |cA (o:Obj) (u:HO)
 /--a code Zit table-/
 |qI (ps:Array Value)
 /--any other Zfu,by Zgh is true of ai one object (a def of ZiB own:ZiG a S n:=HO.ext λh=>..)-/
 |ext (φ:Heap->Prop)
abbrev Hp:=Addr->Option HO
def upd(H:Hp)(a:Addr)(o:HO):Hp:=λb=>if b=a then some o else H b
def aR{H:Hp}{a:Addr}{o:HO}:upd H a o a=some o:=by unfold upd;rw[if_pos rfl]
def aK{H:Hp}{a b:Addr}{o:HO}(h:b≠a):upd H a o b=H b:=by unfold upd;rw[if_neg h]
def Gp{H:Hp}{a:Addr}{o u:HO}:upd (upd H a o) a u=upd H a u:=by
 funext b;unfold upd;split<;>rfl
def Rc{H:Hp}{a b:Addr}{o u:HO}(h:H a=some o)(h':H b=some u)(d:o≠u):a≠b:=by
 intro e;subst e;rw[h] at h';exact d (Yn h')
def bY{H:Hp}{a b:Addr}{o:HO}(h:H a=some o)(h':H b=none):a≠b:=by
 grind
section
variable (P:Program)(w:World)
def ni(h:Heap)(a:Addr)(items:Array Value):Prop:=∃o,h.get? a=some o/\o.cls=.type "tuple"/\∃n,o.data=.seq items n/\o.dict=none
def ni.tup{h:Heap}{a:Addr}{items:Array Value}(x:ni h a items):IsTup h a items:=let⟨o,e,c,n,d,_⟩:=x;⟨o,e,c,n,d⟩
def ni.lt{h:Heap}{a:Addr}{items:Array Value}(x:ni h a items):a<h.objs.size:=x.tup.lt
def ni.new(h:Heap)(items:Array Value):ni (h.push {cls:=.type "tuple",data:=.seq items}) h.objs.size items:=⟨_,Yu _ rfl,rfl,_,rfl,rfl⟩
def cJ(H:Hp)(h:Heap)(a:Addr):HO->Prop
 |.lst xs=>xs.length<=sizeLine/\∃(ai:List Value) (n:Nat),Vals xs ai/\h.get? a=some {cls:=.type "list",data:=.seq ai.toArray n}
 |.tup xs=>xs.length<=sizeLine/\∃ai:List Value,Vals xs ai/\ni h a ai.toArray
 |.dK kvs=>kvs.length<=sizeLine/\(a==sysModules)=false/\∃vs,KV kvs vs/\h.DictOf (dE P w) a vs
 |.dT kvs=>kvs.length<=sizeLine/\(a==sysModules)=false/\∃xs:List (List Key×Addr×Value),
   Paired (λ(p:List Key×V) (q:List Key×Addr×Value)=>p.1=q.1/\H q.2.1=some (.tup (p.1.map kV))/\RelV p.2 q.2.2) kvs xs/\
   ∃o es ep,h.get? a=some o/\o.ExactDict/\o.data=.dict es ep/\es.toList=xs.map (entryOfKey (tupleKind (dE P w)))/\(xs.map (·.1)).Nodup
 |.set S n=>h.SetOf (intKind P w) a S n
 |.ins C dx fs=>H dx=some (.own a)/\fs.length<=1000/\dx≠a/\h.get? a=some (instObj C dx)/\
   ∃mA,h.Ns1 dx mA/\(∀f,d7 (fs.lookup f) (mA f))/\PySem.Within mA (fs.map (·.1))
 |.own _=>∃o,h.get? a=some o
 |.xd fs=>∃mA,h.Ns1 a mA/\∀f,d7 (fs.lookup f) (mA f)
 |.jJ lo hi=>∃t u v,h.get? a=some {cls:=.type "range",data:=.fields #[.int lo t,.int hi u,.int 1 v]}
 |.cA o u=>h.get? a=some o/\cJ H h a u
 |.qI ps=>h.get? a=some {cls:=.none,data:=.fields ps}
 |.met f x=>h.get? a=some (methodObj (.ref f) (.ref x))
 |.ext φ=>φ h/\(∃o,h.get? a=some o)/\∀h1 h2:Heap,φ h1->(∀o,h1.get? a=some o->h2.get? a=some o)->φ h2
def c_(H:Hp)(h:Heap):Prop:=∀a o,H a=some o->cJ P w H h a o
end
section
variable {P:Program}{w:World}{H H':Hp}{h h':Heap}{a:Addr}{o:HO}
theorem cJ.lt(x:cJ P w H h a o):a<h.objs.size:=by
 cases o with
 |lst xs=>obtain⟨_,_,_,_,e⟩:=x;exact Ys e
 |tup xs=>obtain⟨_,_,_,p⟩:=x;exact p.lt
 |dK kvs=>obtain⟨_,_,_,_,o,_,_,e,_⟩:=x;exact Ys e
 |dT kvs=>obtain⟨_,_,_,_,o,_,_,e,_⟩:=x;exact Ys e
 |set S n=>obtain⟨o,_,_,_,e,_⟩:=x;exact Ys e
 |ins C dx fs=>obtain⟨_,_,_,e,_⟩:=x;exact Ys e
 |own y=>obtain⟨_,e⟩:=x;exact Ys e
 |xd fs=>obtain⟨_,⟨_,_,_,e,_⟩,_⟩:=x;exact Ys e
 |jJ lo hi=>obtain⟨_,_,_,e⟩:=x;exact Ys e
 |cA ob u=>obtain⟨e,_⟩:=x;exact Ys e
 |qI ps=>exact Ys (show h.get? a=some _ from x)
 |met f y=>exact Ys (show h.get? a=some _ from x)
 |ext φ=>obtain⟨_,⟨_,e⟩,_⟩:=x;exact Ys e
theorem Paired.bq{α β:Type}{F G:α->β->Prop}:∀{Ia:List α} {l₂:List β},Paired F Ia l₂->(∀a b,F a b->G a b)->Paired G Ia l₂:=by
 intro Ia l₂ h f;induction h with
 |nil=>exact .nil
 |cons r t ih=>exact .cons (f _ _ r) ih
theorem cJ.ie(x:cJ P w H h a o)(k:∀b u,(b=a\/H b=some (.own a))->h.get? b=some u->h'.get? b=some u)
  (ho:∀b,H b=some (.own a)->H' b=some (.own a))(ht:∀b xs,H b=some (.tup xs)->H' b=some (.tup xs)):cJ P w H' h' a o:=by
 induction o with
 |lst xs=>obtain⟨z,ai,n,r,e⟩:=x;exact⟨z,ai,n,r,k _ _ (.inl rfl) e⟩
 |tup xs=>obtain⟨z,ai,r,ob,e,c⟩:=x;exact⟨z,ai,r,ob,k _ _ (.inl rfl) e,c⟩
 |dK kvs=>obtain⟨z,y,vs,r,ob,es,ep,e,c⟩:=x;exact⟨z,y,vs,r,ob,es,ep,k _ _ (.inl rfl) e,c⟩
 |dT kvs=>
  obtain⟨z,y,xs,r,ob,es,ep,e,c⟩:=x;exact⟨z,y,xs,Paired.bq r λp q z=>⟨z.1,ht _ _ z.2.1,z.2.2⟩,ob,es,ep,k _ _ (.inl rfl) e,c⟩
 |set S n=>obtain⟨ob,es,ep,t,e,c⟩:=x;exact⟨ob,es,ep,t,k _ _ (.inl rfl) e,c⟩
 |ins C dx fs=>
  obtain⟨d,z,ne,e,mA,⟨od,es,ep,e2,c⟩,r⟩:=x;exact⟨ho _ d,z,ne,k _ _ (.inl rfl) e,mA,⟨od,es,ep,k _ _ (.inr d) e2,c⟩,r⟩
 |own y=>obtain⟨ob,e⟩:=x;exact⟨ob,k _ _ (.inl rfl) e⟩
 |xd fs=>obtain⟨mA,⟨od,es,ep,e,c⟩,r⟩:=x;exact⟨mA,⟨od,es,ep,k _ _ (.inl rfl) e,c⟩,r⟩
 |jJ lo hi=>obtain⟨t,u,v,e⟩:=x;exact⟨t,u,v,k _ _ (.inl rfl) e⟩
 |cA ob u ih=>obtain⟨e,q⟩:=x;exact⟨k _ _ (.inl rfl) e,ih q⟩
 |qI ps=>
  have e:h.get? a=some {cls:=.none,data:=.fields ps}:=x;show h'.get? a=some {cls:=.none,data:=.fields ps};exact k a _ (.inl rfl) e
 |met f y=>
  have e:h.get? a=some (methodObj (.ref f) (.ref y)):=x;show h'.get? a=some (methodObj (.ref f) (.ref y));exact k a _ (.inl rfl) e
 |ext φ=>obtain⟨p,⟨o,e⟩,st⟩:=x;exact⟨st _ _ p λo q=>k _ _ (.inl rfl) q,⟨o,k _ _ (.inl rfl) e⟩,st⟩
def c_.lt(x:c_ P w H h)(e:H a=some o):a<h.objs.size:=(x a o e).lt
theorem c_.fresh(x:c_ P w H h)(e:h.objs.size<=a):H a=none:=by
 cases q:H a with
 |none=>rfl
 |some u=>exact absurd (Y2 (x.lt q) e) (Wc _)
def c_.kept(x:c_ P w H h)(k:∀b u,h.get? b=some u->h'.get? b=some u):c_ P w H h':=λa o e=>
 (x a o e).ie (λb u _ q=>k b u q) (λ_ q=>q) λ_ _ q=>q
def c_.laid(x:c_ P w H h)(k:∀b u,h.get? b=some u->h'.get? b=some u)(hp:h.objs.size<=a)(new:cJ P w (upd H a o) h' a o):c_ P w (upd H a o) h':=λb u e=>by
 have hn:=x.fresh hp;by_cases hb:b=a;·subst hb;rw[aR] at e;cases e;exact new
 ·rw[aK hb] at e;exact(x b u e).ie (λc v _ q=>k c v q) (λc q=>by rw[aK (bY q hn)];exact q) λc xs q=>by rw[aK (bY q hn)];exact q
end
def Rd(H:Hp)(a:Addr)(u:HO):Prop:=H a=some u\/∃o,H a=some (.cA o u)
def Rd.ok{P:Program}{w:World}{H:Hp}{h:Heap}{a:Addr}{u:HO}(r:Rd H a u)(x:c_ P w H h):cJ P w H h a u:=by
 rcases r with r|⟨o,r⟩;·exact x a u r
 ·obtain⟨_,q⟩:=x a _ r;exact q
def x_:Option HO->Prop
 |some (.lst _)=>True
 |some (.dK _)=>True
 |some (.dT _)=>True
 |some (.set _ _)=>True
 |some (.ins _ _ _)=>True
 |some (.ext _)=>True
 |_=>False
section
variable {P:Program}{w:World}{H:Hp}{h h':Heap}{x e:Addr}{o':HO}
def c_.write(ok:c_ P w H h)(mu:x_ (H x))(he:e=x\/H e=some (.own x))(k:∀b u,b≠e->h.get? b=some u->h'.get? b=some u)(yb:∃u,h'.get? e=some u)
  (new:cJ P w (upd H x o') h' x o'):c_ P w (upd H x o') h':=λb u q=>by
 have R0:∀c y,H c=some (.own y)->c≠x:=λc y r z=>by subst z;rw[r] at mu;exact mu
 have Zgi:∀c xs,H c=some (.tup xs)->c≠x:=λc xs r z=>by subst z;rw[r] at mu;exact mu
 by_cases hb:b=x;·subst hb;rw[aR] at q;cases q;exact new
 ·rw[aK hb] at q;by_cases BE:b=e
  ·have q':H b=some (.own x):=by
    rcases he with z|z;·exact absurd (BE.trans z) hb
    ·rw[BE];exact z
   rw[q] at q';cases q';obtain⟨v,hv⟩:=yb;exact⟨v,by rw[BE];exact hv⟩
  ·refine(ok b u q).ie (λc v hc r=>k c v ?_ r) (λc r=>by rw[aK (R0 c b r)];exact r) λc xs r=>by rw[aK (Zgi c xs r)];exact r
   rcases hc with rfl|hc;·exact BE
   ·rintro rfl;rcases he with z|z;·exact R0 c b hc z
    ·rw[hc] at z;cases z;exact hb rfl
end
structure Un(fs ex:List Addr)(H H':Hp)(h h':Heap):Prop where
 keep:∀b o,h.get? b=some o->H b=none->b∉fs->b∉ex->h'.get? b=some o
 slot:∀b o,h.get? b=some o->H b=none->b∈fs->b∉ex->∃sl,h'.get? b=some {o with slots:=sl}
 free:∀b o,h.get? b=some o->H b=none->b∉ex->H' b=none
 there:∀b o,h.get? b=some o->b∉ex->∃o',h'.get? b=some o'
 g_:∀b xs,H b=some (.tup xs)->H' b=some (.tup xs)
 ig:∀b o u,H b=some (.cA o u)->H' b=some (.cA o u)
 iP:∀b ps,H b=some (.qI ps)->∃more,H' b=some (.qI (ps++more))
section
variable {fs fs' ex ex':List Addr}{H H1 H2:Hp}{h h1 h2 h':Heap}{a x e:Addr}{o:HO}
def Un.any(u:Un fs ex H H1 h h1){b:Addr}{ob:Obj}(q:h.get? b=some ob)(n:H b=none)(hx:b∉ex):∃sl,h1.get? b=some {ob with slots:=sl}:=by
 by_cases hb:b∈fs;·exact u.slot b ob q n hb hx
 ·exact⟨ob.slots,u.keep b ob q n hb hx⟩
def Un.trans(a:Un fs ex H H1 h h1)(b:Un fs ex H1 H2 h1 h2):Un fs ex H H2 h h2 where
 keep:=λc ob q n hc hx=>b.keep c ob (a.keep c ob q n hc hx) (a.free c ob q n hx) hc hx
 slot:=λc ob q n hc hx=>by
  obtain⟨sl,e1⟩:=a.slot c ob q n hc hx;obtain⟨Ta,e2⟩:=b.slot c _ e1 (a.free c ob q n hx) hc hx
  grind
 free:=λc ob q n hx=>by
  obtain⟨o',e1⟩:=a.there c ob q hx;exact b.free c o' e1 (a.free c ob q n hx) hx
 there:=λc ob q hx=>by
  obtain⟨o',e1⟩:=a.there c ob q hx;exact b.there c o' e1 hx
 g_:=λc xs q=>b.g_ c xs (a.g_ c xs q)
 ig:=λc ob xs q=>b.ig c ob xs (a.ig c ob xs q)
 iP:=λc ps q=>by
  obtain⟨m1,e1⟩:=a.iP c ps q;obtain⟨m2,e2⟩:=b.iP c _ e1
  grind
def Un.kept(k:∀b u,h.get? b=some u->h'.get? b=some u):Un fs ex H H h h':=
 ⟨λb ob q _ _ _=>k b ob q,λb ob q _ _ _=>⟨ob.slots,k b ob q⟩,λ_ _ _ n _=>n,λb ob q _=>⟨ob,k b ob q⟩,λ_ _ q=>q,λ_ _ _ q=>q,λ_ ps q=>⟨#[],by rw[q];simp⟩⟩
def Un.refl:Un fs ex H H h h:=Un.kept λ_ _ q=>q
def Un.laid(k:∀b u,h.get? b=some u->h'.get? b=some u)(hp:h.objs.size<=a)(hn:H a=none):Un fs ex H (upd H a o) h h' where
 keep:=λb u q _ _ _=>k b u q
 slot:=λb u q _ _ _=>⟨u.slots,k b u q⟩
 free:=λb u q n _=>by rw[aK (Yy (Y2 (Ys q) hp))];exact n
 there:=λb u q _=>⟨u,k b u q⟩
 g_:=λb xs q=>by rw[aK (bY q hn)];exact q
 ig:=λb u xs q=>by rw[aK (bY q hn)];exact q
 iP:=λb ps q=>⟨#[],by rw[aK (bY q hn),q];simp⟩
def Un.write(mu:x_ (H x))(he:e=x\/H e=some (.own x))(k:∀b u,b≠e->h.get? b=some u->h'.get? b=some u)(yb:∃u,h'.get? e=some u):Un fs ex H (upd H x o) h h':=by
 have hx:∀b,H b=none->b≠x:=λb n z=>by subst z;rw[n] at mu;exact mu
 have hb:∀b,H b=none->b≠e:=λb n z=>by
  grind
 have hm:∀b u,H b=some u->¬x_ (some u)->b≠x:=λb u q nm z=>by subst z;rw[q] at mu;exact nm mu
 refine⟨λb u q n _ _=>k b u (hb b n) q,λb u q n _ _=>⟨u.slots,k b u (hb b n) q⟩,λb u q n _=>by rw[aK (hx b n)];exact n,λb u q _=>?_,
  λb xs q=>by rw[aK (hm b _ q λz=>z)];exact q,λb u xs q=>by rw[aK (hm b _ q λz=>z)];exact q,λb ps q=>⟨#[],by rw[aK (hm b _ q λz=>z),q];simp⟩⟩
 grind
end
def vh(h:Heap)(H:Hp):List Addr:=(List.range h.objs.size).filter λa=>(H a).isSome
def o_(h:Heap)(H:Hp):Heap:=PySem.W.hideAll h (vh h H)
def Zaq(h:Heap)(H:Hp):(o_ h H).objs.size=h.objs.size:=PySem.W.hideAll_size _ _
def Zbg{h:Heap}{H:Hp}{b:Addr}{o:Obj}(e:h.get? b=some o)(n:H b=none):(o_ h H).get? b=some o:=
 PySem.W.hideAll_get _ e λhm=>by
  have q:=(Y5.mp hm).2
  grind
theorem ZcG{h:Heap}{H:Hp}{b:Addr}{o:Obj}(e:(o_ h H).get? b=some o):h.get? b=some o/\H b=none:=by
 have e':=PySem.W.of_hideAll (vh h H) e;refine⟨e',?_⟩;cases q:H b with
 |none=>rfl
 |some x=>
  have z:(o_ h H).get? b=none:=PySem.W.hideAll_none (vh h H) (Y5.mpr ⟨Wg.mpr (Ys e'),by simp[q]⟩)
  grind
structure Mod(K:ah)(mg:aQ)(base:Heap):Prop where
 mI:K.In base
 glob:base.Ns mainGlobals mg
 blt:∃mb,base.Ns builtinsNs mb/\∀x:Str,x≠"__name__"->mb x=bootBuiltins x
 nolimit:base.NoLimit
structure Cx where
 prog:Program
 w:World
 K:ah
 mg:Str->Option Value
 base:Heap
 A:Around
 N:List Str
 cX:Shared
 lu:Hp
 env:Env
 outer:List Env
 stack:List Env
 ex:List Addr
 fn:Str->Bool
 calm:Bool
 pn:List (Addr×Obj)
 xe:Value->Shared->Prop
abbrev Cx.md(X:Cx):=model X.prog X.w
abbrev ik(X:Cx)(e:Expr)(es:List Expr):Prop:=starEach (e::es) X.env=(false,eval e X.env)::starEach es X.env
abbrev iV(X:Cx)(pos:Pos)(es:List Expr):Prop:=(backTo pos (starEach es X.env)).any (·.1)=false
def cP(l:List Env):List Addr:=l.filterMap (·.frame)
abbrev Cx.fs(X:Cx):List Addr:=cP X.outer
def sW(sc:Scope)(x:Str):Prop:=sc.names.lookup x=some .local\/sc.names.lookup x=some .cell\/sc.names.lookup x=some .free
def Loc(sc:Scope)(x:Str):Prop:=sc.names.lookup x=some .local\/sc.names.lookup x=some .cell
def Look(env:Env)(h:Heap)(m:aQ)(x:Str)(u:Value):Prop:=
 (env.kindOf x=some .local/\m x=some u)\/((env.kindOf x=some .cell\/env.kindOf x=some .free)/\∃c,env.cells.lookup x=some c/\h.IsCell c (some u))
structure Cx.Ok(X:Cx):Prop where
 mod:Mod X.K X.mg X.base
 kind:X.env.scope.kind=.function
 glob:X.env.globals=mainGlobals
 blt:X.env.builtins=builtinsNs
 above:X.cX.heap.objs.size<=X.env.locals
 inj:∀x y c,X.env.cells.lookup x=some c->X.env.cells.lookup y=some c->x=y
 has:∀x,(X.env.kindOf x=some .cell\/X.env.kindOf x=some .free)->∃c,X.env.cells.lookup x=some c
 sX:∀x c,X.fn x=true->X.env.cells.lookup x=some c->X.cX.heap.objs.size<=c
 hd:X.calm=true->X.A.handled=none
 frames:X.A.frames=some X.stack
 vq:X.stack=X.outer\/(X.stack=X.env::X.outer/\X.env.frame=some X.env.locals)
 qJ:∀b∈X.ex,b≠X.env.locals/\∀x c,X.env.cells.lookup x=some c->c≠b
 bs:∀b o,X.base.get? b=some o->X.cX.heap.get? b=some o/\X.lu b=none
 mJ:X.base.objs.size<=X.cX.heap.objs.size
 sE:∀b o,X.base.get? b=some o->b∉X.ex
 qy:∀b∈X.ex,b∉X.fs
 jG:X.cX.heap.FunFrames X.base X.outer
 pA:∀b∈X.fs,X.lu b=none
structure Inv(X:Cx)(pins:aU)(σ:List (Option V))(H:Hp)(s:Shared):Prop where
 ok:X.Ok
 os:s.os=X.cX.os
 bare:AllBare s.gens
 base:Un X.fs X.ex X.lu H X.cX.heap s.heap
 loc:∃m,s.heap.Ns X.env.locals m/\∀(i:Nat) (x:Str) (v:V),X.N[i]?=some x->σ[i]?=some (some v)->sW X.env.scope x->∃u,RelV v u/\Look X.env s.heap m x u
 cell:∀x c,X.env.cells.lookup x=some c->∃v,s.heap.IsCell c v
 free:H X.env.locals=none
 ib:∀x c,X.env.cells.lookup x=some c->H c=none
 pin:∀p∈X.pn++pins,s.heap.get? p.1=some p.2/\H p.1=none/\p.1≠X.env.locals/\p.1∉X.fs/\∀v,p.2.data≠.cell v
 aw:c_ X.prog X.w H s.heap
 len:σ.length=X.N.length
section
variable {X:Cx}{pins:aU}{σ:List (Option V)}{H H':Hp}{s:Shared}{h':Heap}
def Cx.Ok.Zgj(ok:X.Ok){b:Addr}{o:Obj}(e:X.base.get? b=some o):b∉X.fs:=λhb=>by
 have:=(ok.jG.mem hb).1
 grind
def Inv.bs(I:Inv X pins σ H s):∀b o,X.base.get? b=some o->s.heap.get? b=some o/\H b=none:=λb o e=>
 ⟨I.base.keep b o (I.ok.bs b o e).1 (I.ok.bs b o e).2 (I.ok.Zgj e) (I.ok.sE b o e),I.base.free b o (I.ok.bs b o e).1 (I.ok.bs b o e).2 (I.ok.sE b o e)⟩
def Inv.bk(I:Inv X pins σ H s):∀b o,X.base.get? b=some o->s.heap.get? b=some o:=λb o e=>(I.bs b o e).1
def Inv.mod(I:Inv X pins σ H s):Mod X.K X.mg X.base:=I.ok.mod
def Inv.bZ(I:Inv X pins σ H s):X.K.In s.heap:=I.ok.mod.mI.keeps I.bk
def Inv.lt(I:Inv X pins σ H s):X.env.locals<s.heap.objs.size:=let⟨_,hn,_⟩:=I.loc;hn.lt
def Inv.sz(I:Inv X pins σ H s):X.cX.heap.objs.size<=s.heap.objs.size:=Y0 I.ok.above (Jk I.lt)
def Inv.Zgk(I:Inv X pins σ H s){a:Addr}(h:s.heap.objs.size<=a):a∉X.fs:=λhb=>by
 obtain⟨_,o,ho,_⟩:=I.ok.jG.mem hb;exact absurd (Y2 (Ys ho) (Y0 I.sz h)) (Wc _)
def Inv.pB(I:Inv X pins σ H s):∀x c,X.env.cells.lookup x=some c->c≠X.env.locals:=λx c e z=>by
 obtain⟨v,o,ho,hd⟩:=I.cell x c e;obtain⟨m,⟨o',es,ep,vv,BG,_⟩,_⟩:=I.loc
 grind
theorem Inv.jG(I:Inv X pins σ H s):s.heap.FunFrames X.base X.outer:=by
 have all:∀(l:List Env),(∀b∈cP l,b∈X.fs)->X.cX.heap.FunFrames X.base l->s.heap.FunFrames X.base l:=by
  intro l;induction l with
  |nil=>intro _ _;trivial
  |cons env r ih=>
   rintro hs ⟨hk,⟨L,o,hf,hn,ho,hd⟩,hr⟩;have hL:=hs L (by unfold cP;rw[Jf,hf];exact Yo);obtain⟨sl,e⟩:=I.base.slot L o ho (I.ok.pA L hL) hL λz=>I.ok.qy L z hL;exact⟨hk,⟨L,_,hf,hn,e,hd⟩,ih (λb hb=>hs b (by unfold cP;rw[Jf,hf];exact Yw _ hb)) hr⟩
 exact all X.outer (λ_ hb=>hb) I.ok.jG
def Inv.stack(I:Inv X pins σ H s):s.heap.FunFrames X.base X.stack:=by
 rcases I.ok.vq with e|⟨e,hf⟩;·rw[e];exact I.jG
 ·rw[e];obtain⟨m,hn,_⟩:=I.loc;refine .cons (by rw[I.ok.kind];decide) hf hn ?_ I.jG;exact Heap.get?_none_of_le (Y0 I.ok.mJ I.ok.above)
def Inv.GK(I:Inv X pins σ H s):∀b∈cP X.stack,b∈X.env.locals::X.fs:=λb hb=>by
 rcases I.ok.vq with e|⟨e,hf⟩;·grind
 ·rw[e] at hb;unfold cP at hb;rw[Jf,hf] at hb;exact hb
def Inv.z_(I:Inv X pins σ H s):∀b∈cP X.stack,H b=none:=λb hb=>by
 rcases Yp.mp (I.GK b hb) with e|hb;·rw[e];exact I.free
 ·obtain⟨_,o,ho,_⟩:=I.ok.jG.mem hb;exact I.base.free b o ho (I.ok.pA b hb) λz=>I.ok.qy b z hb
def Inv.step{g':Array GenState}{t':Nat}{d':Drawn}{ch:List Addr}(I:Inv X pins σ H s)
  (nL:∀b∈ch,(b∈X.ex\/X.cX.heap.objs.size<=b)/\b≠X.env.locals/\(∀x c,X.env.cells.lookup x=some c->c≠b)/\∀p∈X.pn++pins,p.1≠b)
  (keep:∀b o,b≠X.env.locals->b∉X.fs->b∉ch->s.heap.get? b=some o->H b=none->h'.get? b=some o)
  (slot:∀b o,b≠X.env.locals->b∈X.fs->b∉ch->s.heap.get? b=some o->H b=none->∃sl,h'.get? b=some {o with slots:=sl})(free:∀b o,b∉ch->s.heap.get? b=some o->H b=none->H' b=none)
  (there:∀b o,b∉ch->s.heap.get? b=some o->∃o',h'.get? b=some o')
  (g_:∀b xs,H b=some (.tup xs)->H' b=some (.tup xs))(ig:∀b o u,H b=some (.cA o u)->H' b=some (.cA o u))(iP:∀b ps,H b=some (.qI ps)->∃more,H' b=some (.qI (ps++more)))
  (ns:∀m,s.heap.Ns X.env.locals m->h'.Ns X.env.locals m)(aw:c_ X.prog X.w H' h')(hg:AllBare g'):
  Inv X pins σ H' {s with heap:=h',gens:=g',drawn:=d',toks:=t'}:=by
 have Tb:∀b o,X.cX.heap.get? b=some o->b≠X.env.locals:=λb o e=>Yy (Y2 (Ys e) I.ok.above);have BH:∀b o,X.cX.heap.get? b=some o->b∉X.ex->b∉ch:=λb o e hx hb=>by
  rcases(nL b hb).1 with z|z;·exact hx z
  ·exact absurd (Y2 (Ys e) z) (Wc _)
 have cellK:∀x c,X.env.cells.lookup x=some c->∀v,s.heap.IsCell c v->h'.IsCell c v:=λx c e v ⟨o,ho,hd⟩=>by
  have yc:c∉ch:=λz=>(nL c z).2.2.1 x c e rfl;by_cases hc:c∈X.fs
  ·obtain⟨sl,q⟩:=slot c o (I.pB x c e) hc yc ho (I.ib x c e);exact⟨_,q,hd⟩
  ·exact⟨o,keep c o (I.pB x c e) hc yc ho (I.ib x c e),hd⟩
 refine⟨I.ok,I.os,hg,⟨λb o e n hb hx=>?_,λb o e n hb hx=>?_,λb o e n hx=>?_,λb o e hx=>?_,λb xs e=>g_ b xs (I.base.g_ b xs e),λb o xs e=>ig b o xs (I.base.ig b o xs e),λb ps e=>?_⟩,?_,λx c e=>?_,?_,λx c e=>?_,λp hp=>?_,aw,I.len⟩;·exact keep b o (Tb b o e) hb (BH b o e hx) (I.base.keep b o e n hb hx) (I.base.free b o e n hx)
 ·obtain⟨sl,e1⟩:=I.base.slot b o e n hb hx;obtain⟨Ta,e2⟩:=slot b _ (Tb b o e) hb (BH b o e hx) e1 (I.base.free b o e n hx);exact⟨Ta,e2⟩
 ·obtain⟨o',e1⟩:=I.base.there b o e hx;exact free b o' (BH b o e hx) e1 (I.base.free b o e n hx)
 ·obtain⟨o',e1⟩:=I.base.there b o e hx;exact there b o' (BH b o e hx) e1
 ·obtain⟨m1,e1⟩:=I.base.iP b ps e;obtain⟨m2,e2⟩:=iP b _ e1;exact⟨m1++m2,by rw[e2,Array.append_assoc]⟩
 ·obtain⟨m,hn,hl⟩:=I.loc;refine⟨m,ns m hn,λi x v e1 e2 e3=>?_⟩;obtain⟨u,r,l⟩:=hl i x v e1 e2 e3;refine⟨u,r,?_⟩;rcases l with l|⟨k,c,e,z⟩;·exact .inl l
  ·exact .inr ⟨k,c,e,cellK x c e _ z⟩
 ·obtain⟨v,z⟩:=I.cell x c e;exact⟨v,cellK x c e v z⟩
 ·obtain⟨m,⟨o,_,_,ho,_⟩,_⟩:=I.loc;exact free _ o (λz=>(nL _ z).2.1 rfl) ho I.free
 ·obtain⟨v,o,ho,hd⟩:=I.cell x c e;exact free c o (λz=>(nL c z).2.2.1 x c e rfl) ho (I.ib x c e)
 ·obtain⟨e,n,ne,nf,d⟩:=I.pin p hp;have yc:p.1∉ch:=λz=>(nL p.1 z).2.2.2 p hp rfl;exact⟨keep p.1 p.2 ne nf yc e n,free p.1 p.2 yc e n,ne,nf,d⟩
def Inv.un{t':Nat}(I:Inv X pins σ H s)(u:Un X.fs [] H H' s.heap h')(aw:c_ X.prog X.w H' h'):Inv X pins σ H' {s with heap:=h',toks:=t'}:=by
 obtain⟨m,⟨o,es,ep,ho,r⟩,_⟩:=id I.loc;obtain⟨sl,hL⟩:=u.any ho I.free (by simp);exact I.step (g':=s.gens) (d':=s.drawn) (ch:=[]) (λ_ z=>nomatch z) (λb o _ hb _ e n=>u.keep b o e n hb (by simp)) (λb o _ hb _ e n=>u.slot b o e n hb (by simp)) (λb o _ e n=>u.free b o e n (by simp)) (λb o _ e=>u.there b o e (by simp)) u.g_ u.ig u.iP (λm' hm=>by
  obtain⟨o',BI,BJ,vv,r'⟩:=hm;rw[ho] at vv;cases vv;exact⟨_,BI,BJ,hL,r'⟩) aw I.bare
def Inv.call{g':Array GenState}{t':Nat}{d':Drawn}{ch:List Addr}(I:Inv X pins σ H s)(u:Un (cP X.stack) ch H H' s.heap h')(aw:c_ X.prog X.w H' h')(hg:AllBare g')
  (nL:∀b∈ch,(b∈X.ex\/X.cX.heap.objs.size<=b)/\b≠X.env.locals/\(∀x c,X.env.cells.lookup x=some c->c≠b)/\∀p∈X.pn++pins,p.1≠b):
  Inv X pins σ H' {s with heap:=h',gens:=g',drawn:=d',toks:=t'}:=by
 obtain⟨m,⟨o,es,ep,ho,r⟩,_⟩:=id I.loc;obtain⟨sl,hL⟩:=u.any ho I.free λz=>(nL _ z).2.1 rfl;exact I.step (ch:=ch) nL (λb o hL hb hc e n=>u.keep b o e n (λz=>(Yp.mp (I.GK b z)).elim hL hb) hc) (λb o _ _ hc e n=>u.any e n hc) (λb o hc e n=>u.free b o e n hc) (λb o hc e=>u.there b o e hc) u.g_ u.ig u.iP (λm' hm=>by
  obtain⟨o',BI,BJ,vv,r'⟩:=hm;rw[ho] at vv;cases vv;exact⟨_,BI,BJ,hL,r'⟩) aw hg
def Inv.turned{t':Nat}{it:Addr}(I:Inv X pins σ H s)(k:∀b o,b≠it->s.heap.get? b=some o->h'.get? b=some o)(hn:H it=none)(hL:it≠X.env.locals)
  (h1:it∈X.ex\/X.cX.heap.objs.size<=it)(h2:∀x c,X.env.cells.lookup x=some c->c≠it)(h3:∀p∈X.pn++pins,p.1≠it):Inv X pins σ H {s with heap:=h',toks:=t'}:=by
 have Tc:∀b u,H b=some u->b≠it:=λb u e z=>by rw[z,hn] at e;cases e
 refine I.step (g':=s.gens) (d':=s.drawn) (ch:=[it]) (λb hb=>?_) (λb o _ _ hc e _=>k b o (λz=>hc (by simp[z])) e) (λb o _ _ hc e _=>⟨o.slots,k b o (λz=>hc (by simp[z])) e⟩) (λ_ _ _ _ n=>n)
  (λb o hc e=>⟨o,k b o (λz=>hc (by simp[z])) e⟩) (λ_ _ e=>e) (λ_ _ _ e=>e) (λb ps e=>⟨#[],by rw[e];simp⟩) (λm hm=>?_) (λb u e=>?_) I.bare
 ·have e:b=it:=by simpa using hb
  subst e;exact⟨h1,hL,h2,h3⟩
 ·obtain⟨o,es,ep,ho,r⟩:=hm;exact⟨o,es,ep,k _ o (Ne.symm hL) ho,r⟩
 ·refine(I.aw b u e).ie (λc v hc q=>k c v ?_ q) (λ_ q=>q) λ_ _ q=>q;rcases hc with z|z;·rw[z];exact Tc b u e
  ·exact Tc c _ z
def Inv.tok(I:Inv X pins σ H s)(t:Nat):Inv X pins σ H {s with toks:=t}:=I.un (h':=s.heap) (t':=t) Un.refl I.aw
def Inv.kept{t':Nat}(I:Inv X pins σ H s)(k:∀b u,s.heap.get? b=some u->h'.get? b=some u):Inv X pins σ H {s with heap:=h',toks:=t'}:=I.un (Un.kept k) (I.aw.kept k)
def Inv.laid{a:Addr}{o:HO}{t':Nat}(I:Inv X pins σ H s)(k:∀b u,s.heap.get? b=some u->h'.get? b=some u)(hp:s.heap.objs.size<=a)(new:cJ X.prog X.w (upd H a o) h' a o):
  Inv X pins σ (upd H a o) {s with heap:=h',toks:=t'}:=I.un (Un.laid k hp (I.aw.fresh hp)) (I.aw.laid k hp new)
def Inv.write{x e:Addr}{o:HO}{t':Nat}(I:Inv X pins σ H s)(mu:x_ (H x))(he:e=x\/H e=some (.own x))(k:∀b u,b≠e->s.heap.get? b=some u->h'.get? b=some u)(yb:∃u,h'.get? e=some u)
  (new:cJ X.prog X.w (upd H x o) h' x o):Inv X pins σ (upd H x o) {s with heap:=h',toks:=t'}:=I.un (Un.write mu he k yb) (I.aw.write mu he k yb new)
def Inv.Oq{Hj:aU}(I:Inv X pins σ H s)(h:∀p∈Hj,s.heap.get? p.1=some p.2/\H p.1=none/\p.1≠X.env.locals/\p.1∉X.fs/\∀v,p.2.data≠.cell v):Inv X Hj σ H s:=
 ⟨I.ok,I.os,I.bare,I.base,I.loc,I.cell,I.free,I.ib,λp hp=>(Yq.mp hp).elim (λz=>I.pin p (Yt _ z)) (h p),I.aw,I.len⟩
def F1{N:List Str}(hN:N.Nodup){i j:Nat}{x:Str}(a:N[i]?=some x)(b:N[j]?=some x):i=j:=by
 obtain⟨h1,e1⟩:=Yl.mp a;obtain⟨h2,e2⟩:=Yl.mp b;exact(List.getElem_inj hN).mp (e1.trans e2.symm)
def Zar{M:Model}{A:Around}{E:a8}{i:Nat}{x:Str}{v:V}{u:Value}{Q:Unit->Shared->Prop}(I:Inv X pins σ H s)(hN:X.N.Nodup)(hi:X.N[i]?=some x)(hx:Loc X.env.scope x)(r:RelV v u)
  (h:∀s',Inv X pins (σ.set i (some v)) H s'->(∃a,Heap.SameBut a s.heap s'.heap/\(a=X.env.locals\/X.env.cells.lookup x=some a))->Q () s')(hf:X.fn x=true\/X.env.scope.names.lookup x=some .local:=by first|exact .inl rfl|exact .inr rfl|assumption):wpAny M A (storeName X.env x u) Q E s:=by
 obtain⟨m,hn,hl⟩:=id I.loc;have Zgl:(X.env.scope.kind==.class||(X.env.scope.kind==.module&&X.env.locals !=X.env.globals))=false:=by rw[I.ok.kind];rfl
 have R1:i<σ.length:=by rw[I.len];exact(Yl.mp hi).1
 have pB:=I.pB;have tracked:∀{a:Addr} {h':Heap},(∃o,s.heap.get? a=some o/\H a=none)->Heap.SameBut a s.heap h'->c_ X.prog X.w H h':=λ{a h'} ha hs b ob e=>by
  obtain⟨_,_,Rf⟩:=ha;refine(I.aw b ob e).ie (λc w' hc q=>(hs.2 c ?_).trans q) (λ_ q=>q) λ_ _ q=>q;rintro rfl;rcases hc with rfl|hc;·rw[Rf] at e;cases e
  ·rw[Rf] at hc;cases hc
 rcases hx with hk|hk
 ·refine wpAny_storeName_local hk hn (λh' vw hs=>?_) Zgl;obtain⟨oL,_,_,pC,_⟩:=id hn;refine h _ ⟨I.ok,I.os,I.bare,⟨λb o e n hb hx=>?_,λb o e n hb hx=>?_,I.base.free,λb o e hx=>?_,I.base.g_,I.base.ig,I.base.iP⟩,⟨_,vw,λj y v' e1 e2 e3=>?_⟩,λy c e=>?_,I.free,I.ib,λp hp=>?_,tracked ⟨oL,pC,I.free⟩ hs,by simpa using I.len⟩ ⟨_,hs,.inl rfl⟩;·exact(hs.2 b (Yy (Y2 (Ys e) I.ok.above))).trans (I.base.keep b o e n hb hx)
  ·obtain⟨sl,e1⟩:=I.base.slot b o e n hb hx;exact⟨sl,(hs.2 b (Yy (Y2 (Ys e) I.ok.above))).trans e1⟩
  ·obtain⟨o',e1⟩:=I.base.there b o e hx;exact⟨o',(hs.2 b (Yy (Y2 (Ys e) I.ok.above))).trans e1⟩
  ·by_cases hj:j=i
   ·subst hj;rw[hi] at e1;cases e1;rw[List.getElem?_set_self R1] at e2;cases e2;exact⟨u,r,.inl ⟨hk,by simp⟩⟩
   ·rw[Td (Ne.symm hj)] at e2;obtain⟨u',r',q⟩:=hl j y v' e1 e2 e3;refine⟨u',r',?_⟩;rcases q with⟨k,e⟩|⟨k,c,e,z⟩
    ·refine .inl ⟨k,?_⟩;have:y≠x:=λe=>hj (F1 hN e1 (e▸hi));simp[this,e]
    ·exact .inr ⟨k,c,e,z.sameBut hs (pB y c e)⟩
  ·obtain⟨w',z⟩:=I.cell y c e;exact⟨w',z.sameBut hs (pB y c e)⟩
  ·obtain⟨e,n,ne,nf,d⟩:=I.pin p hp;exact⟨(hs.2 p.1 ne).trans e,n,ne,nf,d⟩
 ·have JI:X.fn x=true:=by
   rcases hf with z|z;·exact z
   ·rw[z] at hk;cases hk
  obtain⟨c,hc⟩:=I.ok.has x (.inl hk);obtain⟨w',z⟩:=I.cell x c hc;refine wpAny_storeName_cell I.ok.kind hk hc z (λh' qK hs=>?_);obtain⟨oc,Te,Zgm⟩:=id z;refine h {s with heap:=h'} ⟨I.ok,I.os,I.bare,⟨λb o e n hb hx=>?_,λb o e n hb hx=>?_,I.base.free,λb o e hx=>?_,I.base.g_,I.base.ig,I.base.iP⟩,⟨m,hn.sameBut hs (Ne.symm (pB x c hc)),λj y v' e1 e2 e3=>?_⟩,λy c' e=>?_,I.free,I.ib,λp hp=>?_,tracked ⟨oc,Te,I.ib x c hc⟩ hs,by simpa using I.len⟩ ⟨c,hs,.inr hc⟩;·exact(hs.2 b (Yy (Y2 (Ys e) (I.ok.sX x c JI hc)))).trans (I.base.keep b o e n hb hx)
  ·obtain⟨sl,e1⟩:=I.base.slot b o e n hb hx;exact⟨sl,(hs.2 b (Yy (Y2 (Ys e) (I.ok.sX x c JI hc)))).trans e1⟩
  ·obtain⟨o',e1⟩:=I.base.there b o e hx;exact⟨o',(hs.2 b (Yy (Y2 (Ys e) (I.ok.sX x c JI hc)))).trans e1⟩
  ·by_cases hj:j=i
   ·subst hj;rw[hi] at e1;cases e1;rw[List.getElem?_set_self R1] at e2;cases e2;exact⟨u,r,.inr ⟨.inl hk,c,hc,qK⟩⟩
   ·rw[Td (Ne.symm hj)] at e2;obtain⟨u',r',q⟩:=hl j y v' e1 e2 e3;refine⟨u',r',?_⟩;rcases q with q|⟨k,c',e,z'⟩;·exact .inl q
    ·refine .inr ⟨k,c',e,z'.sameBut hs ?_⟩;rintro rfl;exact hj (F1 hN e1 (I.ok.inj _ _ _ e hc▸hi))
  ·by_cases Tf:c'=c;·subst Tf;exact⟨_,qK⟩
   ·obtain⟨w2,z2⟩:=I.cell y c' e;exact⟨w2,z2.sameBut hs Tf⟩
  ·obtain⟨e,n,ne,nf,d⟩:=I.pin p hp;refine⟨(hs.2 p.1 ?_).trans e,n,ne,nf,d⟩;intro q;rw[q,Te] at e;have q':oc=p.2:=Yn e;exact d w' (by rw[←q'];exact Zgm)
def zT{M:Model}{A:Around}{E:a8}{i:Nat}{x:Str}{v:V}{u:Value}{Q:Unit->Shared->Prop}(I:Inv X pins σ H s)(hN:X.N.Nodup)(hi:X.N[i]?=some x)(hx:Loc X.env.scope x)(r:RelV v u)
  (h:∀s',Inv X pins (σ.set i (some v)) H s'->Q () s')(hf:X.fn x=true\/X.env.scope.names.lookup x=some .local:=by first|exact .inl rfl|exact .inr rfl|assumption):wpAny M A (storeName X.env x u) Q E s:=
 Zar I hN hi hx r (λs' I' _=>h s' I') hf
def Inv.Hk{s':Shared}{ch:List Addr}(I:Inv X pins σ H s)(ho:s'.os=s.os)(u:Un (cP X.stack) ch H H' s.heap s'.heap)(aw:c_ X.prog X.w H' s'.heap)(hg:AllBare s'.gens)
  (nL:∀b∈ch,(b∈X.ex\/X.cX.heap.objs.size<=b)/\b≠X.env.locals/\(∀x c,X.env.cells.lookup x=some c->c≠b)/\∀p∈X.pn++pins,p.1≠b):Inv X pins σ H' s':=by
 obtain⟨h',g',d',t',o'⟩:=s';have e:o'=s.os:=ho;subst e;exact I.call (g':=g') (t':=t') (d':=d') u aw hg nL
end
abbrev XK:=Value->Option Addr->Hp->Prop
abbrev St:=List (Option V)
abbrev VK:=V->Hp->Prop
abbrev TE:=St->Hp->VK->Prop
abbrev TT:=St->Hp->(Bool->Hp->Prop)->Prop
abbrev TA:=St->Hp->(List V->Hp->Prop)->Prop
structure Ends where
 nx:St->Hp->Prop
 rt:VK
 bk:St->Hp->Prop:=λ_ _=>False
 ct:St->Hp->Prop:=λ_ _=>False
abbrev TS:=Ends->St->Hp->Prop
inductive R3(X:Cx)(pins:aU)(σ:St)(Q:VK)(u:Value)(s':Shared):Prop
 |mk (v H') (aC:Inv X pins σ H' s') (aS:RelV v u) (bb:Q v H'):R3 X pins σ Q u s'
def EP(X:Cx)(pins:aU)(σ:St)(Q:VK)(u:Value)(s':Shared):Prop:=R3 X pins σ Q u s'
inductive R4(X:Cx)(pins:aU)(σ:St)(R:Hp->Prop)(s':Shared):Prop
 |mk (H':Hp) (aC:Inv X pins σ H' s') (aS:R H'):R4 X pins σ R s'
def TP(X:Cx)(pins:aU)(σ:St)(Q:Bool->Hp->Prop)(b:Bool)(s':Shared):Prop:=R4 X pins σ (Q b) s'
inductive R5(X:Cx)(pins:aU)(σ:St)(Q:List V->Hp->Prop)(us:List Value)(s':Shared):Prop
 |mk (vs H') (aC:Inv X pins σ H' s') (aS:Vals vs us) (bb:Q vs H'):R5 X pins σ Q us s'
def AP(X:Cx)(pins:aU)(σ:St)(Q:List V->Hp->Prop)(us:List Value)(s':Shared):Prop:=R5 X pins σ Q us s'
inductive sG(X:Cx)(pins:aU)(Q:St->Hp->Prop)(s':Shared):Prop
 |mk (aH:St) (H':Hp) (aC:Inv X pins aH H' s') (aS:Q aH H'):sG X pins Q s'
inductive R6(X:Cx)(pins:aU)(Q:VK)(u:Value)(s':Shared):Prop
 |mk (v:V) (aH:St) (H':Hp) (aC:Inv X pins aH H' s') (aS:RelV v u) (bb:Q v H'):R6 X pins Q u s'
def SP(X:Cx)(pins:aU)(D:Ends)(f:Flow)(s':Shared):Prop:=
 match f with
 |.next=>sG X pins D.nx s'
 |.brk=>sG X pins D.bk s'
 |.cont=>sG X pins D.ct s'
 |.ret u=>R6 X pins D.rt u s'
def PE(X:Cx)(e:Expr)(t:TE):Prop:=
 ∀(pins:aU) (s:Shared) (σ:St) (H:Hp) (Q:VK),Inv X pins σ H s->t σ H Q->wpAny X.md X.A (eval e X.env) (EP X pins σ Q) X.xe s
def PT(X:Cx)(e:Expr)(t:TT):Prop:=
 ∀(pins:aU) (s:Shared) (σ:St) (H:Hp) (Q:Bool->Hp->Prop),Inv X pins σ H s->t σ H Q->wpAny X.md X.A (isTrue e X.env (eval e X.env)) (TP X pins σ Q) X.xe s
def PW(X:Cx)(e:Expr)(t:TT):Prop:=
 ∀(whole:Sem Value) (pins:aU) (s:Shared) (σ:St) (H:Hp) (Q:Bool->Hp->Prop),Inv X pins σ H s->t σ H Q->wpAny X.md X.A (isTrue e X.env whole) (TP X pins σ Q) X.xe s
def PW.pt{X:Cx}{e:Expr}{t:TT}(h:PW X e t):PT X e t:=h _
def PA(X:Cx)(es:List Expr)(t:TA):Prop:=
 ∀(pos:Pos) (pins:aU) (s:Shared) (σ:St) (H:Hp) (Q:List V->Hp->Prop),Inv X pins σ H s->t σ H Q->wpAny X.md X.A (spliced (backTo pos (starEach es X.env))) (AP X pins σ Q) X.xe s
def PS(X:Cx)(st:Stmt)(t:TS):Prop:=
 ∀(pins:aU) (s:Shared) (σ:St) (H:Hp) (D:Ends),Inv X pins σ H s->t D σ H->wpAny X.md X.A (exec st X.env) (SP X pins D) X.xe s
def eZ(X:Cx)(st:List Stmt)(t:TS):Prop:=
 ∀(pins:aU) (s:Shared) (σ:St) (H:Hp) (D:Ends),Inv X pins σ H s->t D σ H->wpAny X.md X.A (execs st X.env) (SP X pins D) X.xe s
def ay{α:Type}{t:Sem α}{Q Q':α->Shared->Prop}{M:Model}{A:Around}{E:a8}{s:Shared}(h:wpAny M A t Q E s)(hQ:∀a s,Q a s->Q' a s):wpAny M A t Q' E s:=wpAny_mono h hQ λ_ _ x=>x
section
variable {X:Cx}
inductive PU(i:Nat)(σ:St)(H:Hp)(Q:VK):Prop
 |mk (v) (aC:σ[i]?=some (some v)) (aS:Q v H):PU i σ H Q
def fQ(i:Nat):TE:=λσ H Q=>PU i σ H Q
def tC(v:V):TE:=λ_ H Q=>Q v H
def Zd1{i:Nat}{x:Str}{pos:Pos}(hN:X.N[i]?=some x)(hv:sW X.env.scope x)(hd:(x==("__debug__":Str))=false:=by decide)(e_:(x==("__classdict__":Str))=false:=by decide):PE X (.Name x pos) (fQ i):=by
 rintro pins s σ H Q I ⟨v,e,h⟩;obtain⟨m,hn,hl⟩:=I.loc;obtain⟨u,r,l⟩:=hl i x v hN e hv;have fin:EP X pins σ Q u s:=⟨v,H,I,r,h⟩;rcases l with⟨hk,hm⟩|⟨hk,c,hc,AH⟩;·exact wpAny_Name (wpAny_loadName_local I.ok.kind hk hn hm fin) hd
 ·rcases hk with hk|hk;·exact wpAny_Name (wpAny_loadName_cell I.ok.kind hk hc AH fin) hd
  ·exact wpAny_Name (wpAny_loadName_free I.ok.kind hk hc AH fin e_) hd
def aO{i j pos}:PE X (.Constant (.int i) j pos) (tC (.int i)):=λ_ _ _ H _ I h=>wpAny_Constant_int ⟨.int i,H,I.tok _,⟨_,rfl⟩,h⟩
def jF{b j pos}:PE X (.Constant (.bool b) j pos) (tC (.bl b)):=λ_ _ _ H _ I h=>Constant_bool ⟨.bl b,H,I,rfl,h⟩
def lZ{j pos}:PE X (.Constant .none j pos) (tC .az):=λ_ _ _ H _ I h=>Constant_none ⟨.az,H,I,rfl,h⟩
def bc{x j pos}:PE X (.Constant (.str x) j pos) (tC (.str x)):=λ_ _ _ H _ I h=>Calls.Constant_str ⟨.str x,H,I.tok _,⟨_,rfl⟩,h⟩
def Gl(X:Cx)(x:Str):Prop:=X.env.kindOf x=some .globalImplicit
def rN{E:a8}{pins:aU}{s:Shared}{σ:St}{H:Hp}{x:Str}{u:Value}{pos:Pos}{Q:a8}(I:Inv X pins σ H s)(hg:Gl X x)(hm:X.mg x=some u)(h:Q u s)
  (hd:(x==("__debug__":Str))=false:=by decide):wpAny X.md X.A (eval (.Name x pos) X.env) Q E s:=
 Calls.Name_function_global I.ok.kind hg (Calls.loadGlobal_global (by rw[I.ok.glob];exact I.mod.glob.keeps I.bk) hm h) hd
def xg{E:a8}{pins:aU}{s:Shared}{σ:St}{H:Hp}{x:Str}{u:Value}{pos:Pos}{Q:a8}(I:Inv X pins σ H s)(hg:Gl X x)(hm:X.mg x=none)(hv:bootBuiltins x=some u)(h:Q u s)
  (hn:x≠"__name__":=by decide)(hd:(x==("__debug__":Str))=false:=by decide):wpAny X.md X.A (eval (.Name x pos) X.env) Q E s:=by
 obtain⟨mb,h1,h2⟩:=I.mod.blt;exact Calls.Name_function_global I.ok.kind hg (Calls.loadGlobal_builtin (by rw[I.ok.glob];exact I.mod.glob.keeps I.bk) hm (by rw[I.ok.blt];exact h1.keeps I.bk) ((h2 x hn).trans hv) h) hd
def dv{x:Str}{v:V}{u:Value}{pos:Pos}(hg:Gl X x)(hm:X.mg x=some u)(r:RelV v u)(hd:(x==("__debug__":Str))=false:=by decide):PE X (.Name x pos) (tC v):=
 λ_ _ _ H _ I h=>rN I hg hm ⟨v,H,I,r,h⟩ hd
def ZcH{x:Str}{v:V}{u:Value}{pos:Pos}(hg:Gl X x)(hm:X.mg x=none)(hv:bootBuiltins x=some u)(r:RelV v u)(hn:x≠"__name__":=by decide)(hd:(x==("__debug__":Str))=false:=by decide):PE X (.Name x pos) (tC v):=
 λ_ _ _ H _ I h=>xg I hg hm hv ⟨v,H,I,r,h⟩ hn hd
variable {a b:Expr}{ta tb:TE}{pos:Pos}
def PC(X:Cx)(op:CmpOp)(a b:Expr)(t:TE):Prop:=
 ∀(pins:aU) (s:Shared) (σ:St) (H:Hp) (Q:VK),Inv X pins σ H s->t σ H Q->
  wpAny X.md X.A (eval a X.env) (λv bI=>wpAny X.md X.A (eval b X.env) (λu d9=>wpAny X.md X.A (compareOp op v u) (EP X pins σ Q) X.xe d9) X.xe bI) X.xe s
inductive R7(Q:Bool->Hp->Prop)(x:V)(H1:Hp):Prop
 |mk (c) (aC:x=.bl c) (aS:Q c H1):R7 Q x H1
def tB(t:TE):TT:=λσ H Q=>t σ H λx H1=>R7 Q x H1
def Zd2{op:CmpOp}{t:TE}(h:PC X op a b t)(h1:behindInMarks op b=false:=by first|exact Zbh _ (by decide) (by decide)|rfl):PE X (.Compare a [op] [b] pos) t:=λpins s σ H Q I hw=>wpAny_Compare1 (h pins s σ H Q I hw) h1
def jE{op:CmpOp}{t:TE}(h:PC X op a b t)(h1:behindInMarks op b=false:=by first|exact Zbh _ (by decide) (by decide)|rfl):PT X (.Compare a [op] [b] pos) (tB t):=by
 intro pins s σ H Q I hw;refine wpAny_isTrue_Compare1 (ay (h pins s σ H _ I hw) λv s1 h1=>ay h1 λu s2 h2=>ay h2 λc s3 zq=>?_) h1;obtain⟨x,H1,I1,r1,q1⟩:=zq;obtain⟨d,rfl,q⟩:=q1;cases r1;exact wpAny_truthy_bool ⟨H1,I1,q⟩
def eY{e:Expr}{t:TE}(h:PE X e t)(he:∀whole,isTrue e X.env whole=(do let v←whole;standAt e.pos;holding [v] (truthy v)):=by intro _;rfl):PT X e (tB t):=by
 intro pins s σ H Q I hw;refine isTrue_plain (ay (h pins s σ H _ I hw) λv s1 zq=>?_) (he _);obtain⟨x,H1,I1,r1,q1⟩:=zq;obtain⟨d,rfl,q⟩:=q1;cases r1;exact wpAny_truthy_bool ⟨H1,I1,q⟩
variable {tA BK:TT}{rest:List Expr}
def R8(t u:TT):TT:=λσ H Q=>t σ H λc H1=>if c=true then u σ H1 Q else Q false H1
def Tg(t u:TT):TT:=λσ H Q=>t σ H λc H1=>if c=true then Q true H1 else u σ H1 Q
def Zgn(t:TT):TT:=λσ H Q=>t σ H λc H1=>Q (!c) H1
theorem pw_and1(ha:PT X a tA):PW X (.BoolOp .And [a] pos) tA:=by
 intro wh pins s σ H Q I h;refine isTrue_and (ay (ha pins s σ H Q I h) λc s1 e=>?_);cases c with
 |true=>exact isTrue_and_nil e
 |false=>exact e
theorem pw_or1(ha:PT X a tA):PW X (.BoolOp .Or [a] pos) tA:=by
 intro wh pins s σ H Q I h;refine isTrue_or (ay (ha pins s σ H Q I h) λc s1 e=>?_);cases c with
 |false=>exact isTrue_or_nil e
 |true=>exact e
theorem pw_and(ha:PT X a tA)(hb:PW X (.BoolOp .And (b::rest) pos) BK):PW X (.BoolOp .And (a::b::rest) pos) (R8 tA BK):=by
 intro wh pins s σ H Q I h;refine isTrue_and (ay (ha pins s σ H _ I h) λc s1 zq=>?_);obtain⟨H1,I1,q1⟩:=zq;cases c with
 |true=>exact hb wh pins s1 σ H1 Q I1 q1
 |false=>exact⟨H1,I1,q1⟩
theorem pw_or(ha:PT X a tA)(hb:PW X (.BoolOp .Or (b::rest) pos) BK):PW X (.BoolOp .Or (a::b::rest) pos) (Tg tA BK):=by
 intro wh pins s σ H Q I h;refine isTrue_or (ay (ha pins s σ H _ I h) λc s1 zq=>?_);obtain⟨H1,I1,q1⟩:=zq;cases c with
 |true=>exact⟨H1,I1,q1⟩
 |false=>exact hb wh pins s1 σ H1 Q I1 q1
def j_(ha:PT X a tA):PT X (.UnaryOp .Not a pos) (Zgn tA):=by
 intro pins s σ H Q I h;exact isTrue_not (ha pins s σ H (λc H1=>Q (!c) H1) I h)
def Rg(ta tb:TE):TE:=λσ H Q=>ta σ H λx H1=>∃c,x=.bl c/\if c=true then tb σ H1 Q else Q (.bl false) H1
def R9(ta tb:TE):TE:=λσ H Q=>ta σ H λx H1=>∃c,x=.bl c/\if c=true then Q (.bl true) H1 else tb σ H1 Q
def Zfv(ta:TE):TE:=λσ H Q=>ta σ H λx H1=>∃c,x=.bl c/\Q (.bl (!c)) H1
def nj{op}{t:TE}(h:PE X a t):PE X (.BoolOp op [a] pos) t:=λpins s σ H Q I hw=>BoolOp_one (h pins s σ H Q I hw)
theorem ql(ha:PE X a ta)(hb:PE X (.BoolOp .And (b::rest) pos) tb):PE X (.BoolOp .And (a::b::rest) pos) (Rg ta tb):=by
 intro pins s σ H Q I h;refine BoolOp_and (ay (ha pins s σ H _ I h) λv s1 zq=>?_);obtain⟨x,H1,I1,r1,q1⟩:=zq;obtain⟨c,rfl,q1⟩:=q1;cases r1;refine wpAny_truthy_bool ?_;cases c with
 |true=>exact hb pins s1 σ H1 Q I1 q1
 |false=>exact⟨.bl false,H1,I1,rfl,q1⟩
theorem Hm(ha:PE X a ta)(hb:PE X (.BoolOp .Or (b::rest) pos) tb):PE X (.BoolOp .Or (a::b::rest) pos) (R9 ta tb):=by
 intro pins s σ H Q I h;refine BoolOp_or (ay (ha pins s σ H _ I h) λv s1 zq=>?_);obtain⟨x,H1,I1,r1,q1⟩:=zq;obtain⟨c,rfl,q1⟩:=q1;cases r1;refine wpAny_truthy_bool ?_;cases c with
 |false=>exact hb pins s1 σ H1 Q I1 q1
 |true=>exact⟨.bl true,H1,I1,rfl,q1⟩
def Zd3(ha:PE X a ta):PE X (.UnaryOp .Not a pos) (Zfv ta):=by
 intro pins s σ H Q I h;refine UnaryOp_ (ay (ha pins s σ H _ I h) λv s1 zq=>?_);obtain⟨x,H1,I1,r1,q1⟩:=zq;obtain⟨c,rfl,q1⟩:=q1;cases r1;exact not_of (wpAny_truthy_bool ⟨.bl (!c),H1,I1,rfl,q1⟩)
def tIf(t:TT)(ta tb:TE):TE:=λσ H Q=>t σ H λc H1=>if c=true then ta σ H1 Q else tb σ H1 Q
theorem Zbi{c:Expr}(hc:PT X c tA)(ha:PE X a ta)(hb:PE X b tb):PE X (.IfExp c a b pos) (tIf tA ta tb):=by
 intro pins s σ H Q I h;refine wpAny_IfExp (ay (hc pins s σ H _ I h) λd s1 zq=>?_);obtain⟨H1,I1,q1⟩:=zq;cases d with
 |true=>exact ha pins s1 σ H1 Q I1 q1
 |false=>exact hb pins s1 σ H1 Q I1 q1
end
def ak(K:ah)(H:Hp)(a:Addr)(xs:List V):Prop:=
 Rd H a (.lst xs)\/
  ∃(o:Obj) (ai:Array Value) (n:Nat),K.lookup a=some o/\o.cls=.type "list"/\o.dict=none/\o.data=.seq ai n/\ai.size<=sizeLine/\Vals xs ai.toList
def aB(K:ah)(H:Hp)(a:Addr)(xs:List V):Prop:=
 Rd H a (.tup xs)\/
  ∃(o:Obj) (ai:Array Value) (n:Nat),K.lookup a=some o/\o.cls=.type "tuple"/\o.data=.seq ai n/\ai.size<=sizeLine/\Vals xs ai.toList
def Zgo:Value->Option V
 |.none=>some .az
 |.bool b=>some (.bl b)
 |.int i _=>some (.int i)
 |.str x _=>some (.str x)
 |.bytes b _=>some (.jI b)
 |.float b _=>some (.sV b)
 |.ref a=>some (.ref a)
 |.type n=>some (.ty n)
 |_=>none
theorem RelV.abs{x:V}{u:Value}(r:RelV x u):Zgo u=some x:=by
 cases x with
 |az=>cases r;rfl
 |bl _=>cases r;rfl
 |int _=>obtain⟨t,rfl⟩:=r;rfl
 |str _=>obtain⟨t,rfl⟩:=r;rfl
 |jI _=>obtain⟨t,rfl⟩:=r;rfl
 |sV _=>obtain⟨t,rfl⟩:=r;rfl
 |ref _=>cases r;rfl
 |ty _=>cases r;rfl
def RelV.inj{x y:V}{u:Value}(r:RelV x u)(q:RelV y u):x=y:=Yn (r.abs.symm.trans q.abs)
theorem Vals.inj:∀{xs ys:List V} {us:List Value},Vals xs us->Vals ys us->xs=ys:=by
 intro xs ys us h;induction h generalizing ys with
 |nil=>intro h';cases h';rfl
 |cons r t ih=>
  intro h';cases h' with
  |cons r' t'=>rw[r.inj r',ih t']
section
variable {X:Cx}{pins:aU}{σ:St}{H:Hp}{s:Shared}{a:Addr}{xs ys:List V}
def ak.of{K:ah}(h:H a=some (.lst xs)):ak K H a xs:=.inl (.inl h)
def aB.of{K:ah}(h:H a=some (.tup xs)):aB K H a xs:=.inl (.inl h)
def Inv.list(I:Inv X pins σ H s)(h:ak X.K H a xs):∃ai:List Value,Vals xs ai/\PlainL s.heap a ai.toArray/\xs.length<=sizeLine:=by
 rcases h with h|⟨o,ai,n,hk,hc,hd,hs,hz,r⟩
 ·obtain⟨z,ai,n,r,e⟩:=h.ok I.aw;exact⟨ai,r,⟨_,n,e,rfl,rfl,rfl⟩,z⟩
 ·refine⟨ai.toList,r,⟨o,n,I.bZ a o hk,hc,hd,by simpa using hs⟩,?_⟩;have e:=r.length
  grind
def Inv.tuple(I:Inv X pins σ H s)(h:aB X.K H a xs):∃ai:List Value,Vals xs ai/\IsTup s.heap a ai.toArray/\xs.length<=sizeLine:=by
 rcases h with h|⟨o,ai,n,hk,hc,hs,hz,r⟩
 ·obtain⟨z,ai,r,p⟩:=h.ok I.aw;exact⟨ai,r,p.tup,z⟩
 ·refine⟨ai.toList,r,⟨o,I.bZ a o hk,hc,n,by simpa using hs⟩,?_⟩;have e:=r.length
  grind
def Inv.Zbj(I:Inv X pins σ H s)(h:ak X.K H a xs)(h':ak X.K H a ys):xs=ys:=by
 obtain⟨ai,r,⟨o,n,e,_,_,d⟩,_⟩:=I.list h;obtain⟨its',r',⟨o',n',e',_,_,d'⟩,_⟩:=I.list h';rw[e] at e';cases e';rw[d] at d';injection d' with d1 _;have:ai=its':=by simpa using congrArg Array.toList d1
 subst this;exact r.inj r'
def Inv.Zas(I:Inv X pins σ H s)(h:aB X.K H a xs)(h':aB X.K H a ys):xs=ys:=by
 obtain⟨ai,r,⟨o,e,_,n,d⟩,_⟩:=I.tuple h;obtain⟨its',r',⟨o',e',_,n',d'⟩,_⟩:=I.tuple h';rw[e] at e';cases e';rw[d] at d';injection d' with d1 _;have:ai=its':=by simpa using congrArg Array.toList d1
 subst this;exact r.inj r'
end
abbrev Cx.kg(X:Cx)(E:a8):Cx:={X with xe:=E}
abbrev Cx.nM(X:Cx):Cx:=X.kg λ_ _=>False
def Cx.Ok.kg{X:Cx}(ok:X.Ok)(E:a8):(X.kg E).Ok:=
 ⟨ok.mod,ok.kind,ok.glob,ok.blt,ok.above,ok.inj,ok.has,ok.sX,ok.hd,ok.frames,ok.vq,ok.qJ,ok.bs,ok.mJ,ok.sE,ok.qy,ok.jG,ok.pA⟩
def Cx.Ok.qm{X:Cx}{E:a8}(ok:(X.kg E).Ok):X.Ok:=
 ⟨ok.mod,ok.kind,ok.glob,ok.blt,ok.above,ok.inj,ok.has,ok.sX,ok.hd,ok.frames,ok.vq,ok.qJ,ok.bs,ok.mJ,ok.sE,ok.qy,ok.jG,ok.pA⟩
section
variable {X:Cx}{pins:aU}{σ:St}{H:Hp}{s:Shared}{E:a8}
def Inv.kg(I:Inv X pins σ H s)(E:a8):Inv (X.kg E) pins σ H s:=⟨I.ok.kg E,I.os,I.bare,I.base,I.loc,I.cell,I.free,I.ib,I.pin,I.aw,I.len⟩
def Inv.qm(I:Inv (X.kg E) pins σ H s):Inv X pins σ H s:=⟨I.ok.qm,I.os,I.bare,I.base,I.loc,I.cell,I.free,I.ib,I.pin,I.aw,I.len⟩
theorem SP.qm{D:Ends}{f:Flow}{s':Shared}(h:SP (X.kg E) pins D f s'):SP X pins D f s':=by
 cases f with
 |next=>obtain⟨aH,H',I,q⟩:=h;exact⟨aH,H',I.qm,q⟩
 |brk=>obtain⟨aH,H',I,q⟩:=h;exact⟨aH,H',I.qm,q⟩
 |cont=>obtain⟨aH,H',I,q⟩:=h;exact⟨aH,H',I.qm,q⟩
 |ret u=>obtain⟨v,aH,H',I,r,q⟩:=h;exact⟨v,aH,H',I.qm,r,q⟩
def eZ.nM{st:List Stmt}{t:TS}(h:eZ X.nM st t):eZ X st t:=λpins s σ H D I hw=>
 wpAny_mono (h pins s σ H D (I.kg _) hw) (λ_ _ q=>q.qm) λ_ _ z=>False.elim z
end
section
variable {X:Cx}{st:Stmt}{rest:List Stmt}{t u:TS}{e:Expr}{te:TE}{pos:Pos}
def Rh:TS:=λD σ H=>D.nx σ H
def xN(t u:TS):TS:=λD σ H=>t {D with nx:=u D} σ H
def aZ:eZ X [] Rh:=λ_ _ σ H _ I h=>wpAny_execs_nil ⟨σ,H,I,h⟩
theorem aq(h1:PS X st t)(h2:eZ X rest u):eZ X (st::rest) (xN t u):=by
 intro pins s σ H D I h;refine wpAny_execs_cons (ay (h1 pins s σ H {D with nx:=u D} I h) λf s1 q=>?_);cases f with
 |next=>
  obtain⟨aH,H',I',q⟩:=q;exact h2 pins s1 aH H' D I' q
 |ret v=>exact q
 |brk=>exact q
 |cont=>exact q
theorem av(h1:PS X st t):eZ X [st] t:=by
 intro pins s σ H D I h;refine wpAny_execs_cons (ay (h1 pins s σ H D I h) λf s1 q=>?_);cases f with
 |next=>exact wpAny_execs_nil q
 |ret v=>exact q
 |brk=>exact q
 |cont=>exact q
def Inv.quiet{pins:aU}{σ:St}{H:Hp}{s:Shared}(I:Inv X pins σ H s):interactive X.env=false:=by simp[interactive,I.ok.kind]
def Zfw(te:TE):TS:=λD σ H=>te σ H λ_ H1=>D.nx σ H1
def b_(he:PE X e te)(hs:swapsWith e none pos.line X.env=pure false:=by rfl):PS X (.Expr e pos) (Zfw te):=by
 intro pins s σ H D I h;exact wpAny_Expr_any (ay (he pins s σ H _ I h) λv s1 ⟨x,H1,I1,r1,q1⟩=>⟨σ,H1,I1,q1⟩) I.quiet hs
def Zgp(te:TE):TS:=λD σ H=>te σ H D.rt
def aG(he:PE X e te):PS X (.Return (some e) pos) (Zgp te):=by
 intro pins s σ H D I h;exact wpAny_Return_some (ay (he pins s σ H _ I h) λv s1 ⟨x,H1,I1,r1,q1⟩=>⟨x,σ,H1,I1,r1,q1⟩)
def Ib(c:TT)(t u:TS):TS:=λD σ H=>c σ H λb H1=>if b=true then t D σ H1 else u D σ H1
theorem aV{c:Expr}{a b:List Stmt}{tc:TT}(hc:PT X c tc)(ha:eZ X a t)(hb:eZ X b u):PS X (.If c a b pos) (Ib tc t u):=by
 intro pins s σ H D I h;refine wpAny_If (ay (hc pins s σ H _ I h) λd s1 zq=>?_);obtain⟨H1,I1,q1⟩:=zq;cases d with
 |true=>exact ha pins s1 σ H1 D I1 q1
 |false=>exact hb pins s1 σ H1 D I1 q1
def Zd4:TS:=λ_ _ _=>False
def gc{sts:List Stmt}:eZ X sts Zd4:=λ_ _ _ _ _ _ h=>h.elim
end
abbrev TG:=V->St->Hp->(St->Hp->Prop)->Prop
abbrev nN:=List V->St->Hp->(St->Hp->Prop)->Prop
def PG(X:Cx)(target:Expr)(t:TG):Prop:=
 ∀(pins:aU) (s:Shared) (σ:St) (H:Hp) (v:V) (u:Value) (Q:St->Hp->Prop),Inv X pins σ H s->RelV v u->t v σ H Q->
  wpAny X.md X.A (assign target X.env u) (λ_ s'=>sG X pins Q s') X.xe s
def yd(X:Cx)(ts:List Expr)(t:nN):Prop:=
 ∀(pins:aU) (s:Shared) (σ:St) (H:Hp) (vs:List V) (us:List Value) (Q:St->Hp->Prop),Inv X pins σ H s->Vals vs us->t vs σ H Q->
  wpAny X.md X.A (assignInOrder ((assignEach ts X.env).map (·.2)) us) (λ_ s'=>sG X pins Q s') X.xe s
abbrev Ic:=V->V->V->Hp->(Hp->Prop)->Prop
def sH(X:Cx)(t:Ic):Prop:=
 ∀(pins:aU) (s:Shared) (σ:St) (H:Hp) (o i v:V) (ov iv u:Value) (Q:Hp->Prop),Inv X pins σ H s->RelV o ov->RelV i iv->RelV v u->t o i v H Q->
  wpAny X.md X.A (setItem ov iv u) (λ_ s'=>∃H',Inv X pins σ H' s'/\Q H') X.xe s
abbrev BM:=V->V->Hp->VK->Prop
def Th(X:Cx)(op:Operator)(t:BM):Prop:=
 ∀(pins:aU) (s:Shared) (σ:St) (H:Hp) (x y:V) (v u:Value) (Q:VK),Inv X pins σ H s->RelV x v->RelV y u->t x y H Q->
  wpAny X.md X.A (inplaceOp op v u) (EP X pins σ Q) X.xe s
section
variable {X:Cx}{pos:Pos}
def sf(i:Nat):TG:=λv σ H Q=>Q (σ.set i (some v)) H
def m8{i:Nat}{x:Str}(hN:X.N.Nodup)(hi:X.N[i]?=some x)(hx:Loc X.env.scope x)(hf:X.fn x=true\/X.env.scope.names.lookup x=some .local:=by first|exact .inl rfl|exact .inr rfl|assumption):PG X (.Name x pos) (sf i):=by
 intro pins s σ H v u Q I r h;exact wpAny_assign_Name (zT I hN hi hx r (λs' I'=>⟨_,H,I',h⟩) hf)
def Zgq:nN:=λvs σ H Q=>vs=[]/\Q σ H
inductive Ot(t:TG)(u:nN)(vs:List V)(σ:St)(H:Hp)(Q:St->Hp->Prop):Prop
 |mk (v r) (aC:vs=v::r) (aS:t v σ H λaH H'=>u r aH H' Q):Ot t u vs σ H Q
def Zfx(t:TG)(u:nN):nN:=λvs σ H Q=>Ot t u vs σ H Q
def ji:yd X [] Zgq:=by
 rintro pins s σ H vs us Q I r ⟨e,h⟩;subst e;exact assignInOrder_nil ⟨σ,H,I,h⟩
theorem bR{e:Expr}{es:List Expr}{t:TG}{u:nN}(h1:PG X e t)(h2:yd X es u)
  (hs:(assignEach (e::es) X.env).map (·.2)=assign e X.env::(assignEach es X.env).map (·.2):=by rfl):yd X (e::es) (Zfx t u):=by
 rintro pins s σ H vs us Q I r ⟨v,vr,e1,h⟩;subst e1;cases r with
 |cons r rr=>
  rw[hs];exact assignInOrder_cons (ay (h1 pins s σ H _ _ _ I r h) λ_ s1 ⟨vy,H1,I1,q1⟩=>h2 pins s1 vy H1 _ _ Q I1 rr q1)
inductive PV(K:ah)(n:Nat)(t:nN)(v:V)(σ:St)(H:Hp)(Q:St->Hp->Prop):Prop
 |mk (a xs) (aC:v=.ref a) (aS:aB K H a xs) (bb:xs.length=n) (bL:t xs σ H Q):PV K n t v σ H Q
def R_(K:ah)(n:Nat)(t:nN):TG:=λv σ H Q=>PV K n t v σ H Q
def Zd5{es:List Expr}{k:Nat}{t:nN}{n:Nat}(hc:X.calm=true)(h:yd X es t)
  (hn:(assignEach es X.env).length=n:=by rfl)(df:(assignEach es X.env).findIdx? (·.1)=none:=by rfl):PG X (.Tuple es k pos) (R_ X.K n t):=by
 rintro pins s σ H v u Q I r ⟨a,xs,e1,hq,hl,hw⟩;subst e1;cases r;obtain⟨ai,rv,ht,hz⟩:=I.tuple hq;exact assign_Tuple_tuple (I.ok.hd hc) ht (by simp[hn,←hl,rv.length]) df λh' hx=>h pins _ σ H xs _ Q (I.kept λb o e=>hx b o (Yy (Ys e)) e) (by simpa using rv) hw
def Sa(to ti:TE)(t:Ic):TG:=λv σ H Q=>to σ H λo H1=>ti σ H1 λi H2=>t o i v H2 λH3=>Q σ H3
def Zd6{o i:Expr}{to ti:TE}{t:Ic}(ho:PE X o to)(hi:PE X i ti)(hs:sH X t)
  (ha:∀v,assign (.Subscript o i pos) X.env v=(do
   let ov←holding [v] (eval o X.env);let iv←holding [v,ov] (eval i X.env)
   standAt pos
   holding [v,ov,iv] (setItem ov iv v)
   release [v,ov,iv] []):=by intro _;rfl):PG X (.Subscript o i pos) (Sa to ti t):=by
 intro pins s σ H v u Q I r h;exact wpAny_bind (wpAny_holding (ay (ho pins s σ H _ I h) λov s1 ⟨x,H1,I1,r1,q1⟩=>wpAny_bind (wpAny_holding (ay (hi pins s1 σ H1 _ I1 q1) λiv s2 ⟨y,H2,I2,r2,q2⟩=>wpAny_bind (wpAny_standAt (wpAny_bind (wpAny_holding (ay (hs pins s2 σ H2 x y v ov iv u _ I2 r1 r2 r q2) λ_ s3 ⟨H3,I3,q3⟩=>wpAny_release ⟨σ,H3,I3,q3⟩))))))))
def u5(te:TE)(g:TG):TS:=λD σ H=>te σ H λx H1=>g x σ H1 D.nx
def nv{tg e:Expr}{te:TE}{g:TG}(he:PE X e te)(hg:PG X tg g)(hs:swapsWithSole [tg] e pos.line X.env=pure false:=by rfl)(hw:swappedStores [tg] e X.env=pure none:=by rfl)
  (h1:(assignEach [tg] X.env).map (·.2)=[assign tg X.env]:=by rfl):PS X (.Assign [tg] e pos) (u5 te g):=by
 intro pins s σ H D I h;refine wpAny_Assign_stores (ay (he pins s σ H _ I h) λv s1 zq=>?_) hs hw;obtain⟨x,H1,I1,r1,q1⟩:=zq;rw[h1];exact ay (hg pins s1 σ H1 x v _ I1 r1 q1) λ_ s2 q=>q
def gT{i:Nat}{x:Str}{e:Expr}{te:TE}{pos':Pos}(hN:X.N.Nodup)(hi:X.N[i]?=some x)(hx:Loc X.env.scope x)(he:PE X e te)(hs:swapsWith e (some (.Name x pos')) pos.line X.env=pure false:=by rfl)(hf:X.fn x=true\/X.env.scope.names.lookup x=some .local:=by first|exact .inl rfl|exact .inr rfl|assumption):
  PS X (.Assign [.Name x pos'] e pos) (u5 te (sf i)):=by
 intro pins s σ H D I h;refine wpAny_Assign_Name (ay (he pins s σ H _ I h) λv s1 zq=>?_) hs;obtain⟨y,H1,I1,r1,q1⟩:=zq;exact zT I1 hN hi hx r1 (λs2 I2=>⟨_,H1,I2,q1⟩) hf
def Zgr(i:Nat)(te:TE)(ti:BM):TS:=λD σ H=>∃x,σ[i]?=some (some x)/\te σ H λy H1=>ti x y H1 λz H2=>D.nx (σ.set i (some z)) H2
def PX{i:Nat}{x:Str}{e:Expr}{te:TE}{op:Operator}{ti:BM}{pos':Pos}(hN:X.N.Nodup)(hi:X.N[i]?=some x)(hx:Loc X.env.scope x)(he:PE X e te)(ho:Th X op ti)(hf:X.fn x=true\/X.env.scope.names.lookup x=some .local:=by first|exact .inl rfl|exact .inr rfl|assumption):
  PS X (.AugAssign (.Name x pos') op e pos) (Zgr i te ti):=by
 rintro pins s σ H D I ⟨v,e1,h⟩;obtain⟨m,hn,hl⟩:=I.loc;have JJ:sW X.env.scope x:=by rcases hx with k|k;exact .inl k;exact .inr (.inl k)
 obtain⟨u,r,l⟩:=hl i x v hi e1 JJ;refine wpAny_AugAssign_Name ?_;have go:wpAny X.md X.A (eval e X.env) (λw d9=>wpAny X.md X.A (inplaceOp op u w) (λr dR=>wpAny X.md X.A (storeName X.env x r) (λ_=>SP X pins D .next) X.xe dR) X.xe d9) X.xe s:=ay (he pins s σ H _ I h) λw s1 ⟨y,H1,I1,r1,q1⟩=>ay (ho pins s1 σ H1 v y u w _ I1 r r1 q1) λz s2 ⟨zv,H2,I2,r2,q2⟩=>zT I2 hN hi hx r2 (λs3 I3=>⟨_,H2,I3,q2⟩) hf;rcases l with⟨hk,hm⟩|⟨hk,c,hc,AH⟩;·exact wpAny_loadName_local I.ok.kind hk hn hm go
 ·rcases hk with hk|hk;·exact wpAny_loadName_cell I.ok.kind hk hc AH go
  ·rcases hx with k|k
   ·have:X.env.scope.names.lookup x=some .free:=hk
    grind
   ·have:X.env.scope.names.lookup x=some .free:=hk
    grind
inductive Ri(f:Int->Int->Int)(x:V)(y:V)(H:Hp)(Q:VK):Prop
 |mk (i j) (aC:x=.int i) (aS:y=.int j) (bb:Q (.int (f i j)) H):Ri f x y H Q
def ipI(f:Int->Int->Int):BM:=λx y H Q=>Ri f x y H Q
def PY:Th X .Add (ipI λi j=>i+j):=by
 rintro pins s σ H x y v u Q I r1 r2 ⟨i,j,e1,e2,q⟩;subst e1;subst e2;obtain⟨t,rfl⟩:=r1;obtain⟨t',rfl⟩:=r2;exact iadd_int ⟨.int _,H,I.tok _,⟨_,rfl⟩,q⟩
end
section
variable {X:Cx}{pos:Pos}
def PZ(c:TT)(tb:TS):TS:=λD σ H=>∃W:Nat->St->Hp->Prop,(∃m,W m σ H)/\∀m σ H,W m σ H->
 c σ H λb H1=>if b=true then ∃N:St->Hp->Prop,(∀aH H',N aH H'->∃m',m'<m/\W m' aH H')/\tb {D with nx:=N,ct:=N,bk:=D.nx} σ H1 else D.nx σ H1
theorem F2{c:Expr}{body:List Stmt}{tc:TT}{tb:TS}(hp:PassesOwn X.md X.A X.env X.xe)(hc:PT X c tc)(hb:eZ X body tb):PS X (.While c body [] pos) (PZ tc tb):=by
 intro pins s σ H D I h;obtain⟨W,⟨m0,w0⟩,turn⟩:=h;refine wpAny_While (codeAny_whileLoop (λn s'=>sG X pins (W n) s') ?_ m0 ⟨σ,H,I,w0⟩);rintro n s1 ⟨vy,H1,I1,w1⟩;refine wpAny_passesOwn hp (ay (hc pins s1 vy H1 _ I1 (turn n vy H1 w1)) λb s2 zq=>?_);obtain⟨H2,I2,q2⟩:=zq;cases b with
 |true=>
  obtain⟨N,hN,q2⟩:=q2;rw[if_pos rfl];refine wpAny_passesOwn hp (ay (hb pins s2 vy H2 _ I2 q2) λf s3 q3=>?_);cases f with
  |next=>
   obtain⟨cQ,H3,I3,n3⟩:=q3;obtain⟨m',hm,w3⟩:=hN cQ H3 n3;exact⟨m',hm,cQ,H3,I3,w3⟩
  |cont=>
   obtain⟨cQ,H3,I3,n3⟩:=q3;obtain⟨m',hm,w3⟩:=hN cQ H3 n3;exact⟨m',hm,cQ,H3,I3,w3⟩
  |brk=>exact q3
  |ret v=>exact q3
 |false=>
  rw[if_neg Yj];exact wpAny_execs_nil ⟨vy,H2,I2,q2⟩
end
structure It where
 go:Nat->Hp->Prop
 qL:Nat->Hp->V->Hp->Prop
 stop:Nat->Hp->Prop
def iQ(X:Cx)(pins:aU)(H:Hp)(b:Addr):Prop:=
 H b=none/\b≠X.env.locals/\b∉X.fs/\(b∈X.ex\/X.cX.heap.objs.size<=b)/\(∀x c,X.env.cells.lookup x=some c->c≠b)/\∀p∈X.pn++pins,p.1≠b
def Inv.qz{X:Cx}{pins:aU}{σ:St}{H H':Hp}{s:Shared}{b:Addr}(I:Inv X pins σ H s)(hb:s.heap.objs.size<=b)(hn:H' b=none):iQ X pins H' b:=by
 refine⟨hn,Je (Y2 I.lt hb),I.Zgk hb,.inr (Y0 I.sz hb),λx c e z=>?_,λp hp z=>?_⟩
 ·obtain⟨v,q⟩:=I.cell x c e;exact absurd (Y2 q.lt (by rw[z];exact hb)) (Wc _)
 ·exact absurd (Y2 (Ys (I.pin p hp).1) (by rw[z];exact hb)) (Wc _)
structure Turn(P:Program)(w:World)(K:ah)(tg:Expr)(J:It)(fp:List Addr)(it:Addr)(tn:Nat->Heap->Prop):Prop where
 mem:it∈fp
 obj:∀i h,tn i h->∀b∈fp,∃o,h.get? b=some o/\∀v,o.data≠.cell v
 keep:∀i h h',tn i h->(∀b∈fp,∀o,h.get? b=some o->h'.get? b=some o)->tn i h'
 item:∀(X:Cx),X.prog=P->X.w=w->X.K=K->X.calm=true->∀(i:Nat) (pins:aU) (s:Shared) (σ:St) (H:Hp) (E:a8),Inv X pins σ H s->(∀b∈fp,iQ X pins H b)->tn i s.heap->J.go i H->
  wpAny (model P w) X.A (pyNext (.ref it)) (λr s1=>∃u,r=some u/\
   wpAny (model P w) X.A (letOwnedTupleGo tg (.ref it) u) (λ_ s2=>∃x H',Inv X pins σ H' s2/\RelV x u/\J.qL i H x H'/\tn (i+1) s2.heap/\∀b∈fp,H' b=none) E s1) E s
 done:∀(X:Cx),X.prog=P->X.w=w->X.K=K->X.calm=true->∀(i:Nat) (pins:aU) (s:Shared) (σ:St) (H:Hp) (E:a8),Inv X pins σ H s->(∀b∈fp,iQ X pins H b)->tn i s.heap->J.stop i H->
  wpAny (model P w) X.A (pyNext (.ref it)) (λr s1=>r=none/\Inv X pins σ H s1) E s
 self:∀(A:Around) (i:Nat) (s:Shared) (Q:a8) (E:a8),tn i s.heap->Q (.ref it) s->wpAny (model P w) A (pyIter (.ref it)) Q E s
abbrev TI:=St->Hp->(It->Hp->Prop)->Prop
def Ti(X:Cx)(pins:aU)(σ:St)(tg:Expr)(R:It->Hp->Prop)(vA:Value)(s2:Shared):Prop:=
 ∃(it:Addr) (fp:List Addr) (tn:Nat->Heap->Prop) (J:It) (H':Hp),vA=.ref it/\Inv X pins σ H' s2/\Turn X.prog X.w X.K tg J fp it tn/\tn 0 s2.heap/\(∀b∈fp,iQ X pins H' b)/\R J H'
def PI(X:Cx)(tg iter:Expr)(wi:TI):Prop:=
 ∀(pins:aU) (s:Shared) (σ:St) (H:Hp) (R:It->Hp->Prop),Inv X pins σ H s->wi σ H R->
  wpAny X.md X.A (eval iter X.env) (λv s1=>wpAny X.md X.A (pyIter v) (Ti X pins σ tg R) X.xe s1) X.xe s
theorem sh{M:Model}{A:Around}{E:a8}{s:Shared}{tg:Expr}{it:Addr}{u:Value}{o:Obj}{n:String}{vs:Array Value}{Q:Unit->Shared->Prop}(ho:s.heap.get? it=some o)(hc:o.cls=.type n)(hd:o.data=.fields vs)
    (hn:["enumerate","zip","dict_itemiterator","dict_reverseitemiterator","odict_iterator","itertools.zip_longest","itertools.pairwise"].contains n=false)(hQ:Q () s):wpAny M A (letOwnedTupleGo tg (.ref it) u) Q E s:=by
  unfold letOwnedTupleGo;cases tg <;> first
    | exact wpAny_pure hQ
    | (cases u <;> first
        | exact wpAny_pure hQ
        | (refine wpAny_bind (wpAny_load ho ?_)
           rw [hc,hd];show wpAny M A (if (["enumerate","zip","dict_itemiterator","dict_reverseitemiterator","odict_iterator","itertools.zip_longest","itertools.pairwise"].contains n&&vs[0]? == some (rawInt _))=true then _ else _) Q E s;rw [if_neg (by intro h; rw [hn,Bool.false_and] at h; cases h)];exact wpAny_pure hQ))
def jK(K:ah)(a:Addr):It:=
 ⟨λi H=>∃xs x,ak K H a xs/\xs[i]?=some x,λi H x H'=>H'=H/\∀xs,ak K H a xs->xs[i]?=some x,λi H=>∃xs,ak K H a xs/\xs.length<=i⟩
def vB(K:ah)(a:Addr):It:=
 ⟨λi H=>∃xs x,aB K H a xs/\xs[i]?=some x,λi H x H'=>H'=H/\∀xs,aB K H a xs->xs[i]?=some x,λi H=>∃xs,aB K H a xs/\xs.length<=i⟩
def pE(lo:Int)(n:Nat):It:=⟨λi _=>i<n,λi H x H'=>H'=H/\x=.int (lo+i),λi _=>n<=i⟩
def MN{P:Program}{w:World}{K:ah}{tg:Expr}(a it:Addr):Turn P w K tg (jK K a) [it] it (λi h=>h.IsListIter it a i) where
 mem:=by simp
 obj:=λi h st b hb=>by
  have e:b=it:=by simpa using hb
  obtain⟨o,e,c,d⟩:=st
  grind
 keep:=λi h h' st k=>st.at λo e=>k it (by simp) o e
 item:=by
  intro X hP hw hK hc i pins s σ H E I hf st hg;subst hP hw hK;obtain⟨xs,x,hq,hx⟩:=hg;obtain⟨ai,rv,p,hz⟩:=I.list hq;obtain⟨u,hu,ru⟩:=rv.get hx;obtain⟨f0,f1,f2,f3,f4,f5⟩:=hf it (by simp);refine wpAny_pyNext_list_item st p.isList (by simpa using hu) λh' aJ sb=>?_;obtain⟨o,e,c,d⟩:=id aJ;exact⟨u,rfl,sh e c d (by decide) ⟨x,H,(I.turned (λb o hb e=>(sb.2 b hb).trans e) f0 f1 f3 f4 f5),ru,⟨rfl,λys hy=>by rw[I.Zbj hy hq];exact hx⟩,aJ,λb hb=>(hf b hb).1⟩⟩
 done:=by
  intro X hP hw hK hc i pins s σ H E I hf st hg;subst hP hw hK;obtain⟨xs,hq,hx⟩:=hg;obtain⟨ai,rv,p,hz⟩:=I.list hq;obtain⟨f0,f1,f2,f3,f4,f5⟩:=hf it (by simp);have hl:=rv.length;exact wpAny_pyNext_list_end (I.ok.hd hc) st p.isList (by simp;omega) λh' eb=>⟨rfl,I.turned (λb o hb e=>eb b o hb e) f0 f1 f3 f4 f5⟩
 self:=λ_ _ _ _ _ st h=>wpAny_pyIter_listiter st h
def Mi{P:Program}{w:World}{K:ah}{tg:Expr}(a it:Addr):Turn P w K tg (vB K a) [it] it (λi h=>h.IsTupleIter it a i) where
 mem:=by simp
 obj:=λi h st b hb=>by
  have e:b=it:=by simpa using hb
  obtain⟨o,e,c,d⟩:=st
  grind
 keep:=λi h h' st k=>st.at λo e=>k it (by simp) o e
 item:=by
  intro X hP hw hK hc i pins s σ H E I hf st hg;subst hP hw hK;obtain⟨xs,x,hq,hx⟩:=hg;obtain⟨ai,rv,p,hz⟩:=I.tuple hq;obtain⟨u,hu,ru⟩:=rv.get hx;obtain⟨f0,f1,f2,f3,f4,f5⟩:=hf it (by simp);refine wpAny_pyNext_tuple_item st (show s.heap.IsTuple a ai.toArray from p) (by simpa using hu) λh' aJ sb=>?_;obtain⟨o,e,c,d⟩:=id aJ;exact⟨u,rfl,sh e c d (by decide) ⟨x,H,(I.turned (λb o hb e=>(sb.2 b hb).trans e) f0 f1 f3 f4 f5),ru,⟨rfl,λys hy=>by rw[I.Zas hy hq];exact hx⟩,aJ,λb hb=>(hf b hb).1⟩⟩
 done:=by
  intro X hP hw hK hc i pins s σ H E I hf st hg;subst hP hw hK;obtain⟨xs,hq,hx⟩:=hg;obtain⟨ai,rv,p,hz⟩:=I.tuple hq;obtain⟨f0,f1,f2,f3,f4,f5⟩:=hf it (by simp);have hl:=rv.length;exact wpAny_pyNext_tuple_end (I.ok.hd hc) st (show s.heap.IsTuple a ai.toArray from p) (by simp;omega) λh' eb=>⟨rfl,I.turned (λb o hb e=>eb b o hb e) f0 f1 f3 f4 f5⟩
 self:=λ_ _ _ _ _ st h=>wpAny_pyIter_tupleiter st h
def Zu{P:Program}{w:World}{K:ah}{tg:Expr}(it:Addr)(lo:Int)(n:Nat):Turn P w K tg (pE lo n) [it] it (λi h=>IsRangeIter h it (lo+(i:Nat)*1) ((n:Int)-(i:Nat)) 1) where
 mem:=by simp
 obj:=λi h st b hb=>by
  grind
 keep:=λi h h' st k=>k it (by simp) _ st
 item:=by
  intro X hP hw hK hc i pins s σ H E I hf st hg;subst hP hw hK;obtain⟨f0,f1,f2,f3,f4,f5⟩:=hf it (by simp);refine(Walks.range (I.ok.hd hc) it lo 1 n).item i s _ _ hg st λv h' tk hv aJ kk=>?_;obtain⟨t,rfl⟩:=hv;refine⟨_,rfl,sh aJ rfl rfl (by decide) ⟨.int (lo+i),H,(I.turned (λb o hb e=>kk b o (by simpa using hb) e) f0 f1 f3 f4 f5),⟨t,?_⟩,⟨rfl,rfl⟩,aJ,λb hb=>(hf b hb).1⟩⟩;rw[Int.mul_one]
 done:=by
  intro X hP hw hK hc i pins s σ H E I hf st hg;subst hP hw hK;obtain⟨f0,f1,f2,f3,f4,f5⟩:=hf it (by simp);exact wpAny_pyNext_range_end (I.ok.hd hc) st (by have:n<=i:=hg;omega) λh' eb=>⟨rfl,I.turned (λb o hb e=>eb b o hb e) f0 f1 f3 f4 f5⟩
 self:=λ_ _ _ _ _ st h=>wpAny_pyIter_rangeiter st h
section
variable {X:Cx}{tg:Expr}
inductive Ou(K:ah)(R:It->Hp->Prop)(x:V)(H1:Hp):Prop
 |mk (a) (aC:x=.ref a) (aS:(∃xs,ak K H1 a xs)) (bb:R (jK K a) H1):Ou K R x H1
def Rj(K:ah)(tl:TE):TI:=λσ H R=>tl σ H λx H1=>Ou K R x H1
inductive P0(K:ah)(R:It->Hp->Prop)(x:V)(H1:Hp):Prop
 |mk (a) (aC:x=.ref a) (aS:(∃xs,aB K H1 a xs)) (bb:R (vB K a) H1):P0 K R x H1
def Zgs(K:ah)(tl:TE):TI:=λσ H R=>tl σ H λx H1=>P0 K R x H1
def Ov{l:Expr}{tl:TE}(hl:PE X l tl):PI X tg l (Rj X.K tl):=by
 intro pins s σ H R I h;refine ay (hl pins s σ H _ I h) λv s1 zq=>?_;obtain⟨x,H1,I1,r1,q1⟩:=zq;obtain⟨a,e,⟨xs,hq⟩,q⟩:=q1;subst e;cases r1;obtain⟨ai,rv,p,hz⟩:=I1.list hq;refine wpAny_pyIter_list p.isList ⟨s1.heap.objs.size,[s1.heap.objs.size],_,_,H1,rfl,I1.kept λb o e=>Yb _ e,MN a _,⟨_,Yu _ rfl,rfl,rfl⟩,λb hb=>?_,q⟩;have e:b=s1.heap.objs.size:=by simpa using hb
 subst e;exact I1.qz (Yd _) (I1.aw.fresh (Yd _))
def GL{l:Expr}{tl:TE}(hl:PE X l tl):PI X tg l (Zgs X.K tl):=by
 intro pins s σ H R I h;refine ay (hl pins s σ H _ I h) λv s1 zq=>?_;obtain⟨x,H1,I1,r1,q1⟩:=zq;obtain⟨a,e,⟨xs,hq⟩,q⟩:=q1;subst e;cases r1;obtain⟨ai,rv,p,hz⟩:=I1.tuple hq;refine wpAny_pyIter_tuple (show s1.heap.IsTuple a ai.toArray from p) ⟨s1.heap.objs.size,[s1.heap.objs.size],_,_,H1,rfl,I1.kept λb o e=>Yb _ e,Mi a _,⟨_,Yu _ rfl,rfl,rfl⟩,λb hb=>?_,q⟩;have e:b=s1.heap.objs.size:=by simpa using hb
 subst e;exact I1.qz (Yd _) (I1.aw.fresh (Yd _))
def Zbk{pins:aU}{σ:St}{H:Hp}{s:Shared}{R:It->Hp->Prop}{E:a8}{lo hi:Int}{t u v:Tok}{tk:Nat}(I:Inv X pins σ H s)(h1:-(2^62)<=lo)(h2:lo<2^62)(h3:-(2^62)<=hi)(h4:hi<2^62)
  (q:R (pE lo (hi-lo).toNat) H):wpAny X.md X.A (pyIter (.ref s.heap.objs.size)) (Ti X pins σ tg R) E {s with heap:=s.heap.push {cls:=.type "range",data:=.fields #[.int lo t,.int hi u,.int 1 v]},toks:=tk}:=by
 refine wpAny_pyIter_range (IsRange.new ..) (small_one h1 h2 h3 h4) ?_;have I1:Inv X pins σ H {s with heap:=s.heap.push {cls:=.type "range",data:=.fields #[.int lo t,.int hi u,.int 1 v]},toks:=tk}:=I.kept λb o e=>Yb _ e;refine⟨(s.heap.push {cls:=.type "range",data:=.fields #[.int lo t,.int hi u,.int 1 v]}).objs.size,[(s.heap.push {cls:=.type "range",data:=.fields #[.int lo t,.int hi u,.int 1 v]}).objs.size],_,_,H,rfl,
  I1.kept (t':=tk) λb o e=>Yb _ e,Zu _ lo (hi-lo).toNat,?_,λb hb=>?_,q⟩
 ·have e1:lo+((0:Nat):Int)*1=lo:=by simp
  have e2:(((hi-lo).toNat:Nat):Int)-((0:Nat):Int)=Builtin.Range.rangeSize lo hi 1:=by rw[rangeSize_one];split<;>omega
  show IsRangeIter _ _ (lo+((0:Nat):Int)*1) ((((hi-lo).toNat:Nat):Int)-((0:Nat):Int)) 1;rw[e1,e2];exact Yu _ rfl
 ·have e:b=(s.heap.push {cls:=.type "range",data:=.fields #[.int lo t,.int hi u,.int 1 v]}).objs.size:=by simpa using hb
  subst e;exact I1.qz (Yd _) (I1.aw.fresh (Yd _))
inductive Ow(R:It->Hp->Prop)(vs:List V)(H1:Hp):Prop
 |mk (j:Int) (aC:vs=[.int j]) (aS:-(2^62)<=j) (bb:j<2^62) (bL:R (pE 0 j.toNat) H1):Ow R vs H1
def Zfy(ta:TA):TI:=λσ H R=>ta σ H λvs H1=>Ow R vs H1
theorem p_{a:Expr}{ta:TA}{p pos:Pos}(hg:Gl X "range")(hm:X.mg "range"=none)(ha:PA X [a] ta)(hs:starEach [a] X.env=[(false,eval a X.env)]:=by rfl):PI X tg (.Call (.Name "range" p) [a] [] pos) (Zfy ta):=by
 intro pins s σ H R I h;refine Call_ (xg I hg hm boot_range (PyProof.Rows.callWith_type1 (ay (ha pos pins s σ H _ I h) λus s1 zq=>?_) hs rfl));obtain⟨vs,H1,I1,r1,q1⟩:=zq;obtain⟨j,e,q1,q2,q⟩:=q1;subst e;cases r1 with
 |cons r rr=>
  cases rr;obtain⟨t,rfl⟩:=r;exact call_range_1 (Zbk I1 (by omega) (by omega) q1 q2 (by simpa using q))
def Ie(wi:TI)(g:TG)(tb:TS):TS:=λD σ H=>wi σ H λJ H1=>∃W:Nat->Nat->St->Hp->Prop,(∃m,W 0 m σ H1)/\∀i m σ H,W i m σ H->
 (J.stop i H/\D.nx σ H)\/(J.go i H/\∃N:St->Hp->Prop,(∀aH H',N aH H'->∃m',m'<m/\W (i+1) m' aH H')/\∀x H',J.qL i H x H'->g x σ H' λdz H2=>tb {D with nx:=N,ct:=N,bk:=D.nx} dz H2)
def qo(fp:List Addr)(h:Heap):List (Addr×Obj):=fp.filterMap λb=>(h.get? b).map λo=>(b,o)
def pW{fp:List Addr}{h:Heap}{b:Addr}{o:Obj}(hb:b∈fp)(e:h.get? b=some o):(b,o)∈qo fp h:=Ji.mpr ⟨b,hb,by rw[e];rfl⟩
theorem Zat{fp:List Addr}{h:Heap}{p:Addr×Obj}(hp:p∈qo fp h):p.1∈fp/\h.get? p.1=some p.2:=by
 obtain⟨b,hb,e⟩:=Ji.mp hp;cases q:h.get? b with
 |none=>grind
 |some o=>grind
def Inv.pinned{pins:aU}{σ:St}{H:Hp}{s:Shared}{fp:List Addr}(I:Inv X pins σ H s)(hf:∀b∈fp,iQ X pins H b)(ho:∀b∈fp,∃o,s.heap.get? b=some o/\∀v,o.data≠.cell v):Inv X (pins++qo fp s.heap) σ H s:=
 I.Oq λp hp=>(Yq.mp hp).elim (λz=>I.pin p (Yr _ z)) λz=>by
  obtain⟨hb,e⟩:=Zat z;obtain⟨f0,f1,f2,_⟩:=hf p.1 hb
  grind
def Inv.uI{pins pl:aU}{σ:St}{H:Hp}{s:Shared}(I:Inv X (pins++pl) σ H s):Inv X pins σ H s:=I.Oq λp hp=>I.pin p (Yr _ (Yt _ hp))
theorem fP{iter:Expr}{body:List Stmt}{wi:TI}{g:TG}{tb:TS}{pos:Pos}(hp:PassesOwn X.md X.A X.env X.xe)(hc:X.calm=true)(hi:PI X tg iter wi)(hg:PG X tg g)(hb:eZ X body tb)
  (hs:∀x,foldedSetIterable iter X.env x=pure x:=by intro _;rfl):PS X (.For tg iter body [] pos) (Ie wi g tb):=by
 intro pins s σ H D I h;refine wpAny_For (ay (hi pins s σ H _ I h) λv s1 h1=>ay h1 λvA s2 h2=>?_) hs;obtain⟨it,fp,tn,J,H2,e,I2,T,eM,f2,W,⟨m0,w0⟩,turn⟩:=h2;subst e;have mw:∀{H':Hp},(∀b∈fp,H' b=none)->∀b∈fp,iQ X pins H' b:=λhn b hb=>⟨hn b hb,(f2 b hb).2⟩;refine codeAny_forLoop_any (λn s'=>∃i aH H',Inv X pins aH H' s'/\tn i s'.heap/\(∀b∈fp,H' b=none)/\W i n aH H') ?_ m0 ⟨0,σ,H2,I2,eM,λb hb=>(f2 b hb).1,w0⟩;rintro n s3 ⟨i,cQ,H3,I3,Tj,vC,w3⟩;rcases turn i n cQ H3 w3 with⟨stop,qn⟩|⟨go,N,hN,step⟩
 ·refine wpAny_passesOwn hp (ay (T.done X rfl rfl rfl hc i pins s3 cQ H3 X.xe I3 (mw vC) Tj stop) λr s4 zq=>?_);obtain⟨hr,I4⟩:=zq;subst hr;exact wpAny_execs_nil ⟨cQ,H3,I4,qn⟩
 ·refine wpAny_passesOwn hp (ay (T.item X rfl rfl rfl hc i pins s3 cQ H3 X.xe I3 (mw vC) Tj go) λr s4 zq=>?_);obtain⟨u,hr,h4⟩:=zq;subst hr;refine wpAny_passesOwn hp (ay h4 λ_ s5 ⟨x,H5,I5,r5,y5,mK,sY⟩=>wpAny_passesOwn hp (ay (hg _ s5 cQ H5 x u _ (I5.pinned (mw sY) (T.obj _ _ mK)) r5 (step x H5 y5)) λ_ s6 ⟨BN,H6,I6,q6⟩=>wpAny_passesOwn hp (ay (hb _ s6 BN H6 _ I6 q6) λf s7 q7=>?_)));have again:∀{mM:St} {H7:Hp},Inv X (pins++qo fp s5.heap) mM H7 s7->N mM H7->∃m,m<n/\∃i aH H',Inv X pins aH H' s7/\tn i s7.heap/\(∀b∈fp,H' b=none)/\W i m aH H':=λ{mM H7} I7 n7=>by
   obtain⟨m',hm,w7⟩:=hN mM H7 n7;refine⟨m',hm,i+1,mM,H7,I7.uI,T.keep _ _ _ mK λb hb o e=>(I7.pin (b,o) (Yr _ (Yr _ (pW hb e)))).1,λb hb=>?_,w7⟩;obtain⟨o,e,d⟩:=T.obj _ _ mK b hb;exact(I7.pin (b,o) (Yr _ (Yr _ (pW hb e)))).2.1
  cases f with
  |next=>obtain⟨mM,H7,I7,n7⟩:=q7;exact again I7 n7
  |cont=>obtain⟨mM,H7,I7,n7⟩:=q7;exact again I7 n7
  |brk=>obtain⟨mM,H7,I7,q7⟩:=q7;exact⟨mM,H7,I7.uI,q7⟩
  |ret v=>obtain⟨x7,mM,H7,I7,r7,q7⟩:=q7;exact⟨x7,mM,H7,I7.uI,r7,q7⟩
end
def je{K:ah}{a:Addr}{xs:List V}{g:TG}{tb:TS}{D:Ends}{σ:St}{H:Hp}(Pv:Nat->St->Hp->Prop)(h0:Pv 0 σ H)(hl:∀i σ H,i<=xs.length->Pv i σ H->ak K H a xs)
  (hs:∀i x σ H,xs[i]?=some x->Pv i σ H->g x σ H λdz H2=>tb {D with nx:=Pv (i+1),ct:=Pv (i+1),bk:=D.nx} dz H2)(hd:∀σ H,Pv xs.length σ H->D.nx σ H):
  ∃W:Nat->Nat->St->Hp->Prop,(∃m,W 0 m σ H)/\∀i m σ H,W i m σ H->
   ((jK K a).stop i H/\D.nx σ H)\/((jK K a).go i H/\∃N:St->Hp->Prop,(∀aH H',N aH H'->∃m',m'<m/\W (i+1) m' aH H')/\∀x H',(jK K a).qL i H x H'->g x σ H' λdz H2=>tb {D with nx:=N,ct:=N,bk:=D.nx} dz H2):=by
 refine⟨λi m σ H=>m=xs.length-i/\i<=xs.length/\Pv i σ H,⟨xs.length,by simp,Yx _,h0⟩,?_⟩;rintro i m σ H ⟨rfl,hi,p⟩;have q:=hl i σ H hi p;by_cases bT:i<xs.length
 ·refine .inr ⟨⟨xs,xs[i],q,by simp[bT]⟩,Pv (i+1),λaH H' p'=>⟨xs.length-(i+1),by omega,rfl,bT,p'⟩,λx H' y=>?_⟩;obtain⟨e,y⟩:=y;subst e;exact hs i x σ _ (y xs q) p
 ·have e:i=xs.length:=by omega
  subst e;exact .inl ⟨⟨xs,q,Yd _⟩,hd σ H p⟩
def Fy{lo:Int}{n:Nat}{g:TG}{tb:TS}{D:Ends}{σ:St}{H:Hp}(Pv:Nat->St->Hp->Prop)(h0:Pv 0 σ H)
  (hs:∀i σ H,i<n->Pv i σ H->g (.int (lo+i)) σ H λdz H2=>tb {D with nx:=Pv (i+1),ct:=Pv (i+1),bk:=D.nx} dz H2)(hd:∀σ H,Pv n σ H->D.nx σ H):
  ∃W:Nat->Nat->St->Hp->Prop,(∃m,W 0 m σ H)/\∀i m σ H,W i m σ H->
   ((pE lo n).stop i H/\D.nx σ H)\/((pE lo n).go i H/\∃N:St->Hp->Prop,(∀aH H',N aH H'->∃m',m'<m/\W (i+1) m' aH H')/\∀x H',(pE lo n).qL i H x H'->g x σ H' λdz H2=>tb {D with nx:=N,ct:=N,bk:=D.nx} dz H2):=by
 refine⟨λi m σ H=>m=n-i/\i<=n/\Pv i σ H,⟨n,by simp,Yx _,h0⟩,?_⟩;rintro i m σ H ⟨rfl,hi,p⟩;by_cases bT:i<n
 ·refine .inr ⟨bT,Pv (i+1),λaH H' p'=>⟨n-(i+1),by omega,rfl,bT,p'⟩,λx H' y=>?_⟩;obtain⟨e,y⟩:=y
  grind
 ·have e:i=n:=by omega
  subst e;exact .inl ⟨Yd _,hd σ H p⟩
theorem F3{c:TT}{tb:TS}{D:Ends}{σ:St}{H:Hp}(Pv:St->Hp->Prop)(μ:St->Hp->Nat)(h0:Pv σ H)
  (hs:∀σ H,Pv σ H->c σ H λb H1=>if b=true then tb {D with nx:=λaH H'=>Pv aH H'/\μ aH H'<μ σ H,ct:=λaH H'=>Pv aH H'/\μ aH H'<μ σ H,bk:=D.nx} σ H1 else D.nx σ H1)
  (mono:∀σ H Q Q',(∀b H1,Q b H1->Q' b H1)->c σ H Q->c σ H Q'):PZ c tb D σ H:=by
 refine⟨λm σ H=>m=μ σ H/\Pv σ H,⟨_,rfl,h0⟩,?_⟩;rintro m σ H ⟨rfl,p⟩;refine mono σ H _ _ (λb H1 q=>?_) (hs σ H p);cases b with
 |true=>exact⟨_,λaH H' ⟨p',l⟩=>⟨_,l,rfl,p'⟩,q⟩
 |false=>exact q
abbrev R2:=V->V->Hp->VK->Prop
def cG(X:Cx)(f:Value->Value->Sem Value)(r:R2):Prop:=
 ∀(pins:aU) (s:Shared) (σ:St) (H:Hp) (x y:V) (v u:Value) (Q:VK),Inv X pins σ H s->RelV x v->RelV y u->r x y H Q->
  wpAny X.md X.A (f v u) (EP X pins σ Q) X.xe s
def JK(X:Cx)(f:Value->Sem Value)(r:V->Hp->VK->Prop):Prop:=
 ∀(pins:aU) (s:Shared) (σ:St) (H:Hp) (x:V) (v:Value) (Q:VK),Inv X pins σ H s->RelV x v->r x H Q->
  wpAny X.md X.A (f v) (EP X pins σ Q) X.xe s
def c7(X:Cx)(f:Value)(r:List V->Hp->VK->Prop):Prop:=
 ∀(pins:aU) (s:Shared) (σ:St) (H:Hp) (xs:List V) (us:List Value) (Q:VK),Inv X pins σ H s->Vals xs us->r xs H Q->
  wpAny X.md X.A (call f us) (EP X pins σ Q) X.xe s
def Zgt(X:Cx)(r:V->Hp->(Bool->Hp->Prop)->Prop):Prop:=
 ∀(pins:aU) (s:Shared) (σ:St) (H:Hp) (x:V) (v:Value) (Q:Bool->Hp->Prop),Inv X pins σ H s->RelV x v->r x H Q->
  wpAny X.md X.A (truthy v) (TP X pins σ Q) X.xe s
def jv(r:R2)(ta tb:TE):TE:=λσ H Q=>ta σ H λx H1=>tb σ H1 λy H2=>r x y H2 Q
def tUn(r:V->Hp->VK->Prop)(ta:TE):TE:=λσ H Q=>ta σ H λx H1=>r x H1 Q
inductive Sb(C:Int->Int->Prop)(g:Int->Int->V)(x:V)(y:V)(H:Hp)(Q:VK):Prop
 |mk (i j) (aC:x=.int i) (aS:y=.int j) (bb:C i j) (bL:Q (g i j) H):Sb C g x y H Q
def rI(C:Int->Int->Prop)(g:Int->Int->V):R2:=λx y H Q=>Sb C g x y H Q
inductive Rk(g:Int->Int->V)(x:V)(y:V)(H:Hp)(Q:VK):Prop
 |mk (i j) (aC:x=.int i) (aS:y=.int j) (bb:Q (g i j) H):Rk g x y H Q
def qM(g:Int->Int->V):R2:=λx y H Q=>Rk g x y H Q
inductive Se(g:Int->V)(x:V)(H:Hp)(Q:VK):Prop
 |mk (i) (aC:x=.int i) (aS:Q (g i) H):Se g x H Q
def rU(g:Int->V):V->Hp->VK->Prop:=λx H Q=>Se g x H Q
section
variable {X:Cx}{a b c:Expr}{ta tb tc:TE}{pos:Pos}
def Ig(ha:PE X a ta)(hb:PE X b tb){pins:aU}{s:Shared}{σ:St}{H:Hp}{R:V->V->Hp->Prop}(I:Inv X pins σ H s)
  (h:ta σ H λx H1=>tb σ H1 λy H2=>R x y H2){Q:a8}{f:Value->Value->Sem Value}
  (hf:∀v u s2 x y H2,Inv X pins σ H2 s2->RelV x v->RelV y u->R x y H2->wpAny X.md X.A (f v u) Q X.xe s2):
  wpAny X.md X.A (eval a X.env) (λv bI=>wpAny X.md X.A (eval b X.env) (λu d9=>wpAny X.md X.A (f v u) Q X.xe d9) X.xe bI) X.xe s:=by
 refine ay (ha pins s σ H _ I h) λv s1 zq=>?_;obtain⟨x,H1,I1,r1,q1⟩:=zq;refine ay (hb pins s1 σ H1 _ I1 q1) λu s2 zq=>?_;obtain⟨y,H2,I2,r2,q2⟩:=zq
 grind
def a_{op:Operator}{r:R2}(ho:cG X (binaryOp op) r)(ha:PE X a ta)(hb:PE X b tb):PE X (.BinOp a op b pos) (jv r ta tb):=by
 intro pins s σ H Q I h;exact wpAny_BinOp (Ig ha hb I h λv u s2 x y H2 I2 rx ry q=>ho pins s2 σ H2 x y v u Q I2 rx ry q)
def Zfz{op:UnaryOp}{r:V->Hp->VK->Prop}(ho:JK X (unaryOp op) r)(ha:PE X a ta):PE X (.UnaryOp op a pos) (tUn r ta):=by
 intro pins s σ H Q I h;exact UnaryOp_ (ay (ha pins s σ H _ I h) λv s1 ⟨x,H1,I1,r1,q1⟩=>ho pins s1 σ H1 x v Q I1 r1 q1)
def BO{f:Value->Value->Sem Value}{C:Int->Int->Prop}{g:Int->Int->Int}
  (rule:∀(i j:Int) (t u:Tok) (s:Shared) (Q:a8) (E:a8),C i j->Q (.int (g i j) s.toks) {s with toks:=s.toks+1}->wpAny X.md X.A (f (.int i t) (.int j u)) Q E s):
  cG X f (rI C λi j=>.int (g i j)):=by
 rintro pins s σ H x y v u Q I rx ry ⟨i,j,rfl,rfl,hc,q⟩;obtain⟨t,rfl⟩:=rx;obtain⟨t',rfl⟩:=ry;exact rule i j t t' s _ _ hc ⟨.int (g i j),H,I.tok _,⟨_,rfl⟩,q⟩
def Sf{f:Value->Value->Sem Value}{g:Int->Int->Int}
  (rule:∀(i j:Int) (t u:Tok) (s:Shared) (Q:a8) (E:a8),Q (.int (g i j) s.toks) {s with toks:=s.toks+1}->wpAny X.md X.A (f (.int i t) (.int j u)) Q E s):
  cG X f (qM λi j=>.int (g i j)):=by
 rintro pins s σ H x y v u Q I rx ry ⟨i,j,rfl,rfl,q⟩;obtain⟨t,rfl⟩:=rx;obtain⟨t',rfl⟩:=ry;exact rule i j t t' s _ _ ⟨.int (g i j),H,I.tok _,⟨_,rfl⟩,q⟩
def Ih{f:Value->Value->Sem Value}{g:Int->Int->Bool}
  (rule:∀(i j:Int) (t u:Tok) (s:Shared) (Q:a8) (E:a8),Q (.bool (g i j)) s->wpAny X.md X.A (f (.int i t) (.int j u)) Q E s):
  cG X f (qM λi j=>.bl (g i j)):=by
 rintro pins s σ H x y v u Q I rx ry ⟨i,j,rfl,rfl,q⟩;obtain⟨t,rfl⟩:=rx;obtain⟨t',rfl⟩:=ry;exact rule i j t t' s _ _ ⟨.bl (g i j),H,I,rfl,q⟩
def Ii(i j:Int):Prop:=0<j/\j<1073741824
def Zgu(i j:Int):Prop:=0<=j/\j<=1000000/\i.natAbs<2^64
def xO(i j:Int):Prop:=(-(2^64)<i/\i<2^64)\/(-(2^64)<j/\j<2^64)
def xO.ok{i j:Int}(h:xO i j):IntMulOk i j:=by
 rcases h with⟨h1,h2⟩|⟨h1,h2⟩;·exact .of_left (intBits_le_64 h1 h2)
 ·exact .of_right (intBits_le_64 h1 h2)
def iK:cG X (binaryOp .Add) (qM λi j=>.int (i+j)):=Sf λ_ _ _ _ _ _ _ q=>add_int q
def As:cG X (binaryOp .Sub) (qM λi j=>.int (i-j)):=Sf λ_ _ _ _ _ _ _ q=>sub_int q
def oO:cG X (binaryOp .Mult) (rI xO λi j=>.int (i*j)):=BO λ_ _ _ _ _ _ _ hc q=>mul_int q hc.ok
def Aa:cG X (binaryOp .FloorDiv) (rI Ii λi j=>.int (i/j)):=BO λi j _ _ _ _ _ hc q=>by
 have h1:(0:Int)<j:=hc.1;have h2:j<1073741824:=hc.2;exact floordiv_int (by omega) (by rw[Int.fdiv_eq_ediv_of_nonneg i (by omega)];exact q) (.inl (PyProof.noPylong_small (by omega)))
def d5:cG X (binaryOp .Mod) (rI (λ_ j=>0<j) λi j=>.int (i % j)):=BO λi j _ _ _ _ _ hc q=>by
 have h1:(0:Int)<j:=hc;exact mod_int' (by omega) (by rw[Int.fmod_eq_emod_of_nonneg i (by omega)];exact q)
def P1:cG X (binaryOp .Pow) (rI Zgu λi j=>.int (i^j.toNat)):=BO λ_ _ _ _ _ _ _ hc q=>pow_int_small hc.1 hc.2.1 hc.2.2 q
def unI{f:Value->Sem Value}{g:Int->Int}
  (rule:∀(i:Int) (t:Tok) (s:Shared) (Q:a8) (E:a8),Q (.int (g i) s.toks) {s with toks:=s.toks+1}->wpAny X.md X.A (f (.int i t)) Q E s):
  JK X f (rU λi=>.int (g i)):=by
 rintro pins s σ H x v Q I rx ⟨i,rfl,q⟩;obtain⟨t,rfl⟩:=rx;exact rule i t s _ _ ⟨.int (g i),H,I.tok _,⟨_,rfl⟩,q⟩
def Zd7:JK X (unaryOp .USub) (rU λi=>.int (-i)):=unI λ_ _ _ _ _ q=>neg_int q
end
def xP:V->V->Bool
 |.az,.az=>true|.az,.int _=>true|.int _,.az=>true|.az,.bl _=>true|.bl _,.az=>true|.az,.str _=>true|.str _,.az=>true
 |.int _,.int _=>true|.bl _,.bl _=>true|.str _,.str _=>true|.jI _,.jI _=>true
 |.int _,.str _=>true|.str _,.int _=>true|.bl _,.str _=>true|.str _,.bl _=>true
 |_,_=>false
def Tn:R2:=λx y H Q=>xP x y=true/\Q (.bl (decide (x=y))) H
def To:R2:=λx y H Q=>xP x y=true/\Q (.bl (!decide (x=y))) H
def Ox{i j:Int}:decide (V.int i=V.int j)=(i==j):=by
 grind
def P2{i j:Bool}:decide (V.bl i=V.bl j)=(i==j):=by
 grind
def Oy{i j:Str}:decide (V.str i=V.str j)=(i==j):=by
 grind
def Oz{i j:Array UInt8}:decide (V.jI i=V.jI j)=(i.toList==j.toList):=by
 rw[Wj];simp_all
section
variable {X:Cx}{a b c:Expr}{ta tb tc:TE}{pos:Pos}
def cI{pins:aU}{σ:St}{H:Hp}{s:Shared}{Q:VK}{k k':Bool}(I:Inv X pins σ H s)(q:Q (.bl k) H)(e:k=k'):EP X pins σ Q (.bool k') s:=by
 subst e;exact⟨.bl k,H,I,rfl,q⟩
theorem cv:cG X (compareOp .Eq) Tn:=by
 intro pins s σ H x y v u Q I rx ry h;obtain⟨hs,q⟩:=h;cases x with
 |az=>
  cases rx;cases y with
  |az=>cases ry;exact PySem.EqNone.eq_none_none (cI I q (by simp))
  |bl j=>cases ry;exact PySem.EqNone.eq_none_bool (cI I q (by simp))
  |int j=>obtain⟨t',rfl⟩:=ry;exact PySem.EqNone.eq_none_int (cI I q (by simp))
  |str j=>obtain⟨t',rfl⟩:=ry;exact PySem.EqNone.eq_none_str (cI I q (by simp))
  |_=>exact absurd (show false=true from hs) Yj
 |bl i=>
  cases rx;cases y with
  |az=>cases ry;exact PySem.EqNone.eq_bool_none (cI I q (by simp))
  |bl j=>cases ry;exact eq_bool (cI I q P2)
  |str j=>obtain⟨t',rfl⟩:=ry;exact PySem.EqMixed.eq_bool_str (cI I q (by simp))
  |_=>exact absurd (show false=true from hs) Yj
 |int i=>
  obtain⟨t,rfl⟩:=rx;cases y with
  |az=>cases ry;exact PySem.EqNone.eq_int_none (cI I q (by simp))
  |int j=>obtain⟨t',rfl⟩:=ry;exact eq_int (cI I q Ox)
  |str j=>obtain⟨t',rfl⟩:=ry;exact PySem.EqMixed.eq_int_str (cI I q (by simp))
  |_=>exact absurd (show false=true from hs) Yj
 |str i=>
  obtain⟨t,rfl⟩:=rx;cases y with
  |az=>cases ry;exact PySem.EqNone.eq_str_none (cI I q (by simp))
  |bl j=>cases ry;exact PySem.EqMixed.eq_str_bool (cI I q (by simp))
  |int j=>obtain⟨t',rfl⟩:=ry;exact PySem.EqMixed.eq_str_int (cI I q (by simp))
  |str j=>obtain⟨t',rfl⟩:=ry;exact eq_str (cI I q Oy)
  |_=>exact absurd (show false=true from hs) Yj
 |jI i=>
  obtain⟨t,rfl⟩:=rx;cases y with
  |jI j=>obtain⟨t',rfl⟩:=ry;exact PySem.W.eq_bytes (cI I q Oz)
  |_=>exact absurd (show false=true from hs) Yj
 |_=>cases y<;>exact absurd (show false=true from hs) Yj
theorem l_:cG X (compareOp .NotEq) To:=by
 intro pins s σ H x y v u Q I rx ry h;obtain⟨hs,q⟩:=h;cases x with
 |az=>
  cases rx;cases y with
  |az=>cases ry;exact PySem.EqNone.ne_none_none (cI I q (by simp))
  |bl j=>cases ry;exact PySem.EqNone.ne_none_bool (cI I q (by simp))
  |int j=>obtain⟨t',rfl⟩:=ry;exact PySem.EqNone.ne_none_int (cI I q (by simp))
  |str j=>obtain⟨t',rfl⟩:=ry;exact PySem.EqNone.ne_none_str (cI I q (by simp))
  |_=>exact absurd (show false=true from hs) Yj
 |bl i=>
  cases rx;cases y with
  |az=>cases ry;exact PySem.EqNone.ne_bool_none (cI I q (by simp))
  |bl j=>cases ry;exact ne_bool (cI I q (congrArg not P2))
  |str j=>obtain⟨t',rfl⟩:=ry;exact PySem.EqMixed.ne_bool_str (cI I q (by simp))
  |_=>exact absurd (show false=true from hs) Yj
 |int i=>
  obtain⟨t,rfl⟩:=rx;cases y with
  |az=>cases ry;exact PySem.EqNone.ne_int_none (cI I q (by simp))
  |int j=>obtain⟨t',rfl⟩:=ry;exact ne_int (cI I q (congrArg not Ox))
  |str j=>obtain⟨t',rfl⟩:=ry;exact PySem.EqMixed.ne_int_str (cI I q (by simp))
  |_=>exact absurd (show false=true from hs) Yj
 |str i=>
  obtain⟨t,rfl⟩:=rx;cases y with
  |az=>cases ry;exact PySem.EqNone.ne_str_none (cI I q (by simp))
  |bl j=>cases ry;exact PySem.EqMixed.ne_str_bool (cI I q (by simp))
  |int j=>obtain⟨t',rfl⟩:=ry;exact PySem.EqMixed.ne_str_int (cI I q (by simp))
  |str j=>obtain⟨t',rfl⟩:=ry;exact ne_str (cI I q (congrArg not Oy))
  |_=>exact absurd (show false=true from hs) Yj
 |jI i=>
  obtain⟨t,rfl⟩:=rx;cases y with
  |jI j=>obtain⟨t',rfl⟩:=ry;exact PySem.W.ne_bytes (cI I q (congrArg not Oz))
  |_=>exact absurd (show false=true from hs) Yj
 |_=>cases y<;>exact absurd (show false=true from hs) Yj
def nF:cG X (compareOp .Lt) (qM λi j=>.bl (decide (i<j))):=Ih λ_ _ _ _ _ _ _ q=>lt_int q
def AI:cG X (compareOp .Gt) (qM λi j=>.bl (decide (j<i))):=Ih λ_ _ _ _ _ _ _ q=>gt_int q
def ZfA:cG X (compareOp .GtE) (qM λi j=>.bl (decide (j<=i))):=Ih λ_ _ _ _ _ _ _ q=>ge_int q
def Zau:cG X (compareOp .In) (λx y H Q=>∃i j,x=.str i/\y=.str j/\Q (.bl (!(Builtin.Str.occurrences j i 0 j.length 1).isEmpty)) H):=by
 intro pins s σ H x y v u Q I rx ry h;obtain⟨i,j,rfl,rfl,q⟩:=h;obtain⟨t,rfl⟩:=rx;obtain⟨t',rfl⟩:=ry;exact in_str (cI I q rfl)
theorem GN:cG X (compareOp .Is) (λx y H Q=>y=.az/\Q (.bl (decide (x=.az))) H):=by
 intro pins s σ H x y v u Q I rx ry h;obtain⟨rfl,q⟩:=h;cases ry;refine is_none_gen (cI I q ?_);cases x<;>first
  |(cases rx;rfl)
  |(obtain⟨t,rfl⟩:=rx;rfl)
theorem Ab:cG X (compareOp .IsNot) (λx y H Q=>y=.az/\Q (.bl (!decide (x=.az))) H):=by
 rintro pins s σ H x y v u Q I rx ry ⟨rfl,q⟩;cases ry;refine isnot_none_gen (cI I q ?_);cases x<;>first
  |(cases rx;rfl)
  |(obtain⟨t,rfl⟩:=rx;rfl)
def Xz:cG X (compareOp .NotIn) (λx y H Q=>∃i j,x=.str i/\y=.str j/\Q (.bl (!(!(Builtin.Str.occurrences j i 0 j.length 1).isEmpty))) H):=by
 rintro pins s σ H x y v u Q I rx ry ⟨i,j,rfl,rfl,q⟩;obtain⟨t,rfl⟩:=rx;obtain⟨t',rfl⟩:=ry;exact notIn_str (cI I q rfl)
def P4(b:Expr){op:CmpOp}(h:op≠.In:=by decide)(h2:op≠.NotIn:=by decide):behindInMarks op b=false:=by
 have e1:(op==CmpOp.In)=false:=by cases op<;>first|rfl|exact absurd rfl h
 have e2:(op==CmpOp.NotIn)=false:=by cases op<;>first|rfl|exact absurd rfl h2
 cases b<;>simp[behindInMarks,e1,e2]
def Ac{op:CmpOp}{r:R2}(ho:cG X (compareOp op) r)(ha:PE X a ta)(hb:PE X b tb)(hm:behindInMarks op b=false):PE X (.Compare a [op] [b] pos) (jv r ta tb):=by
 intro pins s σ H Q I h;exact wpAny_Compare1 (Ig ha hb I h λv u s2 x y H2 I2 rx ry q=>ho pins s2 σ H2 x y v u Q I2 rx ry q) hm
inductive OA(Q:Bool->Hp->Prop)(x:V)(H':Hp):Prop
 |mk (k) (aC:x=.bl k) (aS:Q k H'):OA Q x H'
def Hn(t:TE):TT:=λσ H Q=>t σ H λx H'=>OA Q x H'
def iG{op:CmpOp}{r:R2}(ho:cG X (compareOp op) r)(ha:PE X a ta)(hb:PE X b tb)(hm:behindInMarks op b=false):PT X (.Compare a [op] [b] pos) (Hn (jv r ta tb)):=by
 intro pins s σ H Q I h;refine wpAny_isTrue_Compare1 (ay (ha pins s σ H _ I h) λv s1 ⟨x,H1,I1,r1,q1⟩=>ay (hb pins s1 σ H1 _ I1 q1) λu s2 ⟨y,H2,I2,r2,q2⟩=>
  ay (ho pins s2 σ H2 x y v u _ I2 r1 r2 q2) λc s3 ⟨z,H3,I3,r3,k,e,q3⟩=>?_) hm
 subst e;cases r3;exact wpAny_truthy_bool ⟨H3,I3,q3⟩
def AW(K:ah)(x:V)(H:Hp)(k:Bool):Prop:=
 match x with
 |.az=>k=false
 |.bl b=>k=b
 |.int i=>k=(i !=0)
 |.str y=>y.length<=sizeLine/\k=((y.length:Int)!=0)
 |.jI y=>y.size<=sizeLine/\k=((y.size:Int)!=0)
 |.ref p=>(∃xs,ak K H p xs/\k=!xs.isEmpty)\/(∃xs,aB K H p xs/\k=!xs.isEmpty)\/∃kvs,H p=some (.dK kvs)/\k=!kvs.isEmpty
 |_=>False
def Zv{κ:Type}{kvs:List (κ×V)}{vs:List (κ×Value)}(r:KV kvs vs):(!vs.isEmpty)=!kvs.isEmpty:=by
 cases r<;>rfl
def Mj{xs:List V}{ai:List Value}(r:Vals xs ai):(!ai.toArray.isEmpty)=!xs.isEmpty:=by
 cases r<;>simp
def rZ:(sizeLine:Nat)<2^63:=by rw[sizeLine_eq];decide
theorem Zd8:Zgt X (λx H Q=>∃k,AW X.K x H k/\Q k H):=by
 intro pins s σ H x v Q I rx h;obtain⟨k,e,q⟩:=h;have hl:=rZ;have hs:sizeLine=16777216:=sizeLine_eq;cases x with
 |az=>
  cases rx;have e':k=false:=e;subst e';exact truthy_none ⟨H,I,q⟩
 |bl b=>
  cases rx;have e':k=b:=e;subst e';exact wpAny_truthy_bool ⟨H,I,q⟩
 |int i=>
  obtain⟨t,rfl⟩:=rx;have e':k=(i !=0):=e;subst e';exact PySem.P.truthy_int ⟨H,I,q⟩
 |str y=>
  obtain⟨t,rfl⟩:=rx;obtain⟨hy,e'⟩:y.length<=sizeLine/\k=((y.length:Int)!=0):=e;subst e';exact PySem.P.truthy_str (by omega) ⟨H,I.tok _,q⟩
 |jI y=>
  obtain⟨t,rfl⟩:=rx;obtain⟨hy,e'⟩:y.size<=sizeLine/\k=((y.size:Int)!=0):=e;subst e';exact PySem.W.truthy_bytes (by omega) ⟨H,I.tok _,q⟩
 |ref p=>
  cases rx;have e':=e;rcases e' with⟨xs,hx,e'⟩|⟨xs,hx,e'⟩|⟨kvs,hx,e'⟩
  ·subst e';obtain⟨ai,r,pl,hz⟩:=I.list hx;have hlen:=r.length;exact wpAny_truthy_list pl.isList (by simp only[Yv];omega) ⟨H,I.tok _,by rw[Mj r];exact q⟩
  ·subst e';obtain⟨ai,r,pl,hz⟩:=I.tuple hx;have hlen:=r.length;exact truthy_tuple pl (by simp only[Yv];omega) ⟨H,I.tok _,by rw[Mj r];exact q⟩
  ·subst e';obtain⟨hz,hS,vs,r,m⟩:kvs.length<=sizeLine/\(p==sysModules)=false/\∃vs,KV kvs vs/\s.heap.DictOf (dE X.prog X.w) p vs:=I.aw p _ hx;have hlen:kvs.length=vs.length:=Paired.length r;exact wpAny_truthy_dict hS m (by omega) ⟨H,I.tok _,by rw[Zv r];exact q⟩
 |_=>exact(show False from e).elim
def F4(ha:PE X a ta)(he:∀whole,isTrue a X.env whole=(do let v←whole;standAt a.pos;holding [v] (truthy v))):
  PT X a (λσ H Q=>ta σ H λx H'=>∃k,AW X.K x H' k/\Q k H'):=by
 intro pins s σ H Q I h;exact isTrue_plain (ay (ha pins s σ H _ I h) λv s1 ⟨x,H1,I1,r1,q1⟩=>Zd8 pins s1 σ H1 x v Q I1 r1 q1) (he _)
def uw:cG X (binaryOp .Add) (λx y H Q=>∃i j,x=.str i/\y=.str j/\i.length+j.length<=sizeLine/\Q (.str (i++j)) H):=by
 rintro pins s σ H x y v u Q I rx ry ⟨i,j,rfl,rfl,hz,q⟩;obtain⟨t,rfl⟩:=rx;obtain⟨t',rfl⟩:=ry;exact add_str (λt' tk=>⟨.str (i++j),H,I.tok _,⟨_,rfl⟩,q⟩) hz
theorem vals1{x:V}{us:List Value}(r:Vals [x] us):∃u,us=[u]/\RelV x u:=by
 cases r with
 |cons r1 r2=>cases r2;exact⟨_,rfl,r1⟩
theorem vals2{x y:V}{us:List Value}(r:Vals [x,y] us):∃u w',us=[u,w']/\RelV x u/\RelV y w':=by
 cases r with
 |cons r1 r2=>
  cases r2 with
  |cons r3 r4=>cases r4;exact⟨_,_,rfl,r1,r3⟩
def Nu:c7 X (.builtin "abs") (λxs H Q=>∃i,xs=[.int i]/\Q (.int (if i<0 then-i else i)) H):=by
 rintro pins s σ H xs us Q I r ⟨i,rfl,q⟩;obtain⟨u,rfl,t,rfl⟩:=vals1 r;exact call_abs_int λu tk=>⟨.int (if i<0 then-i else i),H,I.tok _,⟨_,rfl⟩,q⟩
def D3:c7 X (.type "str") (λxs H Q=>∃i,xs=[.int i]/\i.natAbs.log2<1920/\Q (.str (toString i)) H):=by
 rintro pins s σ H xs us Q I r ⟨i,rfl,hz,q⟩;obtain⟨u,rfl,t,rfl⟩:=vals1 r;exact PySem.P.str_of_int hz ⟨.str _,H,I.tok _,⟨_,rfl⟩,q⟩
end
structure sI(h:Heap)(x dx C:Addr)(mA:aQ):Prop where
 obj:h.get? x=some (instObj C dx)
 ns:h.Ns1 dx mA
 ne:dx≠x
def Fz{h:Heap}{dx:Addr}{mA:aQ}(n:h.Ns1 dx mA):∃od,h.get? dx=some od/\∀name,lookIn name od=some (mA name):=by
 obtain⟨o,es,ep,ho,hd,hk,_,hm⟩:=n;refine⟨o,ho,λname=>?_⟩;have e:=hm name;unfold nsFind findBy at e;rw[←Array.find?_toList] at e;unfold lookIn;rw[hd];dsimp only;split;·grind
 ·rename_i q
  have a:es.toList.any (·.refKey)=false:=by
   rw[Tp];intro y hy;obtain⟨z,t,nI⟩:=hk y (Array.mem_toList_iff.mp hy);simp[DictEntry.refKey,nI]
  grind
def sI.look{h:Heap}{x dx C:Addr}{mA:aQ}(I:sI h x dx C mA):∃od,PySem.W.InstAt h x (instObj C dx) C (some od)/\∀name,lookIn name od=some (mA name):=
 let⟨od,ho,hl⟩:=Fz I.ns
 ⟨od,⟨I.obj,rfl,rfl,ho⟩,hl⟩
section
variable {prog:Program}{w:World}{A:Around}{E:a8}{s:Shared}{K:ah}{x dx C f:Addr}{mA:aQ}{name:Str}{v:Value}
def get_map{expr:Bool}{Q:a8}(X:K.In s.heap)(I:sI s.heap x dx C mA)(hg:plainGet K C name=true)(hh:hasDictIn K C=true)
  (ha:PySem.W.findIn K (.ref C) name=some none)(hv:mA name=some v)(hv':handedIn v=true)(h:Q v {s with toks:=s.toks+1}):
  wpAny (model prog w) A (getAttr (.ref x) name expr) Q E s:=by
 obtain⟨od,J,hl⟩:=I.look;exact PySem.W.get_value X J (plainGet_of hg).1 (findObj_own hh ha rfl (by rw[hl,hv])) hv' h
def Zbl{pl:Sem Bool}{Q:Value×List Value->Shared->Prop}(X:K.In s.heap)(I:sI s.heap x dx C mA)(hg:plainGet K C name=true)
  (hf:PySem.W.findIn K (.ref C) name=some (some (.ref f)))(ht:isFn K (.ref f)=true)(hv:mA name=none)(h:Q (.ref f,[.ref x]) s):
  wpAny (model prog w) A (getMethod (.ref x) name pl) Q E s:=by
 obtain⟨od,J,hl⟩:=I.look;exact PySem.W.method_fn X J (plainGet_of hg).1 (plainGet_of hg).2 hf (beq_iff_eq.mp ht) (by show(lookIn name od).map (·.isSome)=some false;rw[hl,hv];rfl) h
def ZcI{ns:List Str}{Q:Unit->Shared->Prop}(X:K.In s.heap)(I:sI s.heap x dx C mA)
  (hs:PySem.W.findIn K (.ref C) "__setattr__"=some (some (.builtin "object.__setattr__")))(hp:plainOver K C=true)(ht:takerIn K C name=some none)(hh:hasDictIn K C=true)
  (hw:PySem.Within mA ns)(hsz:ns.length<=sizeLine)
  (h:∀h',sI h' x dx C (λy=>if y=name then some v else mA y)->Heap.SameBut dx s.heap h'->Q () {s with heap:=h',toks:=s.toks+2}):
  wpAny (model prog w) A (setAttr (.ref x) name v) Q E s:=by
 obtain⟨od,J,hl⟩:=I.look;refine set_plain X J hs (PySem.W.osa_open X J hp ht λb=>?_);obtain⟨cd,hc,BG⟩:=any_some hh;refine wpAny_bind (wpAny_pure (wpAny_bind (wpAny_bind (wpAny_loadPart I.obj (wpAny_bind (PySem.W.Looks.here (PySem.W.looks_clsIn X hc) ?_))))));rw[BG];refine wpAny_pure (wpAny_bind (wpAny_pure (wpAny_bind (wpAny_nsSet1 I.ns λh' fS qN=>?_))));obtain⟨oD,Tq,Tr,ye,yf,yg⟩:=fS.count (PySem.Within.cons name v hw);exact wpAny_bind (wpAny_lookBehind ye (by rw[yf];exact pastItsLine_dict (Y0 yg (by rw[Y7];omega))) (wpAny_pure (h _ ⟨(qN.2 _ (Ne.symm I.ne)).trans I.obj,fS,I.ne⟩ qN)))
def Zbm{R:Result->Shared->Prop}{vs:List Value}{kw:List (Str×Value)}(X:K.In s.heap)(hm:makesIn K C=true)
  (hi:PySem.W.findIn K (.ref C) "__init__"=some (some (.ref f)))(hf:typeIn K (.ref f)=some (.type "function"))
  (h:codeAny (model prog w) (A.under (.builtin "type.__call__" ⟨.ref C::vs,kw⟩)) (.call (.ref f) ⟨.ref (s.heap.objs.size+1)::vs,kw⟩) (PySem.W.InitBack (s.heap.objs.size+1) R)
   {s with heap:=(s.heap.push emptyDict).push (instObj C s.heap.objs.size)}):
  codeAny (model prog w) A (.call (.ref C) ⟨vs,kw⟩) R s:=by
 obtain⟨hh,g,d,t,os⟩:=s;exact PySem.W.make_core (PySem.W.makes_of X hm) (PySem.W.looks_findIn X hi) (λself=>PySem.W.bind_fn X self hf) (.inl rfl) h
end
def cK(f:Str)(v:V):List (Str×V)->List (Str×V)
 |[]=>[(f,v)]
 |(g,x)::r=>if g=f then(g,v)::r else(g,x)::cK f v r
theorem Ej(f g:Str)(v:V):∀fs:List (Str×V),(cK f v fs).lookup g=if g=f then some v else fs.lookup g
 |[]=>by
  show List.lookup g [(f,v)]=_
  grind
 |(k,x)::r=>by
  have ih:=Ej f g v r;rw[show cK f v ((k,x)::r)=(if k=f then(k,v)::r else(k,x)::cK f v r) from rfl]
  grind
theorem wQ(f:Str)(v:V):∀fs:List (Str×V),f∈(cK f v fs).map (·.1)/\∀g,g∈fs.map (·.1)->g∈(cK f v fs).map (·.1)
 |[]=>⟨by simp[cK],λg h=>by simp at h⟩
 |(k,x)::r=>by
  obtain⟨i1,i2⟩:=wQ f v r;rw[show cK f v ((k,x)::r)=(if k=f then(k,v)::r else(k,x)::cK f v r) from rfl]
  grind
theorem Ek(f:Str)(v:V):∀fs:List (Str×V),(cK f v fs).length<=fs.length+1
 |[]=>by simp[cK]
 |(k,x)::r=>by
  have ih:=Ek f v r;rw[show cK f v ((k,x)::r)=(if k=f then(k,v)::r else(k,x)::cK f v r) from rfl]
  grind
theorem d7.some_of{v:V}{o:Option Value}(r:d7 (some v) o):∃u,o=some u/\RelV v u:=by
 cases o with
 |none=>exact(show False from r).elim
 |some u=>exact⟨u,rfl,r⟩
theorem d7.none_of{o:Option Value}(r:d7 none o):o=none:=by
 cases o with
 |none=>rfl
 |some u=>exact(show False from r).elim
theorem MO{v:V}{u:Value}(r:RelV v u):handedIn u=true:=by
 cases v with
 |az=>cases(show u=Value.none from r);rfl
 |bl b=>cases(show u=Value.bool b from r);rfl
 |int i=>obtain⟨t,e⟩:=(show ∃t,u=Value.int i t from r);cases e;rfl
 |str x=>obtain⟨t,e⟩:=(show ∃t,u=Value.str x t from r);cases e;rfl
 |jI b=>obtain⟨t,e⟩:=(show ∃t,u=Value.bytes b t from r);cases e;rfl
 |sV b=>obtain⟨t,e⟩:=(show ∃t,u=Value.float b t from r);cases e;rfl
 |ref a=>cases(show u=Value.ref a from r);rfl
 |ty n=>cases(show u=Value.type n from r);rfl
section
variable {P:Program}{w:World}{H H':Hp}{h h':Heap}{a C dx:Addr}{fs fs':List (Str×V)}
def Ad(aw:c_ P w H h)(e:H a=some (.ins C dx fs)):∃mA,sI h a dx C mA/\(∀f,d7 (fs.lookup f) (mA f))/\PySem.Within mA (fs.map (·.1))/\fs.length<=1000/\H dx=some (.own a):=by
 obtain⟨d,z,ne,ob,mA,n,r,q⟩:=(show cJ P w H h a (.ins C dx fs) from aw a _ e);exact⟨mA,⟨ob,n,ne⟩,r,q,z,d⟩
end
structure fU(K:ah)(C:Addr):Prop where
 pg:plainGet K C Str.empty=true
 hd:hasDictIn K C=true
 po:plainOver K C=true
 sa:PySem.W.findIn K (.ref C) "__setattr__"=some (some (.builtin "object.__setattr__"))
def fU.get{K:ah}{C:Addr}(c:fU K C)(f:Str):plainGet K C f=true:=c.pg
def de(K:ah)(C:Addr)(f:Str):Prop:=PySem.W.findIn K (.ref C) f=some none
def de.ZfB{K:ah}{C:Addr}{f:Str}(n:de K C f):takerIn K C f=some none:=by
 unfold takerIn;rw[show PySem.W.findIn K (.ref C) f=some none from n];rfl
structure Meth(K:ah)(C:Addr)(m:Str)(f:Addr):Prop where
 at_:PySem.W.findIn K (.ref C) m=some (some (.ref f))
 fn:isFn K (.ref f)=true
 kp:keepIn K (.ref f)=true
section
variable {X:Cx}{pins:aU}{σ:St}{H:Hp}{s:Shared}{a C dx:Addr}{fs:List (Str×V)}{f:Str}{v:V}{A:Around}{E:a8}
def Zw{b:Bool}{Q:a8}(I:Inv X pins σ H s)(e:H a=some (.ins C dx fs))(c:fU X.K C)(n:de X.K C f)(l:fs.lookup f=some v)
  (h:∀u s',Inv X pins σ H s'->RelV v u->Q u s'):wpAny X.md A (getAttr (.ref a) f b) Q E s:=by
 obtain⟨mA,O,r,_,_,_⟩:=Ad I.aw e;obtain⟨u,hu,ru⟩:=d7.some_of (by rw[←l];exact r f);exact get_map I.bZ O (c.get f) c.hd n hu (MO ru) (h u _ (I.tok _) ru)
def EW{m:Str}{g:Addr}{pl:Sem Bool}{Q:Value×List Value->Shared->Prop}(I:Inv X pins σ H s)(e:H a=some (.ins C dx fs))(c:fU X.K C)(k:Meth X.K C m g)(l:fs.lookup m=none)
  (h:Q (.ref g,[.ref a]) s):wpAny X.md A (getMethod (.ref a) m pl) Q E s:=by
 obtain⟨mA,O,r,_,_,_⟩:=Ad I.aw e;exact Zbl I.bZ O (c.get m) k.at_ k.fn (d7.none_of (by rw[←l];exact r m)) h
def Ml{y:V}{u:Value}{Q:Unit->Shared->Prop}(I:Inv X pins σ H s)(e:H a=some (.ins C dx fs))(c:fU X.K C)(n:de X.K C f)(hl:fs.length<1000)(ry:RelV y u)
  (h:∀s',Inv X pins σ (upd H a (.ins C dx (cK f y fs))) s'->Q () s'):wpAny X.md A (setAttr (.ref a) f u) Q E s:=by
 obtain⟨mA,O,r,wi,_,ho⟩:=Ad I.aw e;have hz:(fs.map (·.1)).length<=sizeLine:=by rw[Ya,sizeLine_eq];omega
 refine ZcI I.bZ O c.sa c.po n.ZfB c.hd wi hz λh' O' sb=>h _ (I.write (by rw[e];exact True.intro) (.inr ho) (λb q hb z=>(sb.2 b hb).trans z) (let⟨o,_,_,e',_⟩:=O'.ns;⟨o,e'⟩) ⟨by rw[aK O.ne];exact ho,?_,O.ne,O'.obj,_,O'.ns,λg=>?_,λg hg=>?_⟩);·have:=Ek f y fs;omega
 ·show d7 ((cK f y fs).lookup g) (if g=f then some u else mA g);rw[Ej];by_cases q:g=f;·rw[if_pos q,if_pos q];exact ry
  ·grind
 ·by_cases q:g=f;·rw[q];exact(wQ f y fs).1
  ·refine(wQ f y fs).2 g (wi g λz=>hg ?_)
   grind
def Inv.made(I:Inv X pins σ H s):Inv X pins σ (upd (upd H s.heap.objs.size (.own (s.heap.objs.size+1))) (s.heap.objs.size+1) (.ins C s.heap.objs.size []))
  {s with heap:=(s.heap.push emptyDict).push (instObj C s.heap.objs.size)}:=by
 have e1:(s.heap.push emptyDict).get? s.heap.objs.size=some emptyDict:=Yu s.heap rfl;have e2:((s.heap.push emptyDict).push (instObj C s.heap.objs.size)).get? (s.heap.objs.size+1)=some (instObj C s.heap.objs.size):=by
  have:=Yu (s.heap.push emptyDict) (o:=instObj C s.heap.objs.size) rfl
  rwa [Jt] at this
 have e3:(s.heap.push emptyDict).Ns s.heap.objs.size (λ_=>none):=⟨emptyDict,#[],_,e1,rfl,(λe he=>absurd he (by simp)),λ_=>rfl⟩;have I1:=I.laid (a:=s.heap.objs.size) (o:=.own (s.heap.objs.size+1)) (h':=s.heap.push emptyDict) (t':=s.toks) (λb u q=>Yb _ q) (Yd _) ⟨_,e1⟩;refine I1.laid (a:=s.heap.objs.size+1) (o:=.ins C s.heap.objs.size []) (t':=s.toks) (λb u q=>Yb _ q) (JM (Jt _ _)) ?_;have ne:s.heap.objs.size≠s.heap.objs.size+1:=Yy (Jh _);refine⟨by rw[aK ne,aR],Yx _,ne,e2,λ_=>none,(Heap.Ns1.of_empty e3).at λo q=>Yb _ q,λ_=>True.intro,λy hy=>absurd rfl hy⟩
def OB{prog:Program}{w:World}{env:Env}{e:Expr}{f:Str}{pos:Pos}{s:Shared}{Q:a8}(hb:attributeBase e f env (eval e env)=eval e env)
  (h:wpAny (model prog w) A (eval e env) (λo bI=>wpAny (model prog w) A (getAttr o f true) Q E bI) E s):wpAny (model prog w) A (eval (.Attribute e f pos) env) Q E s:=
 Attribute_any_ h (by rw[arm_eval_Attribute,hb])
end
inductive P5(K:ah)(f:Str)(Q:VK)(x:V)(H1:Hp):Prop
 |mk (a C dx fs v) (aC:x=.ref a) (aS:H1 a=some (.ins C dx fs)) (bb:fU K C) (bL:de K C f) (cD:fs.lookup f=some v) (dB:Q v H1):P5 K f Q x H1
def Ij(K:ah)(ta:TE)(f:Str):TE:=λσ H Q=>ta σ H λx H1=>P5 K f Q x H1
def Zgv(K:ah)(ta tv:TE)(f:Str):TS:=λD σ H=>tv σ H λy H1=>ta σ H1 λx H2=>∃a C dx fs,x=.ref a/\H2 a=some (.ins C dx fs)/\fU K C/\de K C f/\fs.length<1000/\
 D.nx σ (upd H2 a (.ins C dx (cK f y fs)))
section
variable {X:Cx}{o e value:Expr}{f:Str}{pos pos' AX:Pos}{ta tv:TE}
def Zd9(he:PE X e ta)(hb:attributeBase e f X.env (eval e X.env)=eval e X.env):PE X (.Attribute e f pos) (Ij X.K ta f):=by
 intro pins s σ H Q I h;refine OB hb (ay (he pins s σ H _ I h) λu s1 zq=>?_);obtain⟨x,H1,I1,rx,a,C,dx,fs,v,ex,ea,c,n,l,q⟩:=zq;subst ex;obtain rfl:u=Value.ref a:=rx;exact Zw I1 ea c n l λu' s2 I2 ru=>⟨v,H1,I2,ru,q⟩
def xh(ha:PE X o ta)(hv:PE X value tv)(hs:swapsWith value (some (.Attribute o f pos')) pos.line X.env=pure false):PS X (.Assign [.Attribute o f pos'] value pos) (Zgv X.K ta tv f):=by
 intro pins s σ H D I h;refine plainObj_wpAny_Assign_Attribute (ay (hv pins s σ H _ I h) λu s1 zq=>?_) hs;obtain⟨y,H1,I1,ry,q⟩:=zq;refine ay (ha pins s1 σ H1 _ I1 q) λov s2 zq=>?_;obtain⟨x,H2,I2,rx,a,C,dx,fs,ex,ea,c,n,l,q2⟩:=zq;subst ex;obtain rfl:ov=Value.ref a:=rx;exact Ml I2 ea c n l ry λs3 I3=>⟨σ,_,I3,q2⟩
end
section
variable {X:Cx}{pins:aU}{σ:St}{H:Hp}{s:Shared}{A:Around}{E:a8}{Q:a8}{c:Value}{b:Bool}
inductive jr(K:ah)(H:Hp):V->Value->Prop where
 |az:jr K H .az (.type "NoneType")
 |bl (x:Bool):jr K H (.bl x) (.type "bool")
 |int (i:Int):jr K H (.int i) (.type "int")
 |str (x:Str):jr K H (.str x) (.type "str")
 |sV (x:UInt64):jr K H (.sV x) (.type "float")
 |lst {a:Addr} {xs:List V} (e:H a=some (.lst xs)):jr K H (.ref a) (.type "list")
 |cA {a:Addr} {o:Obj} {xs:List V} (e:H a=some (.cA o (.lst xs))):jr K H (.ref a) (.type "list")
 |tup {a:Addr} {xs:List V} (e:H a=some (.tup xs)):jr K H (.ref a) (.type "tuple")
 |dK {a:Addr} {kvs:List (Key×V)} (e:H a=some (.dK kvs)):jr K H (.ref a) (.type "dict")
 |dT {a:Addr} {kvs:List (List Key×V)} (e:H a=some (.dT kvs)):jr K H (.ref a) (.type "dict")
 |ins {a C dx:Addr} {fs:List (Str×V)} (e:H a=some (.ins C dx fs)) (cl:fU K C) (ha:PySem.W.findIn K (.ref C) "__class__"=some (some (.builtin "object.__class__")))
   (hn:specialIn K (.builtin "object.__class__") "__get__"=some (some (.builtin "getset_descriptor.__get__"))) (Ts:takesIn K (.builtin "object.__class__")=some true)
   (hm:PySem.W.mroIn K C (.type "object")=some true):jr K H (.ref a) (.ref C)
theorem Zav{x:V}{u t:Value}(I:Inv X pins σ H s)(rx:RelV x u)(ty:jr X.K H x t)(e:kitOne X.K t c=some b)(h:∀tk,Q (.bool b) {s with toks:=tk}):
  wpAny X.md A (call (.builtin "isinstance") [u,c]) Q E s:=by
 cases ty with
 |az=>cases(show u=Value.none from rx);exact kia_one PySem.W.kitx_none I.bZ True.intro e (λz=>nomatch z) h
 |bl y=>cases(show u=Value.bool y from rx);exact kia_one PySem.W.kitx_bool I.bZ True.intro e (λz=>nomatch z) h
 |int i=>obtain⟨t,q⟩:=(show ∃t,u=Value.int i t from rx);cases q;exact kia_one PySem.W.kitx_int I.bZ True.intro e (λz=>nomatch z) h
 |str y=>obtain⟨t,q⟩:=(show ∃t,u=Value.str y t from rx);cases q;exact kia_one PySem.W.kitx_str I.bZ True.intro e (λz=>nomatch z) h
 |sV y=>obtain⟨t,q⟩:=(show ∃t,u=Value.float y t from rx);cases q;exact kia_one PySem.W.kitx_float I.bZ True.intro e (λz=>nomatch z) h
 |@lst a xs ea=>
  cases(show u=Value.ref a from rx);obtain⟨_,_,n,_,h1⟩:=(show cJ X.prog X.w H s.heap a (.lst xs) from I.aw a _ ea);exact kia_one kitx_list I.bZ ⟨_,h1,rfl⟩ e (λz=>nomatch z) h
 |@cA a ob xs ea=>
  cases(show u=Value.ref a from rx);obtain⟨_,_,_,n,_,h1⟩:=(show cJ X.prog X.w H s.heap a (.cA ob (.lst xs)) from I.aw a _ ea);exact kia_one kitx_list I.bZ ⟨_,h1,rfl⟩ e (λz=>nomatch z) h
 |@tup a xs ea=>
  cases(show u=Value.ref a from rx);obtain⟨_,_,_,p⟩:=(show cJ X.prog X.w H s.heap a (.tup xs) from I.aw a _ ea);obtain⟨o,h1,h2,_⟩:=p;exact kia_one PySem.W.kitx_tuple I.bZ ⟨o,h1,h2⟩ e (λz=>nomatch z) h
 |@dK a kvs ea=>
  cases(show u=Value.ref a from rx);obtain⟨_,_,vs,_,p⟩:=(show cJ X.prog X.w H s.heap a (.dK kvs) from I.aw a _ ea);obtain⟨o,es,ep,h1,h2,_⟩:=p;exact kia_one kitx_dict I.bZ ⟨o,h1,h2.1⟩ e (λz=>nomatch z) h
 |@dT a kvs ea=>
  cases(show u=Value.ref a from rx);obtain⟨_,_,xs,_,o,es,ep,h1,h2,_⟩:=(show cJ X.prog X.w H s.heap a (.dT kvs) from I.aw a _ ea);exact kia_one kitx_dict I.bZ ⟨o,h1,h2.1⟩ e (λz=>nomatch z) h
 |@ins a C dx fs ea cl ha hn Ts hm=>
  cases(show u=Value.ref a from rx);obtain⟨mA,O,_⟩:=Ad I.aw ea;obtain⟨od,J,_⟩:=O.look;exact kia_one (PySem.W.kitx_own (cl.get _) cl.hd ha hn Ts hm) I.bZ J e (λz=>nomatch z) h
end
structure cF(k:Nat)(A:Around):Prop where
 hd:A.handled=none
 dp:A.depth+3*k+5<recursionLimit
 un:A.units+16*k+200<cLine
 gd:A.guards=some []
def cF.mono{j k:Nat}{A:Around}(r:cF k A)(h:j<=k):cF j A:=⟨r.hd,by have:=r.dp;omega,by have:=r.un;omega,r.gd⟩
def cF.deeper{k:Nat}{A:Around}(r:cF (k+1) A)(env:Env):cF k (A.deeper env):=
 ⟨r.hd,by have:=r.dp;show A.depth+1+3*k+5<_;omega,by have:=r.un;show A.units+3+16*k+200<_;omega,r.gd⟩
def Zx{A:Around}{C:Addr}{us:List Value}{kw:List (Str×Value)}:(A.under (.builtin "type.__call__" ⟨.ref C::us,kw⟩)).depth=A.depth+1:=by
 rfl
def Zy{A:Around}{C:Addr}{us:List Value}{kw:List (Str×Value)}:(A.under (.builtin "type.__call__" ⟨.ref C::us,kw⟩)).units=A.units+1:=by
 rfl
def cF.make{k:Nat}{A:Around}(r:cF (k+1) A)(C:Addr)(us:List Value)(kw:List (Str×Value)):cF k (A.under (.builtin "type.__call__" ⟨.ref C::us,kw⟩)):=
 ⟨r.hd,by have:=r.dp;rw[Zx];omega,by have:=r.un;rw[Zy];omega,by first|exact r.gd|simpa[Around.under,Code.isGuard,Code.isFrame,guardIds] using r.gd⟩
def cF.depth{k:Nat}{A:Around}(r:cF k A):A.depth<recursionLimit:=by have:=r.dp;omega
def cF.units{k:Nat}{A:Around}(r:cF k A):A.units+64<cLine:=by have:=r.un;omega
def cF.uT{k:Nat}{A:Around}(r:cF k A):A.units<cLine:=by have:=r.un;omega
def js:TA:=λ_ H Q=>Q [] H
def gW(ta:TE)(tr:TA):TA:=λσ H Q=>ta σ H λx H1=>tr σ H1 λxs H2=>Q (x::xs) H2
section
variable {X:Cx}{e:Expr}{es:List Expr}{te:TE}{t:TA}{pos:Pos}
def ae:PA X [] js:=λ_ _ _ _ H Q I h=>Calls.spliced_nil ⟨[],H,I,.nil,h⟩
def aa(ha:PE X e te)(hr:PA X es t)(hs:ik X e es:=by rfl):PA X (e::es) (gW te t):=by
 intro pos pins s σ H Q I h;rw[hs];exact Calls.spliced_cons (ay (ha pins s σ H _ I h) λu s1 ⟨x,H1,I1,r1,q1⟩=>ay (hr pos pins s1 σ H1 _ I1 q1) λus s2 ⟨xs,H2,I2,r2,q2⟩=>⟨x::xs,H2,I2,.cons r1 r2,q2⟩)
def Zgw(t:TA):TE:=λσ H Q=>t σ H λxs H1=>xs.length<=sizeLine/\∀p,H1 p=none->Q (.ref p) (upd H1 p (.lst xs))
def xk(h:PA X es t):PE X (.List es pos) (Zgw t):=by
 intro pins s σ H Q I hq;refine wpAny_List_spliced (ay (h pos pins s σ H _ I hq) λus s1 ⟨xs,H1,I1,r,z,q⟩=>⟨by rw[←r.length];exact z,⟨.ref s1.heap.objs.size,upd H1 s1.heap.objs.size (.lst xs),I1.laid (λb u e=>Yb _ e) (Yd _) ?_,rfl,q _ (I1.aw.fresh (Yd _))⟩⟩);exact⟨z,us,0,r,Yu _ rfl⟩
end
abbrev Sp:=List V->Hp->VK->XK->Prop
abbrev ku:=List Env->Hp->Shared->XK->Value->Shared->Prop
structure sJ(P:Program)(w:World)(K:ah)(mg:aQ)(base:Heap)(A:Around)(outer:List Env)(s:Shared)(H:Hp):Prop where
 frames:A.frames=some outer
 mod:Mod K mg base
 bs:∀b o,base.get? b=some o->s.heap.get? b=some o/\H b=none
 mJ:base.objs.size<=s.heap.objs.size
 jG:s.heap.FunFrames base outer
 pA:∀b∈cP outer,H b=none
 aw:c_ P w H s.heap
 bare:AllBare s.gens
def CE(outer:List Env)(P:Program)(w:World)(H:Hp)(s:Shared)(Q:VK)(u:Value)(s':Shared):Prop:=
 ∃v H',s'.os=s.os/\AllBare s'.gens/\Un (cP outer) [] H H' s.heap s'.heap/\c_ P w H' s'.heap/\RelV v u/\Q v H'
def CR(CX:ku)(outer:List Env)(P:Program)(w:World)(H:Hp)(s:Shared)(Q:VK)(E:XK)(r:Result)(s':Shared):Prop:=
 match r with
 |.ok (.ret u)=>CE outer P w H s Q u s'
 |.ok _=>False
 |.error e=>CX outer H s E e s'
structure aE(P:Program)(w:World)(K:ah)(mg:aQ)(base:Heap)(CX:ku)(k:Nat)(f:Addr)(fd:FuncData)(ps:List Str)(sp:Sp):Prop where
 len:∀vs H Q E,sp vs H Q E->vs.length=ps.length
 run:∀(A:Around) (outer:List Env) (s:Shared) (H:Hp) (args:Args) (us:List Value) (vs:List V) (Q:VK) (E:XK),cF k A->sJ P w K mg base A outer s H->BindsTo s fd args (ps.zip us)->Vals vs us->sp vs H Q E->
  codeAny (model P w) A (.call (.ref f) args) (CR CX outer P w H s Q E) s
def sJ.make{P:Program}{w:World}{K:ah}{mg:aQ}{base:Heap}{A:Around}{outer:List Env}{s:Shared}{H:Hp}(e:sJ P w K mg base A outer s H)(C:Addr)(us:List Value)(kw:List (Str×Value)):
  sJ P w K mg base (A.under (.builtin "type.__call__" ⟨.ref C::us,kw⟩)) outer s H:=⟨by first|exact e.frames|(simpa[Around.under,Code.envs,Code.isFrame,pushEnvs] using e.frames),e.mod,e.bs,e.mJ,e.jG,e.pA,e.aw,e.bare⟩
section
variable {X:Cx}{pins:aU}{σ:St}{H:Hp}{s s':Shared}
def Inv.AY(I:Inv X pins σ H s):sJ X.prog X.w X.K X.mg X.base X.A X.stack s H:=
 ⟨I.ok.frames,I.ok.mod,I.bs,Y0 I.ok.mJ I.sz,I.stack,I.z_,I.aw,I.bare⟩
def Inv.after{Q:VK}{u:Value}(I:Inv X pins σ H s)(h:CE X.stack X.prog X.w H s Q u s'):EP X pins σ Q u s':=by
 obtain⟨v,H',os,bare,un,aw,r,q⟩:=h;obtain⟨hh,g,d,t,BP⟩:=s';obtain rfl:BP=s.os:=os;exact⟨v,H',I.call (h':=hh) (g':=g) (d':=d) (t':=t) (ch:=[]) un aw bare (λb z=>absurd z (by simp)),r,q⟩
end
def AJ(sp:Sp)(c5:List V)(E:XK)(t:TA):TE:=λσ H Q=>t σ H λvs H1=>sp (vs++c5) H1 Q E
def AK(C:Addr)(m:Str)(sp:Sp)(c5:List V)(E:XK)(ta:TE)(t:TA):TE:=λσ H Q=>ta σ H λx H1=>∃a dx fs,x=.ref a/\H1 a=some (.ins C dx fs)/\fs.lookup m=none/\
 t σ H1 λvs H2=>sp (x::(vs++c5)) H2 Q E
def Rm(C:Addr)(sp:Sp)(c5:List V)(E:XK)(t:TA):TE:=λσ H Q=>t σ H λvs H1=>∀x dx,H1 x=none->H1 dx=none->dx≠x->
 sp (.ref x::(vs++c5)) (upd (upd H1 dx (.own x)) x (.ins C dx [])) (λv H2=>v=.az/\Q (.ref x) H2) E
def Binds(K:ah)(fd:FuncData)(ps:List Str)(ds:List Value):Prop:=
 ∀(s:Shared) (us:List Value),K.In s.heap->(us++ds).length=ps.length->BindsTo s fd ⟨us,[]⟩ (ps.zip (us++ds))
def Binds.all{K:ah}{fd:FuncData}{ps:List Str}(h:∀us:List Value,us.length=ps.length->bindArgs fd ⟨us,[]⟩=pure (ps.zip us)):Binds K fd ps []:=λs us _ hl=>by
 rw[Wd] at hl⊢;exact .of_eq (h us hl)
def Passes(CX:ku)(X:Cx)(E:XK):Prop:=∀(pins:aU) (σ:St) (H:Hp) (s:Shared) (e:Value) (s':Shared),Inv X pins σ H s->CX X.stack H s E e s'->X.xe e s'
section
variable {X:Cx}{CX:ku}{k:Nat}{f C:Addr}{fd:FuncData}{ps:List Str}{sp:Sp}{c5:List V}{ds:List Value}{E:XK}{x m:Str}{p pos apos:Pos}{e o:Expr}{es:List Expr}{ta:TE}{t:TA}
theorem Au{pins:aU}{σ:St}{H:Hp}{s:Shared}{Q:VK}{us:List Value}{vs:List V}(F:aE X.prog X.w X.K X.mg X.base CX k f fd ps sp)(hr:cF k X.A)(hb:Binds X.K fd ps ds)(hd:Vals c5 ds)(hx:Passes CX X E)
  (I:Inv X pins σ H s)(r:Vals vs us)(h:sp (vs++c5) H Q E):wpAny X.md X.A (call (.ref f) us) (EP X pins σ Q) X.xe s:=by
 have r2:Vals (vs++c5) (us++ds):=r.append hd;have hl:(us++ds).length=ps.length:=by rw[←r2.length];exact F.len _ _ _ _ h
 refine wpAny_call (codeAny_mono (F.run X.A X.stack s H ⟨us,[]⟩ (us++ds) (vs++c5) Q E hr I.AY (hb s us I.bZ hl) r2 h) λr s' hq=>?_);cases r with
 |error e=>exact hx pins σ H s e s' I hq
 |ok fl=>
  cases fl with
  |ret u=>exact I.after hq
  |next=>exact False.elim hq
  |brk=>exact False.elim hq
  |cont=>exact False.elim hq
def ZcJ(F:aE X.prog X.w X.K X.mg X.base CX k f fd ps sp)(hr:cF k X.A)(hg:Gl X x)(hm:X.mg x=some (.ref f))(hk:keepIn X.K (.ref f)=true)(hb:Binds X.K fd ps ds)(hd:Vals c5 ds)(hx:Passes CX X E)
  (ha:PA X (e::es) t)(eN:(x==("__debug__":Str))=false:=by decide)(he:ik X e es:=by rfl)(bQ:iV X pos es:=by rfl):
  PE X (.Call (.Name x p) (e::es) [] pos) (AJ sp c5 E t):=by
 intro pins s σ H Q I h;exact wpAny_Call_Name_kw (rN I hg hm (callWith_K I.ok.mod.mI hk (ay (ha pos pins s σ H _ I h) λus s1 ⟨vs,H1,I1,r,q⟩=>⟨I1.bZ,Au F hr hb hd hx I1 r q⟩) he bQ) eN)
def ZcK{pl:Sem Bool}(he:PE X o ta)(c:fU X.K C)(hm:Meth X.K C m f)(F:aE X.prog X.w X.K X.mg X.base CX k f fd ps sp)(hr:cF k X.A)(hb:Binds X.K fd ps ds)(hd:Vals c5 ds)(hx:Passes CX X E)(ha:PA X (e::es) t)
  (df:ik X e es:=by rfl)(bQ:iV X pos es:=by rfl)
  (ht:eval (.Call (.Attribute o m apos) (e::es) [] pos) X.env=(do
   let ov←eval o X.env
   standAt apos.atName
   let(f,first)←holding [ov] (getMethod ov m pl)
   callWith pos f first (backTo pos (starEach (e::es) X.env)) (backToKw pos (keywordEach [] X.env))):=by rfl):
  PE X (.Call (.Attribute o m apos) (e::es) [] pos) (AK C m sp c5 E ta t):=by
 intro pins s σ H Q I h;refine methodCall_KW (pl:=pl) (ay (he pins s σ H _ I h) λu s1 zq=>?_) ht;obtain⟨x,H1,I1,rx,a,dx,fs,ex,ea,l,q⟩:=zq;subst ex;obtain rfl:u=Value.ref a:=rx;refine EW I1 ea c hm l ?_;refine callWith_K (first:=[.ref a]) (h₀:=X.base) I.ok.mod.mI hm.kp (ay (ha pos pins s1 σ H1 _ I1 q) λus s2 ⟨vs,H2,I2,r,q2⟩=>⟨I2.bZ,?_⟩) df bQ;exact Au (us:=.ref a::us) (vs:=.ref a::vs) F hr hb hd hx I2 (.cons rfl r) q2
def Zbn{pl:Sem Bool}(he:PE X o ta)(c:fU X.K C)(hm:Meth X.K C m f)(F:aE X.prog X.w X.K X.mg X.base CX k f fd ps sp)(hr:cF k X.A)(hb:Binds X.K fd ps ds)(hd:Vals c5 ds)(hx:Passes CX X E)
  (ht:eval (.Call (.Attribute o m apos) [] [] pos) X.env=(do
   let ov←eval o X.env
   standAt apos.atName
   let(f,first)←holding [ov] (getMethod ov m pl)
   callWith pos f first (backTo pos (starEach [] X.env)) (backToKw pos (keywordEach [] X.env))):=by rfl):
  PE X (.Call (.Attribute o m apos) [] [] pos) (AK C m sp c5 E ta js):=by
 intro pins s σ H Q I h;refine methodCall_KW (pl:=pl) (ay (he pins s σ H _ I h) λu s1 zq=>?_) ht;obtain⟨x,H1,I1,rx,a,dx,fs,ex,ea,l,q⟩:=zq;subst ex;obtain rfl:u=Value.ref a:=rx;refine EW I1 ea c hm l ?_;exact PySem.W.callWith_K0 (first:=[.ref a]) I1.bZ hm.kp (Au (us:=[.ref a]) (vs:=[.ref a]) F hr hb hd hx I1 (.cons rfl .nil) q)
structure Mk(K:ah)(C f:Addr):Prop where
 makes:makesIn K C=true
 init:PySem.W.findIn K (.ref C) "__init__"=some (some (.ref f))
 fn:isFn K (.ref f)=true
 kp:keepIn K (.ref C)=true
theorem Zbo{pins:aU}{σ:St}{H:Hp}{s:Shared}{Q:VK}{us:List Value}{vs:List V}(M:Mk X.K C f)(F:aE X.prog X.w X.K X.mg X.base CX k f fd ps sp)(hr:cF (k+1) X.A)(hb:Binds X.K fd ps ds)(hd:Vals c5 ds)
  (hx:Passes CX X E)(I:Inv X pins σ H s)(r:Vals vs us)
  (h:∀x dx,H x=none->H dx=none->dx≠x->sp (.ref x::(vs++c5)) (upd (upd H dx (.own x)) x (.ins C dx [])) (λv H2=>v=.az/\Q (.ref x) H2) E):
  wpAny X.md X.A (call (.ref C) us) (EP X pins σ Q) X.xe s:=by
 have hq:=h (s.heap.objs.size+1) s.heap.objs.size (I.aw.fresh (J7 _)) (I.aw.fresh (Yd _)) (Yy (Jh _));have I2:=Inv.made (C:=C) I;have r2:Vals (V.ref (s.heap.objs.size+1)::(vs++c5)) (Value.ref (s.heap.objs.size+1)::(us++ds)):=.cons rfl (r.append hd);have hl:(Value.ref (s.heap.objs.size+1)::us++ds).length=ps.length:=by
  have e:=r2.length;rw[F.len _ _ _ _ hq] at e;exact e.symm
 refine wpAny_call (Zbm I.bZ M.makes M.init (beq_iff_eq.mp M.fn) (codeAny_mono (F.run _ X.stack _ _ ⟨Value.ref (s.heap.objs.size+1)::us,[]⟩ (Value.ref (s.heap.objs.size+1)::(us++ds)) _ _ E (hr.make C us [])
  (I2.AY.make C us []) (hb _ (Value.ref (s.heap.objs.size+1)::us) I2.bZ hl) r2 hq) λr s' mN=>?_))
 cases r with
 |error e=>exact hx pins σ _ _ e s' I2 mN
 |ok fl=>
  cases fl with
  |ret u=>
   obtain⟨v,H',I3,rv,ev,q3⟩:=I2.after mN;subst ev;exact⟨rv,⟨V.ref (s.heap.objs.size+1),H',I3,rfl,q3⟩⟩
  |next=>exact False.elim mN
  |brk=>exact False.elim mN
  |cont=>exact False.elim mN
def ZcL(M:Mk X.K C f)(F:aE X.prog X.w X.K X.mg X.base CX k f fd ps sp)(hr:cF (k+1) X.A)(hg:Gl X x)(hm:X.mg x=some (.ref C))(hb:Binds X.K fd ps ds)(hd:Vals c5 ds)(hx:Passes CX X E)
  (ha:PA X (e::es) t)(eN:(x==("__debug__":Str))=false:=by decide)(he:ik X e es:=by rfl)(bQ:iV X pos es:=by rfl):
  PE X (.Call (.Name x p) (e::es) [] pos) (Rm C sp c5 E t):=by
 intro pins s σ H Q I h;exact wpAny_Call_Name_kw (rN I hg hm (callWith_K I.ok.mod.mI M.kp (ay (ha pos pins s σ H _ I h) λus s1 ⟨vs,H1,I1,r,q⟩=>⟨I1.bZ,Zbo M F hr hb hd hx I1 r q⟩) he bQ) eN)
end
section
variable {X:Cx}{CX:ku}{k:Nat}{f C:Addr}{fd:FuncData}{ps ks:List Str}{sp:Sp}{E:XK}{x m:Str}{p pos apos ZiH:Pos}{e o:Expr}{es:List Expr}{kws:List Keyword}{te ta:TE}{t tk:TA}{nm:Option Str}
variable {g:List Value->List Value->List Value}{gV:List V->List V->List V}
end
structure aP(N P:List Str)(sc:Scope):Prop where
 kind:sc.kind=.function
 co:sc.isCoroutine=false
 gen:sc.isGenerator=false
 nd:N.Nodup
 pre:N.take P.length=P
 par:∀x∈P,sc.names.lookup x=some .local\/sc.names.lookup x=some .cell
 Zd_:∀y∈sc.names,y.2≠.free
theorem MP{kindOf:Str->Option NameKind}{x:Str}:∀{binds:List (Str×Value)} {m:aQ},(∀v,(x,v)∉binds)->bindL kindOf binds m x=m x
 |[],_,_=>rfl
 |(n,v)::r,m,h=>by
  unfold bindL;rw[MP λw hw=>h w (Yw _ hw)];split;·grind
  ·rfl
theorem MQ{kindOf:Str->Option NameKind}{x:Str}:∀{binds:List (Str×Value)} {m:aQ},(∀v,(x,v)∉binds)->bindC kindOf binds m x=m x
 |[],_,_=>rfl
 |(n,v)::r,m,h=>by
  unfold bindC;rw[MQ λw hw=>h w (Yw _ hw)];split;·rfl
  ·grind
theorem MR{kindOf:Str->Option NameKind}{x:Str}{v:Value}:∀{P:List Str} {vs:List Value} {i:Nat} {m:aQ},P.Nodup->P[i]?=some x->vs[i]?=some v->kindOf x=some .local->
  bindL kindOf (P.zip vs) m x=some v
 |[],_,_,_,_,h,_,_=>by simp at h
 |_::_,[],_,_,_,_,h,_=>by simp at h
 |p::P,w::vs,0,m,nd,h1,h2,hk=>by
  simp at h1 h2;subst h1;subst h2;show bindL kindOf ((p,w)::P.zip vs) m p=_;unfold bindL;rw[MP λv hv=>(Yz.mp nd).1 (JN hv).1,if_pos hk];simp
 |p::P,w::vs,i+1,m,nd,h1,h2,hk=>by
  unfold bindL;exact MR (Yz.mp nd).2 (by simpa using h1) (by simpa using h2) hk
theorem MS{kindOf:Str->Option NameKind}{x:Str}{v:Value}:∀{P:List Str} {vs:List Value} {i:Nat} {m:aQ},P.Nodup->P[i]?=some x->vs[i]?=some v->kindOf x≠some .local->
  bindC kindOf (P.zip vs) m x=some v
 |[],_,_,_,_,h,_,_=>by simp at h
 |_::_,[],_,_,_,_,h,_=>by simp at h
 |p::P,w::vs,0,m,nd,h1,h2,hk=>by
  simp at h1 h2;subst h1;subst h2;show bindC kindOf ((p,w)::P.zip vs) m p=_;unfold bindC;rw[MQ λv hv=>(Yz.mp nd).1 (JN hv).1,if_neg hk];simp
 |p::P,w::vs,i+1,m,nd,h1,h2,hk=>by
  unfold bindC;exact MS (Yz.mp nd).2 (by simpa using h1) (by simpa using h2) hk
def start(N:List Str)(vs:List V):St:=vs.map some++List.replicate (N.length-vs.length) none
def kh(CX:ku)(P:Program)(w:World)(K:ah)(mg:aQ)(base:Heap)(N:List Str)(qual:Str)(scope:Scope)(f:Addr)(cd:Value)(A:Around)(outer:List Env)(s:Shared)(H:Hp)(E:XK):Cx where
 prog:=P
 w:=w
 K:=K
 mg:=mg
 base:=base
 A:=A.deeper (envOfC qual scope s.heap.objs.size f cd)
 N:=N
 cX:=s
 lu:=H
 env:=envOfC qual scope s.heap.objs.size f cd
 outer:=outer
 stack:=envOfC qual scope s.heap.objs.size f cd::outer
 ex:=[]
 calm:=true
 fn:=λ_=>true
 pn:=[]
 xe:=λe s'=>wpAny (model P w) (A.deeper (envOfC qual scope s.heap.objs.size f cd)) (leaving (envOfC qual scope s.heap.objs.size f cd) e) (λ_ sZ=>CX outer H s E e sZ) (λe' sZ=>CX outer H s E e' sZ) s'
def Nv{sc:Scope}{n:Nat}{x:Str}(h:sc.names.lookup x=some .cell):∃c,(cellsFrom n sc.names []).lookup x=some c:=by
 exact Jb.mp (cellsFrom_some sc.names n [] (.inl h))
theorem Zaw{CX:ku}{P:Program}{w:World}{K:ah}{mg:aQ}{base:Heap}{N ps:List Str}{qual:Str}{scope:Scope}{f:Addr}{cd:Value}{A:Around}{outer:List Env}{s s1:Shared}{H:Hp}{E:XK}{us:List Value}{vs:List V}
  (S:aP N ps scope)(hd:A.handled=none)(e0:sJ P w K mg base A outer s H)(hl:vs.length=ps.length)(r:Vals vs us)
  (x:InCallC s s.heap.objs.size (bindL (envOfC qual scope s.heap.objs.size f cd).kindOf (ps.zip us) λ_=>none) (cellsFrom (s.heap.objs.size+1) scope.names []) (bindC (envOfC qual scope s.heap.objs.size f cd).kindOf (ps.zip us) λ_=>none) s1):
  Inv (kh CX P w K mg base N qual scope f cd A outer s H E) [] (start N vs) H s1:=by
 have bQ:ps.length<=N.length:=by have:=congrArg List.length S.pre;rw[Y8] at this;omega
 obtain⟨h1,tk,rfl,hk⟩:=x.done;have kz:∀b:Addr,b∉(kh CX P w K mg base N qual scope f cd A outer s H E).ex:=λb z=>absurd (show b∈([]:List Addr) from z) (by simp);refine⟨⟨e0.mod,S.kind,rfl,rfl,Yd _,λy z c h1 h2=>?_,λy hy=>?_,λy c _ h=>?_,λ_=>hd,Around.frames_deeper e0.frames,.inr ⟨rfl,rfl⟩,λb z=>absurd z (kz b),e0.bs,e0.mJ,λb _ _=>kz b,λb z=>absurd z (kz b),e0.jG,e0.pA⟩,
  rfl,e0.bare,Un.kept hk,⟨_,x.toInCall.ns,λi y v h1 h2 h3=>?_⟩,λy c h=>⟨_,x.cell y c h⟩,e0.aw.fresh (Yd _),λy c h=>?_,λp hp=>absurd (show p∈([]:aU) from hp) (by simp),e0.aw.kept hk,?_⟩
 ·exact name_of_addr x.apart (PySem.mem_of_lookup h1) (PySem.mem_of_lookup h2)
 ·have hy:scope.names.lookup y=some .cell\/scope.names.lookup y=some .free:=hy;rcases hy with hy|hy;·exact Nv hy
  ·exact absurd rfl (S.Zd_ _ (PySem.mem_of_lookup hy))
 ·exact Jk (x.above y c (PySem.mem_of_lookup h))
 ·have hi:i<vs.length:=by
   unfold start at h2
   grind
  have ha:vs[i]?=some v:=by
   unfold start at h2;rw[We (by simpa using hi),Ye] at h2;cases e:vs[i]? with
   |none=>grind
   |some a=>grind
  obtain⟨u,hu,rv⟩:=r.get ha;have hp:ps[i]?=some y:=by
   rw[←S.pre,List.getElem?_take_of_lt (by omega)];exact h1
  have Tt:ps.Nodup:=by rw[←S.pre];exact S.nd.sublist (List.take_sublist _ _)
  refine⟨u,rv,?_⟩;rcases S.par y (Yg hp) with k|k;·exact .inl ⟨k,MR Tt hp hu k⟩
  ·obtain⟨c,e⟩:=Nv k;refine .inr ⟨.inl k,c,e,?_⟩;have q:=x.cell y c e;rw[MS Tt hp hu (by show scope.names.lookup y≠_;rw[k];decide)] at q;exact q
 ·exact e0.aw.fresh (Jk (x.above y c (PySem.mem_of_lookup h)))
 ·unfold start;show _=N.length
  grind
theorem Ho{CX:ku}{P:Program}{w:World}{K:ah}{mg:aQ}{base:Heap}{k:Nat}{f:Addr}{name qual:Str}{params:Arguments}{body:List Stmt}{scope:Scope}{dV kV doc pm bC ct oc:Value}{an od:Option Addr}
  {iW:Array (Option Value)}{N ps:List Str}{sp:Sp}(lk:K.lookup f=some ⟨oc,od,.func (fnOf name qual params body scope dV kV doc pm an bC ct),iW⟩)(e_:codeIn K bC qual=true)(S:aP N ps scope)
  (len:∀vs H Q E,sp vs H Q E->vs.length=ps.length)
  (oS:∀(A:Around) (outer:List Env) (s:Shared) (H:Hp) (vs:List V) (Q:VK) (E:XK),cF k (A.deeper (envOfC qual scope s.heap.objs.size f bC))->sp vs H Q E->
   ∃t,eZ (kh CX P w K mg base N qual scope f bC A outer s H E) body t/\t {nx:=λ_ H'=>Q .az H',rt:=Q} (start N vs) H):
  aE P w K mg base CX (k+1) f (fnOf name qual params body scope dV kV doc pm an bC ct) ps sp:=by
 refine⟨len,λA outer s H args us vs Q E hr e0 hb r lF=>?_⟩;have hl:=len _ _ _ _ lF;have KX:K.In s.heap:=e0.mod.mI.keeps λb o e=>(e0.bs b o e).1;have lim:s.heap.NoLimit:=e0.mod.nolimit.keeps λb o e=>(e0.bs b o e).1;have ZfC:∀y∈ps.zip us,scope.names.lookup y.1=some .local\/(scope.names.lookup y.1=some .cell/\((cellsFrom (s.heap.objs.size+1) scope.names []).lookup y.1).isSome=true):=λ⟨n,v⟩ hy=>by
  rcases S.par n (JN hy).1 with q|q;·exact .inl q
  ·exact .inr ⟨q,cellsFrom_some _ _ _ (.inl q)⟩
 refine codeAny_call_function hr.depth (KX _ _ lk) rfl S.co S.gen rfl (PySem.W.codeRec_of KX e_) (hb _ _ _ _ ?_);refine wpAny_newFunctionEnv_cells S.kind ZfC λenv he s1 x=>?_;subst he;refine⟨lim.keeps x.toInCall.keep,codeAny_func ?_⟩;obtain⟨t,ht,hq⟩:=oS A outer s H vs Q E (hr.deeper _) lF;have I:Inv (kh CX P w K mg base N qual scope f bC A outer s H E) [] (start N vs) H s1:=Zaw S hr.hd e0 hl r x;refine wpAny_mono (ht [] s1 (start N vs) H _ I hq) (λfl s' hs=>?_) λe s' hs=>hs;have fin:∀{aH:St} {H':Hp} {v:V} {u:Value},Inv (kh CX P w K mg base N qual scope f bC A outer s H E) [] aH H' s'->RelV v u->Q v H'->CE outer P w H s Q u s':=
  λ{aH H' v u} J rv q=>⟨v,H',J.os,J.bare,J.base,J.aw,rv,q⟩
 cases fl with
 |ret u=>
  obtain⟨v,aH,H',J,rv,q⟩:=hs;exact fin J rv q
 |next=>
  obtain⟨aH,H',J,q⟩:=hs;exact fin (v:=V.az) (u:=Value.none) J rfl q
 |brk=>
  obtain⟨_,_,_,q⟩:=hs;exact False.elim q
 |cont=>
  obtain⟨_,_,_,q⟩:=hs;exact False.elim q
section
variable {X:Cx}{x:Str}{p pos:Pos}{e:Expr}{es:List Expr}{t:TA}{id T:String}{r:List V->Hp->VK->Prop}
def mO(r:List V->Hp->VK->Prop)(t:TA):TE:=λσ H Q=>t σ H λvs H1=>r vs H1 Q
def h_(hc:c7 X (.builtin id) r)(hg:Gl X x)(hm:X.mg x=none)(hv:bootBuiltins x=some (.builtin id))(ha:PA X (e::es) t)(hn:x≠"__name__":=by decide)(eN:(x==("__debug__":Str))=false:=by decide)
  (he:ik X e es:=by rfl)(bQ:iV X pos es:=by rfl):PE X (.Call (.Name x p) (e::es) [] pos) (mO r t):=by
 intro pins s σ H Q I h;refine wpAny_Call_Name_kw (xg I hg hm hv ?_ hn eN);exact PyProof.Rows.callWith_builtin1 (ay (ha pos pins s σ H _ I h) λus s1 ⟨vs,H1,I1,r1,q1⟩=>hc pins s1 σ H1 vs us Q I1 r1 q1) he bQ
def eS(hc:c7 X (.type T) r)(hg:Gl X x)(hm:X.mg x=none)(hv:bootBuiltins x=some (.type T))(ha:PA X (e::es) t)(hn:x≠"__name__":=by decide)(eN:(x==("__debug__":Str))=false:=by decide)
  (he:ik X e es:=by rfl)(bQ:iV X pos es:=by rfl):PE X (.Call (.Name x p) (e::es) [] pos) (mO r t):=by
 intro pins s σ H Q I h;refine wpAny_Call_Name_kw (xg I hg hm hv ?_ hn eN);exact PyProof.Rows.callWith_type1 (ay (ha pos pins s σ H _ I h) λus s1 ⟨vs,H1,I1,r1,q1⟩=>hc pins s1 σ H1 vs us Q I1 r1 q1) he bQ
end
end L2
namespace HT
open PySem PyProof.Rows
section
open PySem.SeqAt
open PySem.AutoSeq1 (wpAny_loadPart')
open PySem.MeetsSeq PySem.MeetsSeq2 PySem.MeetsSeq3
end
section
variable {prog:Program}{w:World}{A:Around}{E:a8}{s:Shared}
def ZcM{t b:Addr}{vs ws:List Value}{Q:a8}(ht:IsTup s.heap t vs.toArray)(hb:IsTup s.heap b ws.toArray)(hv:vs≠[])
  (h1:ws=[]->Q (.ref t) s)(h2:ws≠[]->Q (.ref s.heap.objs.size) {s with heap:=s.heap.push {cls:=.type "tuple",data:=.seq (vs++ws).toArray}})
  (hsz:vs.length+ws.length<=sizeLine):wpAny (model prog w) A (binaryOp .Add (.ref t) (.ref b)) Q E s:=by
 obtain⟨⟨cls,dd,data,sl⟩,ho,hc,n,hd⟩:=id ht;obtain⟨⟨ZiI,Tu,data2,Tv⟩,BQ,Tw,n2,hd2⟩:=id hb;simp only at hc hd Tw hd2;subst hc hd Tw hd2;have e:vs.toArray++ws.toArray=(vs++ws).toArray:=by simp
 by_cases hw:ws=[]
 ·exact concat_meets ⟨_,ho,rfl⟩ ⟨_,BQ,rfl⟩ noFill_tuple_add seq_tuple_add slot_tuple_add PySem.F.entry_tuple_add (PySem.F.args_tuple_add_2 _ _)
   (tuple_addW1 t b vs.toArray ws.toArray n n2 dd Tu sl Tv (by simpa using hv) (by simp[hw])) ⟨ho,BQ,h1 hw⟩
 ·refine concat_meets ⟨_,ho,rfl⟩ ⟨_,BQ,rfl⟩ noFill_tuple_add seq_tuple_add slot_tuple_add PySem.F.entry_tuple_add (PySem.F.args_tuple_add_2 _ _)
   (tuple_addW2 t b vs.toArray ws.toArray n n2 dd Tu sl Tv (by simpa using hv) (by simpa using hw) (by rw[Yv,Yv];exact hsz)) ⟨ho,BQ,?_⟩
  rw[e];exact h2 hw
def fh(n d:Nat):Option Int->Nat
 |none=>d
 |some v=>if v<0 then(v+(n:Int)).toNat else min v.toNat n
def ZcN(n d k:Nat):fh n d (some (k:Int))=min k n:=by
 show(if(k:Int)<0 then((k:Int)+(n:Int)).toNat else min (k:Int).toNat n)=min k n;rfl
end
end HT
namespace L2
open PySem PySem.Spec PyProof.Rows
abbrev TO:=St->Hp->(Option Int->Hp->Prop)->Prop
def PO(X:Cx)(e:Option Expr)(t:TO):Prop:=
 ∀(pins:aU) (s:Shared) (σ:St) (H:Hp) (Q:Option Int->Hp->Prop),Inv X pins σ H s->t σ H Q->
  wpAny X.md X.A (evalPart e X.env) (λu s'=>∃o H',Inv X pins σ H' s'/\IsPart u o/\Q o H') X.xe s
def ZcO:TO:=λ_ H Q=>Q none H
inductive OC(Q:Option Int->Hp->Prop)(x:V)(H1:Hp):Prop
 |mk (i) (aC:x=.int i) (aS:Q (some i) H1):OC Q x H1
def ZfD(t:TE):TO:=λσ H Q=>t σ H λx H1=>OC Q x H1
theorem intsAre_of{ns:List Int}:∀{us:List Value},Vals (ns.map V.int) us->IntsAre us ns:=by
 induction ns with
 |nil=>intro us r;rw[List.map_nil] at r;cases r;exact .nil
 |cons n ns ih=>
  intro us r;cases r with
  |cons r1 r2=>
   obtain⟨t,e⟩:=r1;subst e;exact .cons n t (ih r2)
section
variable {X:Cx}{e:Expr}{te:TE}{lo hi:Option Expr}{tl th:TO}{pos p2:Pos}
def Ae:PO X none ZcO:=by
 intro pins s σ H Q I h;exact wpAny_pure ⟨none,H,I,.none,h⟩
def Af(h:PE X e te):PO X (some e) (ZfD te):=by
 intro pins s σ H Q I hw;refine ay (h pins s σ H _ I hw) λu s1 zq=>?_;obtain⟨x,H1,I1,r1,q1⟩:=zq;obtain⟨i,rfl,q⟩:=q1;obtain⟨t,rfl⟩:=r1;exact⟨some i,H1,I1,.int i t,q⟩
def vD(X:Cx)(r:V->Option Int->Option Int->Hp->VK->Prop):Prop:=
 ∀(pins:aU) (s:Shared) (σ:St) (H:Hp) (x:V) (v vl vu:Value) (lo hi:Option Int) (sl:Addr) (Q:VK),Inv X pins σ H s->RelV x v->s.heap.IsSliceOf sl vl vu .none->IsPart vl lo->IsPart vu hi->r x lo hi H Q->
  ∃T id,typeLookup (.type T) "__getitem__"=pure (some (.builtin id))/\s.TypeIs v T/\wpAny X.md X.A (getItem v (.ref sl)) (EP X pins σ Q) X.xe s
def tSl(r:V->Option Int->Option Int->Hp->VK->Prop)(te:TE)(tl th:TO):TE:=λσ H Q=>te σ H λx H1=>tl σ H1 λl H2=>th σ H2 λu H3=>r x l u H3 Q
def zU{r:V->Option Int->Option Int->Hp->VK->Prop}(hr:vD X r)(he:PE X e te)(hl:PO X lo tl)(hu:PO X hi th):PE X (.Subscript e (.Slice lo hi none p2) pos) (tSl r te tl th):=by
 intro pins s σ H Q I h;refine Subscript_ (ay (he pins s σ H _ I h) λv s1 zq=>?_);obtain⟨x,H1,I1,r1,q1⟩:=zq;refine wpAny_Slice (ay (hl pins s1 σ H1 _ I1 q1) λvl s2 zq=>?_);obtain⟨l,H2,I2,pl,q2⟩:=zq;refine ay (hu pins s2 σ H2 _ I2 q2) λvu s3 zq=>?_;obtain⟨u,H3,I3,pu,q3⟩:=zq;rw[evalPart_none];refine wpAny_pure ?_;have I4:Inv X pins σ H3 {s3 with heap:=s3.heap.push {cls:=.type "slice",data:=.fields #[vl,vu,.none]}}:=I3.kept (t':=s3.toks) λb ob q=>Yb _ q;obtain⟨T,id,hT,ht,hg⟩:=hr pins {s3 with heap:=s3.heap.push {cls:=.type "slice",data:=.fields #[vl,vu,.none]}} σ H3 x v vl vu l u s3.heap.objs.size Q I4 r1 (Heap.IsSliceOf.new ..) pl pu q3;show wpAny X.md X.A (subscriptTail e (.Slice lo hi none p2) v (.ref s3.heap.objs.size)) (EP X pins σ Q) X.xe {s3 with heap:=s3.heap.push {cls:=.type "slice",data:=.fields #[vl,vu,.none]}};exact tail_any (ops:=[.ref s3.heap.objs.size,v]) ht hT hg (by with_unfolding_all rfl)
def mC(xs:List V)(lo hi:Option Int):List V:=(xs.drop (HT.fh xs.length 0 lo)).take (HT.fh xs.length xs.length hi-HT.fh xs.length 0 lo)
def L8(xs:List V)(lo hi:Option Int):(mC xs lo hi).length<=xs.length:=by
 unfold mC
 grind
def ZfE(K:ah):R2:=λx y H Q=>∃a b xs ys,x=.ref a/\y=.ref b/\aB K H a xs/\aB K H b ys/\xs≠[]/\xs.length+ys.length<=sizeLine/\
 (ys=[]->Q (.ref a) H)/\(ys≠[]->∀p,H p=none->Q (.ref p) (upd H p (.tup (xs++ys))))
theorem Vals.Gq{xs:List V}{us:List Value}(r:Vals xs us):us=[]↔xs=[]:=by
 cases r with
 |nil=>simp
 |cons _ _=>simp
def ZcP:cG X (binaryOp .Add) (ZfE X.K):=by
 rintro pins s σ H x y v u Q I rx ry ⟨a,b,xs,ys,rfl,rfl,ha,hb,hx,hz,q1,q2⟩;cases rx;cases ry;obtain⟨ai,r1,p1,_⟩:=I.tuple ha;obtain⟨iR,r2,p2,_⟩:=I.tuple hb;refine HT.ZcM p1 p2 (λz=>hx (r1.Gq.mp z)) (λz=>⟨.ref a,H,I,rfl,q1 (r2.Gq.mp z)⟩) (λz=>⟨.ref s.heap.objs.size,_,I.laid (o:=.tup (xs++ys)) (λb ob q=>Yb _ q) (Yd _) ?_,rfl,q2 (λw=>z (r2.Gq.mpr w)) _ (I.aw.fresh (Yd _))⟩) (by rw[←r1.length,←r2.length];exact hz);exact⟨by rw[Yi];exact hz,_,r1.append r2,ni.new _ _⟩
end
def lG(n:Nat)(i:Int):Option Nat:=if 0<=i then(if i<n then some i.toNat else none) else if-(n:Int)<=i then some (i+n).toNat else none
def dO{α:Type}(xs:List α)(i:Int):Option α:=(lG xs.length i).bind λj=>xs[j]?
def Gr{n:Nat}{i:Int}{j:Nat}(h:lG n i=some j):seqIndex? i n=some j/\j<n/\-(n:Int)<=i/\i<n:=by
 unfold lG at h;by_cases h0:0<=i
 ·rw[if_pos h0] at h;by_cases h1:i<n
  ·rw[if_pos h1] at h;have e:=Yn h;exact⟨by rw[seqIndex_of h0 h1,e],by omega,by omega,h1⟩
  ·grind
 ·rw[if_neg h0] at h;by_cases h1:-(n:Int)<=i
  ·rw[if_pos h1] at h;have e:=Yn h;exact⟨by rw[seqIndex_neg (by omega) h1,e],by omega,h1,by omega⟩
  ·grind
theorem Gs{α:Type}{xs:List α}{i:Int}{v:α}(h:dO xs i=some v):∃j,seqIndex? i xs.length=some j/\xs[j]?=some v/\j<xs.length/\-(xs.length:Int)<=i/\i<xs.length:=by
 unfold dO at h;cases e:lG xs.length i with
 |none=>grind
 |some j=>
  obtain⟨h1,h2,h3,h4⟩:=Gr e
  grind
def iH{α:Type}{xs:List α}{j:Nat}{v:α}(h:xs[j]?=some v):dO xs (j:Int)=some v:=by
 have e:lG xs.length (j:Int)=some j:=by
  unfold lG
  grind
 unfold dO;rw[e];exact h
def OD(b:Expr):Prop:=∀o i,subscripted b false o i=operate [o,i] (getItem o i)
def iX(X:Cx)(r:R2):Prop:=
 ∀(value slice:Expr) (pins:aU) (s:Shared) (σ:St) (H:Hp) (x y:V) (v u:Value) (Q:VK),Inv X pins σ H s->RelV x v->RelV y u->r x y H Q->
  subscripted slice false v u=operate [v,u] (getItem v u)->wpAny X.md X.A (subscriptTail value slice v u) (EP X pins σ Q) X.xe s
def Tx(X:Cx)(id:String)(r:V->List V->Hp->VK->Prop):Prop:=
 ∀(pins:aU) (s:Shared) (σ:St) (H:Hp) (x:V) (xs:List V) (v:Value) (us:List Value) (Q:VK),Inv X pins σ H s->RelV x v->Vals xs us->r x xs H Q->
  wpAny X.md X.A (call (.builtin id) (v::us)) (EP X pins σ Q) X.xe s
section
variable {X:Cx}{a b:Expr}{ta tb:TE}{pos:Pos}
def iX.or{r r':R2}(h:iX X r)(h':iX X r'):iX X (λx y H Q=>r x y H Q\/r' x y H Q):=by
 intro value slice pins s σ H x y v u Q I rx ry q hs;rcases q with q|q;·exact h value slice pins s σ H x y v u Q I rx ry q hs
 ·exact h' value slice pins s σ H x y v u Q I rx ry q hs
def Rn{r:R2}(hr:iX X r)(ha:PE X a ta)(hb:PE X b tb)(hs:OD b):PE X (.Subscript a b pos) (jv r ta tb):=by
 intro pins s σ H Q I h;exact Subscript_ (Ig ha hb I h λv u s2 x y H2 I2 rx ry q=>hr a b pins s2 σ H2 x y v u Q I2 rx ry q (hs _ _))
inductive P6(K:ah)(x:V)(y:V)(H:Hp)(Q:VK):Prop
 |mk (p xs i v) (aC:x=.ref p) (aS:y=.int i) (bb:ak K H p xs) (bL:dO xs i=some v) (cD:Q v H):P6 K x y H Q
def u6(K:ah):R2:=λx y H Q=>P6 K x y H Q
inductive P7(K:ah)(x:V)(y:V)(H:Hp)(Q:VK):Prop
 |mk (p xs i v) (aC:x=.ref p) (aS:y=.int i) (bb:aB K H p xs) (bL:dO xs i=some v) (cD:Q v H):P7 K x y H Q
def AZ(K:ah):R2:=λx y H Q=>P7 K x y H Q
inductive P8(x:V)(y:V)(H:Hp)(Q:VK):Prop
 |mk (z i c) (aC:x=.str z) (aS:y=.int i) (bb:z.length<=sizeLine) (bL:dO z.cps.toList i=some c) (cD:Q (.str ⟨#[c]⟩) H):P8 x y H Q
def Sg:R2:=λx y H Q=>P8 x y H Q
def Gu:iX X (u6 X.K):=by
 intro value slice pins s σ H x y v u Q I rx ry h hs;obtain⟨p,xs,i,z,rfl,rfl,hq,he,q⟩:=h;cases rx;obtain⟨t,rfl⟩:=ry;obtain⟨ai,r,pl,hz⟩:=I.list hq;obtain⟨j,h1,h2,h3,h4,h5⟩:=Gs he;obtain⟨w,ew,gn⟩:=r.get h2;have hl:=r.length;have hn:=rZ;have fin:EP X pins σ Q w s:=⟨z,H,I,gn,q⟩;by_cases h0:0<=i
 ·have hj:i.toNat=j:=by
   rw[seqIndex_of h0 h5] at h1;exact Yn h1
  exact item_listR pl.isList h0 (by omega) (by rw[hj];simpa using ew) fin hs
 ·have hj:(i+(ai.toArray.size:Int)).toNat=j:=by
   rw[seqIndex_neg (by omega) h4] at h1
   grind
  exact subscriptTail_builtinR (x:=w) pl.isList.typeIs slot_list_getitem.lookup
   (wpAny_getItem_list_neg pl.isList (by omega) (by rw[Yv]<;>omega) (by omega) (by rw[hj];simpa using ew) ⟨rfl,fin⟩) hs
def P9:iX X (AZ X.K):=by
 intro value slice pins s σ H x y v u Q I rx ry h hs;obtain⟨p,xs,i,z,rfl,rfl,hq,he,q⟩:=h;cases rx;obtain⟨t,rfl⟩:=ry;obtain⟨ai,r,pl,hz⟩:=I.tuple hq;obtain⟨j,h1,h2,h3,h4,h5⟩:=Gs he;obtain⟨w,ew,gn⟩:=r.get h2;have hn:=rZ;exact subscriptTail_builtinR pl.typeIs slot_tuple_getitem.lookup
  (getItem_tuple pl (by omega) (by omega) (by rw[Yv,←r.length];exact h1) (by simpa using ew) ⟨rfl,⟨z,H,I,gn,q⟩⟩) hs
def xl:iX X Sg:=by
 intro value slice pins s σ H x y v u Q I rx ry h hs;obtain⟨z,i,c,rfl,rfl,hz,he,q⟩:=h;obtain⟨t,rfl⟩:=rx;obtain⟨t',rfl⟩:=ry;obtain⟨j,h1,h2,h3,h4,h5⟩:=Gs he;have hl:z.cps.toList.length=z.length:=by simp[Str.length]
 rw[hl] at h1 h4 h5;have hn:=rZ;exact tail_any (typeIs_str s z t) slot_str_getitem.lookup (getItem_str (by
  rw[(decide_eq_false (by omega)),(decide_eq_false (by omega)),Bool.or_false]) (by rw[h1];simpa using h2) ⟨.str ⟨#[c]⟩,H,I.tok _,⟨_,rfl⟩,q⟩) hs
def JO(K:ah):R2:=λx y H Q=>u6 K x y H Q\/AZ K x y H Q\/Sg x y H Q
def Zea:iX X (JO X.K):=Gu.or (P9.or xl)
def Zz(ai:List Value)(n j:Nat)(u:Value):Obj.mapSeq (·.setIfInBounds j u) {cls:=.type "list",data:=.seq ai.toArray n}={cls:=.type "list",data:=.seq (ai.set j u).toArray n}:=by
 simp[Obj.mapSeq]
def Inv.lst{pins:aU}{σ:St}{H:Hp}{s:Shared}{p:Addr}{xs:List V}(I:Inv X pins σ H s)(h:H p=some (.lst xs)):
  ∃(ai:List Value) (n:Nat),Vals xs ai/\s.heap.get? p=some {cls:=.type "list",data:=.seq ai.toArray n}/\xs.length<=sizeLine:=by
 obtain⟨z,ai,n,r,e⟩:=I.aw p _ h
 grind
def Inv.Zeb{pins:aU}{σ:St}{H:Hp}{s:Shared}{p:Addr}{xs ys:List V}{ai its':List Value}{n n':Nat}{f:Obj->Obj}(I:Inv X pins σ H s)(h:H p=some (.lst xs))
  (ho:s.heap.get? p=some {cls:=.type "list",data:=.seq ai.toArray n})(hf:f {cls:=.type "list",data:=.seq ai.toArray n}={cls:=.type "list",data:=.seq its'.toArray n'})(r:Vals ys its')(hz:ys.length<=sizeLine)(t:Nat):
  Inv X pins σ (upd H p (.lst ys)) {s with heap:=s.heap.update p f,toks:=t}:=by
 have e:(s.heap.update p f).get? p=some {cls:=.type "list",data:=.seq its'.toArray n'}:=by
  rw[Wn f ho (by rw[hf]<;>rfl),hf]
 refine I.write (x:=p) (e:=p) (by rw[h];trivial) (.inl rfl) (λb u hb q=>(Wa _ _ (Ne.symm hb)).trans q) ⟨_,e⟩ ?_;exact⟨hz,its',n',r,e⟩
def ZfF:V->V->V->Hp->(Hp->Prop)->Prop:=λo i v H Q=>∃p xs k j,o=.ref p/\i=.int k/\H p=some (.lst xs)/\lG xs.length k=some j/\Q (upd H p (.lst (xs.set j v)))
def set_list:sH X ZfF:=by
 rintro pins s σ H o i v ov iv u Q I ro ri rv ⟨p,xs,k,j,rfl,rfl,hp,hj,q⟩;cases ro;obtain⟨t,rfl⟩:=ri;obtain⟨ai,n,r,ho,hz⟩:=I.lst hp;obtain⟨h1,h2,h3,h4⟩:=Gr hj;have hl:=r.length;have hn:=rZ;have I':Inv X pins σ (upd H p (.lst (xs.set j v))) {s with heap:=s.heap.update p (Obj.mapSeq (·.setIfInBounds j u))}:=
  I.Zeb hp ho (Zz ai n j u) (r.set rv j) (by rw[W4];exact hz) s.toks
 by_cases h0:0<=k
 ·have hk:k.toNat=j:=by
   rw[seqIndex_of h0 h4] at h1
   grind
  exact PySem.W.ki_setAt ho h0 (by omega) (by rw[Yv,←hl];exact h4) (by rw[hk];exact⟨_,I',q⟩)
 ·have hk:(k+(ai.toArray.size:Int)).toNat=j:=by
   rw[seqIndex_neg (by omega) h3] at h1
   grind
  exact PySem.W.ki_setBack ho (by omega) (by rw[Yv,←hl];exact h3) (by omega) (by rw[hk];exact⟨_,I',q⟩)
theorem XA(lo hi:Option Int)(n:Nat):(sliceBounds lo hi none n).1=((HT.fh n 0 lo:Nat):Int)/\(sliceBounds lo hi none n).2.1=((HT.fh n n hi:Nat):Int)/\(sliceBounds lo hi none n).2.2=1:=by
 refine⟨?_,?_,rfl⟩
 ·cases lo with
  |none=>rfl
  |some i=>
   simp only[sliceBounds,HT.fh]
   grind
 ·cases hi with
  |none=>rfl
  |some i=>
   simp only[sliceBounds,HT.fh]
   grind
def Xg(ai:List Value)(lo hi:Option Int):slicePick ai.toArray lo hi none=((ai.drop (HT.fh ai.length 0 lo)).take (HT.fh ai.length ai.length hi-HT.fh ai.length 0 lo)).toArray:=by
 obtain⟨h1,h2,h3⟩:=XA lo hi ai.toArray.size;unfold slicePick;rw[h1,h2,h3];simp only[sliceRange_one,pick_run]<;>rfl
def Zgx(K:ah):V->Option Int->Option Int->Hp->VK->Prop:=λx lo hi H Q=>∃a xs,x=.ref a/\ak K H a xs/\∀p,H p=none->Q (.ref p) (upd H p (.lst (mC xs lo hi)))
def ZcQ:vD X (Zgx X.K):=by
 rintro pins s σ H x v vl vu lo hi sl Q I rx hs pl pu ⟨a,xs,rfl,hx,q⟩;cases rx;obtain⟨ai,r,ht,hz⟩:=I.list hx;have hlen:=r.length;refine⟨"list",_,slot_list_getitem.lookup,ht.isList.typeIs,wpAny_getItem_list_slice ht.isList hs pl pu .none (by simp) ?_ (by rw[Yv]<;>omega)⟩;rw[Xg,←hlen];refine⟨.ref s.heap.objs.size,_,I.laid (o:=.lst (mC xs lo hi)) (λb ob q=>Yb _ q) (Yd _) ?_,rfl,q _ (I.aw.fresh (Yd _))⟩;exact⟨Y0 (L8 xs lo hi) hz,_,0,(r.drop (HT.fh xs.length 0 lo)).take (HT.fh xs.length xs.length hi-HT.fh xs.length 0 lo),Yu _ rfl⟩
def jn:V->Bool
 |.az=>true
 |.bl _=>true
 |.int _=>true
 |.str _=>true
 |_=>false
def jL:V->V->Bool
 |.az,.az=>true
 |.bl a,.bl b=>a==b
 |.bl a,.int b=>(if a then 1 else 0)==b
 |.int a,.bl b=>a==(if b then 1 else 0)
 |.int a,.int b=>a==b
 |.str a,.str b=>a==b
 |_,_=>false
theorem P_{A:Around}{s:Shared}{y x:V}{u v:Value}(ry:RelV y u)(rx:RelV x v)(fy:jn y=true)(fx:jn x=true):SeqAt.EqAt A s u v (jL y x):=by
 cases y with
 |az=>
  cases ry;cases x with
  |az=>cases rx;exact SeqAt.EqAt.same _
  |bl b=>cases rx;exact SeqAt.EqAt.none_bool b
  |int b=>obtain⟨t,rfl⟩:=rx;exact SeqAt.EqAt.none_int b t
  |str b=>obtain⟨t,rfl⟩:=rx;exact SeqAt.EqAt.none_str b t
  |_=>exact absurd (show false=true from fx) Yj
 |bl a=>
  cases ry;cases x with
  |az=>cases rx;exact SeqAt.EqAt.bool_none a
  |bl b=>cases rx;exact SeqAt.EqAt.bool_bool a b
  |int b=>obtain⟨t,rfl⟩:=rx;exact SeqAt.EqAt.bool_int a b t
  |str b=>obtain⟨t,rfl⟩:=rx;exact SeqAt.EqAt.bool_str a b t
  |_=>exact absurd (show false=true from fx) Yj
 |int a=>
  obtain⟨t',rfl⟩:=ry;cases x with
  |az=>cases rx;exact SeqAt.EqAt.int_none a t'
  |bl b=>cases rx;exact SeqAt.EqAt.int_bool a t' b
  |int b=>obtain⟨t,rfl⟩:=rx;exact SeqAt.EqAt.int_int a t' b t
  |str b=>obtain⟨t,rfl⟩:=rx;exact SeqAt.EqAt.int_str a t' b t
  |_=>exact absurd (show false=true from fx) Yj
 |str a=>
  obtain⟨t',rfl⟩:=ry;cases x with
  |az=>cases rx;exact SeqAt.EqAt.str_none a t'
  |bl b=>cases rx;exact SeqAt.EqAt.str_bool a t' b
  |int b=>obtain⟨t,rfl⟩:=rx;exact SeqAt.EqAt.str_int a t' b t
  |str b=>obtain⟨t,rfl⟩:=rx;exact SeqAt.EqAt.str_str a t' b t
  |_=>exact absurd (show false=true from fx) Yj
 |_=>exact absurd (show false=true from fy) Yj
def iq(x:V)(u:Value):Bool:=match u with
 |.none=>jL .az x
 |.bool b=>jL (.bl b) x
 |.int i _=>jL (.int i) x
 |.str z _=>jL (.str z) x
 |_=>false
theorem Qa{x y:V}{u:Value}(r:RelV y u)(f:jn y=true):iq x u=jL y x:=by
 cases y with
 |az=>cases r;rfl
 |bl b=>cases r;rfl
 |int i=>obtain⟨t,rfl⟩:=r;rfl
 |str z=>obtain⟨t,rfl⟩:=r;rfl
 |_=>exact absurd (show false=true from f) Yj
theorem wX{x:V}:∀{xs:List V} {us:List Value},Vals xs us->xs.all jn=true->us.any (iq x)=xs.any λy=>jL y x
 |_,_,.nil,_=>rfl
 |y::xs,u::us,.cons r t,f=>by
  rw[Jg,Wl] at f;rw[Jm,Jm,Qa r f.1,wX t f.2]
theorem wW{A:Around}{s:Shared}{x:V}{v:Value}(rx:RelV x v)(fx:jn x=true):∀{xs:List V} {us:List Value},Vals xs us->xs.all jn=true->∀u∈us,SeqAt.EqAt A s u v (iq x u):=by
 intro xs us h;induction h with
 |nil=>intro _ u hu;cases hu
 |cons r t ih=>
  intro f u' hu;rw[Jg,Wl] at f;rcases Yp.mp hu with rfl|hu;·rw[Qa r f.1];exact P_ r rx f.1 fx
  ·exact ih f.2 u' hu
def fq(x:V)(xs:List V):Bool:=xs.any λy=>jL y x
def yh(K:ah)(neg:Bool):R2:=λx y H Q=>∃p xs,y=.ref p/\(ak K H p xs\/aB K H p xs)/\jn x=true/\xs.all jn=true/\Q (.bl (if neg then !fq x xs else fq x xs)) H
def Zax:cG X (compareOp .In) (yh X.K false):=by
 rintro pins s σ H x y v u Q I rx ry ⟨p,xs,rfl,hq,fx,fs,q⟩;cases ry;rcases hq with hq|hq
 ·obtain⟨ai,r,pl,hz⟩:=I.list hq;refine SeqAt.in_listAt (iq x) pl.isList (λw hw=>wW rx fx r fs w (by simpa using hw)) ⟨.bl _,H,I,rfl,?_⟩;rw[show ai.toArray.any (iq x)=ai.any (iq x) by simp,wX r fs];exact q
 ·obtain⟨ai,r,pl,hz⟩:=I.tuple hq;refine SeqAt.in_tupleAt (iq x) pl (λw hw=>wW rx fx r fs w (by simpa using hw)) ⟨.bl _,H,I,rfl,?_⟩;rw[show ai.toArray.any (iq x)=ai.any (iq x) by simp,wX r fs];exact q
def XD:cG X (compareOp .NotIn) (yh X.K true):=by
 rintro pins s σ H x y v u Q I rx ry ⟨p,xs,rfl,hq,fx,fs,q⟩;cases ry;rcases hq with hq|hq
 ·obtain⟨ai,r,pl,hz⟩:=I.list hq;refine SeqAt.notIn_listAt (iq x) pl.isList (λw hw=>wW rx fx r fs w (by simpa using hw)) ⟨.bl _,H,I,rfl,?_⟩;rw[show ai.toArray.any (iq x)=ai.any (iq x) by simp,wX r fs];exact q
 ·obtain⟨ai,r,pl,hz⟩:=I.tuple hq;refine SeqAt.notIn_tupleAt (iq x) pl (λw hw=>wW rx fx r fs w (by simpa using hw)) ⟨.bl _,H,I,rfl,?_⟩;rw[show ai.toArray.any (iq x)=ai.any (iq x) by simp,wX r fs];exact q
def L0:c7 X (.builtin "len") (λxs H Q=>∃p ys,xs=[.ref p]/\(ak X.K H p ys\/aB X.K H p ys)/\Q (.int ys.length) H):=by
 rintro pins s σ H xs us Q I r ⟨p,ys,rfl,hq,q⟩;obtain⟨u,rfl,rx⟩:=vals1 r;cases rx;have hn:=rZ;rcases hq with hq|hq
 ·obtain⟨ai,r',pl,hz⟩:=I.list hq;have hlen:=r'.length;exact Calls.call_len_list pl.isList (by simp only[Yv]<;>omega) ⟨.int ys.length,H,I.tok _,⟨s.toks+1,by rw[Yv,hlen]⟩,q⟩
 ·obtain⟨ai,r',pl,hz⟩:=I.tuple hq;have hlen:=r'.length;exact len_tuple pl (by simp only[Yv]<;>omega) ⟨.int ys.length,H,I.tok _,⟨s.toks+1,by rw[Yv,hlen]⟩,q⟩
def XE:c7 X (.builtin "len") (λxs H Q=>∃z,xs=[.str z]/\z.length<=sizeLine/\Q (.int z.length) H):=by
 rintro pins s σ H xs us Q I r ⟨z,rfl,hz,q⟩;obtain⟨u,rfl,t,rfl⟩:=vals1 r;have hn:=rZ;exact len_str (by omega) ⟨.int z.length,H,I.tok _,⟨_,rfl⟩,q⟩
def ud:c7 X (.type "tuple") (λxs H Q=>∃p ys,xs=[.ref p]/\((ak X.K H p ys/\∀l,H l=none->Q (.ref l) (upd H l (.tup ys)))\/(aB X.K H p ys/\Q (.ref p) H))):=by
 rintro pins s σ H xs us Q I r ⟨p,ys,rfl,h⟩;obtain⟨u,rfl,rx⟩:=vals1 r;cases rx;rcases h with⟨hq,q⟩|⟨hq,q⟩
 ·obtain⟨ai,r',pl,hz⟩:=I.list hq;have hlen:=r'.length;refine call_tuple_list pl.isList (λh' kp=>?_) (by simp only[Yv]<;>omega);have I1:=I.kept (t':=s.toks) kp;have I2:Inv X pins σ (upd H h'.objs.size (.tup ys)) {s with heap:=h'.push {cls:=.type "tuple",data:=.seq ai.toArray}}:=
   I1.laid (λb o e=>Yb _ e) (Yd _) (show cJ X.prog X.w _ _ _ (.tup ys) from⟨hz,ai,r',ni.new _ _⟩)
  exact⟨.ref h'.objs.size,_,I2,rfl,q _ (I1.aw.fresh (Yd _))⟩
 ·obtain⟨ai,r',pl,hz⟩:=I.tuple hq;exact call_tuple_same pl ⟨.ref p,H,I,rfl,q⟩
def JP(K:ah)(T:String)(x:V)(H:Hp):Prop:=match x with
 |.str _=>T="str"
 |.int _=>T="int"
 |.ref p=>(T="list"/\∃xs,ak K H p xs)\/(T="tuple"/\∃o,K.lookup p=some o/\o.cls=.type "tuple"/\o.dict=none)\/
   (T="dict"/\((∃kvs,H p=some (.dK kvs))\/∃kvs,H p=some (.dT kvs)))\/(T="set"/\∃S n,H p=some (.set S n))
 |_=>False
theorem Qb{pins:aU}{σ:St}{H:Hp}{s:Shared}{T:String}{x:V}{v:Value}(I:Inv X pins σ H s)(r:RelV x v)(ty:JP X.K T x H):
  s.TypeIs v T/\∀a,v=.ref a->∃ob,s.heap.get? a=some ob/\ob.dict=none:=by
 cases x with
 |str z=>
  obtain⟨t,rfl⟩:=r;cases(show T="str" from ty);exact⟨typeIs_str s z t,λ_ e=>nomatch e⟩
 |int i=>
  obtain⟨t,rfl⟩:=r;cases(show T="int" from ty);exact⟨typeIs_int s i t,λ_ e=>nomatch e⟩
 |ref p=>
  cases r;rcases ty with⟨rfl,xs,hq⟩|⟨rfl,o,hk,hc,hd⟩|⟨rfl,hk⟩|⟨rfl,S,n,hk⟩
  ·obtain⟨ai,_,pl,_⟩:=I.list hq;refine⟨pl.isList.typeIs,λa e=>?_⟩;obtain⟨o,n,e,c,hd,_⟩:=pl
   grind
  ·refine⟨⟨o,I.bZ p o hk,hc⟩,λa e=>?_⟩;cases e;exact⟨o,I.bZ _ o hk,hd⟩
  ·have z:∃o,s.heap.get? p=some o/\o.ExactDict:=by
    rcases hk with⟨kvs,hk⟩|⟨kvs,hk⟩
    ·obtain⟨_,_,_,_,o,_,_,e,ex,_⟩:=I.aw p _ hk;exact⟨o,e,ex⟩
    ·obtain⟨_,_,_,_,o,_,_,e,ex,_⟩:=I.aw p _ hk;exact⟨o,e,ex⟩
   obtain⟨o,e,ex⟩:=z;refine⟨⟨o,e,ex.1⟩,λa e2=>?_⟩;cases e2;exact⟨o,e,ex.2.1⟩
  ·obtain⟨o,_,_,_,e,ex,_⟩:=I.aw p _ hk;refine⟨⟨o,e,ex.1⟩,λa e2=>?_⟩;cases e2;exact⟨o,e,ex.2.1⟩
 |_=>exact False.elim ty
def Ik(K:ah)(T:String)(r:V->List V->Hp->VK->Prop)(to:TE):TE:=λσ H Q=>to σ H λx H1=>JP K T x H1/\r x [] H1 Q
def yi(K:ah)(T:String)(r:V->List V->Hp->VK->Prop)(to:TE)(t:TA):TE:=λσ H Q=>to σ H λx H1=>JP K T x H1/\t σ H1 λxs H2=>r x xs H2 Q
variable {o e:Expr}{es:List Expr}{to:TE}{t:TA}{name:Str}{apos cy:Pos}{T id:String}{r:V->List V->Hp->VK->Prop}
def Zec(pa:PlainAttrs T)(slot:Slot T name id)(JQ:typeOf (.builtin id)=pure (.type "method_descriptor"))(hm:Tx X id r)(ho:PE X o to)
  (sr:attributeBase o name X.env (eval o X.env)=eval o X.env:=by rfl)(su:(apos.endLine==cy.line)=true:=by rfl):PE X (.Call (.Attribute o name apos) [] [] cy) (Ik X.K T r to):=by
 intro pins s σ H Q I h;refine wpAny_Call_method0_late sr su (ay (ho pins s σ H _ I h) λv s1 zq=>?_);obtain⟨x,H1,I1,r1,ty,q1⟩:=zq;obtain⟨h1,h2⟩:=Qb I1 r1 ty;exact⟨T,id,pa,slot,JQ,h1,h2,Calls.callWith_builtin rfl (PySem.evalArgs_none (hm pins s1 σ H1 x [] v [] Q I1 r1 .nil q1))⟩
def ka(pa:PlainAttrs T)(slot:Slot T name id)(JQ:typeOf (.builtin id)=pure (.type "method_descriptor"))(hm:Tx X id r)(ho:PE X o to)(ha:PA X (e::es) t)
  (sr:attributeBase o name X.env (eval o X.env)=eval o X.env:=by rfl)
  (Il:((backTo cy (starEach (e::es) X.env)).all (λx=>!x.1)&&(backToKw cy (keywordEach [] X.env)).all (λx=>x.1.isSome)
   &&decide ((e::es).length+([]:List Keyword).length+(if([]:List Keyword).isEmpty then 0 else 1)<30))=true:=by rfl)
  (su:(apos.endLine==cy.line)=true:=by rfl)(hs:ik X e es:=by rfl)(Zed:iV X cy es:=by rfl):
  PE X (.Call (.Attribute o name apos) (e::es) [] cy) (yi X.K T r to t):=by
 intro pins s σ H Q I h;refine wpAny_Call_method_late sr Il su rfl (ay (ho pins s σ H _ I h) λv s1 zq=>?_);obtain⟨x,H1,I1,r1,ty,q1⟩:=zq;obtain⟨h1,h2⟩:=Qb I1 r1 ty;refine⟨T,id,pa,slot,JQ,h1,h2,?_⟩;have hA:=ha cy pins s1 σ H1 _ I1 q1;rw[hs] at hA⊢;exact Calls.callWith_builtin (by show(false||(backTo cy (starEach es X.env)).any (·.1))=false;rw[Zed]<;>rfl) (Calls.evalArgs_plain (ay hA λus s2 ⟨vs,H2,I2,r2,q2⟩=>hm pins s2 σ H2 x vs v us Q I2 r1 r2 q2))
end
def nO(X:Cx)(id:String)(r:V->List V->Hp->VK->Prop):Prop:=
 ∀(pins:aU) (s:Shared) (σ:St) (H:Hp) (x:V) (xs:List V) (v:Value) (us:List Value) (Q:VK),Inv X pins σ H s->RelV x v->Vals xs us->r x xs H Q->
  wpAny X.md X.A (call (.builtin id) (v::us)) (EP X pins σ Q) X.xe s
theorem Vals.one:∀{x:V} {us:List Value},Vals [x] us->∃u,us=[u]/\RelV x u:=by
 intro x us h;cases h with
 |cons r t=>
  cases t;exact⟨_,rfl,r⟩
theorem Vals.zero:∀{us:List Value},Vals [] us->us=[]
 |_,.nil=>rfl
theorem Vals.eraseIdx:∀{xs:List V} {us:List Value} (i:Nat),Vals xs us->Vals (xs.eraseIdx i) (us.eraseIdx i)
 |_,_,_,.nil=>.nil
 |_,_,0,.cons _ t=>t
 |_,_,i+1,.cons r t=>.cons r (Vals.eraseIdx i t)
section
variable {X:Cx}{pins:aU}{σ:St}{H:Hp}{s:Shared}{l b:Addr}{xs ys zs:List V}
def Inv.A0{ai its':List Value}{n:Nat}{f:Array Value->Array Value}{t':Nat}(I:Inv X pins σ H s)(hH:H l=some (.lst xs))
  (e:s.heap.get? l=some {cls:=.type "list",data:=.seq ai.toArray n})(hf:f ai.toArray=its'.toArray)(hv:Vals ys its')(hz:ys.length<=sizeLine):
  Inv X pins σ (upd H l (.lst ys)) {s with heap:=s.heap.update l (Obj.mapSeq f),toks:=t'}:=by
 have q:=PySem.IsL.update e f;rw[hf] at q;refine I.write (by rw[hH];exact trivial) (.inl rfl) (λb' u hb hu=>(Wa s.heap (Obj.mapSeq f) (Ne.symm hb)).trans hu) ⟨_,q⟩ ?_;exact⟨hz,its',_,hv,q⟩
def Inv.Zgy{ai:List Value}{t':Nat}(I:Inv X pins σ H s)(hv:Vals ys ai)(hz:ys.length<=sizeLine):
  Inv X pins σ (upd H s.heap.objs.size (.lst ys)) {s with heap:=s.heap.push {cls:=.type "list",data:=.seq ai.toArray},toks:=t'}:=
 I.laid (λ_ _ q=>Yb _ q) (Yd _) ⟨hz,ai,0,hv,Yu _ rfl⟩
def Inv.fresh(I:Inv X pins σ H s):H s.heap.objs.size=none:=I.aw.fresh (Yd _)
def Inv.sM(I:Inv X pins σ H s)(hH:H l=some (.lst xs)):xs.length<=sizeLine/\∃(ai:List Value) (n:Nat),Vals xs ai/\xs.length=ai.length/\s.heap.get? l=some {cls:=.type "list",data:=.seq ai.toArray n}:=by
 obtain⟨z,ai,n,r,e⟩:=I.aw l _ hH;exact⟨z,ai,n,r,r.length,e⟩
def Zbp{n:Nat}(h:n<=sizeLine):Builtin.List.listTooLong n=false:=by
 exact decide_eq_false (by omega)
end
section
variable {X:Cx}
def ZcR:V->List V->Hp->VK->Prop:=λx vs H Q=>∃l xs y,x=.ref l/\vs=[y]/\H l=some (.lst xs)/\xs.length<sizeLine/\Q .az (upd H l (.lst (xs++[y])))
def wR:nO X "list.append" ZcR:=by
 intro pins s σ H x vs v us Q I rx rv h;obtain⟨l,xs,y,rfl,rfl,hH,hz,q⟩:=h;cases rx;obtain⟨u,rfl,ru⟩:=rv.one;obtain⟨z,ai,n,r,hl,e⟩:=I.sM hH;refine call_meets F.slot_list_append ⟨_,e,rfl⟩ F.entry_list_append (F.args_list_append_2 _ _) (PySem.list_append l ai.toArray n u (by rw[Yv];omega)) ⟨e,?_⟩;refine⟨.az,_,I.A0 (its':=ai++[u]) hH e (by simp) (r.append (.cons ru .nil)) ?_,rfl,q⟩
 grind
def ZcS:V->List V->Hp->VK->Prop:=λx vs H Q=>∃l b xs zs,x=.ref l/\vs=[.ref b]/\H l=some (.lst xs)/\H b=some (.lst zs)/\xs.length+zs.length<=sizeLine/\Q .az (upd H l (.lst (xs++zs)))
def Zay:nO X "list.extend" ZcS:=by
 rintro pins s σ H x vs v us Q I rx rv ⟨l,b,xs,zs,rfl,rfl,hH,hB,hz,q⟩;cases rx;obtain⟨u,rfl,ru⟩:=rv.one;cases ru;obtain⟨z,ai,n,r,hl,e⟩:=I.sM hH;obtain⟨z2,iR,n2,r2,vE,e2⟩:=I.sM hB;have hsz:ai.toArray.size+iR.toArray.size<=sizeLine:=by rw[Yv,Yv];omega
 have ZfG:¬(!ai.toArray.isEmpty&&Builtin.List.listTooLong (ai.toArray.size+iR.toArray.size))=true:=by
  rw[Zbp hsz,Bool.and_false]
  grind
 refine call_meets F.slot_list_extend ⟨_,e,rfl⟩ F.entry_list_extend (F.args_list_extend_2 _ _)
  (AutoSeq1.list_extend_list_list_0 l ai.toArray n b iR.toArray n2 ZfG (by rw[Yv];omega) (by omega)) ⟨e,e2,?_⟩
 refine⟨.az,_,I.A0 hH e (by simp) (r.append r2) ?_,rfl,q⟩
 grind
def Zee:V->List V->Hp->VK->Prop:=λx vs H Q=>∃l xs i k y,x=.ref l/\vs=[.int i]/\H l=some (.lst xs)/\-(2^63)<=i/\i<2^63/\seqIndex? i xs.length=some k/\xs[k]?=some y/\Q y (upd H l (.lst (xs.eraseIdx k)))
def Zbq:nO X "list.pop" Zee:=by
 rintro pins s σ H x vs v us Q I rx rv ⟨l,xs,i,k,y,rfl,rfl,hH,h1,h2,hk,hy,q⟩;cases rx;obtain⟨u,rfl,ru⟩:=rv.one;obtain⟨t,rfl⟩:=ru;obtain⟨z,ai,n,r,hl,e⟩:=I.sM hH;obtain⟨w,hw,gn⟩:=r.get hy;refine call_meets F.slot_list_pop ⟨_,e,rfl⟩ F.entry_list_pop (F.args_list_pop_2 _ _)
  (MeetsSeq.list_pop_at l ai.toArray n i t k w (fitsIndex_both h1 h2) (by rw[Yv,←hl];exact hk) (by rw[←J9];exact hw) (by rw[Yv];omega)) ⟨e,?_⟩
 refine⟨y,_,I.A0 hH e ?_ (r.eraseIdx k) ?_,gn,q⟩;·grind
 ·grind
def Zef:V->List V->Hp->VK->Prop:=λx vs H Q=>∃l xs,x=.ref l/\vs=[]/\H l=some (.lst xs)/\Q .az (upd H l (.lst []))
def Zbr:nO X "list.clear" Zef:=by
 rintro pins s σ H x vs v us Q I rx rv ⟨l,xs,rfl,rfl,hH,q⟩;cases rx;have hus:=rv.zero;subst hus;obtain⟨z,ai,n,r,hl,e⟩:=I.sM hH;exact call_meets F.slot_list_clear ⟨_,e,rfl⟩ F.entry_list_clear (F.args_list_clear_1 _) (AutoSeq1.list_clear_list_0 l ai.toArray n (by rw[Yv];omega)) ⟨e,⟨.az,_,I.A0 hH e rfl .nil (Yx _),rfl,q⟩⟩
def Zgz:R2:=λx y H Q=>∃l b xs zs,x=.ref l/\y=.ref b/\H l=some (.lst xs)/\H b=some (.lst zs)/\xs.length+zs.length<=sizeLine/\∀p,H p=none->Q (.ref p) (upd H p (.lst (xs++zs)))
def Zeg:cG X (binaryOp .Add) Zgz:=by
 rintro pins s σ H x y v u Q I rx ry ⟨l,b,xs,zs,rfl,rfl,hH,hB,hz,q⟩;cases rx;cases ry;obtain⟨z,ai,n,r,hl,e⟩:=I.sM hH;obtain⟨z2,iR,n2,r2,vE,e2⟩:=I.sM hB;refine PySem.P.add_list e e2 ?_ (by rw[Yv,Yv];omega);have ea:ai.toArray++iR.toArray=(ai++iR).toArray:=by simp
 rw[ea];exact⟨.ref _,_,I.Zgy (r.append r2) (by rw[Yi];omega),rfl,q _ I.fresh⟩
end
section
variable {prog:Program}{w:World}{A:Around}{E:a8}{s:Shared}
set_option maxRecDepth 100000 in
end
section
variable {X:Cx}
end
end L2
namespace Tz
open PySem PySem.W PySem.Calls PyProof.Rows
theorem WE{P:Params}{h:Heap}:∀(ns:List Int) (vs:List Value),WellAll P h vs (ns.map WData.int)->IntsAre vs ns:=by
 intro ns;induction ns with
 |nil=>
  intro vs w;cases w;exact .nil
 |cons n ns ih=>
  intro vs w;cases w with
  |cons a b=>
   cases a;exact .cons _ _ (ih _ b)
theorem Zaz{l:OpenLaw}{n:Nat}(hn:l.most=some n){P:Params}{h:Heap}{args:List WData}{vals:List Value}
  (A1:l.row.toRowW.claim.pre args=true)(yj:WellAll P h vals args):
  ∃a vs ns,vals=[Value.ref a]/\args=[WData.list (ns.map WData.int)]/\h.get? a=some {cls:=.type "list",data:=.seq vs.toArray}/\IntsAre vs ns/\ns.length<=n:=by
 obtain⟨d,r,rfl,h1,h2⟩:=hasAllW_cons ((pre_splitW A1).1);obtain rfl:=hasAllW_nil h2;obtain⟨xs,rfl,h3⟩:=hasW_list h1;obtain⟨ns,rfl⟩:=items_int h3;have hlen:ns.length<=n:=by
  have h4:(WTm.not (.lt (.lit (.int (n:Int))) (.len (.arg 0)))).holds [] {args:=[.list (ns.map .int)]}=true:=by
   have h4:=(holds_andW ((pre_splitW A1).2)).1;rw[hn] at h4;exact h4
  have h5:=condW_of h4 (w_not (w_lt w_lit (w_len_list (w_arg rfl))))
  grind
 cases yj with
 |cons w1 w2=>
  cases w2;cases w1 with
  |list ho Im=>exact⟨_,_,ns,rfl,rfl,ho,WE ns _ Im,hlen⟩
def ZaA(l:OpenLaw)(args:List WData):l.row.toRowW.claim.post args (.bool true) args=true:=
 postW_of (X:=(true==true))
  (show WShape.has [] (.bool true) .bool=true by first|rfl|decide|simp[WShape.has])
  (show(WTm.eq .res (.lit (.bool true))).value [] {args:=args,res:=some (.bool true),after:=args}=some (.bool (true==true)) from w_eq_bool (w_res rfl) w_lit) rfl
def YE{l:OpenLaw}{n:Nat}{q:Program}{loose:List Str}{XP:(Str->Option Value)->Heap->Prop}{YP:World->Heap->Prop}{d:DefRec}
  (hn:l.most=some n)(yk:d.params.defaults=[])
  (call:∀(w:World) (cX bI:Shared) (mg mb:aQ) (fa:Addr) (o:Obj) (pm cd doc:Value) (a:Addr) (vs:List Value) (ns:List Int),
   Ground q loose [] XP w cX mg mb bI.heap->YP w bI.heap->
   bI.heap.get? fa=some o->o.data=.func (docDef d.name d.params d.body d.scope pm cd doc)->bI.heap.CodeRec cd d.name->mg d.name=some (.ref fa)->
   bI.heap.get? a=some {cls:=.type "list",data:=.seq vs.toArray}->IntsAre vs ns->ns.length<=n->bI.gens=#[]->
   codeAny (model l.prog w) callerA (.call (.ref fa) ⟨[.ref a],[]⟩) (λr s'=>r=.ok (.ret (.bool true))/\OldK bI.heap s'.heap/\s'.os=bI.os/\AllBare s'.gens) bI):
  WalkO q loose XP YP l.row.toRowW d [] (λf vs=>PySem.call f vs):=by
 intro w cX bI mg mb G Y fa o pm cd doc dV kV ho hd e_ hD yn hg args vals as A1 ZiJ hrd yj hlo;obtain rfl:dV=.none:=Dflts.none hD yk;obtain rfl:kV=.none:=Dflts.noKw hD;obtain⟨a,vs,ns,rfl,rfl,Io,hints,hlen⟩:=Zaz hn A1 yj;refine enter_call (codeAny_mono (call w cX bI mg mb fa o pm cd doc a vs ns G Y ho (fd_plain hd) e_ yn Io hints hlen hg) λr s' hq=>?_);obtain⟨rfl,h2,h3,h4⟩:=hq;exact⟨.inl ⟨.bool true,.bool true,[],rfl,λ_=>rfl,.bool true,ZaA l _,λ_=>⟨List.Pairwise.nil,λ_ hm=>(nomatch hm)⟩⟩,h2,h3,h4⟩
section
variable {prog:Program}{w:World}{A:Around}{E:a8}{s:Shared}{K:Frag}
end
end Tz
namespace L2
open PySem PySem.Spec PyProof.Rows
theorem MT:∀{vs:List Value} {ns:List Int},IntsAre vs ns->Vals (ns.map V.int) vs:=by
 intro vs ns h;induction h with
 |nil=>exact .nil
 |cons n t h ih=>exact .cons ⟨t,rfl⟩ ih
def Ip(H:Hp):Prop:=∀b,H b=none\/∃o xs,H b=some (.cA o (.lst xs))
theorem Zbs{P:Program}{w:World}{K:ah}{mg mb:aQ}{CX:ku}{k:Nat}{fa a:Addr}{fd:FuncData}{x:Str}{sp:Sp}{bI:Shared}{vs:List Value}{ns:List Int}
  (KX:K.In bI.heap)(TB:bI.heap.Ns mainGlobals mg)(hb:bI.heap.Ns builtinsNs mb)(hbb:∀x:Str,x≠"__name__"->mb x=bootBuiltins x)(ZgA:bI.heap.NoLimit)(hg:bI.gens=#[])
  (ha:bI.heap.get? a=some {cls:=.type "list",data:=.seq vs.toArray})(hi:IntsAre vs ns)(hl:ns.length<=sizeLine)(hr:cF k callerA)
  (F:∀base:Heap,K.In base->base.Ns mainGlobals mg->aE P w K mg base CX k fa fd [x] sp)(ZfH:∀(s:Shared) (u:Value),BindsTo s fd ⟨[u],[]⟩ [(x,u)])
  (lF:∀H:Hp,Ip H->ak K H a (ns.map V.int)->sp [.ref a] H (λv _=>v=.bl true) λ_ _ _=>False)
  (JR:∀H e s',CX [] H bI (λ_ _ _=>False) e s'->False):
  codeAny (model P w) callerA (.call (.ref fa) ⟨[.ref a],[]⟩) (λr s'=>r=.ok (.ret (.bool true))/\OldK bI.heap s'.heap/\s'.os=bI.os/\AllBare s'.gens) bI:=by
 have rv:=MT hi;have ZgB:=hi.length
 --from an abstract heap in ZiC nothing but pq PR may be tracked
 have core:∀H:Hp,Ip H->ak K H a (ns.map V.int)->c_ P w H bI.heap->(∀b,H b≠none->b=a)->(H a≠none->K.lookup a=none)->
   codeAny (model P w) callerA (.call (.ref fa) ⟨[.ref a],[]⟩) (λr s'=>r=.ok (.ret (.bool true))/\OldK bI.heap s'.heap/\s'.os=bI.os/\AllBare s'.gens) bI:=by
  intro H hO hS aw hA hK;have OE:∀{b:Addr} {o:Obj},bI.heap.get? b=some o->H b=none->(o_ bI.heap H).get? b=some o:=λe n=>Zbg e n;have kz:∀{b:Addr} {o:Obj} {es:Array DictEntry} {ep:Nat},bI.heap.get? b=some o->o.data=.dict es ep->H b=none:=λ{b o es ep} e d=>by
   cases q:H b with
   |none=>rfl
   |some u=>
    have e':b=a:=hA b (by rw[q];simp);subst e';rw[ha] at e;cases e;have d':Data.seq vs.toArray _=Data.dict es ep:=d;cases d'
  have BR:∀{b:Addr} {m:aQ},bI.heap.Ns b m->(o_ bI.heap H).Ns b m:=λ{b m} ⟨o,es,ep,e,d,r⟩=>⟨o,es,ep,OE e (kz e d),d,r⟩;have TC:K.In (o_ bI.heap H):=λb o e=>OE (KX b o e) (by
   cases q:H b with
   |none=>rfl
   |some u=>
    have e':b=a:=hA b (by rw[q];simp);subst e';rw[hK (by rw[q];simp)] at e;cases e)
  have hM:Mod K mg (o_ bI.heap H):=⟨TC,BR TB,⟨mb,BR hb,hbb⟩,let⟨mc,h1,h2⟩:=ZgA;⟨mc,BR h1,h2⟩⟩;have e0:sJ P w K mg (o_ bI.heap H) callerA [] bI H:=⟨rfl,hM,λb o e=>ZcG e,JM (Zaq _ _),trivial,λb hb=>absurd (show b∈([]:List Addr) from hb) (by simp),aw,.of_eq hg⟩;refine codeAny_mono ((F _ TC (BR TB)).run callerA [] bI H ⟨[.ref a],[]⟩ [.ref a] [.ref a] _ _ hr e0 (ZfH bI (.ref a)) (.cons rfl .nil) (lF H hO hS)) λr s' h=>?_;cases r with
  |error e=>exact(JR H e s' h).elim
  |ok fl=>
   cases fl with
   |next=>exact False.elim h
   |brk=>exact False.elim h
   |cont=>exact False.elim h
   |ret u=>
    obtain⟨v,H',os,bare,un,Iq,r',q⟩:=h;have q':v=.bl true:=q;subst q';obtain rfl:u=Value.bool true:=r';refine⟨rfl,OldK.of_keep λb o e=>?_,os,bare⟩;cases q:H b with
    |none=>exact un.keep b o e q (by intro z;exact absurd (show b∈([]:List Addr) from z) (by simp)) (by simp)
    |some u=>
     rcases hO b with z|⟨ob,xs,z⟩;·rw[q] at z;cases z
     ·have z2:=un.ig b ob _ z;obtain⟨e1,_⟩:=aw b _ z;obtain⟨e2,_⟩:=Iq b _ z2;rw[e] at e1;cases e1;exact e2
 cases hk:K.lookup a with
 |some o=>
  --pq PR is one of pq Ziu own objects
  have e:=KX a o hk;rw[ha] at e;cases e;refine core (λ_=>none) (λ_=>.inl rfl) (.inr ⟨_,vs.toArray,_,hk,rfl,rfl,rfl,by rw[Yv,ZgB];exact hl,by simpa using rv⟩) (λb u z=>by have z':(none:Option HO)=some u:=z;cases z') (λb z=>absurd rfl z) λz=>absurd rfl z
 |none=>
  refine core (λb=>if b=a then some (.cA {cls:=.type "list",data:=.seq vs.toArray} (.lst (ns.map V.int))) else none) (λb=>?_) (.inl (.inr ⟨{cls:=.type "list",data:=.seq vs.toArray},if_pos rfl⟩)) (λb u z=>?_) (λb z=>?_) λ_=>hk
  ·by_cases hb:b=a;·exact .inr ⟨_,_,if_pos hb⟩
   ·exact .inl (if_neg hb)
  ·by_cases hb:b=a
   ·have z':=(if_pos hb).symm.trans z;cases z';subst hb;exact⟨ha,by rw[Ya];exact hl,vs,_,rv,ha⟩
   ·have z':=(if_neg hb).symm.trans z;cases z'
  ·by_cases hb:b=a;·exact hb
   ·exact absurd (if_neg hb) z
def ZcT{l:PySem.W.OpenLaw}{n k:Nat}{q:Program}{loose:List Str}{XP:(Str->Option Value)->Heap->Prop}{YP:World->Heap->Prop}{d:DefRec}{K:Params->ah}{CX:World->ku}{sp:World->Sp}{x:Str}
  (hn:l.most=some n)(fS:n<=sizeLine)(yk:d.params.defaults=[])(hr:cF k callerA)
  (hY:∀(w:World) (h:Heap),YP w h->(K w.params).In h)
  (F:∀(w:World) (mg:aQ) (fa:Addr) (h:Heap),(K w.params).In h->h.Ns mainGlobals mg->mg d.name=some (.ref fa)->
   ∃fd:FuncData,(∀(s:Shared) (u:Value),BindsTo s fd ⟨[u],[]⟩ [(x,u)])/\
    ∀base:Heap,(K w.params).In base->base.Ns mainGlobals mg->aE l.prog w (K w.params) mg base (CX w) k fa fd [x] (sp w))
  (lF:∀(w:World) (H:Hp) (a:Addr) (ns:List Int),ns.length<=n->Ip H->ak (K w.params) H a (ns.map V.int)->sp w [.ref a] H (λv _=>v=.bl true) λ_ _ _=>False)
  (JR:∀(w:World) (H:Hp) (s:Shared) (e:Value) (s':Shared),CX w [] H s (λ_ _ _=>False) e s'->False):
  PySem.W.WalkO q loose XP YP l.row.toRowW d [] (λf vs=>PySem.call f vs):=by
 refine Tz.YE hn yk λw cX bI mg mb fa o pm cd doc a vs ns G Y ho hd e_ yn Io hints hlen hg=>?_;have KX:=hY w _ Y;obtain⟨fd,hb,hF⟩:=F w mg fa _ KX G.T.g yn;exact Zbs KX G.T.g G.T.b G.T.builtins G.T.nolimit hg Io hints (Y0 hlen fS) hr hF hb (λH hO hS=>lF w H a ns hlen hO hS) λH e s'=>JR w H bI e s'
def inClass(s:Stmt)(j:Nat):Stmt:=match s with
 |.ClassDef _ _ _ body _ _ _ _ _ _ _=>body.getD j (.Pass ⟨0,0,0,0⟩)
 |_=>.Pass ⟨0,0,0,0⟩
def kX(s:Stmt):Arguments:=match s with
 |.FunctionDef _ a _ _ _ _ _ _ _ _=>a
 |_=>{posonlyargs:=[],args:=[],vararg:=none,kwonlyargs:=[],kw_defaults:=[],kwarg:=none,defaults:=[]}
def iI(s:Stmt):List Stmt:=match s with
 |.FunctionDef _ _ b _ _ _ _ _ _ _=>b
 |_=>[]
def aF(s:Stmt):Scope:=match s with
 |.FunctionDef _ _ _ _ _ _ sc _ _ _=>sc
 |_=>{kind:=.function,names:=[],isGenerator:=false,isCoroutine:=false}
abbrev aM:ku:=λ_ _ _ _ _ _=>False
abbrev E0:XK:=λ_ _ _=>False
def xF{X:Cx}:Passes aM X E0:=λ_ _ _ _ _ _ _ h=>h.elim
structure aN(K:ah)(x qual:Str)(st:Stmt)(f:Addr)(fd:FuncData):Prop where
 ex:∃(oc:Value) (od:Option Addr) (kV doc pm:Value) (an:Option Addr) (bC ct:Value) (iW:Array (Option Value)),
  fd=fnOf x qual (kX st) (iI st) (aF st) .none kV doc pm an bC ct/\K.lookup f=some ⟨oc,od,.func fd,iW⟩/\codeIn K bC qual=true
 kp:keepIn K (.ref f)=true
section
variable {P:Program}{w:World}{K:ah}{mg:aQ}{base:Heap}
def aN.ok{x qual:Str}{st:Stmt}{f:Addr}{fd:FuncData}{N ps:List Str}{k:Nat}{sp:Sp}(F:aN K x qual st f fd)(S:aP N ps (aF st))(len:∀vs H Q E,sp vs H Q E->vs.length=ps.length)
  (oS:∀(bC:Value) (A:Around) (outer:List Env) (s:Shared) (H:Hp) (vs:List V) (Q:VK) (E:XK),cF k (A.deeper (envOfC qual (aF st) s.heap.objs.size f bC))->sp vs H Q E->
   ∃t,eZ (kh aM P w K mg base N qual (aF st) f bC A outer s H E).nM (iI st) t/\t {nx:=λ_ H'=>Q .az H',rt:=Q} (start N vs) H):aE P w K mg base aM (k+1) f fd ps sp:=by
 obtain⟨oc,od,kV,doc,pm,an,bC,ct,iW,rfl,lk,e_⟩:=F.ex;refine Ho lk e_ S len λA outer s H vs Q E hr lF=>?_;obtain⟨t,h,q⟩:=oS bC A outer s H vs Q E hr lF;exact⟨t,h.nM,q⟩
def aN.binds{x qual:Str}{st:Stmt}{f:Addr}{fd:FuncData}{ps:List Str}(F:aN K x qual st f fd)
  (h:∀(kV doc pm:Value) (an:Option Addr) (bC ct:Value) (us:List Value),us.length=ps.length->bindArgs (fnOf x qual (kX st) (iI st) (aF st) .none kV doc pm an bC ct) ⟨us,[]⟩=pure (ps.zip us)):Binds K fd ps []:=by
 obtain⟨oc,od,kV,doc,pm,an,bC,ct,iW,rfl,lk,e_⟩:=F.ex;exact .all (h kV doc pm an bC ct)
def xm{x qual:Str}{st:Stmt}{f:Addr}{oc:Value}{od an:Option Addr}{iW:Array (Option Value)}{kV doc pm bC ct:Value}(l:K.lookup f=some ⟨oc,od,.func (fnOf x qual (kX st) (iI st) (aF st) .none kV doc pm an bC ct),iW⟩)
  (c:codeIn K bC qual=true)(k:keepIn K (.ref f)=true):aN K x qual st f (fnOf x qual (kX st) (iI st) (aF st) .none kV doc pm an bC ct):=⟨⟨oc,od,kV,doc,pm,an,bC,ct,iW,rfl,l,c⟩,k⟩
end
def bw{A:Around}{k:Nat}(hr:cF k A):A.units+1<cLine:=W9 (Nat.add_le_add_left (by decide:1<=64) _) hr.units
def jV{n:Nat}(h:n<=1000):n<sizeLine:=W9 h (by decide)
section
variable {X:Cx}
def pv(i:Nat){x:Str}{pos:Pos}(hN:X.N[i]?=some x:=by rfl)(hv:sW X.env.scope x:=by first|exact Or.inl rfl|exact Or.inr (Or.inl rfl)|exact Or.inr (Or.inr rfl))(hd:(x==("__debug__":Str))=false:=by decide)
  (e_:(x==("__classdict__":Str))=false:=by decide):PE X (.Name x pos) (fQ i):=Zd1 hN hv hd e_
end
def bW{A B:Prop}(h:B):if false=true then A else B:=by
 grind
def cY{A B:Prop}(h:A):if true=true then A else B:=by
 grind
def bJ{c A B:Prop}[Decidable c](h1:c->A)(h2:¬c->B):if c then A else B:=by
 grind
def uX{c A B:Prop}[Decidable c](hc:c)(h:B):if(!decide c)=true then A else B:=by
 grind
def aj(H H':Hp):Prop:=∀b o,H b=some o->H' b=some o
def aj.refl(H:Hp):aj H H:=λ_ _ h=>h
def aj.trans{H H1 H2:Hp}(a:aj H H1)(b:aj H1 H2):aj H H2:=λc o h=>b c o (a c o h)
theorem aj.free{H H':Hp}(e:aj H H'){l:Addr}(h:H' l=Option.none):H l=Option.none:=by
 cases q:H l with
 |none=>rfl
 |some o=>
  rw[e l o q] at h;cases h
def aj.seq{K:ah}{H H':Hp}{a:Addr}{xs:List V}(e:aj H H')(h:ak K H a xs):ak K H' a xs:=by
 rcases h with(h|⟨o,h⟩)|h;·exact .inl (.inl (e _ _ h))
 ·exact .inl (.inr ⟨o,e _ _ h⟩)
 ·exact .inr h
def qi(cells:List (Str×Addr)):List (Str×Addr)->Prop
 |[]=>True
 |p::r=>cells.lookup p.1=some p.2/\qi cells r
theorem qi.look:∀{cl:List (Str×Addr)},qi cells cl->∀(x:Str) (c:Addr),cl.lookup x=some c->cells.lookup x=some c
 |[],_,x,c,h=>by simp at h
 |(n,a)::r,hh,x,c,h=>by
  rw[Wz] at h;cases e:x==n with
  |true=>
   rw[e] at h;rw[(eq_of_beq e),←(Yn h)];exact hh.1
  |false=>
   rw[e] at h;exact qi.look hh.2 x c h
theorem D4{env:Env}:∀{names:List (Str×NameKind)} {x:Str} {k:NameKind},
  (names.map λ(n,k)=>if(k==NameKind.free&&env.scope.kind==.function&&env.kindOf n==some .cell) then(n,NameKind.cell) else(n,k)).lookup x=some k->
  ∃k0,(x,k0)∈names/\(k=k0\/k0=.free)
 |[],_,_,h=>by simp at h
 |(n,k0)::r,x,k,h=>by
  have h:List.lookup x ((if(k0==NameKind.free&&env.scope.kind==.function&&env.kindOf n==some .cell)=true then(n,NameKind.cell) else(n,k0))::(r.map λ(n,k)=>if(k==NameKind.free&&env.scope.kind==.function&&env.kindOf n==some .cell) then(n,NameKind.cell) else(n,k)))=some k:=h;by_cases hc:(k0==NameKind.free&&env.scope.kind==.function&&env.kindOf n==some .cell)=true
  ·rw[if_pos hc,Wz] at h;cases e:x==n with
   |true=>grind
   |false=>
    rw[e] at h;obtain⟨k1,m,q⟩:=D4 h
    grind
  ·rw[if_neg hc,Wz] at h;cases e:x==n with
   |true=>grind
   |false=>
    rw[e] at h;obtain⟨k1,m,q⟩:=D4 h
    grind
structure Qc(X:Cx)(scope:Scope)(cl:List (Str×Addr))(y:Str)(j:Nat):Prop where
 ix:X.N[j]?=some y
 out:X.env.kindOf y=some .cell\/X.env.kindOf y=some .free
 s_:(relabel scope X.env).names.lookup y=some .cell\/(relabel scope X.env).names.lookup y=some .free
 cl:(cl.lookup y).isSome=true
def qj(X:Cx)(scope:Scope)(cl:List (Str×Addr)):List (Str×Nat)->Prop
 |[]=>True
 |p::r=>Qc X scope cl p.1 p.2/\qj X scope cl r
theorem qj.get:∀{fr:List (Str×Nat)} {k:Nat} {p:Str×Nat},qj X scope cl fr->fr[k]?=some p->Qc X scope cl p.1 p.2
 |[],k,p,_,h=>by simp at h
 |q::r,0,p,hh,h=>by
  have e:q=p:=by simpa using h
  rw[←e];exact hh.1
 |q::r,k+1,p,hh,h=>qj.get hh.2 (by simpa using h)
structure zJ(X:Cx)(scope:Scope)(cl:List (Str×Addr))(x:Str)(fr:List (Str×Nat)):Prop where
 xQ:closureFor scope X.env=pure cl
 sub:qi X.env.cells cl
 kind:scope.kind=.function
 names:∀y∈scope.names,y.2=.local->scope.names.lookup y.1=some .local
 lx:scope.names.lookup x=some .local
 AL:∀y∈scope.names,y.2≠.cell
 has:(scope.names.all λy=>!(y.2==.free)||(cl.lookup y.1).isSome)=true
 cP:qj X scope cl fr
 nd:(x::fr.map (·.1)).Nodup
def gX(σ:St)(fr:List (Str×Nat)):St:=fr.map λp=>(σ[p.2]?).join
structure pX(X:Cx)(scope:Scope)(cl:List (Str×Addr))(xs:List Str)(fr:List (Str×Nat)):Prop where
 xQ:closureFor scope X.env=pure cl
 sub:qi X.env.cells cl
 kind:scope.kind=.function
 names:∀y∈scope.names,y.2=.local->scope.names.lookup y.1=some .local
 AL:∀y∈scope.names,y.2≠.cell
 has:(scope.names.all λy=>!(y.2==.free)||(cl.lookup y.1).isSome)=true
 cP:qj X scope cl fr
 nd:(xs++fr.map (·.1)).Nodup
def cS(X:Cx)(xs:List Str)(fr:List (Str×Nat))(scope:Scope)(cl:List (Str×Addr))(C:Addr)(s:Shared)(H:Hp)(fp:List Addr):Cx where
 prog:=X.prog
 w:=X.w
 K:=X.K
 mg:=X.mg
 base:=X.base
 A:=X.A
 N:=xs++fr.map (·.1)
 cX:=s
 lu:=H
 env:=compEnvC scope cl C X.env
 outer:=X.stack
 stack:=X.stack
 ex:=fp
 fn:=λ_=>false
 calm:=X.calm
 pn:=[]
 xe:=λ_ _=>False
section
variable {X:Cx}{scope:Scope}{cl:List (Str×Addr)}{xs:List Str}{fr:List (Str×Nat)}{pins:aU}{σ:St}{H:Hp}{s:Shared}
theorem ZaB(S:pX X scope cl xs fr)(I:Inv X pins σ H s)(hC:C=s.heap.objs.size)(hf:∀b∈fp,iQ X pins H b)(bT:∀b∈fp,b<s.heap.objs.size)
  (old:∀b o,s.heap.get? b=some o->hJ.get? b=some o)(hn:hJ.Ns C m):Inv (cS X xs fr scope cl C s H fp) [] (List.replicate xs.length none++gX σ fr) H {s with heap:=hJ,toks:=tk}:=by
 have look:=S.sub.look;refine⟨⟨I.ok.mod,S.kind,I.ok.glob,I.ok.blt,by show s.heap.objs.size<=C;rw[hC];exact Yd _,λy z c h1 h2=>I.ok.inj y z c (look y c h1) (look z c h2),λy hy=>?_,λy c h=>?_,I.ok.hd,I.ok.frames,.inl rfl,λb hb=>⟨?_,λy c h=>?_⟩,
   I.bs,Y0 I.ok.mJ I.sz,λb o e hb=>?_,λb hb hb2=>?_,I.stack,I.z_⟩,
  rfl,I.bare,Un.kept old,⟨m,hn,λi y v h1 h2 h3=>?_⟩,λy c h=>?_,?_,λy c h=>I.ib y c (look y c h),λp hp=>absurd (show p∈([]:aU) from hp) (by simp),I.aw.kept old,?_⟩
 ·have hy:(relabel scope X.env).names.lookup y=some .cell\/(relabel scope X.env).names.lookup y=some .free:=hy;have fin:∀{k:NameKind},(relabel scope X.env).names.lookup y=some k->(k=.cell\/k=.free)->∃c,cl.lookup y=some c:=λ{k} e hk=>by
   obtain⟨k0,hm,q⟩:=D4 (env:=X.env) e;have hk0:k0=.free:=by
    rcases q with q|q
    ·rcases hk with z|z;·exact absurd (q.symm.trans z) (S.AL _ hm)
     ·exact q.symm.trans z
    ·exact q
   have hq:=Wm.mp S.has _ hm;rw[hk0] at hq;exact Jb.mp (by simpa using hq)
  rcases hy with e|e;·exact fin e (.inl rfl)
  ·exact fin e (.inr rfl)
 ·exact absurd (show false=true from h) Yj
 ·show b≠C;exact λz=>absurd (bT b hb) (by rw[show b=C from z,hC];exact Wc _)
 ·exact(hf b hb).2.2.2.2.1 y c (look y c h)
 ·obtain⟨_,_,_,z,_⟩:=hf b hb;rcases z with z|z;·exact I.ok.sE b o e z
  ·have h1:=Ys e;have h2:=I.ok.mJ;exact absurd (Y2 h1 (Y0 h2 z)) (Wc _)
 ·have z:=I.GK b hb2;rcases Yp.mp z with z|z;·exact(hf b hb).2.1 z
  ·exact(hf b hb).2.2.1 z
 ·by_cases hi:i<xs.length;·grind
  ·have h1:(xs++fr.map (·.1))[i]?=some y:=h1;rw[Jp (Nat.le_of_not_lt hi)] at h1;rw[Jp (by rw[Wy];exact Nat.le_of_not_lt hi),Wy] at h2;generalize i-xs.length=k at h1 h2;have h2:(fr.map λp=>(σ[p.2]?).join)[k]?=some (some v):=h2;rw[Ye] at h1 h2;cases e:fr[k]? with
   |none=>rw[e] at h1;cases h1
   |some p=>
    rw[e] at h1 h2;have e1:p.1=y:=Yn h1;have e2:(σ[p.2]?).join=some v:=Yn h2;have F:=S.cP.get e;rw[e1] at F;have e3:σ[p.2]?=some (some v):=by
     cases q:σ[p.2]? with
     |none=>rw[q] at e2;cases e2
     |some o=>grind
    obtain⟨m0,_,hl⟩:=I.loc;have JJ:sW X.env.scope y:=by
     rcases F.out with z|z;·exact .inr (.inl z)
     ·exact .inr (.inr z)
    obtain⟨u,r,l⟩:=hl p.2 y v F.ix e3 JJ;refine⟨u,r,.inr ⟨F.s_,?_⟩⟩;obtain⟨c,hc⟩:=Jb.mp F.cl;refine⟨c,hc,?_⟩;rcases l with⟨k1,_⟩|⟨_,c',e',z⟩
    ·rcases F.out with q|q;·rw[q] at k1;cases k1
     ·rw[q] at k1;cases k1
    ·have e4:=look y c hc;rw[e'] at e4;cases e4;obtain⟨o,ho,hd⟩:=z;exact⟨o,old _ _ ho,hd⟩
 ·obtain⟨v,o,ho,hd⟩:=I.cell y c (look y c h);exact⟨v,o,old _ _ ho,hd⟩
 ·show H C=none;rw[hC];exact I.aw.fresh (Yd _)
 ·show(List.replicate xs.length none++gX σ fr).length=(xs++fr.map (·.1)).length;simp[gX]
end
abbrev Av(X:Cx)(x:Str)(fr:List (Str×Nat))(scope:Scope)(cl:List (Str×Addr))(C:Addr)(s:Shared)(H:Hp)(fp:List Addr):Cx:=cS X [x] fr scope cl C s H fp
section
variable {prog:Program}{w:World}{A:Around}{R:Result->Shared->Prop}{s:Shared}
theorem VQ(I:Nat->Shared->Prop)
  (turn:∀n s,I n s->wpAny (model prog w) A (pyNext it) (λr bI=>match r with
   |none=>R (.ok .next) bI
   |some v=>wpAny (model prog w) A (letOwnedTupleGo target it v) (λ_ cX=>wpAny (model prog w) A (assign target env v) (λ_ d9=>
     wpAny (model prog w) A (forIn ifs true λc r=>if r=true then do let ok←isTrue c env (eval c env);pure (ForInStep.yield ok) else pure (ForInStep.yield r)) (λok dR=>
      if ok=true then wpAny (model prog w) A (eval elt env) (λx iS=>
       wpAny (model prog w) A (call (.builtin "list.append") [acc,x]) (λ_ mD=>∃m,m<n/\I m mD) (notedBy (model prog w) A env λe s'=>R (.error e) s') iS) (notedBy (model prog w) A env λe s'=>R (.error e) s') dR
      else ∃m,m<n/\I m dR) (notedBy (model prog w) A env λe s'=>R (.error e) s') d9) (notedBy (model prog w) A env λe s'=>R (.error e) s') cX) (notedBy (model prog w) A env λe s'=>R (.error e) s') bI) (notedBy (model prog w) A env λe s'=>R (.error e) s') s)
  (n:Nat)(h:I n s):codeAny (model prog w) A (.compLoop (.ListComp elt [⟨target,iter,ifs,0⟩] scope pos) 0 it acc env) R s:=by
 refine codeAny_loop rfl I (λn s hI=>wpAny_noted (wpAny_bind (wpAny_standAt (wpAny_bind (wpAny_mono (turn n s hI) (λr bI hJ=>?_) λ_ _ h'=>h'))))) n h;cases r with
 |none=>exact wpAny_pure hJ
 |some v=>
  refine wpAny_bind (wpAny_mono hJ (λ_ cX h₀=>wpAny_bind (wpAny_mono h₀ (λ_ d9 pd=>wpAny_bind (wpAny_mono pd (λok dR u7=>?_) λ_ _ h'=>h')) λ_ _ h'=>h')) λ_ _ h'=>h');cases ok with
  |false=>exact wpAny_pure ⟨rfl,u7⟩
  |true=>
   exact wpAny_bind (wpAny_bind (wpAny_mono u7 (λx iS xR=>wpAny_bind (wpAny_mono xR (λ_ mD xS=>wpAny_pure (wpAny_pure ⟨rfl,xS⟩)) λ_ _ h'=>h')) λ_ _ h'=>h'))
end
def vF(X:Cx)(ifs:List Expr)(t:TT):Prop:=
 ∀(pins:aU) (s:Shared) (σ:St) (H:Hp) (Q:Bool->Hp->Prop),Inv X pins σ H s->t σ H Q->
  wpAny X.md X.A (forIn ifs true λc r=>if r=true then do let ok←isTrue c X.env (eval c X.env);pure (ForInStep.yield ok) else pure (ForInStep.yield r)) (TP X pins σ Q) X.xe s
def A2:TT:=λ_ H Q=>Q true H
def kY:vF X [] A2:=λ_ _ _ H _ I h=>wpAny_tests_nil ⟨H,I,h⟩
def wY(h:PT X c t):vF X [c] t:=λpins s σ H Q I hw=>wpAny_tests_one (h pins s σ H Q I hw)
def GO(n:Nat)(J:It)(tg:TG)(tt:TT)(te:TE)(fv:St)(D:Addr)(H:Hp)(Q:VK):Prop:=
 ∃W:Nat->Nat->List V->Hp->Prop,(∃m,W 0 m [] (upd H D (.lst [])))/\∀i m ys H,W i m ys H->
  (J.stop i H/\Q (.ref D) H)\/(J.go i H/\∃N:List V->Hp->Prop,(∀fC H',N fC H'->∃m',m'<m/\W (i+1) m' fC H')/\
   ∀v H',J.qL i H v H'->∀os:St,os.length=n->tg v (os++fv) H' λdz H2=>(∃kA:St,kA.length=n/\dz=kA++fv)/\tt dz H2 λc H1=>if c=true then te dz H1 λy H3=>H3 D=some (.lst ys)/\ys.length<sizeLine/\N (ys++[y]) (upd H3 D (.lst (ys++[y]))) else N ys H1)
section
variable {X:Cx}{elt iter tgt:Expr}{xs:List Str}{pos:Pos}{ifs:List Expr}{scope:Scope}{cl:List (Str×Addr)}{fr:List (Str×Nat)}{tg:TG}{tt:TT}{te:TE}{pins:aU}{σ:St}
def Nx{H2:Hp}{s2:Shared}{it:Addr}{fp:List Addr}{tn:Nat->Heap->Prop}{J:It}{Q:VK}{RR:Value->Addr->Result->Shared->Prop}{E:a8}{rest:List Comprehension}(S:pX X scope cl xs fr)
  (I2:Inv X pins σ H2 s2)(T:Turn X.prog X.w X.K tgt J fp it tn)(eM:tn 0 s2.heap)(f2:∀b∈fp,iQ X pins H2 b)
  (hR:∀D C s1 H1 m,Inv X pins σ H1 s1->s1.heap.Ns C m->H1 C=none->C≠X.env.locals->X.cX.heap.objs.size<=C->(∀y c,X.env.cells.lookup y=some c->c≠C)->(∀p∈X.pn++pins,p.1≠C)->Q (.ref D) H1->RR (.ref D) C (.ok .next) s1)
  (hl:∀(D C:Addr) (s:Shared) (H3:Hp) (dR:Shared),H2 D=none->H3=upd H2 D (.lst [])->Inv (cS X xs fr scope cl C s H3 fp) [] (List.replicate xs.length none++gX σ fr) H3 dR->tn 0 dR.heap->(∀b∈fp,H3 b=none)->
   (∀s6 BN H5,Inv (cS X xs fr scope cl C s H3 fp) [] BN H5 s6->Q (.ref D) H5->RR (.ref D) C (.ok .next) s6)->
   codeAny X.md X.A (.compLoop (.ListComp elt (⟨tgt,iter,ifs,0⟩::rest) scope pos) 0 (.ref it) (.ref D) (compEnvC scope cl C X.env)) (RR (.ref D) C) dR):
  wpAny X.md X.A (newList []) (λacc dR=>wpAny X.md X.A (newFunctionEnv scope X.env.globals cl [] X.env.qual none .none (some X.env)) (λmE iS=>
   codeAny X.md X.A (.compStart (.ListComp elt (⟨tgt,iter,ifs,0⟩::rest) scope pos) 0 (.ref it) acc {mE with scope:=relabel scope X.env}) (RR acc mE.locals) iS) E dR) E s2:=by
 refine wpAny_newObj_type (wpAny_newFunctionEnv S.AL (by intro y hy;simp at hy) (λhJ GP GQ=>?_) S.kind);dsimp only at GP GQ⊢;have I3:Inv X pins σ (upd H2 s2.heap.objs.size (.lst [])) {s2 with heap:=s2.heap.push {cls:=.type "list",dict:=none,data:=.seq ([]:List Value).toArray}}:=
  I2.laid (t':=s2.toks) (λb u e=>Yb _ e) (Yd _) ⟨Yx _,[],0,.nil,Yu _ rfl⟩
 have hDn:H2 s2.heap.objs.size=none:=I2.aw.fresh (Yd _);have Sh:∀b∈fp,b<s2.heap.objs.size:=λb hb=>by
  obtain⟨o,e,_⟩:=T.obj _ _ eM b hb;exact Ys e
 generalize TH:s2.heap.push {cls:=.type "list",dict:=none,data:=.seq ([]:List Value).toArray}=G2 at GP GQ I3⊢;have hC:G2.objs.size=s2.heap.objs.size+1:=by rw[←TH,Jt]
 have old:∀b o,G2.get? b=some o->hJ.get? b=some o:=λb o e=>GQ.extBut b o (Yy (Ys e)) (Yb _ e);have f3:∀b∈fp,iQ X pins (upd H2 s2.heap.objs.size (.lst [])) b:=λb hb=>by
  have:=Sh b hb;exact⟨by rw[aK (Yy this)];exact(f2 b hb).1,(f2 b hb).2⟩
 have lt3:∀b∈fp,b<G2.objs.size:=λb hb=>by
  rw[hC];exact Wu (Sh b hb)
 have vG:tn 0 hJ:=T.keep _ _ _ eM λb hb o e=>old b o ((λb o e=>TH▸Yb _ e) b o e);have I4:Inv (cS X xs fr scope cl G2.objs.size {s2 with heap:=G2} (upd H2 s2.heap.objs.size (.lst [])) fp) [] (List.replicate xs.length none++gX σ fr) (upd H2 s2.heap.objs.size (.lst [])) {s2 with heap:=hJ,toks:=s2.toks+([]:List (Str×Value)).length}:=
  ZaB (tk:=s2.toks+([]:List (Str×Value)).length) S I3 rfl f3 lt3 old GP
 have loop:=hl s2.heap.objs.size G2.objs.size {s2 with heap:=G2} _ {s2 with heap:=hJ,toks:=s2.toks+([]:List (Str×Value)).length} hDn rfl I4 vG (λb hb=>(f3 b hb).1) λs6 BN H5 I6 qn=>by
   obtain⟨m,hnC,_⟩:=I6.loc;have I7:Inv X pins σ H5 s6:=I3.Hk (ch:=fp) I6.os I6.base I6.aw I6.bare λb hb=>⟨(f2 b hb).2.2.2.1,(f2 b hb).2.1,(f2 b hb).2.2.2.2.1,(f2 b hb).2.2.2.2.2⟩;refine hR _ _ s6 H5 m I7 hnC I6.free ?_ ?_ (λy c e z=>?_) (λp hp z=>?_) qn;·exact Je I3.lt
   ·exact I3.sz
   ·obtain⟨v,q⟩:=I3.cell y c e;exact absurd q.lt (by rw[z];exact Wc _)
   ·exact absurd (Ys (I3.pin p hp).1) (by rw[z];exact Wc _)
 exact codeAny_compStart_list loop (T.self _ 0 _ _ _ vG loop)
theorem Mm{H2:Hp}{s2:Shared}{it:Addr}{fp:List Addr}{tn:Nat->Heap->Prop}{J:It}{Q:VK}{RR:Value->Addr->Result->Shared->Prop}{E:a8}
  (hc:X.calm=true)(S:pX X scope cl xs fr)(hg:∀C s H fp,PG (cS X xs fr scope cl C s H fp) tgt tg)
  (ht:∀C s H fp,vF (cS X xs fr scope cl C s H fp) ifs tt)(he:∀C s H fp,PE (cS X xs fr scope cl C s H fp) elt te)
  (I2:Inv X pins σ H2 s2)(T:Turn X.prog X.w X.K tgt J fp it tn)(eM:tn 0 s2.heap)(f2:∀b∈fp,iQ X pins H2 b)
  (hw:∀D,H2 D=none->GO xs.length J tg tt te (gX σ fr) D H2 Q)
  (hR:∀D C s1 H1 m,Inv X pins σ H1 s1->s1.heap.Ns C m->H1 C=none->C≠X.env.locals->X.cX.heap.objs.size<=C->(∀y c,X.env.cells.lookup y=some c->c≠C)->(∀p∈X.pn++pins,p.1≠C)->Q (.ref D) H1->RR (.ref D) C (.ok .next) s1):
  wpAny X.md X.A (newList []) (λacc dR=>wpAny X.md X.A (newFunctionEnv scope X.env.globals cl [] X.env.qual none .none (some X.env)) (λmE iS=>
   codeAny X.md X.A (.compStart (.ListComp elt [⟨tgt,iter,ifs,0⟩] scope pos) 0 (.ref it) acc {mE with scope:=relabel scope X.env}) (RR acc mE.locals) iS) E dR) E s2:=by
 refine Nx (rest:=[]) S I2 T eM f2 hR λD C s H3 dR hD e3 I4 vG vC fin=>?_;obtain⟨W,⟨m0,w0⟩,turn⟩:=hw D hD;rw[←e3] at w0;refine VQ (λk s'=>∃i ys H' os,os.length=xs.length/\Inv (cS X xs fr scope cl C s H3 fp) [] (os++gX σ fr) H' s'/\tn i s'.heap/\(∀b∈fp,H' b=none)/\W i k ys H') ?_ m0
  ⟨0,[],_,List.replicate xs.length none,Wy,I4,vG,vC,w0⟩
 rintro n s5 ⟨i,ys,H5,os,pG,I5,mK,sY,w5⟩;have mw:∀{H':Hp},(∀b∈fp,H' b=none)->∀b∈fp,iQ (cS X xs fr scope cl C s H3 fp) [] H' b:=λ{H'} hn b hb=>
  ⟨hn b hb,(I5.ok.qJ b hb).1,I5.ok.qy b hb,.inl hb,(I5.ok.qJ b hb).2,λp hp=>absurd (show p∈([]:aU) from hp) (by simp)⟩
 rcases turn i n ys H5 w5 with⟨stop,qn⟩|⟨go,N,hN,step⟩
 ·refine ay (T.done (cS X xs fr scope cl C s H3 fp) rfl rfl rfl hc i [] s5 _ H5 _ I5 (mw sY) mK stop) λr s6 zq=>?_;obtain⟨hr,I6⟩:=zq;subst hr;exact fin _ _ _ I6 qn
 ·refine ay (T.item (cS X xs fr scope cl C s H3 fp) rfl rfl rfl hc i [] s5 _ H5 _ I5 (mw sY) mK go) λr s6 zq=>?_;obtain⟨u,hr,h6⟩:=zq;subst hr;refine ay h6 λ_ s7 zq=>?_;obtain⟨v,H7,I7,r7,y7,tD,JT⟩:=zq;have JU:=I7.pinned (mw JT) (T.obj _ _ tD);refine wpAny_mono (hg _ _ _ _ _ s7 _ H7 v u _ JU r7 (step v H7 y7 os pG)) (λ_ s8 zq=>?_) λ_ _ z=>False.elim z;obtain⟨σ8,H8,I8,⟨kA,Ir,e8⟩,q8⟩:=zq;subst e8;have again:∀{pH:St} {H9:Hp} {s9:Shared} {pI:List V},pH.length=xs.length->Inv (cS X xs fr scope cl C s H3 fp) ([]++qo fp s7.heap) (pH++gX σ fr) H9 s9->N pI H9->
    ∃m,m<n/\∃i ys H' os,os.length=xs.length/\Inv (cS X xs fr scope cl C s H3 fp) [] (os++gX σ fr) H' s9/\tn i s9.heap/\(∀b∈fp,H' b=none)/\W i m ys H':=λ{pH H9 s9 pI} l1 I9 n9=>by
   obtain⟨m',hm,w9⟩:=hN pI H9 n9;refine⟨m',hm,i+1,pI,H9,pH,l1,I9.uI,T.keep _ _ _ tD λb hb o e=>(I9.pin (b,o) (Yr _ (Yr _ (pW hb e)))).1,λb hb=>?_,w9⟩;obtain⟨o,e,d⟩:=T.obj _ _ tD b hb;exact(I9.pin (b,o) (Yr _ (Yr _ (pW hb e)))).2.1
  refine wpAny_mono (ht _ _ _ _ _ s8 _ H8 _ I8 q8) (λok s9 zq=>?_) λ_ _ z=>False.elim z;obtain⟨H9,I9,q9⟩:=zq;cases ok with
  |false=>
   rw[if_neg Yj] at q9⊢;exact again Ir I9 q9
  |true=>
   rw[if_pos rfl];rw[if_pos rfl] at q9;refine wpAny_mono (he _ _ _ _ _ s9 _ H9 _ I9 q9) (λu1 JV zq=>?_) λ_ _ z=>False.elim z;obtain⟨y,lH,JW,r10,hD,hz,pJ⟩:=zq;refine wpAny_mono (wR (X:=cS X xs fr scope cl C s H3 fp) _ JV _ lH (.ref D) [y] _ [u1] (λ_ H'=>N (ys++[y]) H') JW rfl (.cons r10 .nil) ⟨_,ys,y,rfl,rfl,hD,hz,pJ⟩) (λ_ JX zq=>?_) λ_ _ z=>False.elim z;obtain⟨_,yo,BU,_,q11⟩:=zq;exact again Ir BU q11
end
def jo(J:It)(tt:TT)(te:TE)(fv:St)(D:Addr)(H:Hp)(Q:VK):Prop:=
 ∃W:Nat->Nat->List V->Hp->Prop,(∃m,W 0 m [] (upd H D (.lst [])))/\∀i m ys H,W i m ys H->
  (J.stop i H/\Q (.ref D) H)\/(J.go i H/\∃N:List V->Hp->Prop,(∀fC H',N fC H'->∃m',m'<m/\W (i+1) m' fC H')/\
   ∀v H',J.qL i H v H'->tt (some v::fv) H' λc H1=>if c=true then te (some v::fv) H1 λy H3=>H3 D=some (.lst ys)/\ys.length<sizeLine/\N (ys++[y]) (upd H3 D (.lst (ys++[y]))) else N ys H1)
section
variable {X:Cx}{elt iter:Expr}{x:Str}{px pos:Pos}{ifs:List Expr}{scope:Scope}{cl:List (Str×Addr)}{fr:List (Str×Nat)}{tt:TT}{te:TE}{pins:aU}{σ:St}
theorem ZaC{H2:Hp}{s2:Shared}{it:Addr}{fp:List Addr}{tn:Nat->Heap->Prop}{J:It}{Q:VK}{RR:Value->Addr->Result->Shared->Prop}{E:a8}
  (hc:X.calm=true)(S:zJ X scope cl x fr)
  (ht:∀C s H fp,vF (Av X x fr scope cl C s H fp) ifs tt)(he:∀C s H fp,PE (Av X x fr scope cl C s H fp) elt te)
  (I2:Inv X pins σ H2 s2)(T:Turn X.prog X.w X.K (.Name x px) J fp it tn)(eM:tn 0 s2.heap)(f2:∀b∈fp,iQ X pins H2 b)
  (hw:∀D,H2 D=none->jo J tt te (gX σ fr) D H2 Q)
  (hR:∀D C s1 H1 m,Inv X pins σ H1 s1->s1.heap.Ns C m->H1 C=none->C≠X.env.locals->X.cX.heap.objs.size<=C->(∀y c,X.env.cells.lookup y=some c->c≠C)->(∀p∈X.pn++pins,p.1≠C)->Q (.ref D) H1->RR (.ref D) C (.ok .next) s1):
  wpAny X.md X.A (newList []) (λacc dR=>wpAny X.md X.A (newFunctionEnv scope X.env.globals cl [] X.env.qual none .none (some X.env)) (λmE iS=>
   codeAny X.md X.A (.compStart (.ListComp elt [⟨.Name x px,iter,ifs,0⟩] scope pos) 0 (.ref it) acc {mE with scope:=relabel scope X.env}) (RR acc mE.locals) iS) E dR) E s2:=by
 refine Mm (xs:=[x]) hc ⟨S.xQ,S.sub,S.kind,S.names,S.AL,S.has,S.cP,S.nd⟩ (λC s H fp=>m8 (i:=0) S.nd rfl (.inl (lookup_relabel_local S.lx)) (.inr (lookup_relabel_local S.lx))) ht he I2 T eM f2 (λD hD=>?_) hR;obtain⟨W,h0,h⟩:=hw D hD;refine⟨W,h0,λi m ys H p=>?_⟩;rcases h i m ys H p with z|⟨z,N,hN,q⟩;·exact .inl z
 ·refine .inr ⟨z,N,hN,λv H' y os hl=>?_⟩;match os,hl with
  |[o],_=>exact⟨⟨[some v],rfl,rfl⟩,q v H' y⟩
def ZfI(wi:TI)(fr:List (Str×Nat))(tt:TT)(te:TE):TE:=λσ H Q=>wi σ H λJ H1=>∀D,H1 D=none->jo J tt te (gX σ fr) D H1 Q
def iJ(hc:X.calm=true)(S:zJ X scope cl x fr)(hi:PI X (.Name x px) iter wi)
  (ht:∀C s H fp,vF (Av X x fr scope cl C s H fp) ifs tt)(he:∀C s H fp,PE (Av X x fr scope cl C s H fp) elt te)
  (hs:∀x,foldedSetIterable iter X.env x=pure x:=by intro _;rfl):PE X (.ListComp elt [⟨.Name x px,iter,ifs,0⟩] scope pos) (ZfI wi fr tt te):=by
 intro pins s σ H Q I h;refine wpAny_comprehension_free rfl hs S.xQ S.kind S.names (ay (hi pins s σ H _ I h) λv s1 h1=>ay h1 λvA s2 h2=>?_);obtain⟨it,fp,tn,J,H2,e,I2,T,eM,f2,hw⟩:=h2;subst e;refine ZaC (RR:=λacc C=>compPost X.md X.A X.xe none (EP X pins σ Q) acc C) hc S ht he I2 T eM f2 hw ?_;intro D C s1 H1 m I1 hn f0 f1 f3 f4 f5 q;exact⟨m,hn,λh' pK=>⟨.ref D,H1,I1.turned (λb o hb e=>pK.extBut b o hb e) f0 f1 (.inr f3) f4 f5,rfl,q⟩⟩
end
def FA{K:ah}{a:Addr}{xs:List V}{tt:TT}{te:TE}{fv:St}{D:Addr}{H:Hp}{Q:VK}(Pv:Nat->List V->Hp->Prop)(h0:Pv 0 [] (upd H D (.lst [])))(hl:∀i ys H,i<=xs.length->Pv i ys H->ak K H a xs)
  (hs:∀i v ys H,xs[i]?=some v->Pv i ys H->tt (some v::fv) H λc H1=>if c=true then te (some v::fv) H1 λy H3=>H3 D=some (.lst ys)/\ys.length<sizeLine/\Pv (i+1) (ys++[y]) (upd H3 D (.lst (ys++[y]))) else Pv (i+1) ys H1)
  (hd:∀ys H,Pv xs.length ys H->Q (.ref D) H):jo (jK K a) tt te fv D H Q:=by
 refine⟨λi m ys H=>m=xs.length-i/\i<=xs.length/\Pv i ys H,⟨xs.length,by simp,Yx _,h0⟩,?_⟩;rintro i m ys H ⟨rfl,hi,p⟩;have q:=hl i ys H hi p;by_cases bT:i<xs.length
 ·refine .inr ⟨⟨xs,xs[i],q,by simp[bT]⟩,Pv (i+1),λfC H' p'=>⟨xs.length-(i+1),by omega,rfl,bT,p'⟩,λx H' y=>?_⟩;obtain⟨e,y⟩:=y
  grind
 ·have e:i=xs.length:=by omega
  subst e;exact .inl ⟨⟨xs,q,Yd _⟩,hd ys H p⟩
def zV{K:ah}{a:Addr}{xs:List V}{tt:TT}{te:TE}{fv:St}{D:Addr}{H:Hp}{Q:VK}(Pv:Nat->List V->Hp->Prop)(h0:Pv 0 [] (upd H D (.lst [])))(hl:∀i ys H,i<=xs.length->Pv i ys H->aB K H a xs)
  (hs:∀i v ys H,xs[i]?=some v->Pv i ys H->tt (some v::fv) H λc H1=>if c=true then te (some v::fv) H1 λy H3=>H3 D=some (.lst ys)/\ys.length<sizeLine/\Pv (i+1) (ys++[y]) (upd H3 D (.lst (ys++[y]))) else Pv (i+1) ys H1)
  (hd:∀ys H,Pv xs.length ys H->Q (.ref D) H):jo (vB K a) tt te fv D H Q:=by
 refine⟨λi m ys H=>m=xs.length-i/\i<=xs.length/\Pv i ys H,⟨xs.length,by simp,Yx _,h0⟩,?_⟩;rintro i m ys H ⟨rfl,hi,p⟩;have q:=hl i ys H hi p;by_cases bT:i<xs.length
 ·refine .inr ⟨⟨xs,xs[i],q,by simp[bT]⟩,Pv (i+1),λfC H' p'=>⟨xs.length-(i+1),by omega,rfl,bT,p'⟩,λx H' y=>?_⟩;obtain⟨e,y⟩:=y
  grind
 ·have e:i=xs.length:=by omega
  subst e;exact .inl ⟨⟨xs,q,Yd _⟩,hd ys H p⟩
def wL{lo:Int}{n:Nat}{tt:TT}{te:TE}{fv:St}{D:Addr}{H:Hp}{Q:VK}(Pv:Nat->List V->Hp->Prop)(h0:Pv 0 [] (upd H D (.lst [])))
  (hs:∀i ys H,i<n->Pv i ys H->tt (some (.int (lo+i))::fv) H λc H1=>if c=true then te (some (.int (lo+i))::fv) H1 λy H3=>H3 D=some (.lst ys)/\ys.length<sizeLine/\Pv (i+1) (ys++[y]) (upd H3 D (.lst (ys++[y]))) else Pv (i+1) ys H1)
  (hd:∀ys H,Pv n ys H->Q (.ref D) H):jo (pE lo n) tt te fv D H Q:=by
 refine⟨λi m ys H=>m=n-i/\i<=n/\Pv i ys H,⟨n,by simp,Yx _,h0⟩,?_⟩;rintro i m ys H ⟨rfl,hi,p⟩;by_cases bT:i<n
 ·refine .inr ⟨bT,Pv (i+1),λfC H' p'=>⟨n-(i+1),by omega,rfl,bT,p'⟩,λx H' y=>?_⟩;obtain⟨e,y⟩:=y
  grind
 ·have e:i=n:=by omega
  subst e;exact .inl ⟨Yd _,hd ys H p⟩
def ZgC(K:ah)(tl:TE):TI:=λσ H R=>tl σ H λx H1=>∃a,x=.ref a/\((∃xs,ak K H1 a xs)/\R (jK K a) H1\/(∃xs,aB K H1 a xs)/\R (vB K a) H1)
def Zeh(hl:PE X l tl):PI X tg l (ZgC X.K tl):=by
 intro pins s σ H R I h;refine ay (hl pins s σ H _ I h) λv s1 zq=>?_;obtain⟨x,H1,I1,r1,q1⟩:=zq;obtain⟨a,e,q1⟩:=q1;subst e;cases r1;rcases q1 with⟨⟨xs,hq⟩,q⟩|⟨⟨xs,hq⟩,q⟩
 ·obtain⟨ai,rv,p,hz⟩:=I1.list hq;refine wpAny_pyIter_list p.isList ⟨s1.heap.objs.size,[s1.heap.objs.size],_,_,H1,rfl,I1.kept λb o e=>Yb _ e,MN a _,⟨_,Yu _ rfl,rfl,rfl⟩,λb hb=>?_,q⟩;have e:b=s1.heap.objs.size:=by simpa using hb
  subst e;exact I1.qz (Yd _) (I1.aw.fresh (Yd _))
 ·obtain⟨ai,rv,p,hz⟩:=I1.tuple hq;refine wpAny_pyIter_tuple (show s1.heap.IsTuple a ai.toArray from p) ⟨s1.heap.objs.size,[s1.heap.objs.size],_,_,H1,rfl,I1.kept λb o e=>Yb _ e,Mi a _,⟨_,Yu _ rfl,rfl,rfl⟩,λb hb=>?_,q⟩;have e:b=s1.heap.objs.size:=by simpa using hb
  subst e;exact I1.qz (Yd _) (I1.aw.fresh (Yd _))
theorem El:∀{xs:List V} {us:List Value},xs.length=us.length->(∀(i:Nat) (x:V) (u:Value),xs[i]?=some x->us[i]?=some u->RelV x u)->Vals xs us
 |[],[],_,_=>.nil
 |[],_::_,h,_=>by simp at h
 |_::_,[],h,_=>by simp at h
 |x::xs,u::us,h,k=>.cons (k 0 x u rfl rfl) (El (by simpa using h) λi y w e1 e2=>k (i+1) y w (by simpa using e1) (by simpa using e2))
theorem Mn:∀{bs:List Bool} {us:List Value},Vals (bs.map V.bl) us->us=bs.map Value.bool:=by
 intro bs;induction bs with
 |nil=>intro us r;cases r;rfl
 |cons b bs ih=>
  intro us r;rw[Wp] at r;cases r with
  |cons r t=>
   have e1:_=Value.bool b:=r;rw[e1,ih t];rfl
def bp(n:Nat):List Int:=(List.range n).map λi:Nat=>(i:Int)
def eG(n:Nat):(bp n).length=n:=by simp[bp]
def lY(h:i<n):(bp n)[i]?=some (i:Int):=by
 unfold bp
 grind
def Zbt(bs:List Bool):(List.range bs.length).any (λi=>bs.getD i false)=bs.any id:=by
 rw[Wj,JY,JY];constructor
 ·rintro⟨i,hi,hb⟩;rw[Wg] at hi;have e:bs.getD i false=bs[i]:=by rw[Yf,Yc hi];rfl
  rw[e] at hb;exact⟨bs[i],Ju hi,hb⟩
 ·rintro⟨b,hb,e⟩;obtain⟨i,hi,rfl⟩:=Ws.mp hb;refine⟨i,Wg.mpr hi,?_⟩
  grind
def Zbu(bs:List Bool):(List.range bs.length).all (λi=>bs.getD i false)=bs.all id:=by
 rw[Wj,Wm,Wm];constructor
 ·intro h b hb;obtain⟨i,hi,rfl⟩:=Ws.mp hb;simp_all
 ·intro h i hi;rw[Wg] at hi;rw[Yf,Yc hi];exact h _ (Ju hi)
def YF:∀{ns ms:List Int},ns.length=ms.length->(List.range ns.length).all (λj=>ns.getD j 0==ms.getD j 0)=decide (ns=ms):=by
 intro ns ms hl;rw[Wj,Wm,decide_eq_true_iff];constructor
 ·intro h;refine List.ext_getElem hl λi h1 h2=>?_;simp_all
 ·grind
section
variable {X:Cx}
def Si(K:ah):List V->Hp->VK->Prop:=λxs H Q=>∃(p:Addr) (bs:List Bool),xs=[.ref p]/\ak K H p (bs.map V.bl)/\Q (.bl (bs.any id)) H
def Sj(K:ah):List V->Hp->VK->Prop:=λxs H Q=>∃(p:Addr) (bs:List Bool),xs=[.ref p]/\ak K H p (bs.map V.bl)/\Q (.bl (bs.all id)) H
theorem WU(hc:X.calm=true):c7 X (.builtin "any") (Si X.K):=by
 rintro pins s σ H xs us Q I r ⟨p,bs,rfl,hq,q⟩;obtain⟨u,rfl,rx⟩:=vals1 r;cases rx;obtain⟨ai,r',pl,hz⟩:=I.list hq;have e:=Mn r';subst e;have hl:=pl.isList;have bT:p<s.heap.objs.size:=by obtain⟨_,e,_⟩:=hl;exact Ys e
 refine call_any_walk (wpAny_pyIter_list hl ⟨s.heap.objs.size,_,_,_,_,_,λi=>bs.getD i false,rfl,Walks.list (show X.A.in1.handled=none from I.ok.hd hc) s.heap.objs.size p (Yy bT) (bs.map Value.bool).toArray,⟨⟨_,Yu _ rfl,rfl,rfl⟩,hl.push _⟩,?_,λh' tk hk=>?_⟩)
 ·intro i v s' Q' E' hP hQ;have lI:(bs.map Value.bool)[i]?=some v:=by simpa using hP
  rw[Ye] at lI;cases e:bs[i]? with
  |none=>grind
  |some b=>
   rw[e] at lI;have ev:=Yn lI;subst ev;refine wpAny_truthy_bool ?_
   grind
 ·refine⟨.bl (bs.any id),H,I.kept (λb o e=>hk b o (by simpa using Yy (Ys e)) (Yb _ e)),?_,q⟩;show Value.bool _=Value.bool _;have e:(bs.map Value.bool).toArray.size=bs.length:=by simp
  rw[e,Zbt]
theorem WV(hc:X.calm=true):c7 X (.builtin "all") (Sj X.K):=by
 rintro pins s σ H xs us Q I r ⟨p,bs,rfl,hq,q⟩;obtain⟨u,rfl,rx⟩:=vals1 r;cases rx;obtain⟨ai,r',pl,hz⟩:=I.list hq;have e:=Mn r';subst e;have hl:=pl.isList;have bT:p<s.heap.objs.size:=by obtain⟨_,e,_⟩:=hl;exact Ys e
 refine call_all_walk (wpAny_pyIter_list hl ⟨s.heap.objs.size,_,_,_,_,_,λi=>bs.getD i false,rfl,Walks.list (show X.A.in1.handled=none from I.ok.hd hc) s.heap.objs.size p (Yy bT) (bs.map Value.bool).toArray,⟨⟨_,Yu _ rfl,rfl,rfl⟩,hl.push _⟩,?_,λh' tk hk=>?_⟩)
 ·intro i v s' Q' E' hP hQ;have lI:(bs.map Value.bool)[i]?=some v:=by simpa using hP
  rw[Ye] at lI;cases e:bs[i]? with
  |none=>grind
  |some b=>
   rw[e] at lI;have ev:=Yn lI;subst ev;refine wpAny_truthy_bool ?_
   grind
 ·refine⟨.bl (bs.all id),H,I.kept (λb o e=>hk b o (by simpa using Yy (Ys e)) (Yb _ e)),?_,q⟩;show Value.bool _=Value.bool _;have e:(bs.map Value.bool).toArray.size=bs.length:=by simp
  rw[e,Zbu]
inductive Qd(K:ah)(xs:List V)(H:Hp)(Q:VK):Prop
 |mk (x:V) (t:Value) (c:String) (b:Bool) (aC:xs=[x,.ty c]) (aS:jr K H x t) (bb:kitOne K t (.type c)=some b) (bL:Q (.bl b) H):Qd K xs H Q
def A3(K:ah):List V->Hp->VK->Prop:=λxs H Q=>Qd K xs H Q
def YG:c7 X (.builtin "isinstance") (A3 X.K):=by
 rintro pins s σ H xs us Q I r ⟨x,t,c,b,rfl,ty,e,q⟩;obtain⟨u,w',rfl,rx,ry⟩:=vals2 r;cases ry;exact Zav I rx ty e λtk=>⟨.bl b,H,I.tok tk,rfl,q⟩
def Mo(hT:T="list"\/T="tuple")
  (ho:s.heap.get? l=some o)(hc:o.cls=.type T)(hd:o.data=.seq ai.toArray n)(hI:IntsAre ai ns)(jw:ai.length<64)(hsz:ai.toArray.size<=sizeLine)
  (h:∀(h1 h':Heap) (out:Array Value) (dm:List Int) (e:Nat),(∀b o,s.heap.get? b=some o->h1.get? b=some o)->(∀b o,h1.get? b=some o->h'.get? b=some o)->h'.get? h1.objs.size=some (seqObj "list" out e)->IntsAre out.toList dm->dm.Perm ns->dm.Pairwise (·<=·)->Q (.ref h1.objs.size) {s with heap:=h'}):
  wpAny (model prog w) A (call (.builtin "sorted") [.ref l]) Q E s:=by
 refine Calls.call_function_entry kind_sorted plain_sorted entry_sorted (args_sorted1 _) (wpAny_bind (wpAny_pure ?_));refine wpAny_bind (wpAny_collect_seq l hT ho hc hd (λh1 kp=>wpAny_bind (wpAny_newList ?_)) hsz);have e1:ai.toArray.toList=ai:=by simp
 rw[e1];have pC:(h1.push (seqObj "list" ai.toArray 0)).get? h1.objs.size=some (seqObj "list" ai.toArray 0):=Yu _ rfl;refine wpAny_bind (wpAny_holding (wpAny_call_entry slot_list_sort ⟨_,pC,rfl⟩ entry_list_sort (list_sort_tree pC hI jw λout dm a1 a2 a3=>⟨_,rfl,?_⟩) (args_list_sort _)));obtain⟨e,he⟩:=sortedHeap_at pC;exact wpAny_pure ⟨_,rfl,h h1 _ out dm e kp (λb ob hb=>by
  have bT:=Ys hb;rw[sortedHeap_old (Yy bT) (by rw[size_push'];exact Wu bT),J8 _ _ _ (Yy bT)];exact hb) he a1 a2 a3⟩
def Gv(K:ah):List V->Hp->VK->Prop:=λxs H Q=>∃(p:Addr) (ns:List Int),xs=[.ref p]/\(ak K H p (ns.map V.int)\/aB K H p (ns.map V.int))/\ns.length<64/\
  ∀(l:Addr) (dm:List Int),H l=none->dm.Perm ns->dm.Pairwise (·<=·)->Q (.ref l) (upd H l (.lst (dm.map V.int)))
def L9:c7 X (.builtin "sorted") (Gv X.K):=by
 rintro pins s σ H xs us Q I r ⟨p,ns,rfl,hq,jw,q⟩;obtain⟨u,rfl,rx⟩:=vals1 r;cases rx;have fin:∀(h1 h':Heap) (out:Array Value) (dm:List Int) (e:Nat),(∀b o,s.heap.get? b=some o->h1.get? b=some o)->(∀b o,h1.get? b=some o->h'.get? b=some o)->h'.get? h1.objs.size=some (seqObj "list" out e)->IntsAre out.toList dm->dm.Perm ns->dm.Pairwise (·<=·)->
   EP X pins σ Q (.ref h1.objs.size) {s with heap:=h'}:=λh1 h' out dm e kp JZ he a1 a2 a3=>by
  have I1:=I.kept (t':=s.toks) kp;refine⟨.ref h1.objs.size,_,I1.laid (o:=.lst (dm.map V.int)) JZ (Yd _) ⟨?_,out.toList,e,MT a1,by simpa[seqObj] using he⟩,rfl,q _ dm (I1.aw.fresh (Yd _)) a2 a3⟩;rw[Ya,a2.length_eq];exact Jk (jV (by omega))
 rcases hq with hq|hq
 ·obtain⟨ai,r',pl,hz⟩:=I.list hq;obtain⟨o,n,ho,hc,_,hd⟩:=pl;have hl:=r'.length;rw[Ya] at hl;rw[Ya] at hz;exact Mo (.inl rfl) ho hc hd (intsAre_of r') (by omega) (by rw[Yv];omega) fin
 ·obtain⟨ai,r',pl,hz⟩:=I.tuple hq;obtain⟨o,ho,hc,n,hd⟩:=pl;have hl:=r'.length;rw[Ya] at hl;rw[Ya] at hz;exact Mo (.inr rfl) ho hc hd (intsAre_of r') (by omega) (by rw[Yv];omega) fin
def OF:List V->Hp->VK->Prop:=λxs H Q=>∃j:Int,xs=[.int j]/\∀p:Addr,H p=none->Q (.ref p) (upd H p (.jJ 0 j))
def Ny:List V->Hp->VK->Prop:=λxs H Q=>∃(p:Addr) (n:Nat),xs=[.ref p]/\H p=some (.jJ 0 (n:Int))/\n<=1000/\∀l:Addr,H l=none->Q (.ref l) (upd H l (.lst ((bp n).map V.int)))
def xT(K:ah):List V->Hp->VK->Prop:=λxs H Q=>∃(p:Addr) (ys:List V),xs=[.ref p]/\(ak K H p ys\/aB K H p ys)/\Q (.int ys.length) H
def ZA:c7 X (.builtin "len") (xT X.K):=L0
def zo:c7 X (.type "range") OF:=by
 rintro pins s σ H xs us Q I r ⟨j,rfl,q⟩;obtain⟨u,rfl,t,rfl⟩:=vals1 r;exact call_range_1 ⟨.ref s.heap.objs.size,_,I.laid (o:=.jJ 0 j) (λb o e=>Yb _ e) (Yd _) ⟨_,_,_,Yu _ rfl⟩,rfl,q _ (I.aw.fresh (Yd _))⟩
def DR(hc:X.calm=true):c7 X (.type "list") Ny:=by
 rintro pins s σ H xs us Q I r ⟨p,n,rfl,hp,hn,q⟩;obtain⟨u,rfl,rx⟩:=vals1 r;cases rx;obtain⟨t,u,v,ho⟩:=I.aw p _ hp;refine call_list_range (I.ok.hd hc) ho (small_one (by omega) (by omega) (by omega) (by omega)) (n:=n) (by rw[rangeSize_one];split<;>omega) (by omega) λh' tk ZgD c' hk hS' Sk=>⟨.ref s.heap.objs.size,_,I.laid (o:=.lst ((bp n).map V.int)) hk (Yd _) ⟨?_,ZgD.toList,c',?_,by simpa using hS'⟩,rfl,q _ (I.aw.fresh (Yd _))⟩
 ·rw[Ya,eG];exact Jk (jV hn)
 ·refine El (by rw[Ya,eG];simp[Sk.1]) λi x u e1 e2=>?_;obtain⟨t',rfl⟩:=Sk.2 i u (by simpa using e2);have hi:i<n:=by
   have:=(Yl.mp e1).1;rw[Ya,eG] at this;exact this
  rw[Ye,lY hi] at e1;have e3:=Yn e1;subst e3;exact⟨t',by rw[show(0:Int)+(i:Int)*1=(i:Int) by omega]⟩
def OG{ns:List Int}{ai:List Value}(r:Vals (ns.map V.int) ai){j:Nat}(h:j<ai.length):∃t,ai[j]=.int (ns.getD j 0) t:=by
 have hl:=r.length;rw[Ya] at hl;have hj:j<ns.length:=by omega
 obtain⟨u,hu,t,rfl⟩:=r.get (by rw[Ye,Yc hj];rfl)
 grind
def Sl(K:ah)(neg:Bool):R2:=λx y H Q=>∃(p q:Addr) (ns ms:List Int),x=.ref p/\y=.ref q/\ak K H p (ns.map V.int)/\ak K H q (ms.map V.int)/\Q (.bl (if neg=true then !decide (ns=ms) else decide (ns=ms))) H
def Qe(hu:X.A.units<cLine):cG X (compareOp .Eq) (Sl X.K false):=by
 rintro pins s σ H x y v u Q I rx ry ⟨p,q,ns,ms,rfl,rfl,h1,h2,k⟩;cases rx;cases ry;obtain⟨ai,r1,p1,z1⟩:=I.list h1;obtain⟨iR,r2,p2,z2⟩:=I.list h2;have l1:=r1.length;have l2:=r2.length;rw[Ya] at l1 l2;by_cases hl:ns.length=ms.length
 ·refine SeqAt.eq_listAt (e:=λj=>ns.getD j 0==ms.getD j 0) p1.isList p2.isList (by simp;omega) hu (λj h1 h2=>?_) (cI I k ?_)
  ·obtain⟨t,e1⟩:=OG r1 (by simpa using h1);obtain⟨t',e2⟩:=OG r2 (by simpa using h2);have tE:ai.toArray[j]=.int (ns.getD j 0) t:=by simpa using e1
   have e2':iR.toArray[j]=.int (ms.getD j 0) t':=by simpa using e2
   rw[tE,e2'];exact SeqAt.EqAt.int_int _ _ _ _
  ·rw[if_neg Yj,Yv,←l1,YF hl]
 ·refine SeqAt.eq_list_lengthsAt p1.isList p2.isList (by simp;omega) hu (cI I k ?_)
  grind
def gI(M:St->Hp->Prop)(h1:∀nx:St->Hp->Prop,(∀σ H,M σ H->nx σ H)->t {D with nx:=nx} σ H)(h2:∀σ H,M σ H->u D σ H):xN t u D σ H:=h1 _ h2
def k_(hg:Gl X x)(hm:X.mg x=none)(hv:bootBuiltins x=some (.type T))(hn:x≠"__name__":=by decide)(hd:(x==("__debug__":Str))=false:=by decide):PE X (.Name x pos) (tC (.ty T)):=ZcH hg hm hv rfl hn hd
end
def HasFn(P:Program)(w:World)(K:ah)(mg:aQ)(base:Heap)(k:Nat)(x:Str)(ps:List Str)(sp:Sp):Prop:=
 ∃f fd,aE P w K mg base aM k f fd ps sp/\Binds K fd ps []/\keepIn K (.ref f)=true/\mg x=some (.ref f)
section
variable {P:Program}{w:World}{K:ah}{mg:aQ}{base:Heap}{X:Cx}{k j:Nat}{sp:Sp}{x:Str}{ps:List Str}
def Hq(h:HasFn X.prog X.w X.K X.mg X.base k x ps sp)(hr:cF j X.A)(hj:k<=j)(hg:Gl X x)(ha:PA X (e::es) t)
  (eN:(x==("__debug__":Str))=false:=by decide)(he:ik X e es:=by rfl)(bQ:iV X pos es:=by rfl):
  PE X (.Call (.Name x p) (e::es) [] pos) (AJ sp [] E0 t):=by
 obtain⟨f,fd,F,b,kp,m⟩:=h;exact ZcJ F (hr.mono hj) hg m kp b .nil xF ha eN he bQ
def cq(h:H p=none)(o:HO):aj H (upd H p o):=λb u q=>by rw[aK (bY q h)];exact q
def aj.jx(e:aj H H')(h:aB K H a xs):aB K H' a xs:=by
 rcases h with(h|⟨o,h⟩)|h;·exact .inl (.inl (e _ _ h))
 ·exact .inl (.inr ⟨o,e _ _ h⟩)
 ·exact .inr h
def Zbv(h:X.K=K):iX X (u6 K):=h▸Gu
def ZcU(h:X.K=K):iX X (AZ K):=h▸P9
def ZcV(h:X.K=K):c7 X (.builtin "isinstance") (A3 K):=h▸YG
def ZgE(h:X.K=K):c7 X (.builtin "len") (xT K):=h▸ZA
def kj(h:Q true H):A2 σ H Q:=h
def aY(h:n σ H):Rh ⟨n,rt,bk,ct⟩ σ H:=h
def qp(M:St->Hp->Prop)(h1:∀nx:St->Hp->Prop,(∀σ H,M σ H->nx σ H)->Ib c a b {D with nx:=nx} σ H)(h2:∀σ H,M σ H->u D σ H):xN (Ib c a b) u D σ H:=h1 _ h2
def Zei(x:Int)(h0:0<m)(h1:m<=2^62):-(2^64)<x % m/\x % m<2^64:=by
 have a:=W5 x (J_ h0);have b:=Wq x h0;omega
theorem Mp:∀(l:List α) (k:Nat) (h:k<l.length),l.Perm (l[k]::l.eraseIdx k)
 |[],k,h=>absurd h (Wk k)
 |a::r,0,_=>List.Perm.refl _
 |a::r,k+1,h=>(List.Perm.cons a (Mp r k (Nat.lt_of_succ_lt_succ h))).trans (List.Perm.swap _ _ _)
theorem MU(f:α->β):∀(l:List α) (k:Nat),(l.map f).eraseIdx k=(l.eraseIdx k).map f
 |[],_=>rfl
 |_::_,0=>rfl
 |a::r,k+1=>by
  show f a::(r.map f).eraseIdx k=f a::(r.eraseIdx k).map f;rw[MU f r k]
def GR{n:Nat}{i:Int}(h0:0<=i)(h1:i<n):lG n i=some i.toNat:=by
 unfold lG
 grind
def ny{ns:List Int}{i:Int}(h0:0<=i)(h1:i<ns.length):dO (ns.map V.int) i=some (.int (ns.getD i.toNat 0)):=by
 have e:i=((i.toNat:Nat):Int):=by omega
 rw[e];refine iH ?_
 grind
theorem jY{ns:List Int}{i:Nat}{y:V}(h:(ns.map V.int)[i]?=some y):∃z,y=.int z/\ns[i]?=some z:=by
 rw[Ye] at h;cases e:ns[i]? with
 |none=>grind
 |some z=>grind
def Nz(ns:List Int)(z:Int):ns.map V.int++[V.int z]=(ns++[z]).map V.int:=by simp
def NA(ns:List Int)(lo hi:Option Int):∃ms:List Int,mC (ns.map V.int) lo hi=ms.map V.int:=by
 refine⟨(ns.drop (HT.fh ns.length 0 lo)).take (HT.fh ns.length ns.length hi-HT.fh ns.length 0 lo),?_⟩;unfold mC;simp_all
end
def Qf:bootBuiltins "abs"=some (.builtin "abs"):=by decide+kernel
def Zej:bootBuiltins "any"=some (.builtin "any"):=by decide+kernel
def Qg:bootBuiltins "all"=some (.builtin "all"):=by decide+kernel
def Aw:bootBuiltins "len"=some (.builtin "len"):=by decide+kernel
def Zek:bootBuiltins "min"=some (.builtin "min"):=by decide+kernel
def zK:bootBuiltins "sorted"=some (.builtin "sorted"):=by decide+kernel
def LW:bootBuiltins "isinstance"=some (.builtin "isinstance"):=by decide+kernel
def uO:bootBuiltins "list"=some (.type "list"):=by decide+kernel
def m7:bootBuiltins "tuple"=some (.type "tuple"):=by decide+kernel
def uJ:bootBuiltins "range"=some (.type "range"):=by decide+kernel
def Ag:bootBuiltins "bool"=some (.type "bool"):=by decide+kernel
def Qh:bootBuiltins "int"=some (.type "int"):=by decide+kernel
def xt:bootBuiltins "str"=some (.type "str"):=by decide+kernel
def Bd(d p:Int):Prop:=0<=d/\d<p
inductive NB(K:ah)(vs:List V)(H:Hp)(Q:VK):Prop
 |mk (a:Addr) (ns:List Int) (k:Int) (aC:vs=[.ref a,.int k]) (aS:ak K H a (ns.map V.int)) (bb:0<=k) (bL:∀c:Int,Q (.int c) H):NB K vs H Q
def Qi(K:ah):Sp:=λvs H Q _=>NB K vs H Q
inductive MV(K:ah)(vs:List V)(H:Hp)(Q:VK):Prop
 |mk (c:Int) (a:Addr) (ps:List Int) (aC:vs=[.int c,.ref a]) (aS:ak K H a (ps.map V.int)) (bb:(∀p∈ps,0<p/\p<1073741824)) (bL:ps.length<=60) (cD:∀(l:Addr) (ds:List Int) (H':Hp),H l=none->aj H H'->H' l=some (.lst (ds.map V.int))->Paired Bd ds ps->Q (.ref l) H'):MV K vs H Q
def Ah(K:ah):Sp:=λvs H Q _=>MV K vs H Q
inductive NC(vs:List V)(H:Hp)(Q:VK):Prop
 |mk (c:Int) (n:Nat) (aC:vs=[.int c,.int (n:Int)]) (aS:n<=60) (bb:∀(t:Addr) (ns:List Int) (H':Hp),H t=none->aj H H'->H' t=some (.tup (ns.map V.int))->ns.Perm (bp n)->Q (.ref t) H'):NC vs H Q
def Qj:Sp:=λvs H Q _=>NC vs H Q
def OH(ho:PE X o to)(hi:PE X i ti)(hs:sH X t)(he:PE X e te)
  (h1:swapsWithSole [.Subscript o i tp] e pos.line X.env=pure false:=by rfl)(h2:swappedStores [.Subscript o i tp] e X.env=pure none:=by rfl)
  (h3:(assignEach [.Subscript o i tp] X.env).map (·.2)=[assign (.Subscript o i tp) X.env]:=by rfl)
  (ha:∀v,assign (.Subscript o i tp) X.env v=(do
   let ov←holding [v] (eval o X.env);let iv←holding [v,ov] (eval i X.env)
   standAt tp
   holding [v,ov,iv] (setItem ov iv v)
   release [v,ov,iv] []):=by intro _;rfl):PS X (.Assign [.Subscript o i tp] e pos) (u5 te (Sa to ti t)):=nv he (Zd6 ho hi hs ha) h1 h2 h3
def gk(h:Heap)(a C:Addr)(d:Option Addr)(vs:Array Value):Prop:=∃oe:Obj,h.get? a=some oe/\oe.cls=.ref C/\oe.dict=d/\oe.data=.fields vs/\1<vs.size
def xo(a C:Addr)(d:Option Addr):HO:=.ext λh=>∃vs,gk h a C d vs
def xn(a C:Addr)(d:Option Addr):HO:=.ext λh=>∃vs,gk h a C d vs/\vs[1]?=some Value.none
def gk.keep{h1 h2:Heap}{a C:Addr}{d:Option Addr}{vs:Array Value}(x:gk h1 a C d vs)(k:∀o,h1.get? a=some o->h2.get? a=some o):gk h2 a C d vs:=by
 obtain⟨oe,e,r⟩:=x;exact⟨oe,k _ e,r⟩
def Ro{P:Program}{w:World}{H:Hp}{h:Heap}{a C:Addr}{d:Option Addr}{vs:Array Value}(x:gk h a C d vs):cJ P w H h a (xo a C d):=
 ⟨⟨vs,x⟩,let⟨oe,e,_⟩:=x;⟨oe,e⟩,λ_ _ ⟨ws,y⟩ k=>⟨ws,y.keep k⟩⟩
def Hs{P:Program}{w:World}{H:Hp}{h:Heap}{a C:Addr}{d:Option Addr}{vs:Array Value}(x:gk h a C d vs)(z:vs[1]?=some Value.none):cJ P w H h a (xn a C d):=
 ⟨⟨vs,x,z⟩,let⟨oe,e,_⟩:=x;⟨oe,e⟩,λ_ _ ⟨ws,y,q⟩ k=>⟨ws,y.keep k,q⟩⟩
def Qk{P:Program}{w:World}{H:Hp}{h:Heap}{a C:Addr}{d:Option Addr}(ok:c_ P w H h)(e:H a=some (xo a C d)):∃vs,gk h a C d vs:=(ok a _ e).1
def Ax{P:Program}{w:World}{H:Hp}{h:Heap}{a C:Addr}{d:Option Addr}(ok:c_ P w H h)(e:H a=some (xn a C d)):∃vs,gk h a C d vs/\vs[1]?=some Value.none:=(ok a _ e).1
def vH(lo:Nat)(H:Hp)(h:Heap)(vs:Array Value):Prop:=
 vs[1]?=some Value.none\/∃T oT ts,vs[1]?=some (Value.ref T)/\lo<=T/\H T=none/\h.get? T=some oT/\oT.data=.fields ts/\ts[3]?=some Value.none
inductive Rp(P:Program)(w:World)(outer:List Env)(H:Hp)(s:Shared)(E:XK)(e:Value)(s':Shared):Prop
 |mk (a C d:Addr) (H':Hp) (vs:Array Value) (aC:e=.ref a) (aS:s.heap.objs.size<=a) (bb:s'.os=s.os) (bL:AllBare s'.gens) (cD:Un (cP outer) [] H H' s.heap s'.heap) (dB:c_ P w H' s'.heap) (fD:H' a=some (xo a C (some d))) (ir:gk s'.heap a C (some d) vs) (nP:vH s.heap.objs.size H' s'.heap vs) (vI:E (.ref C) (some d) H'):Rp P w outer H s E e s'
def dW(P:Program)(w:World):ku:=λouter H s E e s'=>Rp P w outer H s E e s'
section
variable {M:Model}{A:Around}{Er:a8}{s:Shared}
def MW{base:Heap}{env:Env}{outer:List Env}{L e:Addr}{oe:Obj}{vs:Array Value}{head:Value}{b0:Bool}{Q:Unit->Shared->Prop}
  (fr:A.frames=some (env::outer))(ko:s.heap.FunFrames base (env::outer))(hL:env.frame=some L)(at_:s.heap.get? e=some oe)(dat:oe.data=.fields vs)(sz:1<vs.size)
  (k:∀h' T ts,(∀b o,b≠e->b∉cP (env::outer)->s.heap.get? b=some o->h'.get? b=some o)->(∀b o,b∈cP (env::outer)->s.heap.get? b=some o->∃sl,h'.get? b=some {o with slots:=sl})->
   h'.get? e=some {oe with data:=.fields (vs.setIfInBounds 1 (.ref T))}->s.heap.objs.size<=T->T≠e->h'.get? T=some {cls:=.type "traceback",dict:=none,data:=.fields ts}->ts[3]?=some Value.none->Q () {s with heap:=h'}):
  wpAny M A (do let fo←frameOf env;let pl←entryPlaceOf L b0;let en←EntryCells.newEntry head fo .none (rawInt L) .none pl;setField (.ref e) 1 en) (λ_ s2=>wpAny M A (setFlight (.ref e) none) Q Er s2) Er s:=by
 have out:e∉cP (env::outer):=λz=>by
  obtain⟨_,o,q,nf⟩:=ko.mem z;rw[at_] at q;cases q;exact nf vs dat
 refine wpAny_bind (wpAny_frameOf_fun fr ko hL λh1 so=>wpAny_bind (wpAny_entryPlaceOf λpl ip=>?_));unfold EntryCells.newEntry newFields;refine wpAny_bind (wpAny_newObj_type ?_ (ip.sizeOk5 _ _ _ _ _));generalize hts:([head,Value.ref L,Value.none,rawInt L,Value.none]++(if pl.isEmpty=true then List.replicate 6 Value.none else pl)).toArray=yp;have l3:3<yp.size:=by
  rw[←hts,Yv,Yi];simp only[Y7,TK];omega
 have e1:h1.get? e=some oe:=(so.2.1 e out).trans at_;have lt:e<h1.objs.size:=Ys e1;have e2:=Yb {cls:=.type "traceback",dict:=none,data:=.fields yp} e1;refine wpAny_setField e2 dat sz ?_;have d3:=Obj.data_mapFields dat (·.setIfInBounds 1 (Value.ref h1.objs.size));have e3:=Wn (Obj.mapFields (·.setIfInBounds 1 (Value.ref h1.objs.size))) e2 (Obj.isFreed_of_fields d3);have t3:=(Wa (h1.push {cls:=.type "traceback",dict:=none,data:=.fields yp}) (Obj.mapFields (·.setIfInBounds 1 (Value.ref h1.objs.size))) (Yy lt)).trans (Yu h1 rfl);unfold setFlight;refine wpAny_bind (wpAny_field e3 d3 (x:=.ref h1.objs.size) (by simp[sz]) ?_);rw[if_pos (by simp)];refine wpAny_setField t3 rfl l3 (k _ h1.objs.size (yp.setIfInBounds 3 Value.none) ?_ ?_ ?_ (JM so.1.symm) (Je lt) ?_ (by simp[l3]))
 ·intro b o hb hf hg;have g1:h1.get? b=some o:=(so.2.1 b hf).trans hg;rw[Wa _ _ (Je (Ys g1)),Wa _ _ (Ne.symm hb)];exact Yb _ g1
 ·intro b o hf hg;obtain⟨sl,g1⟩:=so.2.2 b o hg;have hb:b≠e:=λz=>out (z▸hf);refine⟨sl,?_⟩;rw[Wa _ _ (Je (Ys g1)),Wa _ _ (Ne.symm hb)];exact Yb _ g1
 ·rw[Wa _ _ (Je lt),e3];obtain⟨c,dd,da,sl⟩:=oe;cases dat;rfl
 ·exact Wn _ t3 (Obj.isFreed_of_fields (Obj.data_mapFields rfl _))
end
section
variable {P:Program}{w:World}{A:Around}{Er:a8}
theorem OI{base:Heap}{env:Env}{outer:List Env}{L:Addr}{H1:Hp}{s1 s':Shared}{E:XK}{e:Value}{Q:Unit->Shared->Prop}
  (fr:A.frames=some (env::outer))(ko:s1.heap.FunFrames base (env::outer))(free:∀b∈cP (env::outer),H1 b=none)(hL:env.frame=some L)(cx:dW P w (env::outer) H1 s1 E e s')
  (k:∀s3,dW P w (env::outer) H1 s1 E e s3->Q () s3):
  wpAny (model P w) A (noteFrame e env) (λ_ s2=>wpAny (model P w) A (setFlight e none) Q Er s2) Er s':=by
 obtain⟨a,C,d,H',vs,rfl,lo,os,bare,un,aw,ha,xr,fl,q⟩:=cx;obtain⟨oe,at_,cls,dic,dat,sz⟩:=xr;have nx:∀b:Addr,b∉([]:List Addr):=λb z=>absurd z (by simp);have fun2:s'.heap.FunFrames base (env::outer):=by
  have all:∀l:List Env,(∀b∈cP l,b∈cP (env::outer))->s1.heap.FunFrames base l->s'.heap.FunFrames base l:=by
   intro l;induction l with
   |nil=>exact λ_ _=>trivial
   |cons x r ih=>
    rintro hs ⟨kd,⟨L',o,f',n',g',nf⟩,rest⟩;have mem:L'∈cP (x::r):=by
     unfold cP;rw[Jf,f'];exact Yo
    obtain⟨sl,g2⟩:=un.slot L' o g' (free L' (hs _ mem)) (hs _ mem) (nx _);refine⟨kd,⟨L',_,f',n',g2,nf⟩,ih (λb hb=>hs b ?_) rest⟩;unfold cP at hb⊢;rw[Jf,f'];exact Yw _ hb
  exact all _ (λ_ z=>z) ko
 have Sm:s1.heap.get? a=none:=Heap.get?_none_of_le lo;have cB:∀b∈cP (env::outer),∃o,s'.heap.get? b=some o/\∀ws,o.data≠.fields ws:=λb hb=>(fun2.mem hb).2;have TL:∀b∈cP (env::outer),H' b=none:=λb hb=>by
  obtain⟨_,o,g',_⟩:=ko.mem hb;exact un.free b o g' (free b hb) (nx _)
 have frS:∀b∈cP (env::outer),b<s1.heap.objs.size:=λb hb=>let⟨_,o,g',_⟩:=ko.mem hb;Ys g'
 --Zgh is wanted of any ZiK end
 have fin:∀(h':Heap) (T:Addr) (ts:Array Value),(∀b o,b≠a->b∉cP (env::outer)->s1.heap.objs.size<=b\/H' b≠none\/s'.heap.get? b=some o->s'.heap.get? b=some o->(H' b≠none\/b<s1.heap.objs.size)->h'.get? b=some o)->
   (∀b o,b∈cP (env::outer)->s'.heap.get? b=some o->∃sl,h'.get? b=some {o with slots:=sl})->h'.get? a=some {oe with data:=.fields (vs.setIfInBounds 1 (.ref T))}->
   s'.heap.objs.size<=T->T≠a->h'.get? T=some {cls:=.type "traceback",dict:=none,data:=.fields ts}->ts[3]?=some Value.none->dW P w (env::outer) H1 s1 E (.ref a) {s' with heap:=h'}:=by
  intro h' T ts kp sl ea lT neT eT t3;have BV:∀b o,b≠a->b∉cP (env::outer)->s'.heap.get? b=some o->(H' b≠none\/b<s1.heap.objs.size)->h'.get? b=some o:=λb o h1 h2 h3 h4=>kp b o h1 h2 (.inr (.inr h3)) h3 h4;have szs:s1.heap.objs.size<=s'.heap.objs.size:=Y0 lo (Jk (Ys at_));have nT:H' T=none:=aw.fresh lT;have TM:gk h' a C (some d) (vs.setIfInBounds 1 (.ref T)):=⟨_,ea,cls,dic,rfl,by rw[Array.size_setIfInBounds];exact sz⟩;have Iq:c_ P w H' h':=by
   intro b o hb;by_cases e1:b=a
   ·subst e1;rw[ha] at hb;cases hb;exact Ro TM
   ·have nf:b∉cP (env::outer):=λz=>by rw[TL b z] at hb;cases hb
    have own:∀c,H' c=some (.own b)->c≠a:=λc hc z=>by rw[z,ha] at hc;cases hc
    refine(aw b o hb).ie (λc u hc g=>?_) (λc hc=>hc) (λc xs hc=>hc);rcases hc with rfl|hc;·exact BV _ u e1 nf g (.inl (by rw[hb];simp))
    ·exact BV c u (own c hc) (λz=>by rw[TL c z] at hc;cases hc) g (.inl (by rw[hc];simp))
  refine⟨a,C,d,H',_,rfl,lo,os,bare,⟨λb o g' n' f' x'=>?_,λb o g' n' f' x'=>?_,un.free,λb o g' x'=>?_,un.g_,un.ig,un.iP⟩,Iq,ha,TM,.inr ⟨T,_,ts,by simp[sz],Y0 szs lT,nT,eT,rfl,t3⟩,q⟩
  ·have g2:=un.keep b o g' n' f' x';exact BV b o (λz=>by rw[z,Sm] at g';cases g') f' g2 (.inr (Ys g'))
  ·obtain⟨s0,g2⟩:=un.slot b o g' n' f' x';obtain⟨s2,g3⟩:=sl b _ f' g2;exact⟨s2,g3⟩
  ·obtain⟨o',g2⟩:=un.there b o g' x';have hb:b≠a:=λz=>by rw[z,Sm] at g';cases g'
   by_cases f':b∈cP (env::outer)
   ·obtain⟨s2,g3⟩:=sl b _ f' g2;exact⟨_,g3⟩
   ·exact⟨o',BV b o' hb f' g2 (.inr (Ys g'))⟩
 have hE:(env.frame=some L):=hL;unfold noteFrame;simp only[hE];refine wpAny_bind ?_;rcases fl with z|⟨T0,oT,yp,z,lT,Ka,g0,d0,t0⟩
 ·refine wpAny_field at_ dat z ?_;rw[if_neg (by decide)];refine MW fr fun2 hL at_ dat sz λh' T ts k1 k2 k3 k4 k5 k6 k7=>k _ (fin h' T ts (λb o h1 h2 _ h3 _=>k1 b o h1 h2 h3) k2 k3 k4 k5 k6 k7)
 ·refine wpAny_field at_ dat z ?_;rw[if_pos (by simp)];have BW:T0≠a:=λy=>by rw[y,ha] at Ka;cases Ka
  refine wpAny_bind (wpAny_field g0 d0 t0 ?_);rw[if_neg (by simp[rawInt])];refine wpAny_bind (wpAny_setField g0 d0 (Jq.mp t0).1 ?_);have aI:∀b,b≠T0->(s'.heap.update T0 (Obj.mapFields (·.setIfInBounds 3 Value.none))).get? b=s'.heap.get? b:=λb hb=>Wa _ _ (Ne.symm hb);have fT:T0∉cP (env::outer):=λy=>by
   obtain⟨o,g',nf⟩:=cB T0 y;rw[g0] at g';cases g';exact nf _ d0
  have szu:(s'.heap.update T0 (Obj.mapFields (·.setIfInBounds 3 Value.none))).objs.size=s'.heap.objs.size:=Heap.size_after_update ..;refine MW (s:={s' with heap:=s'.heap.update T0 (Obj.mapFields (·.setIfInBounds 3 Value.none))}) fr (fun2.of_keeps λb o g' nf=>⟨o,(aI b λy=>by rw[y,g0] at g';cases g';exact nf _ d0).trans g',rfl⟩) hL ((aI a (Ne.symm BW)).trans at_) dat sz
   λh' T ts k1 k2 k3 k4 k5 k6 k7=>k _ (fin h' T ts (λb o h1 h2 _ h3 h4=>?_) (λb o h1 h2=>?_) k3 (by rw[←szu];exact k4) k5 k6 k7)
  ·have nb:b≠T0:=λy=>by
    subst y;rcases h4 with h4|h4;·exact h4 Ka
    ·exact absurd lT (Nat.not_le.mpr h4)
   exact k1 b o h1 h2 ((aI b nb).trans h3)
  ·exact k2 b o h1 ((aI b λy=>fT (y▸h1)).trans h2)
end
def vH.mono{lo TN:Nat}{H:Hp}{h:Heap}{vs:Array Value}(f:vH lo H h vs)(l:TN<=lo):vH TN H h vs:=by
 rcases f with z|⟨T,oT,ts,h1,h2,r⟩;·exact .inl z
 ·exact .inr ⟨T,oT,ts,h1,Y0 l h2,r⟩
def oU(X:Cx)(E:St->XK):Prop:=∀(pins:aU) (σ:St) (H:Hp) (s:Shared) (e:Value) (s':Shared),Inv X pins σ H s->dW X.prog X.w X.stack H s (E σ) e s'->X.xe e s'
def Inv.Ql{X:Cx}{pins:aU}{σ:St}{H1:Hp}{s1 s3:Shared}{E:XK}{e:Value}(I:Inv X pins σ H1 s1)(cx:dW X.prog X.w X.stack H1 s1 E e s3):
  ∃(a C d:Addr) (H':Hp) (vs:Array Value),e=.ref a/\s1.heap.objs.size<=a/\Inv X pins σ H' s3/\H' a=some (xo a C (some d))/\gk s3.heap a C (some d) vs/\vH s1.heap.objs.size H' s3.heap vs/\E (.ref C) (some d) H':=by
 obtain⟨a,C,d,H',vs,rfl,lo,os,bare,un,aw,ha,xr,fl,q⟩:=cx;exact⟨a,C,d,H',vs,rfl,lo,I.Hk (ch:=[]) os un aw bare (λb z=>absurd z (by simp)),ha,xr,fl,q⟩
section
variable {P:Program}{w:World}{K:ah}{mg:aQ}{base:Heap}{N:List Str}{qual:Str}{scope:Scope}{f:Addr}{cd:Value}{A:Around}{outer:List Env}{s:Shared}{H:Hp}{E:XK}
def Hu:oU (kh (dW P w) P w K mg base N qual scope f cd A outer s H E) (λ_=>E):=by
 intro pins σ H1 s1 e s' I cx;show wpAny (model P w) _ (leaving _ e) _ _ s';unfold leaving;refine wpAny_bind (OI (base:=base) I.ok.frames I.stack I.z_ rfl cx λs3 c3=>?_);obtain⟨a,C,d,H',vs,rfl,lo,J,ha,xr,fl,q⟩:=I.Ql c3;have sz:s.heap.objs.size<=s1.heap.objs.size:=I.sz;exact⟨a,C,d,H',vs,rfl,Y0 sz lo,J.os,J.bare,J.base,J.aw,ha,xr,fl.mono sz,q⟩
def Iu:PassesOwn (model P w) (kh (dW P w) P w K mg base N qual scope f cd A outer s H E).A (kh (dW P w) P w K mg base N qual scope f cd A outer s H E).env (kh (dW P w) P w K mg base N qual scope f cd A outer s H E).xe:=
 λe s' h=>PassesOwn.leaving (Q₁:=λe sZ=>dW P w outer H s E e sZ) e s' h
end
def Zel(sp:Sp)(c5:List V)(E:St->XK)(t:TA):TE:=λσ H Q=>t σ H λvs H1=>sp (vs++c5) H1 Q (E σ)
def Iv(P:Program)(w:World)(K:ah)(mg:aQ)(base:Heap)(k:Nat)(x:Str)(ps:List Str)(sp:Sp):Prop:=
 ∃f fd,aE P w K mg base (dW P w) k f fd ps sp/\Binds K fd ps []/\keepIn K (.ref f)=true/\mg x=some (.ref f)
section
variable {X:Cx}{k j:Nat}{f C:Addr}{fd:FuncData}{ps:List Str}{sp:Sp}{c5:List V}{ds:List Value}{E:St->XK}{x m:Str}{p pos apos:Pos}{e o:Expr}{es:List Expr}{ta:TE}{t:TA}
theorem OJ{pins:aU}{σ:St}{H:Hp}{s:Shared}{Q:VK}{us:List Value}{vs:List V}(F:aE X.prog X.w X.K X.mg X.base (dW X.prog X.w) k f fd ps sp)(hr:cF k X.A)(hb:Binds X.K fd ps ds)(hd:Vals c5 ds)(hx:oU X E)
  (I:Inv X pins σ H s)(r:Vals vs us)(h:sp (vs++c5) H Q (E σ)):wpAny X.md X.A (call (.ref f) us) (EP X pins σ Q) X.xe s:=by
 have r2:=r.append hd;have hl:(us++ds).length=ps.length:=by rw[←r2.length];exact F.len _ _ _ _ h
 refine wpAny_call (codeAny_mono (F.run X.A X.stack s H ⟨us,[]⟩ (us++ds) (vs++c5) Q (E σ) hr I.AY (hb s us I.bZ hl) r2 h) λr s' hq=>?_);cases r with
 |error e=>exact hx pins σ H s e s' I hq
 |ok fl=>cases fl<;>first|exact I.after hq|exact False.elim hq
def Zem(h:Iv X.prog X.w X.K X.mg X.base k x ps sp)(hr:cF j X.A)(hj:k<=j)(hx:oU X E)(hg:Gl X x)(ha:PA X (e::es) t)
  (eN:(x==("__debug__":Str))=false:=by decide)(he:ik X e es:=by rfl)(bQ:iV X pos es:=by rfl):
  PE X (.Call (.Name x p) (e::es) [] pos) (Zel sp [] E t):=by
 obtain⟨f,fd,F,b,kp,hm⟩:=h;intro pins s σ H Q I h;exact wpAny_Call_Name_kw (rN I hg hm (callWith_K I.ok.mod.mI kp (ay (ha pos pins s σ H _ I h) λus s1 ⟨vs,H1,I1,r,q⟩=>⟨I1.bZ,OJ F (hr.mono hj) b .nil hx I1 r q⟩) he bQ) eN)
def Qm(C:Addr)(m:Str)(sp:Sp)(E:St->XK)(ta:TE)(t:TA):TE:=λσ H Q=>ta σ H λx H1=>∃a dx fs,x=.ref a/\H1 a=some (.ins C dx fs)/\fs.lookup m=none/\t σ H1 λvs H2=>sp (x::(vs++[])) H2 Q (E σ)
def Zbw{pl:Sem Bool}(he:PE X o ta)(c:fU X.K C)(hm:Meth X.K C m f)(F:aE X.prog X.w X.K X.mg X.base (dW X.prog X.w) k f fd ps sp)(hr:cF k X.A)(hb:Binds X.K fd ps [])(hx:oU X E)(ha:PA X (e::es) t)
  (df:ik X e es:=by rfl)(bQ:iV X pos es:=by rfl)
  (ht:eval (.Call (.Attribute o m apos) (e::es) [] pos) X.env=(do
   let ov←eval o X.env
   standAt apos.atName
   let(f,first)←holding [ov] (getMethod ov m pl)
   callWith pos f first (backTo pos (starEach (e::es) X.env)) (backToKw pos (keywordEach [] X.env))):=by rfl):
  PE X (.Call (.Attribute o m apos) (e::es) [] pos) (Qm C m sp E ta t):=by
 intro pins s σ H Q I h;refine methodCall_KW (ay (he pins s σ H _ I h) λu s1 zq=>?_) ht;obtain⟨x,H1,I1,rx,a,dx,fs,ex,ea,l,q⟩:=zq;subst ex;obtain rfl:u=Value.ref a:=rx;exact EW I1 ea c hm l (callWith_K I.ok.mod.mI hm.kp (ay (ha pos pins s1 σ H1 _ I1 q) λus s2 ⟨vs,H2,I2,r,q2⟩=>⟨I2.bZ,OJ (vs:=.ref a::vs) F hr hb .nil hx I2 (.cons rfl r) q2⟩) df bQ)
end
section
variable {P:Program}{w:World}{K:ah}{mg:aQ}{base:Heap}
def aN.Kb{x qual:Str}{st:Stmt}{f:Addr}{fd:FuncData}{N ps:List Str}{k:Nat}{sp:Sp}(F:aN K x qual st f fd)(S:aP N ps (aF st))(len:∀vs H Q E,sp vs H Q E->vs.length=ps.length)
  (oS:∀(bC:Value) (A:Around) (outer:List Env) (s:Shared) (H:Hp) (vs:List V) (Q:VK) (E:XK),cF k (A.deeper (envOfC qual (aF st) s.heap.objs.size f bC))->sp vs H Q E->
   ∃t,eZ (kh (dW P w) P w K mg base N qual (aF st) f bC A outer s H E) (iI st) t/\t {nx:=λ_ H'=>Q .az H',rt:=Q} (start N vs) H):aE P w K mg base (dW P w) (k+1) f fd ps sp:=by
 obtain⟨oc,od,kV,doc,pm,an,bC,ct,iW,rfl,lk,e_⟩:=F.ex;exact Ho lk e_ S len λA outer s H vs Q E hr lF=>oS bC A outer s H vs Q E hr lF
end
structure u9(K:ah)(C f:Addr):Prop where
 mF:∃(nm q:Str) (N:Addr) (bs bm:List Value) (sn:List Str) (sub:List Value) (ab:Bool) (col:Option Bool) (dd:Option Addr) (k0 k1 k2 k3 k5:Option Value),
  K.lookup C=some (excClassObj nm q C N bs bm true sn sub ab col dd k0 k1 k2 k3 k5 "ValueError.__new__")
 lJ:PySem.W.mroIn K C (.type "ValueError")=some true
 yq:PySem.W.mroIn K C (.type "BaseException")=some true
 kz:PySem.W.mroIn K C (.type "AttributeError")=some false
 tF:PySem.W.mroIn K C (.type "NameError")=some false
 init:PySem.W.findIn K (.ref C) "__init__"=some (some (.ref f))
 fn:isFn K (.ref f)=true
 kp:keepIn K (.ref C)=true
def wZ{K:ah}{C:Addr}{nm q:Str}{N:Addr}{bs bm:List Value}{hd:Bool}{sn:List Str}{sub:List Value}{ab:Bool}{col:Option Bool}{dd:Option Addr}{k0 k1 k2 k3 k5:Option Value}{nid:String}{v:Value}{b:Bool}
  (l:K.lookup C=some (excClassObj nm q C N bs bm hd sn sub ab col dd k0 k1 k2 k3 k5 nid))(h:PySem.W.mroIn K C v=some b):(Value.ref C::bm).contains v=b:=by
 unfold PySem.W.mroIn PySem.W.clsIn at h
 grind
section
variable {prog:Program}{w:World}{A:Around}{E:a8}{h:Heap}{g:Array GenState}{d:Drawn}{t:Nat}{os:OsState}
variable {nm q:Str}{C N:Addr}{bs bm:List Value}{A4:Bool}{sn:List Str}{sub:List Value}{ab:Bool}{col:Option Bool}{dd:Option Addr}{k0 k1 k2 k3 k5:Option Value}
local macro_rules|`(tactic|walk_at "vlu")=>`(tactic|exact excBase_ValueError)
def ZaD{M:Model}{rest:List Value}{Q:Unit->Shared->Prop}(kc:h.get? C=some (excClassObj nm q C N bs bm A4 sn sub ab col dd k0 k1 k2 k3 k5 "ValueError.__new__"))(lJ:(Value.ref C::bm).contains (.type "ValueError")=true)
  (z:Q () ⟨h,g,d,t,os⟩):wpAny M A (checkBuiltinCall "ValueError.__new__" ⟨.ref C::rest,[]⟩) Q E ⟨h,g,d,t,os⟩:=by
 have G:=excBase_ValueError;simp only[checkBuiltinCall,G.newKind,G.newSplit,G.newRow];repeat (first|refine wpAny_loadPart_at kc ?_|(refine wpAny_isSubtype_exc kc ?_;rw[lJ])|refine wpAny_staticBase_exc kc ?_|refine wpAny_madeBy_exc kc ?_|simp only[bne_self_eq_false,if_false]|wp_step)
 exact z
def Zbx{R:Result->Shared->Prop}{rest:List Value}(kc:h.get? C=some (excClassObj nm q C N bs bm A4 sn sub ab col dd k0 k1 k2 k3 k5 "ValueError.__new__"))(lJ:(Value.ref C::bm).contains (.type "ValueError")=true)
  (kz:(Value.ref C::bm).contains (.type "AttributeError")=false)(tF:(Value.ref C::bm).contains (.type "NameError")=false)
  (z:R (.ok (.ret (.ref (h.objs.size+1)))) ⟨(h.push {cls:=.type "tuple",data:=.seq rest.toArray}).push {cls:=.ref C,data:=.fields #[.ref h.objs.size,.none,.none,.none,.bool false,.none]},g,d,t,os⟩)(lim:rest.length<=sizeLine):
  codeAny (model prog w) A (.builtin "ValueError.__new__" ⟨.ref C::rest,[]⟩) R ⟨h,g,d,t,os⟩:=by
 have G:=excBase_ValueError;have ends:=G.ends;refine codeAny_builtinAt G.entry ?_;refine PySem.wpAt_bind ?_;refine PySem.wpAt_bind (PySem.wpAt_stack λp below=>PySem.wpAt_of_wpAny ?_)
 wp_walk
 refine PySem.wpAt_of_wpAny ?_;rw[G.owner];repeat (first|with_reducible refine wpAny_madeHere_exc G.canon kc ?_|with_reducible refine wpAny_loadPart_at kc ?_|(with_reducible refine wpAny_isSubtype_exc kc ?_;first|rw[lJ]|rw[kz]|rw[tF])|wp_step)
 simp_all
def Zby{rest:List Value}{fI:Addr}{Q:Fin->Shared->Prop}(kc:h.get? C=some (excClassObj nm q C N bs bm A4 sn sub ab col dd k0 k1 k2 k3 k5 "ValueError.__new__"))(lJ:(Value.ref C::bm).contains (.type "ValueError")=true)
  (kz:(Value.ref C::bm).contains (.type "AttributeError")=false)(tF:(Value.ref C::bm).contains (.type "NameError")=false)
  (li:PySem.W.Looks (model prog w) h (typeLookup (.ref C) "__init__") (some (.ref fI)))(lt:PySem.W.Looks (model prog w) h (typeOf (.ref fI)) (.type "function"))
  (z:wpAny (model prog w) A (call (.ref fI) (.ref (h.objs.size+1)::rest)) (λr s'=>r=.none/\Q (.done (.ret (.ref (h.objs.size+1)))) s') E
   ⟨(h.push {cls:=.type "tuple",data:=.seq rest.toArray}).push {cls:=.ref C,data:=.fields #[.ref h.objs.size,.none,.none,.none,.bool false,.none]},g,d,t,os⟩)(lim:rest.length<=sizeLine):
  wpAny (model prog w) A (Builtin.«type.__call__» ⟨.ref C::rest,[]⟩) Q E ⟨h,g,d,t,os⟩:=by
 have G:=excBase_ValueError;repeat (first|with_reducible refine wpAny_loadPart_at kc ?_|with_reducible refine wpAny_madeBy_exc kc ?_|wp_step)
 refine codeAny_call_builtin_code (Code.quiet_builtin _ G.quiet) (ZaD kc lJ (Zbx kc lJ kz tF ?_ lim));show wpAny _ _ _ _ _ _;have up:∀b o,h.get? b=some o->((h.push {cls:=.type "tuple",data:=.seq rest.toArray}).push {cls:=.ref C,data:=.fields #[.ref h.objs.size,.none,.none,.none,.bool false,.none]}).get? b=some o:=
  λb o e=>Yb _ (Yb _ e)
 have kc1:=up _ _ kc;have ZfJ:(Value.ref C::bm).contains (.ref C)=true:=by simp
 unfold isInstance;repeat (first|with_reducible refine wpAny_loadPart_at here ?_|(with_reducible refine wpAny_isSubtype_exc kc1 ?_;rw[ZfJ])|wp_step)
 refine(li.keeps up) _ _ _ _ (λ_ _ e=>e) ?_;refine wpAny_holding (wpAny_bind ?_);unfold bindSpecial;refine wpAny_bind ((lt.keeps up) _ _ _ _ (λ_ _ e=>e) ?_);rw[if_pos (by decide)];refine wpAny_pure (wpAny_bind (wpAny_mono z (λr s' hr=>?_) λ_ _ x=>x));obtain⟨rfl,hQ⟩:=hr
 wp_walk
 exact hQ
def Zbz{rest:List Value}{fI:Addr}{Q:a8}(kc:h.get? C=some (excClassObj nm q C N bs bm A4 sn sub ab col dd k0 k1 k2 k3 k5 "ValueError.__new__"))(lJ:(Value.ref C::bm).contains (.type "ValueError")=true)
  (kz:(Value.ref C::bm).contains (.type "AttributeError")=false)(tF:(Value.ref C::bm).contains (.type "NameError")=false)
  (li:PySem.W.Looks (model prog w) h (typeLookup (.ref C) "__init__") (some (.ref fI)))(lt:PySem.W.Looks (model prog w) h (typeOf (.ref fI)) (.type "function"))
  (z:wpAny (model prog w) (A.under (.builtin "type.__call__" ⟨.ref C::rest,[]⟩)) (call (.ref fI) (.ref (h.objs.size+1)::rest)) (λr s'=>r=.none/\Q (.ref (h.objs.size+1)) s') E
   ⟨(h.push {cls:=.type "tuple",data:=.seq rest.toArray}).push {cls:=.ref C,data:=.fields #[.ref h.objs.size,.none,.none,.none,.bool false,.none]},g,d,t,os⟩)(lim:rest.length<=sizeLine):
  wpAny (model prog w) A (call (.ref C) rest) Q E ⟨h,g,d,t,os⟩:=by
 have f1:=tc_lookup;have f2:=tc_bind (.ref C);refine wpAny_call (codeAny_of_tree ?_);repeat (any_goals (first|assumption|with_reducible refine wpAny_loadPart_at kc ?_|wp_step))
 exact⟨rfl,codeAny_call_builtin_at (Code.quiet_builtin _ (by decide+kernel)) entry_typeCall (wpAny_check_type_call_sub kc (Zby kc lJ kz tF li lt z lim))⟩
end
end L2
namespace L2
open PySem PySem.Spec PyProof.Rows
open PySem.W (Looks InstAt looks_findIn looks_typeIn looks_clsIn looks_mroIn looks_find findObj findIn mroIn clsIn)
abbrev ph:List Value:=[.type "ValueError",.type "Exception",.type "BaseException",.type "object"]
structure dC(K:ah)(C:Addr):Prop where
 mF:∃(nm q:Str) (N:Addr) (bs:List Value) (cs:List Addr) (sn:List Str) (sub:List Value) (ab:Bool) (col:Option Bool) (dd:Option Addr) (k0 k1 k2 k3 k5:Option Value),
  K.lookup C=some (excClassObj nm q C N bs (cs.map Value.ref++ph) true sn sub ab col dd k0 k1 k2 k3 k5 "ValueError.__new__")
 ga:findIn K (.ref C) "__getattribute__"=some (some (.builtin "BaseException.__getattribute__"))
 gh:findIn K (.ref C) "__getattr__"=some none
 sa:findIn K (.ref C) "__setattr__"=some (some (.builtin "object.__setattr__"))
 cl:findIn K (.ref C) "__class__"=some (some (.builtin "object.__class__"))
 cg:specialIn K (.builtin "object.__class__") "__get__"=some (some (.builtin "getset_descriptor.__get__"))
 ct:takesIn K (.builtin "object.__class__")=some true
def Rq(C:Addr)(cs:List Addr)(v:Value)(h:ph.contains v=true):(Value.ref C::(cs.map Value.ref++ph)).contains v=true:=by
 grind
def dC.mro{K:ah}{C:Addr}(x:dC K C)(v:Value)(h:ph.contains v=true):mroIn K C v=some true:=by
 obtain⟨nm,q,N,bs,cs,sn,sub,ab,col,dd,k0,k1,k2,k3,k5,l⟩:=x.mF;unfold PySem.W.mroIn PySem.W.clsIn
 grind
def dC.hd{K:ah}{C:Addr}(x:dC K C):hasDictIn K C=true:=by
 obtain⟨nm,q,N,bs,cs,sn,sub,ab,col,dd,k0,k1,k2,k3,k5,l⟩:=x.mF;unfold hasDictIn PySem.W.clsIn;rw[l];rfl
def gk.inst{h:Heap}{a C d:Addr}{vs:Array Value}{od:Obj}(x:gk h a C (some d) vs)(e:h.get? d=some od):∃ox,InstAt h a ox C (some od):=by
 obtain⟨oe,e1,e2,e3,e4,_⟩:=x;refine⟨oe,e1,e2,?_,?_⟩
 ·unfold notCls;rw[e4]
 ·rw[e3];exact e
def gk.ZfK{h:Heap}{a C:Addr}{vs:Array Value}(x:gk h a C none vs):∃ox,InstAt h a ox C none:=by
 obtain⟨oe,e1,e2,e3,e4,_⟩:=x;refine⟨oe,e1,e2,?_,?_⟩
 ·unfold notCls;rw[e4]
 ·grind
section
variable {prog:Program}{w:World}{A:Around}{E:a8}{s:Shared}{K:ah}{x C:Addr}{ox:Obj}{od:Option Obj}{name:Str}
def Qn{tk:Tok}{R:Result->Shared->Prop}(KX:K.In s.heap)(I:InstAt s.heap x ox C od)(X:dC K C)
  (k:wpAny (model prog w) A.in1 (Builtin.«object.__getattribute__» ⟨[.ref x,.str name tk],[]⟩) (λfin s'=>match fin with|.done f=>R (.ok f) s'|.again c'=>c'.quiet=true/\codeAny (model prog w) A c' R s') (λe s'=>R (.error e) s') s):
  codeAny (model prog w) A (.call (.builtin "BaseException.__getattribute__") ⟨[.ref x,.str name tk],[]⟩) R s:=by
 have G:=PySem.F.attr_ValueError;exact codeAny_call_builtin G.ga.plain PySem.F.entry_bexc_ga (check_slot (i:="BaseException.__getattribute__") (owner:="BaseException") (n:="__getattribute__") (by decide+kernel) (by decide+kernel) ((I.type).andThen (looks_mroIn KX (X.mro _ (by decide)))) (PySem.F.args_bexc_ga _ _) k)
theorem Qo{tk:Tok}{fill expr:Bool}{Q:a8}(KX:K.In s.heap)(I:InstAt s.heap x ox C od)(X:dC K C)
  (k:codeAny (model prog w) A (.call (.builtin "BaseException.__getattribute__") ⟨[.ref x,.str name tk],[]⟩) (λr s'=>match r with|.ok (.ret v)=>handedIn v=true/\Q v s'|_=>False) s):
  wpAny (model prog w) A (getAttrBy (.ref x) (.str name tk) fill expr) Q E s:=by
 refine wpAny_holding (wpAny_bind ((I.type).here (wpAny_bind ((looks_findIn KX X.ga).here ?_))));show wpAny _ _ (if(onTheHeap (Value.ref C)&&Value.builtin "BaseException.__getattribute__"==Value.builtin "object.__getattribute__")=true then _ else getAttrByItsOwn (.ref x) (.str name tk) (.ref C) (.builtin "BaseException.__getattribute__") fill expr) _ _ _;refine wpAny_bind ((looks_findIn KX X.gh).here (wpAny_bind (wpAny_attempt (wpAny_holding ?_))));unfold callGetattribute;rw[if_neg (by cases expr<;>exact Yj)];refine wpAny_bind (wpAny_pure (wpAny_call (codeAny_mono k λr s' z=>?_)));cases r with
 |error e=>grind
 |ok f=>
  cases f with
  |ret v=>
   obtain⟨z1,z2⟩:=z;show wpAny _ _ (handedOut v) _ _ _;rw[PySem.W.handedOut_of z1];exact wpAny_pure z2
  |next=>grind
  |brk=>grind
  |cont=>grind
def ZgF{expr:Bool}{v:Value}{Q:a8}(KX:K.In s.heap)(I:InstAt s.heap x ox C od)(X:dC K C)(hf:findObj K C od name=some (.value v))(hh:handedIn v=true)(q:Q v {s with toks:=s.toks+1}):
  wpAny (model prog w) A (getAttr (.ref x) name expr) Q E s:=by
 exact wpAny_bind (wpAny_mkText (Qo KX I X (Qn KX I X (wpAny_bind (wpAny_pure (wpAny_bind (wpAny_pure (wpAny_bind ((I.type).at (wpAny_bind ((looks_find KX I hf).at (wpAny_pure (And.intro hh q)))))))))))))
def ZC{od:Obj}{Q:Option Value->Shared->Prop}(KX:K.In s.heap)(I:InstAt s.heap x ox C (some od))(X:dC K C)(q:Q (some (.ref C)) {s with toks:=s.toks+1}):wpAny (model prog w) A (getAttr? (.ref x) "__class__") Q E s:=by
 exact wpAny_bind (wpAny_mkText (wpAny_bind (wpAny_attempt (Qo KX I X (Qn KX I X (wpAny_bind (wpAny_pure (wpAny_bind (wpAny_pure (wpAny_bind ((I.type).here (s:={s with toks:=s.toks+1}) (wpAny_bind ((looks_find KX I (PySem.W.findObj_data (by obtain⟨cd,hc,_⟩:=any_some X.hd;rw[hc];rfl) X.cl X.cg X.ct)).here (s:={s with toks:=s.toks+1}) (wpAny_bind (wpAny_holding (wpAny_call (PySem.W.class_get KX I (X.mro _ (by decide)) (wpAny_pure ⟨rfl,wpAny_pure q⟩))))))))))))))))))
def ZbA{od:Obj}(X:dC K C):KitX K (.ref x) (.ref C) (λh=>∃ox,InstAt h x ox C (some od)) where
 ty:=λ_ _ _ ⟨_,I⟩=>I.type
 it:=λ_ _ KX _=>by
  obtain⟨nm,q,N,bs,cs,sn,sub,ab,col,dd,k0,k1,k2,k3,k5,l⟩:=X.mF;intro A' Q' E' s' k q;exact wpAny_bind (wpAny_loadPart (k _ _ (KX _ _ l)) (wpAny_pure q))
 ne:=λh tp dd0 ai n sl KX e=>by
  obtain⟨nm,q,N,bs,cs,sn,sub,ab,col,dd,k0,k1,k2,k3,k5,l⟩:=X.mF;refine Jn.mpr λz=>?_;have z:=Value.ref.inj (beq_iff_eq.mp z);subst z;have y:=congrArg Obj.cls (Yn ((KX _ _ l).symm.trans e))
  grind
 ca:=λKX ⟨_,I⟩ k=>ZC KX I X k
theorem Mq(self:Value):∀cs:List Addr,refuseLoop self "__setattr__" (cs.map Value.ref++ph)=pure ()
 |[]=>PySem.F.store_ValueError.passes self
 |c::r=>by
  show refuseLoop self "__setattr__" (.ref c::(r.map Value.ref++ph))=pure ();rw[refuseLoop_ref];exact Mq self r
def Sn{v:Value}{Q:Unit->Shared->Prop}(KX:K.In s.heap)(I:InstAt s.heap x ox C od)(X:dC K C)(na:findIn K (.ref C) name=some none)
  (k:wpAny (model prog w) A.in1 (Builtin.ObjectAttr.storeInOwnDict (.ref x) (.ref C) (.str name s.toks) name v false) (λfin s'=>fin=PySem.Fin.done (.ret .none)/\Q () s') (λ_ _=>False) {s with toks:=s.toks+1}):
  wpAny (model prog w) A (setAttr (.ref x) name v) Q E s:=by
 have SF:=PySem.F.store_object;refine set_plain KX I X.sa ?_;have sub:Looks (model prog w) s.heap (isInstance (.ref x) (.type "object")) true:=I.type.andThen (looks_mroIn KX (X.mro _ (by decide)));refine codeAny_call_builtin SF.slot.plain SF.entry (@check_slot (model prog w) _ _ {s with toks:=s.toks+1} "object.__setattr__" "object" "__setattr__" (.ref x) [.str name s.toks,v] [] _ SF.kind SF.split sub (SF.args (.ref x) (.str name s.toks) v) ?_);obtain⟨nm,q,N,bs,cs,sn,sb,ab,col,dd,k0,k1,k2,k3,k5,l⟩:=X.mF;have hm:Looks (model prog w) s.heap (mroOf (.ref C)) (.ref C::(cs.map Value.ref++ph)):=(looks_clsIn KX (by unfold PySem.W.clsIn;rw[l])).andThen .now;rw[osa_eq,refuse_eq];refine wpAny_bind (wpAny_bind (I.type.here (s:={s with toks:=s.toks+1}) (wpAny_bind (hm.here (s:={s with toks:=s.toks+1}) ?_))));rw[refuseLoop_ref,Mq];refine wpAny_pure (wpAny_bind (I.type.here (s:={s with toks:=s.toks+1}) (wpAny_bind ((looks_findIn KX na).here (s:={s with toks:=s.toks+1}) (wpAny_bind (wpAny_pure ?_))))));refine wpAny_mono k (λfin s' z=>?_) λ_ _ z=>z.elim;obtain⟨rfl,z⟩:=z;exact z
end
def xq(d:Addr)(fs:List (Str×V)):HO:=.ext λh=>∃mA,h.Ns1 d mA/\(∀f,d7 (fs.lookup f) (mA f))/\PySem.Within mA (fs.map (·.1))
def Rr{P:Program}{w:World}{H:Hp}{h:Heap}{d:Addr}{fs:List (Str×V)}{mA:aQ}(n:h.Ns1 d mA)(r:∀f,d7 (fs.lookup f) (mA f))(wi:PySem.Within mA (fs.map (·.1))):cJ P w H h d (xq d fs):=
 ⟨⟨mA,n,r,wi⟩,let⟨o,_,_,e,_⟩:=n;⟨o,e⟩,λ_ _ ⟨m,y,q⟩ k=>⟨m,y.at k,q⟩⟩
def GS{P:Program}{w:World}{H:Hp}{h:Heap}{d:Addr}{fs:List (Str×V)}(ok:c_ P w H h)(e:H d=some (xq d fs)):∃mA,h.Ns1 d mA/\(∀f,d7 (fs.lookup f) (mA f))/\PySem.Within mA (fs.map (·.1)):=(ok d _ e).1
def OK{f:Str}{y:V}{u:Value}{fs:List (Str×V)}{mA:aQ}(ry:RelV y u)(r:∀g,d7 (fs.lookup g) (mA g)):∀g,d7 ((cK f y fs).lookup g) (if g=f then some u else mA g):=λg=>by
 rw[Ej];by_cases q:g=f;·rw[if_pos q,if_pos q];exact ry
 ·grind
def Mr{f:Str}{y:V}{u:Value}{fs:List (Str×V)}{mA:aQ}(wi:PySem.Within mA (fs.map (·.1))):PySem.Within (λg=>if g=f then some u else mA g) ((cK f y fs).map (·.1)):=λg hg=>by
 by_cases q:g=f;·rw[q];exact(wQ f y fs).1
 ·refine(wQ f y fs).2 g (wi g λz=>hg ?_)
  grind
section
variable {prog:Program}{w:World}{A:Around}{E:a8}{s:Shared}{K:ah}{x C:Addr}{name:Str}{nV v:Value}{b:Bool}{tk:Tok}
def ZaE{ox:Obj}{d:Addr}{mA:aQ}{ns:List Str}{Q:PySem.Fin->Shared->Prop}(KX:K.In s.heap)(X:dC K C)(hx:s.heap.get? x=some ox)(hc:ox.cls=.ref C)(hd:ox.dict=some d)(n:s.heap.Ns1 d mA)(wi:PySem.Within mA ns)(sz:ns.length<sizeLine)
  (k:∀h' yr,h'.Ns1 d (λy=>if y=name then some v else mA y)->Heap.SameBut d s.heap h'->Q (.done (.ret .none)) {s with heap:=h',toks:=yr}):
  wpAny (model prog w) A (Builtin.ObjectAttr.storeInOwnDict (.ref x) (.ref C) (.str name tk) name v b) Q E s:=by
 obtain⟨oc,odi,TQ,iW⟩:=ox;subst hc hd;obtain⟨cd,e_,hh⟩:=any_some X.hd;refine wpAny_bind (wpAny_pure (wpAny_bind (wpAny_bind (wpAny_loadPart hx (wpAny_bind ((looks_clsIn KX e_).here ?_))))));rw[hh];refine wpAny_pure (wpAny_bind (wpAny_pure (wpAny_bind (wpAny_nsSet1 n λh' n2 s2=>?_))));obtain⟨oD,Tq,Tr,ye,yf,yg⟩:=n2.count (PySem.Within.cons name v wi);exact wpAny_bind (wpAny_lookBehind ye (by rw[yf];exact pastItsLine_dict (Y0 yg (by rw[Y7];omega))) (wpAny_pure (k _ _ n2 s2)))
def ZaF{ox:Obj}{vs:Array Value}{Q:PySem.Fin->Shared->Prop}(KX:K.In s.heap)(X:dC K C)(hx:s.heap.get? x=some ox)(hc:ox.cls=.ref C)(hd:ox.dict=none)(hf:ox.data=.fields vs)
  (k:∀h' yr,h'.Ns1 s.heap.objs.size (λy=>if y=name then some v else none)->h'.get? x=some {ox with dict:=some s.heap.objs.size}->(∀c o,c≠x->s.heap.get? c=some o->h'.get? c=some o)->Q (.done (.ret .none)) {s with heap:=h',toks:=yr}):
  wpAny (model prog w) A (Builtin.ObjectAttr.storeInOwnDict (.ref x) (.ref C) (.str name tk) name v b) Q E s:=by
 obtain⟨oc,odi,TQ,iW⟩:=ox;subst hc hd hf;obtain⟨cd,e_,hh⟩:=any_some X.hd;refine wpAny_bind (wpAny_pure (wpAny_bind (wpAny_bind (wpAny_loadPart hx (wpAny_bind ((looks_clsIn KX e_).here ?_))))));rw[hh];have xs:=Yy (Ys hx);have TR:(s.heap.push {cls:=.type "dict",data:=.dict #[]}).get? x=some ⟨.ref C,none,.fields vs,iW⟩:=Yb _ hx;refine wpAny_bind (wpAny_alloc' (wpAny_bind (wpAny_update' TR (wpAny_pure ?_))));have gd:((s.heap.push {cls:=.type "dict",data:=.dict #[]}).update x λo=>{o with dict:=some s.heap.objs.size}).get? s.heap.objs.size=some {cls:=.type "dict",data:=.dict #[]}:=
  (TU _ _ _ _ xs.symm).trans (Heap.get?_push_at rfl rfl)
 refine wpAny_bind (wpAny_pure (wpAny_bind (wpAny_nsSet1 (Heap.Ns1.of_empty ⟨_,#[],_,gd,rfl,λe he=>absurd he (by simp),λ_=>rfl⟩) λh' n2 s2=>?_)));obtain⟨oD,Tq,Tr,ye,yf,yg⟩:=n2.count (PySem.Within.cons name v PySem.Within.nil);refine wpAny_bind (wpAny_lookBehind ye (by rw[yf];exact pastItsLine_dict (Y0 yg (by rw[Y7,TK,sizeLine_eq];omega))) (wpAny_pure (k _ _ n2 ?_ λc o hc hg=>?_)));·exact(s2.2 x xs).trans (Wn _ TR rfl)
 ·exact(s2.2 c (Yy (Ys hg))).trans ((TU _ _ _ _ hc).trans (Yb _ hg))
end
def Rt(K:ah)(ta tv:TE)(f:Str):TS:=λ D σ H=>tv σ H λ y H1=>ta σ H1 λ x H2=>∃ a C,x=.ref a/\dC K C/\de K C f /\
  ((H2 a=some (xn a C none)/\∀ d,H2 d=none->d≠a->D.nx σ (upd (upd H2 d (xq d [(f,y)])) a (xn a C (some d)))) \/
   ∃ d fs,H2 a=some (xn a C (some d))/\H2 d=some (xq d fs)/\d≠a/\fs.length < 1000/\D.nx σ (upd H2 d (xq d (cK f y fs))))
def Ru(K:ah)(ta:TE)(f:Str):TE:=λσ H Q=>ta σ H λx H1=>∃a C d fs v,x=.ref a/\H1 a=some (xo a C (some d))/\H1 d=some (xq d fs)/\dC K C/\de K C f/\fs.lookup f=some v/\Q v H1
inductive OL(K:ah)(xs:List V)(H:Hp)(Q:VK):Prop
 |mk (a C d:Addr) (fs:List (Str×V)) (c:V) (u:Value) (b:Bool) (aC:xs=[.ref a,c]) (aS:RelV c u) (bb:H a=some (xo a C (some d))) (bL:H d=some (xq d fs)) (cD:dC K C) (dB:kitOne K (.ref C) u=some b) (fD:Q (.bl b) H):OL K xs H Q
def Rv(K:ah):List V->Hp->VK->Prop:=λxs H Q=>OL K xs H Q
section
variable {X:Cx}{o e value:Expr}{f:Str}{pos pos':Pos}{ta tv:TE}
def ZcW(ha:PE X o ta)(hv:PE X value tv)(hs:swapsWith value (some (.Attribute o f pos')) pos.line X.env=pure false:=by rfl):PS X (.Assign [.Attribute o f pos'] value pos) (Rt X.K ta tv f):=by
 intro pins s σ H D I h;refine plainObj_wpAny_Assign_Attribute (ay (hv pins s σ H _ I h) λu s1 zq=>?_) hs;obtain⟨y,H1,I1,ry,q⟩:=zq;refine ay (ha pins s1 σ H1 _ I1 q) λov s2 zq=>?_;obtain⟨x,H2,I2,rx,a,C,ex,xa,na,q2⟩:=zq;subst ex;obtain rfl:ov=Value.ref a:=rx;rcases q2 with⟨ea,q2⟩|⟨d,fs,ea,ed,nd,lim,q2⟩
 ·obtain⟨vs,xr,v1⟩:=Ax I2.aw ea;obtain⟨ox,J⟩:=xr.ZfK;obtain⟨oe,e1,e2,e3,e4,e5⟩:=xr;refine Sn I2.bZ J xa na (ZaF (s:={s2 with toks:=s2.toks+1}) I2.bZ xa e1 e2 e3 e4 λh' tk n2 ex kp=>⟨rfl,?_⟩);have dn:H2 s2.heap.objs.size=none:=I2.aw.fresh (Yd _);have ne:s2.heap.objs.size≠a:=Je (Ys e1);refine⟨σ,_,?_,q2 s2.heap.objs.size dn ne⟩;have hx':gk h' a C (some s2.heap.objs.size) vs:=⟨_,ex,e2,rfl,e4,e5⟩;refine I2.un (h':=h') (t':=tk) ⟨λb ob hb n _ _=>?_,λb ob hb n fr _=>?_,λb ob hb n _=>?_,λb ob hb _=>?_,λb xs hb=>?_,λb ob u hb=>?_,λb ps hb=>?_⟩ λb ob hb=>?_;·exact kp b ob (λz=>by rw[z,ea] at n;cases n) hb
  ·exact⟨ob.slots,kp b ob (λz=>by rw[z,ea] at n;cases n) hb⟩
  ·rw[aK (λz=>by rw[z,ea] at n;cases n),aK (Yy (Ys hb))];exact n
  ·by_cases z:b=a;·exact⟨_,z▸ex⟩
   ·exact⟨ob,kp b ob z hb⟩
  ·rw[aK (λz=>by rw[z,ea] at hb;cases hb),aK (λz=>by rw[z,dn] at hb;cases hb)];exact hb
  ·rw[aK (λz=>by rw[z,ea] at hb;cases hb),aK (λz=>by rw[z,dn] at hb;cases hb)];exact hb
  ·exact⟨#[],by rw[aK (λz=>by rw[z,ea] at hb;cases hb),aK (λz=>by rw[z,dn] at hb;cases hb),hb];simp⟩
  ·by_cases z:b=a
   ·subst z;rw[aR] at hb;cases hb;exact(λH0=>Hs hx' v1) _
   ·rw[aK z] at hb;by_cases z2:b=s2.heap.objs.size
    ·subst z2;rw[aR] at hb;cases hb;exact(λH0=>Rr n2 (OK (fs:=[]) (mA:=λ_=>none) ry λg=>trivial) (Mr (y:=y) (fs:=[]) (mA:=λ_=>none) λg hg=>absurd rfl hg)) _
    ·rw[aK z2] at hb;have BX:∀c t,H2 c=some t->t=.own b\/(∃xs,t=.tup xs)->c≠a/\c≠s2.heap.objs.size:=λc t hc ht=>by
      refine⟨λy=>?_,λy=>by rw[y,dn] at hc;cases hc⟩;rw[y,ea] at hc;cases hc;rcases ht with ht|⟨xs,ht⟩<;>cases ht
     refine(I2.aw b ob hb).ie (λc u hc hg=>?_) (λc hc=>?_) λc xs hc=>?_;·grind
     ·rw[aK (BX c _ hc (.inl rfl)).1,aK (BX c _ hc (.inl rfl)).2];exact hc
     ·rw[aK (BX c _ hc (.inr ⟨_,rfl⟩)).1,aK (BX c _ hc (.inr ⟨_,rfl⟩)).2];exact hc
 ·obtain⟨vs,xr,v1⟩:=Ax I2.aw ea;obtain⟨mA,n1,rl,wi⟩:=GS I2.aw ed;obtain⟨od,_,_,kB,_⟩:=id n1;obtain⟨ox,J⟩:=xr.inst kB;obtain⟨oe,e1,e2,e3,e4,e5⟩:=xr;refine Sn I2.bZ J xa na (ZaE (s:={s2 with toks:=s2.toks+1}) I2.bZ xa e1 e2 e3 n1 wi (by rw[Ya,sizeLine_eq];omega) λh' tk n2 sb=>⟨rfl,σ,_,?_,q2⟩);have hd:∃o,h'.get? d=some o:=let⟨o,_,_,e',_⟩:=n2;⟨o,e'⟩;exact I2.write (x:=d) (e:=d) (t':=tk) (by rw[ed];exact True.intro) (.inl rfl) (λb q hb z=>(sb.2 b hb).trans z) hd (Rr n2 (OK ry rl) (Mr wi))
def ZcX(he:PE X e ta)(hb:attributeBase e f X.env (eval e X.env)=eval e X.env:=by rfl):PE X (.Attribute e f pos) (Ru X.K ta f):=by
 intro pins s σ H Q I h;refine OB hb (ay (he pins s σ H _ I h) λu s1 zq=>?_);obtain⟨x,H1,I1,rx,a,C,d,fs,v,ex,ea,ed,xa,na,l,q⟩:=zq;subst ex;obtain rfl:u=Value.ref a:=rx;obtain⟨vs,xr⟩:=Qk I1.aw ea;obtain⟨mA,n1,rl,wi⟩:=GS I1.aw ed;obtain⟨od,kB,lk⟩:=Fz n1;obtain⟨ox,J⟩:=xr.inst kB;have r:=rl f;rw[l] at r;obtain⟨u,hu,ru⟩:=r.some_of;exact ZgF I1.bZ J xa (findObj_own xa.hd na rfl (by rw[lk,hu])) (MO ru) ⟨v,H1,I1.tok _,ru,q⟩
def XF:c7 X (.builtin "isinstance") (Rv X.K):=by
 rintro pins s σ H xs us Q I r ⟨a,C,d,fs,c,u,b,rfl,rc,ea,ed,xa,e,q⟩;obtain⟨u1,u2,rfl,r1,r2⟩:=vals2 r;obtain rfl:u1=Value.ref a:=r1;obtain⟨vs,xr⟩:=Qk I.aw ea;obtain⟨mA,n1,rl,wi⟩:=GS I.aw ed;obtain⟨od,kB,lk⟩:=Fz n1;obtain⟨ox,J⟩:=xr.inst kB;have same:kitOne X.K (.ref C) u2=some b:=by
  have e2:u2=u:=by
   cases c<;>first|exact(show u2=_ from r2).trans (show u=_ from rc).symm|skip
   all_goals (obtain⟨t1,z1⟩:=r2;obtain⟨t2,z2⟩:=rc;subst z1;subst z2)
   all_goals (exfalso;revert e;simp[kitOne,kitCls])
  rw[e2];exact e
 exact kia_one (ZbA xa) I.bZ ⟨ox,J⟩ same (λz=>nomatch z) λtk=>⟨.bl b,H,I.tok tk,rfl,q⟩
end
structure Hv(K:ah)(C:Addr)(m:Str)(f:Addr):Prop where
 ga:specialIn K (.ref C) "__getattribute__"=some (some (.builtin "type.__getattribute__"))
 rd:PySem.W.readsIn K C (.type "type")=true
 at_:findCls K (.ref C) (.type "type") m=some (.val (.ref f))
 kp:keepIn K (.ref f)=true
section
variable {X:Cx}{CX:ku}{k:Nat}{f C:Addr}{fd:FuncData}{ps:List Str}{sp:Sp}{c5:List V}{ds:List Value}{E:XK}{x m:Str}{p pos apos:Pos}{e:Expr}{es:List Expr}{t:TA}
def ZbB{pl:Sem Bool}(cf:Hv X.K C m f)(F:aE X.prog X.w X.K X.mg X.base CX k f fd ps sp)(hr:cF k X.A)(hg:Gl X x)(hm:X.mg x=some (.ref C))(hb:Binds X.K fd ps ds)(hd:Vals c5 ds)(hx:Passes CX X E)(ha:PA X (e::es) t)
  (eN:(x==("__debug__":Str))=false:=by decide)(df:ik X e es:=by rfl)(bQ:iV X pos es:=by rfl)
  (ht:eval (.Call (.Attribute (.Name x p) m apos) (e::es) [] pos) X.env=(do
   let ov←eval (.Name x p) X.env
   standAt apos.atName
   let(f,first)←holding [ov] (getMethod ov m pl)
   callWith pos f first (backTo pos (starEach (e::es) X.env)) (backToKw pos (keywordEach [] X.env))):=by rfl):
  PE X (.Call (.Attribute (.Name x p) m apos) (e::es) [] pos) (AJ sp c5 E t):=by
 intro pins s σ H Q I h;exact methodCall_KW (rN I hg hm (PySem.W.method_cls I.bZ cf.ga (PySem.W.cls_value I.bZ cf.rd cf.at_ rfl (callWith_K I.ok.mod.mI cf.kp (ay (ha pos pins _ σ H _ (I.tok (s.toks+1)) h) λus s2 ⟨vs,H2,I2,r,q2⟩=>⟨I2.bZ,Au F hr hb hd hx I2 r q2⟩) df bQ))) eN) ht
end
def GU(K:ah):List V->Hp->VK->Prop:=λxs H Q=>∃(a C:Addr) (y:V),xs=[.ref a,y]/\dC K C/\H a=some (xn a C none)/\Q .az H
section
variable {M:Model}{A:Around}{E:a8}{s:Shared}{K:ah}{a C:Addr}
def ZD{oe:Obj}{rest:List Value}{Q:Unit->Shared->Prop}(KX:K.In s.heap)(X:dC K C)(e1:s.heap.get? a=some oe)(e2:oe.cls=.ref C)(z:Q () s):wpAny M A (checkBuiltinCall "ValueError.__init__" ⟨.ref a::rest,[]⟩) Q E s:=by
 obtain⟨nm,q,N,bs,cs,sn,sb,ab,col,dd,k0,k1,k2,k3,k5,l⟩:=X.mF;have kc:=KX _ _ l;have lJ:=Rq C cs (.type "ValueError") (by decide);have G:=excBase_ValueError;have star:=G.noStar;obtain⟨h,g,d,t,os⟩:=s;simp only[checkBuiltinCall,G.initKind,G.initSplit,G.initRow];repeat (first|(with_reducible refine wpAny_loadPart_at e1 ?_;rw[e2])|with_reducible refine wpAny_loadPart_at kc ?_|(with_reducible refine wpAny_isSubtype_exc kc ?_;rw[lJ])|wp_step)
 refine wpAny_onRaise ?_;rw[show ∀(u v:String) (n:Nat),Bind.check ⟨.positional,"*","ValueError",.self,[⟨"args",.varPos,false⟩]⟩ u v n (List.map (λx=>x.fst) ({pos:=Value.ref a::rest}:Args).kw)=pure () from λu v n=>check_star_args _ _ _ _ _ _];exact wpAny_pure z
end
section
variable {X:Cx}{x:Str}{p pos apos:Pos}{e:Expr}{es:List Expr}{t:TA}
def ZbC{pins:aU}{s:Shared}{σ:St}{H:Hp}{xs:List V}{us:List Value}{Q:VK}(I:Inv X pins σ H s)(r:Vals xs us)(h:GU X.K xs H Q):wpAny X.md X.A (call (.builtin "ValueError.__init__") us) (EP X pins σ Q) X.xe s:=by
 obtain⟨a,C,y,rfl,xa,ea,q⟩:=h;obtain⟨u1,u2,rfl,r1,r2⟩:=vals2 r;obtain rfl:u1=Value.ref a:=r1;obtain⟨vs,xr,v1⟩:=Ax I.aw ea;obtain⟨oe,e1,e2,e3,e4,e5⟩:=id xr;have G:=excBase_ValueError;refine wpAny_call (codeAny_call_builtin G.init.plain G.initEntry (ZD I.bZ xa e1 e2 ?_));unfold Builtin.«BaseException.__init__»;show wpAny _ _ (do let tu←newTuple [u2];Builtin.BaseException.bexcPut (.ref a) 0 tu;ret .none) _ _ _;refine wpAny_bind ?_;unfold newTuple;refine wpAny_newObj_type (wpAny_bind ?_);have ep:=Yb {cls:=.type "tuple",dict:=none,data:=.seq [u2].toArray} e1;have v0:vs[0]?=some vs[0]:=Ww (by omega);unfold Builtin.BaseException.bexcPut;refine wpAny_bind (wpAny_field ep e4 v0 (wpAny_bind (wpAny_setField ep e4 (by omega) ?_)));have fin:EP X pins σ Q Value.none {s with heap:=(s.heap.push {cls:=.type "tuple",dict:=none,data:=.seq [u2].toArray}).update a (Obj.mapFields (·.setIfInBounds 0 (Value.ref s.heap.objs.size)))}:=by
  have d3:=Obj.data_mapFields e4 (·.setIfInBounds 0 (Value.ref s.heap.objs.size));have g3:=Wn (Obj.mapFields (·.setIfInBounds 0 (Value.ref s.heap.objs.size))) ep (Obj.isFreed_of_fields d3);have J:=I.write (x:=a) (e:=a) (o:=xn a C none) (t':=s.toks) (h':=(s.heap.push {cls:=.type "tuple",dict:=none,data:=.seq [u2].toArray}).update a (Obj.mapFields (·.setIfInBounds 0 (Value.ref s.heap.objs.size)))) (by rw[ea];exact True.intro) (.inl rfl)
   (λb o hb g=>by rw[Wa _ _ (Ne.symm hb)];exact Yb _ g) ⟨_,g3⟩
   (Hs (vs:=vs.setIfInBounds 0 (Value.ref s.heap.objs.size)) ⟨_,g3,by rw[Obj.cls_mapFields];exact e2,by obtain⟨c,dd,da,sl⟩:=oe;cases e4;exact e3,d3,by rw[Array.size_setIfInBounds];exact e5⟩ (by rw[Array.getElem?_setIfInBounds_ne (by decide)];exact v1))
  have same:upd H a (xn a C none)=H:=by
   funext b
   by_cases z:b=a;·rw[z,aR,ea]
   ·rw[aK z]
  rw[same] at J;exact⟨.az,H,J,rfl,q⟩
 generalize vs[0]=old;cases old<;>first|exact wpAny_pure (wpAny_pure fin)|exact wpAny_letGo (wpAny_pure fin)|exact wpAny_bind (wpAny_letGo (wpAny_pure (wpAny_pure fin)))
def ZcY{K:ah}:findCls K (.type "ValueError") (.type "type") "__init__"=some (.val (.builtin "ValueError.__init__")):=by kernel_rfl
def Rw{K:ah}:findIn K (.type "type") "__getattribute__"=some (some (.builtin "type.__getattribute__")):=by kernel_rfl
def Zen{K:ah}:subIn K (.type "type") (.type "type")=some true:=by kernel_rfl
def Rx:typeOf (.type "ValueError")=pure (.type "type"):=by kernel_rfl
def ZfL:opaqueClassAbove (.type "ValueError")=pure none:=by kernel_rfl
def ZcZ:bootBuiltins "ValueError"=some (.type "ValueError"):=by decide+kernel
def ZaG{prog:Program}{w:World}{A:Around}{E:a8}{s:Shared}{K:ah}{pl:Sem Bool}{Q:Value×List Value->Shared->Prop}(KX:K.In s.heap)(z:Q (.builtin "ValueError.__init__",[]) {s with toks:=s.toks+1}):
  wpAny (model prog w) A (getMethod (.type "ValueError") "__init__" pl) Q E s:=by
 have L1:Looks (model prog w) s.heap (specialOf (.type "ValueError") "__getattribute__") (some (.builtin "type.__getattribute__")):=(Looks.of_pure Rx).andThen (looks_findIn KX Rw);unfold getMethod;refine wpAny_bind (L1.here ?_);show wpAny _ _ (if(Manifest.canonical "type.__getattribute__" !="object.__getattribute__")=true then _ else _) _ _ _;rw[if_pos PySem.W.canon_tga];refine wpAny_bind (PySem.W.cls_open KX (Looks.of_pure ZfL) (Looks.of_pure Rx) Rw (hook:=none) (Looks.of_pure rfl) Zen ZcY ?_);exact wpAny_pure (PySem.W.handed_on rfl (wpAny_pure z))
def ZbD{pl:Sem Bool}(hg:Gl X "ValueError")(hm:X.mg "ValueError"=none)(ha:PA X (e::es) t)
  (df:ik X e es:=by rfl)(bQ:iV X pos es:=by rfl)
  (ht:eval (.Call (.Attribute (.Name "ValueError" p) "__init__" apos) (e::es) [] pos) X.env=(do
   let ov←eval (.Name "ValueError" p) X.env
   standAt apos.atName
   let(f,first)←holding [ov] (getMethod ov "__init__" pl)
   callWith pos f first (backTo pos (starEach (e::es) X.env)) (backToKw pos (keywordEach [] X.env))):=by rfl):
  PE X (.Call (.Attribute (.Name "ValueError" p) "__init__" apos) (e::es) [] pos) (mO (GU X.K) t):=by
 intro pins s σ H Q I h;refine methodCall_KW (pl:=pl) (xg I hg hm ZcZ ?_) ht;refine ZaG I.bZ ?_;exact PyProof.Rows.callWith_builtin1 (ay (ha pos pins _ σ H _ (I.tok _) h) λus s1 ⟨vs,H1,I1,r1,q1⟩=>ZbC I1 r1 q1) df bQ
end
def Zeo(C:Addr)(sp:Sp)(c5:List V)(E:St->XK)(t:TA):TS:=λ_ σ H=>t σ H λvs H1=>vs.length<=1000/\∀a,H1 a=none->
 sp (.ref a::(vs++c5)) (upd H1 a (xn a C none)) (λv H2=>v=.az/\∃d,H2 a=some (xn a C (some d))/\E σ (.ref C) (some d) (upd H2 a (xo a C (some d)))) E0
section
variable {X:Cx}{k:Nat}{f C:Addr}{fd:FuncData}{ps:List Str}{sp:Sp}{c5:List V}{ds:List Value}{E:St->XK}{x:Str}{p pos cy:Pos}{e:Expr}{es:List Expr}{t:TA}
theorem ZbE(M:u9 X.K C f)(F:aE X.prog X.w X.K X.mg X.base aM k f fd ps sp)(hr:cF (k+1) X.A)(hc:X.calm=true)(hg:Gl X x)(hm:X.mg x=some (.ref C))(hb:Binds X.K fd ps ds)(hd:Vals c5 ds)(hx:oU X E)(ha:PA X (e::es) t)
  (eN:(x==("__debug__":Str))=false:=by decide)(he:ik X e es:=by rfl)(bQ:iV X cy es:=by rfl):
  PS X (.Raise (some (.Call (.Name x p) (e::es) [] cy)) none pos) (Zeo C sp c5 E t):=by
 intro pins s σ H D I h;rw[arm_exec_Raise];refine wpAny_bind (wpAny_standAt ?_);show wpAny _ X.A (raiseStmt X.env (some (do let v←eval (.Call (.Name x p) (e::es) [] cy) X.env;standAt pos;pure v)) none) _ _ s;unfold raiseStmt;refine wpAny_bind (wpAny_bind ?_);refine wpAny_Call_Name_kw (rN I hg hm ?_ eN);refine callWith_K (h₀:=X.base) I.ok.mod.mI M.kp (ay (ha cy pins s σ H _ I h) λus s1 ⟨vs,H1,I1,r,lim,q⟩=>⟨I1.bZ,?_⟩) he bQ;obtain⟨nm,qn,N,bs,bm,sn,sub,ab,col,dd,k0,k1,k2,k3,k5,lk⟩:=M.mF;have kc:=I1.bZ _ _ lk;have fr:H1 (s1.heap.objs.size+1)=none:=I1.aw.fresh (J7 _);have hq:=q (s1.heap.objs.size+1) fr;have r2:Vals (V.ref (s1.heap.objs.size+1)::(vs++c5)) (Value.ref (s1.heap.objs.size+1)::(us++ds)):=.cons rfl (r.append hd);have hl:((Value.ref (s1.heap.objs.size+1)::us)++ds).length=ps.length:=by
  have z:=r2.length;rw[F.len _ _ _ _ hq] at z;exact z.symm
 have here:((s1.heap.push {cls:=.type "tuple",data:=.seq us.toArray}).push {cls:=.ref C,data:=.fields #[.ref s1.heap.objs.size,.none,.none,.none,.bool false,.none]}).get? (s1.heap.objs.size+1)=
   some {cls:=.ref C,data:=.fields #[.ref s1.heap.objs.size,.none,.none,.none,.bool false,.none]}:=by heap_get
 have up:∀b o,s1.heap.get? b=some o->((s1.heap.push {cls:=.type "tuple",data:=.seq us.toArray}).push {cls:=.ref C,data:=.fields #[.ref s1.heap.objs.size,.none,.none,.none,.bool false,.none]}).get? b=some o:=
  λb o z=>Yb _ (Yb _ z)
 have new:cJ X.prog X.w (upd H1 (s1.heap.objs.size+1) (xn (s1.heap.objs.size+1) C none)) _ (s1.heap.objs.size+1) (xn (s1.heap.objs.size+1) C none):=Hs (vs:=#[.ref s1.heap.objs.size,.none,.none,.none,.bool false,.none]) ⟨_,here,rfl,rfl,rfl,by show 1<6;decide⟩ rfl;have I2:=I1.laid (a:=s1.heap.objs.size+1) (o:=xn (s1.heap.objs.size+1) C none) (t':=s1.toks) up (J7 _) new;have L1:=looks_findIn (M:=model X.prog X.w) I1.bZ M.init;have L2:=looks_typeIn (M:=model X.prog X.w) I1.bZ (beq_iff_eq.mp M.fn);have ul:us.length<=sizeLine:=by
  rw[←r.length,sizeLine_eq];omega
 obtain⟨h1,g1,d1,t1,o1⟩:=s1;refine Zbz kc (wZ lk M.lJ) (wZ lk M.kz) (wZ lk M.tF) L1 L2 (wpAny_call (codeAny_mono (F.run _ X.stack _ _ ⟨Value.ref (h1.objs.size+1)::us,[]⟩ (Value.ref (h1.objs.size+1)::(us++ds)) _ _ E0 (hr.make C us [])
  (I2.AY.make C us []) (hb _ (Value.ref (h1.objs.size+1)::us) I2.bZ hl) r2 hq) λr s' mN=>?_)) ul
 cases r with
 |error _=>exact False.elim mN
 |ok fl=>
  cases fl with
  |next=>exact False.elim mN
  |brk=>exact False.elim mN
  |cont=>exact False.elim mN
  |ret u=>
   obtain⟨v,H',BP,bare,un,aw,rv,rfl,d,ea,kg⟩:=mN;obtain rfl:u=Value.none:=rv;refine⟨rfl,wpAny_bind (wpAny_standAt (wpAny_pure ?_))⟩;obtain⟨ws,xr,w1⟩:=Ax aw ea;obtain⟨oe,e1,e2,e3,e4,e5⟩:=id xr;have I3:Inv X pins σ H' s':=I2.Hk (ch:=[]) BP un aw bare λb z=>absurd z (by simp);have TV:=I3.bZ _ _ lk;have yq:=wZ lk M.yq;obtain⟨oc,od,TQ,iW⟩:=oe;dsimp only at e2 e3 e4;subst e2 e3 e4;have xe:X.xe (.ref (h1.objs.size+1)) s':=by
    refine hx pins σ H1 ⟨h1,g1,d1,t1,o1⟩ _ s' I1 ⟨h1.objs.size+1,C,d,upd H' (h1.objs.size+1) (xo (h1.objs.size+1) C (some d)),ws,rfl,J7 _,BP,bare,?_,?_,aR,xr,.inl w1,kg⟩
    ·have tG:Un (cP X.stack) [] H1 H' h1 s'.heap:=(Un.laid up (J7 _) fr).trans un;have old:∀b o,h1.get? b=some o->b≠h1.objs.size+1:=λb o hb=>Yy (Wu (Ys hb));have tk:∀b u,H1 b=some u->b≠h1.objs.size+1:=λb u hb z=>by rw[z,fr] at hb;cases hb
     exact⟨tG.keep,tG.slot,λb o hb n x'=>by rw[aK (old b o hb)];exact tG.free b o hb n x',tG.there,λb xs hb=>by rw[aK (tk b _ hb)];exact tG.g_ b xs hb,
      λb o u hb=>by rw[aK (tk b _ hb)];exact tG.ig b o u hb,λb ps hb=>by rw[aK (tk b _ hb)];exact tG.iP b ps hb⟩
    ·intro b o hb;by_cases z:b=h1.objs.size+1
     ·subst z;rw[aR] at hb;cases hb;exact Ro xr
     ·rw[aK z] at hb;have nz:∀c u,H' c=some u->(u=.own b\/∃xs,u=.tup xs)->c≠h1.objs.size+1:=λc u hc hu y=>by
       rw[y,ea] at hc;cases hc;rcases hu with hu|⟨xs,hu⟩<;>cases hu
      exact(aw b o hb).ie (λ_ _ _ g=>g) (λc hc=>by rw[aK (nz c _ hc (.inl rfl))];exact hc) λc xs hc=>by rw[aK (nz c _ hc (.inr ⟨_,rfl⟩))];exact hc
   have hh:=I.ok.hd hc;obtain⟨h',g',d',t',o'⟩:=s';repeat (first|with_reducible refine wpAny_loadPart_at e1 ?_|with_reducible refine wpAny_loadPart_at TV ?_|(with_reducible refine wpAny_isSubtype_exc TV ?_;rw[yq])|with_reducible refine wpAny_field e1 rfl w1 ?_|wp_step)
   exact wpAny_raiseNew_none hh xe
end
abbrev Cx.hand(X:Cx)(a:Addr):Cx:={X with A:=X.A.mark (some (.ref a)),calm:=false}
def Cx.Ok.hand{X:Cx}(ok:X.Ok)(a:Addr):(X.hand a).Ok:=
 ⟨ok.mod,ok.kind,ok.glob,ok.blt,ok.above,ok.inj,ok.has,ok.sX,λz=>absurd (show false=true from z) Yj,ok.frames,ok.vq,ok.qJ,ok.bs,ok.mJ,ok.sE,ok.qy,ok.jG,ok.pA⟩
section
variable {X:Cx}{pins:aU}{σ:St}{H:Hp}{s:Shared}
def Inv.hand(I:Inv X pins σ H s)(a:Addr):Inv (X.hand a) pins σ H s:=⟨I.ok.hand a,I.os,I.bare,I.base,I.loc,I.cell,I.free,I.ib,I.pin,I.aw,I.len⟩
def Inv.Zep{a:Addr}(ok:X.Ok)(I:Inv (X.hand a).nM pins σ H s):Inv X pins σ H s:=⟨ok,I.os,I.bare,I.base,I.loc,I.cell,I.free,I.ib,I.pin,I.aw,I.len⟩
def Inv.xu{pn:aU}{xe:a8}{pl:aU}(ok:X.Ok)(I:Inv {X with pn:=X.pn++pn,xe:=xe} pl σ H s):Inv X pn σ H s:=
 ⟨ok,I.os,I.bare,I.base,I.loc,I.cell,I.free,I.ib,λp hp=>I.pin p (Yt _ hp),I.aw,I.len⟩
def Inv.Zeq{xe:a8}(I:Inv X pins σ H s):Inv {X with pn:=X.pn++pins,xe:=xe} [] σ H s:=
 ⟨⟨I.ok.mod,I.ok.kind,I.ok.glob,I.ok.blt,I.ok.above,I.ok.inj,I.ok.has,I.ok.sX,I.ok.hd,I.ok.frames,I.ok.vq,I.ok.qJ,I.ok.bs,I.ok.mJ,I.ok.sE,I.ok.qy,I.ok.jG,I.ok.pA⟩,
  I.os,I.bare,I.base,I.loc,I.cell,I.free,I.ib,λp hp=>I.pin p (by rw[Wd] at hp;exact hp),I.aw,I.len⟩
theorem Inv.gone{n:Str}{i:Nat}{h':Heap}{v:Option Value}{m:aQ}{t':Nat}(I:Inv X pins σ H s)(hN:X.N.Nodup)(hi:X.N[i]?=some n)(hn:s.heap.Ns X.env.locals m)
  (lk:∀(i:Nat) (x:Str) (v:V),X.N[i]?=some x->σ[i]?=some (some v)->sW X.env.scope x->∃u,RelV v u/\Look X.env s.heap m x u)
  (n2:h'.Ns X.env.locals (λx=>if x=n then v else m x))(sb:Heap.SameBut X.env.locals s.heap h'):Inv X pins (σ.set i none) H {s with heap:=h',toks:=t'}:=by
 have old:∀b o,X.cX.heap.get? b=some o->b≠X.env.locals:=λb o hb z=>absurd (Ys (z▸hb)) (Nat.not_lt.mpr I.ok.above);have kp:∀b o,b≠X.env.locals->s.heap.get? b=some o->h'.get? b=some o:=λb o hb hg=>(sb.2 b hb).trans hg;have vh:∀b u,H b=some u->b≠X.env.locals:=λb u hb z=>by rw[z,I.free] at hb;cases hb
 refine⟨I.ok,I.os,I.bare,⟨λb o e n' f x=>kp b o (old b o e) (I.base.keep b o e n' f x),λb o e n' f x=>?_,I.base.free,λb o e x=>?_,I.base.g_,I.base.ig,I.base.iP⟩,⟨_,n2,λj x w e1 e2 e3=>?_⟩,λx c e=>?_,I.free,I.ib,λp hp=>?_,λb u hb=>?_,?_⟩
 ·obtain⟨sl,g⟩:=I.base.slot b o e n' f x;exact⟨sl,kp b _ (old b o e) g⟩
 ·obtain⟨o',g⟩:=I.base.there b o e x;exact⟨o',kp b o' (old b o e) g⟩
 ·by_cases z:i=j
  ·subst z;have bad:(σ.set i none)[i]?=some (some w):=e2;rw[List.getElem?_set_self'] at bad;cases q:σ[i]? with
   |none=>rw[q] at bad;cases bad
   |some y=>rw[q] at bad;cases bad
  ·rw[Td z] at e2;obtain⟨u,r,l⟩:=lk j x w e1 e2 e3;refine⟨u,r,?_⟩;have ne:x≠n:=λy=>z (F1 hN hi (y▸e1));rcases l with⟨k1,k2⟩|⟨k1,c,k2,⟨o,k3,k4⟩⟩
   ·refine .inl ⟨k1,?_⟩;show(if x=n then v else m x)=some u;rw[if_neg ne];exact k2
   ·exact .inr ⟨k1,c,k2,o,kp c o (I.pB x c k2) k3,k4⟩
 ·obtain⟨w,o,k3,k4⟩:=I.cell x c e;exact⟨w,o,kp c o (I.pB x c e) k3,k4⟩
 ·obtain⟨k1,k2,k3,k4⟩:=I.pin p hp;exact⟨kp p.1 p.2 k3 k1,k2,k3,k4⟩
 ·refine(I.aw b u hb).ie (λc o hc hg=>kp c o ?_ hg) (λ_ q=>q) λ_ _ q=>q;rcases hc with rfl|hc;·exact vh _ _ hb
  ·exact vh _ _ hc
 ·rw[W4];exact I.len
end
section
variable {M:Model}{A:Around}{E:a8}{s:Shared}{K:ah}{a C B:Addr}{d:Option Addr}{vs:Array Value}
def ZaH{Q:Bool->Shared->Prop}{b:Bool}(KX:K.In s.heap)(XB:dC K B)(XC:dC K C)(xr:gk s.heap a C d vs)(mt:mroIn K C (.ref B)=some b)(z:Q b s):wpAny M A (excMatches (.ref a) (.ref B)) Q E s:=by
 obtain⟨nm,q,N,bs,cs,sn,sb,ab,col,dd,k0,k1,k2,k3,k5,l⟩:=XB.mF;obtain⟨nm',q',N',bs',cs',sn',sb',ab',ZiL,iu,l0,l1,l2,l3,l5,l'⟩:=XC.mF;have kb:=KX _ _ l;have kc:=KX _ _ l';obtain⟨oe,e1,e2,_⟩:=xr;have yq:=Rq B cs (.type "BaseException") (by decide);have isC:=wZ l' mt;have f:=tc_notTuple;unfold excMatches;repeat (first|(with_reducible refine wpAny_loadPart_at e1 ?_;rw[e2])|with_reducible refine wpAny_loadPart_at kb ?_|(with_reducible refine wpAny_isSubtype_exc kb ?_;rw[yq])|(with_reducible refine wpAny_isSubtype_exc kc ?_;rw[isC])|wp_step)
 cases b<;>(wp_walk;exact z)
def Zc0{Q:Unit->Shared->Prop}{lo:Nat}{H:Hp}(xr:gk s.heap a C d vs)(fl:vH lo H s.heap vs)(z:Q () s):wpAny M A (setFlight (.ref a) none) Q E s:=by
 obtain⟨oe,e1,e2,e3,e4,e5⟩:=xr;rcases fl with y|⟨T,oT,ts,y,_,_,g0,d0,t0⟩
 ·refine wpAny_bind (wpAny_field e1 e4 y ?_);exact wpAny_pure z
 ·refine wpAny_bind (wpAny_field e1 e4 y ?_);refine wpAny_setField g0 d0 (Jq.mp t0).1 ?_;have same:=Heap.update_setField_same s.heap T oT ts 3 Value.none g0 d0 t0;simp_all
end
def hX(K:ah)(B:Addr)(i:Nat)(th:TS)(D:Ends):St->XK:=λσ c o H=>∃C d,c=.ref C/\o=some d/\dC K C/\mroIn K C (.ref B)=some true/\
 ∀a,H a=some (xo a C (some d))->th {nx:=λaH H'=>D.nx (aH.set i none) H',rt:=D.rt,bk:=λaH H'=>D.bk (aH.set i none) H',ct:=λaH H'=>D.ct (aH.set i none) H'} (σ.set i (some (.ref a))) H
section
variable {X:Cx}{B:Addr}{i:Nat}{n x:Str}{body AM:List Stmt}{b0:Stmt}{px hp pos:Pos}{tb:(St->XK)->TS}{th:TS}
theorem Zer(fr:X.stack=X.env::X.outer/\X.env.frame=some X.env.locals)(hN:X.N.Nodup)(hi:X.N[i]?=some n)(hl:X.env.scope.names.lookup n=some .local)(hg:Gl X x)(hm:X.mg x=some (.ref B))(XB:dC X.K B)
  (hb:∀pn xe E,oU {X with pn:=pn,xe:=xe} E->PassesOwn X.md X.A X.env xe->eZ {X with pn:=pn,xe:=xe} body (tb E))
  (hh:∀a,eZ (X.hand a).nM (b0::AM) th)(eN:(x==("__debug__":Str))=false:=by decide):
  PS X (.Try body [.ExceptHandler (some (.Name x px)) (some n) (b0::AM) hp] [] [] pos) (λD σ H=>tb (hX X.K B i th D) D σ H):=by
 intro pins s σ H D I h;refine wpAny_bind (wpAny_standAt (wpAny_tryStmt_except ?_));let xe:Value->Shared->Prop:=λe s1=>wpAny X.md X.A (noteFrame e X.env) (λ_ s2=>wpAny X.md X.A (setFlight e none) (λ_ s3=>wpAny X.md X.A (handleBy e X.env [.ExceptHandler (some (.Name x px)) (some n) (b0::AM) hp]) (SP X pins D) X.xe s3) X.xe s2) X.xe s1;have px':oU {X with pn:=X.pn++pins,xe:=xe} (hX X.K B i th D):=by
  intro Hj aH H1 s1 e s' I' cx;have st:X.A.frames=some (X.env::X.outer):=by rw[←fr.1];exact I.ok.frames
  have f1:s1.heap.FunFrames X.base (X.env::X.outer):=by rw[←fr.1];exact I'.stack
  have f2:∀b∈cP (X.env::X.outer),H1 b=none:=by rw[←fr.1];exact I'.z_
  refine OI st f1 f2 fr.2 (by rw[←fr.1];exact cx) λs3 c3=>?_;rw[←fr.1] at c3;obtain⟨a,C,d,H',vs,rfl,lo,J,ea,xr,fl,C',d',ec,ed,XC,mt,q⟩:=I'.Ql c3;cases ec;cases ed;have J2:=J.xu I.ok;refine wpAny_handleBy_cons (codeAny_handlers_test (rN (J2.hand a) hg hm (ZaH J2.bZ XB XC xr mt (codeAny_handlers_suite_as (Zc0 xr fl (zT (v:=.ref a) J2 hN hi (.inl hl) rfl (λs4 J4=>wpAny_mono (hh a pins s4 _ _ _ ((J4.hand a).kg _) (q a ea)) (λf s5 z=>?_) λ_ _ z=>False.elim z) (.inr hl))))) eN)) (by intro z;cases z);have fin:∀{tH:St} {H5:Hp},Inv (X.hand a).nM pins tH H5 s5->∀Q:Unit->Shared->Prop,(∀s6,Inv X pins (tH.set i none) H5 s6->Q () s6)->wpAny X.md X.A (do bindName X.env n .none;unbindBehindTheSuite X.env n hp) Q X.xe s5:=by
   intro tH H5 J5 Q k;have J6:=Inv.Zep I.ok J5;obtain⟨m,hn,lk⟩:=J6.loc;refine wpAny_nameGoes_keeps (show X.env.kindOf n=some .local from hl) hn (by rw[I.ok.kind];rfl) λh' v n2 sb=>k _ (J6.gone hN hi hn lk n2 sb)
  cases f with
  |next=>
   obtain⟨tH,H5,J5,z⟩:=z;exact fin J5 _ λs6 J6=>⟨_,_,J6,z⟩
  |brk=>
   obtain⟨tH,H5,J5,z⟩:=z;exact fin J5 _ λs6 J6=>⟨_,_,J6,z⟩
  |cont=>
   obtain⟨tH,H5,J5,z⟩:=z;exact fin J5 _ λs6 J6=>⟨_,_,J6,z⟩
  |ret u=>
   obtain⟨v,tH,H5,J5,rv,z⟩:=z;exact fin J5 _ λs6 J6=>⟨_,_,_,J6,rv,z⟩
 refine wpAny_mono (hb _ xe _ px' (PassesOwn.looking (K:=λe s2=>wpAny X.md X.A (setFlight e none) (λ_ s3=>wpAny X.md X.A (handleBy e X.env [.ExceptHandler (some (.Name x px)) (some n) (b0::AM) hp]) (SP X pins D) X.xe s3) X.xe s2)) [] s σ H D I.Zeq h) (λf s1 z=>?_) λ_ _ z=>z;cases f with
 |next=>
  obtain⟨aH,H',J,q⟩:=z;exact wpAny_pure ⟨aH,H',J.xu I.ok,q⟩
 |brk=>
  obtain⟨aH,H',J,q⟩:=z;exact⟨aH,H',J.xu I.ok,q⟩
 |cont=>
  obtain⟨aH,H',J,q⟩:=z;exact⟨aH,H',J.xu I.ok,q⟩
 |ret u=>
  obtain⟨v,aH,H',J,rv,q⟩:=z;exact⟨v,aH,H',J.xu I.ok,rv,q⟩
end
def ZgG(K:ah)(te:TE):TE:=λσ H Q=>te σ H λx H1=>(∃y:Str,x=.str y/\y.length<=sizeLine/\Q (.str y) H1)\/(∃i:Int,x=.int i/\i.natAbs.log2<1920/\Q (.str (toString i)) H1)\/
 ∃(a:Addr) (ns:List Int),x=.ref a/\aB K H1 a (ns.map V.int)/\(∀n∈ns,n.natAbs.log2<1920)/\(PyData.tuple (ns.map PyData.int)).shown.length<=sizeLine/\Q (.str (PyData.tuple (ns.map PyData.int)).shown) H1
theorem ZE{h:Heap}{ns:List Int}:∀{us:List Value},Vals (ns.map V.int) us->∃as,ReadsAll h us (ns.map PyData.int) as:=by
 induction ns with
 |nil=>intro us r;cases r;exact⟨[],.nil⟩
 |cons n r ih=>
  intro us q;cases q with
  |cons q1 q2=>
   obtain⟨t,rfl⟩:=q1;obtain⟨as,z⟩:=ih q2;exact⟨_,.cons (.int n t) z⟩
theorem ZaI{ns:List Int}(h:∀n∈ns,n.natAbs.log2<1920):PyData.showableAll (ns.map PyData.int)=true:=by
 induction ns with
 |nil=>rfl
 |cons n r ih=>
  show(decide (n.natAbs.log2<1920)&&PyData.showableAll (r.map PyData.int))=true
  grind
theorem YH(ns:List Int):PyData.hasDictAll (ns.map PyData.int)=false:=by
 induction ns with
 |nil=>rfl
 |cons n r ih=>exact ih
theorem ZF(ns:List Int):PyData.depthAll (ns.map PyData.int)=0:=by
 induction ns with
 |nil=>rfl
 |cons n r ih=>
  show max (PyData.int n).depth (PyData.depthAll (r.map PyData.int))=0;rw[ih];rfl
section
variable {X:Cx}{e:Expr}{te:TE}{pos:Pos}
def Qp{j:Nat}(hr:cF j X.A)(he:PE X e te):PE X (.FormattedValue e (-1) none pos) (ZgG X.K te):=by
 intro pins s σ H Q I h;refine wpAny_FormattedValue_plain (ay (he pins s σ H _ I h) λu s1 zq=>?_);obtain⟨x,H1,I1,rx,q⟩:=zq;rcases q with⟨y,rfl,ly,q⟩|⟨i,rfl,li,q⟩|⟨a,ns,rfl,hq,sm,sz,q⟩
 ·obtain⟨t,rfl⟩:=rx;exact wpAny_formatField_str ⟨.str y,H1,I1,⟨t,rfl⟩,q⟩ ⟨.str y,H1,I1.tok _,⟨_,rfl⟩,q⟩ ly
 ·obtain⟨t,rfl⟩:=rx;exact wpAny_formatField_int li ⟨.str (toString i),H1,I1.tok _,⟨_,rfl⟩,q⟩
 ·obtain rfl:u=Value.ref a:=rx;obtain⟨ai,r,⟨o,g,oc,n,od⟩,hz⟩:=I1.tuple hq;obtain⟨as,ra⟩:=ZE (h:=s1.heap) r;refine formatField_of_reads (prog:=X.prog) (w:=X.w) (.tuple g oc od (by rw[List.toList_toArray];exact ra)) (show PyData.showableAll _=true from ZaI sm) (λz=>?_) hr.gd ?_ (λ_ _ z=>z) (λh' u tk kp=>⟨.str (PyData.tuple (ns.map PyData.int)).shown,H1,I1.kept (t':=tk) kp,⟨u,rfl⟩,q⟩) sz
  ·have z':PyData.hasDictAll (ns.map PyData.int)=true:=z;rw[YH] at z';cases z'
  ·show X.A.units+(PyData.depthAll (ns.map PyData.int)+1+2)<cLine;rw[ZF];have:=hr.un;omega
end
abbrev TJ:=Str->St->Hp->(Str->Hp->Prop)->Prop
def PJ(X:Cx)(es:List Expr)(t:TJ):Prop:=
 ∀(pins:aU) (s:Shared) (σ:St) (H:Hp) (acc:Str) (R:Str->Hp->Prop) (Q:Str->Shared->Prop),Inv X pins σ H s->t acc σ H R->(∀y s' H',Inv X pins σ H' s'->R y H'->Q y s')->PySem.Joins X.md X.A X.xe (evalEach es X.env) acc Q s
def ZgH:TJ:=λacc _ H R=>R acc H
def ZfM(te:TE)(tr:TJ):TJ:=λacc σ H R=>te σ H λx H1=>∃y,x=.str y/\(acc++y).length<=sizeLine/\tr (acc++y) σ H1 R
def ZfN(t:TJ):TE:=λσ H Q=>t Str.empty σ H λy H1=>y.length<=sizeLine/\Q (.str y) H1
section
variable {X:Cx}{e e2:Expr}{es:List Expr}{te:TE}{t:TJ}{pos:Pos}
def Zes:PJ X [] ZgH:=λ_ s _ H acc _ _ I h k=>k acc s H I h
def Gw(he:PE X e te)(hr:PJ X es t):PJ X (e::es) (ZfM te t):=by
 intro pins s σ H acc R Q I h k;refine ay (he pins s σ H _ I h) λu s1 zq=>?_;obtain⟨x,H1,I1,rx,y,ex,l,q⟩:=zq;subst ex;obtain⟨tk,rfl⟩:=rx;exact⟨y,tk,rfl,l,hr pins s1 σ H1 (acc++y) R Q I1 q k⟩
def Zc1(h:PJ X (e::e2::es) t):PE X (.JoinedStr (e::e2::es) pos) (ZfN t):=by
 intro pins s σ H Q I hq;refine wpAny_JoinedStr (h pins s σ H Str.empty _ _ I hq λy s1 H1 I1 ⟨l,q⟩=>⟨l,.str y,H1,I1.tok _,⟨_,rfl⟩,q⟩)
end
end L2
namespace L2
open PySem PySem.Spec PyProof.Rows
structure Bl(mg:aQ):Prop where
 AN:mg "len"=none
 ZfO:mg "abs"=none
 uU:mg "list"=none
 jZ:mg "range"=none
 m9:mg "tuple"=none
 ZfP:mg "any"=none
 Ry:mg "all"=none
 L3:mg "isinstance"=none
 Ay:mg "bool"=none
 Rz:mg "int"=none
 xG:mg "str"=none
 zW:mg "sorted"=none
 ZfQ:mg "min"=none
 ZfR:mg "max"=none
 ZiD:mg "sum"=none
 Zet:mg "dict"=none
 Zil:mg "reversed"=none
 XG:mg "ValueError"=none
def ZgI{X:Cx}{K:ah}(hc:X.calm=true)(h:X.K=K):c7 X (.builtin "any") (Si K):=h▸WU hc
def So{X:Cx}{K:ah}(hc:X.calm=true)(h:X.K=K):c7 X (.builtin "all") (Sj K):=h▸WV hc
def sortedK{X:Cx}{K:ah}(h:X.K=K):c7 X (.builtin "sorted") (Gv K):=h▸L9
def mP{X:Cx}{K:ah}(h:X.K=K):cG X (compareOp .In) (yh K false):=h▸Zax
def GV{X:Cx}{K:ah}(h:X.K=K):cG X (compareOp .NotIn) (yh K true):=h▸XD
def OM{X:Cx}{K:ah}(h:X.K=K):iX X (JO K):=h▸Zea
structure xU(K:ah)(x qual:Str)(st:Stmt)(f:Addr)(fd:FuncData):Prop where
 ex:∃(oc:Value) (od:Option Addr) (dV kV doc pm:Value) (an:Option Addr) (bC ct:Value) (iW:Array (Option Value)),
  fd=fnOf x qual (kX st) (iI st) (aF st) dV kV doc pm an bC ct/\K.lookup f=some ⟨oc,od,.func fd,iW⟩/\codeIn K bC qual=true
 kp:keepIn K (.ref f)=true
section
variable {P:Program}{w:World}{K:ah}{mg:aQ}{base:Heap}
def xU.ok{x qual:Str}{st:Stmt}{f:Addr}{fd:FuncData}{N ps:List Str}{k:Nat}{sp:Sp}(F:xU K x qual st f fd)(S:aP N ps (aF st))(len:∀vs H Q E,sp vs H Q E->vs.length=ps.length)
  (oS:∀(bC:Value) (A:Around) (outer:List Env) (s:Shared) (H:Hp) (vs:List V) (Q:VK) (E:XK),cF k (A.deeper (envOfC qual (aF st) s.heap.objs.size f bC))->sp vs H Q E->
   ∃t,eZ (kh aM P w K mg base N qual (aF st) f bC A outer s H E).nM (iI st) t/\t {nx:=λ_ H'=>Q .az H',rt:=Q} (start N vs) H):aE P w K mg base aM (k+1) f fd ps sp:=by
 obtain⟨oc,od,dV,kV,doc,pm,an,bC,ct,iW,rfl,lk,e_⟩:=F.ex;refine Ho lk e_ S len λA outer s H vs Q E hr lF=>?_;obtain⟨t,h,q⟩:=oS bC A outer s H vs Q E hr lF;exact⟨t,h.nM,q⟩
end
def Qq{K:ah}:kitOne K (.type "int") (.type "int")=some true:=by kernel_rfl
def GW{K:ah}:kitOne K (.type "int") (.type "bool")=some false:=by kernel_rfl
def Qr{K:ah}:kitOne K (.type "bool") (.type "bool")=some true:=by kernel_rfl
def Zeu{K:ah}:kitOne K (.type "str") (.type "bool")=some false:=by kernel_rfl
def Zev{K:ah}:kitOne K (.type "str") (.type "int")=some false:=by kernel_rfl
def Qs{K:ah}:kitOne K (.type "str") (.type "str")=some true:=by kernel_rfl
def Zew{K:ah}:kitOne K (.type "list") (.type "bool")=some false:=by kernel_rfl
def Zex{K:ah}:kitOne K (.type "list") (.type "int")=some false:=by kernel_rfl
def Zey{K:ah}:kitOne K (.type "list") (.type "str")=some false:=by kernel_rfl
def Zez{K:ah}:kitOne K (.type "list") (.type "list")=some true:=by kernel_rfl
def ZeA{K:ah}:kitOne K (.type "list") (.type "tuple")=some false:=by kernel_rfl
def ZeB{K:ah}:kitOne K (.type "tuple") (.type "bool")=some false:=by kernel_rfl
def ZeC{K:ah}:kitOne K (.type "tuple") (.type "int")=some false:=by kernel_rfl
def ZeD{K:ah}:kitOne K (.type "tuple") (.type "str")=some false:=by kernel_rfl
def ZeE{K:ah}:kitOne K (.type "tuple") (.type "list")=some false:=by kernel_rfl
def ZeF{K:ah}:kitOne K (.type "tuple") (.type "tuple")=some true:=by kernel_rfl
def FC(ns:List Int)(o:Option Int):(ns++o.toList).map V.int=ns.map V.int++o.toList.map V.int:=by simp
inductive Dt where
 |az|bl (b:Bool)|int (i:Int)|str (x:Str)|lst (ds:List Dt)|tup (ds:List Dt)
def At(H:Hp):Nat->V->Dt->Prop
 |_,v,.az=>v=.az
 |_,v,.bl b=>v=.bl b
 |_,v,.int i=>v=.int i
 |_,v,.str x=>v=.str x
 |0,_,.lst _=>False
 |0,_,.tup _=>False
 |m+1,v,.lst ds=>∃a xs,v=.ref a/\H a=some (.lst xs)/\ds.length<=1000/\Paired (At H m) xs ds
 |m+1,v,.tup ds=>∃a xs,v=.ref a/\H a=some (.tup xs)/\ds.length<=1000/\Paired (At H m) xs ds
theorem At.same(g:aj H H'):∀{m:Nat} {v:V} {d:Dt},At H m v d->At H' m v d
 |_,_,.az,h=>by unfold At at h⊢;exact h
 |_,_,.bl _,h=>by unfold At at h⊢;exact h
 |_,_,.int _,h=>by unfold At at h⊢;exact h
 |_,_,.str _,h=>by unfold At at h⊢;exact h
 |0,_,.lst _,h=>by unfold At at h;exact h.elim
 |0,_,.tup _,h=>by unfold At at h;exact h.elim
 |m+1,_,.lst _,h=>by
  obtain⟨a,xs,e,h1,h2,h3⟩:=h;exact⟨a,xs,e,g _ _ h1,h2,L2.Paired.bq h3 λ_ _ z=>At.same g z⟩
 |m+1,_,.tup _,h=>by
  obtain⟨a,xs,e,h1,h2,h3⟩:=h;exact⟨a,xs,e,g _ _ h1,h2,L2.Paired.bq h3 λ_ _ z=>At.same g z⟩
section
variable {H:Hp}{m:Nat}
def ZfS(b:Bool):At H m (.bl b) (.bl b):=by unfold At;rfl
def Qt(i:Int):At H m (.int i) (.int i):=by unfold At;rfl
def GX(x:Str):At H m (.str x) (.str x):=by unfold At;rfl
def Az(h:H a=some (.tup xs))(l:ds.length<=1000)(p:Paired (At H m) xs ds):At H (m+1) (.ref a) (.tup ds):=by unfold At;exact⟨a,xs,rfl,h,l,p⟩
def ZeG(h:H a=some (.lst xs))(l:ds.length<=1000)(p:Paired (At H m) xs ds):At H (m+1) (.ref a) (.lst ds):=by unfold At;exact⟨a,xs,rfl,h,l,p⟩
end
theorem gH:∀{xs:List α} {ys:List β} {i:Nat} {x:α},Paired F xs ys->xs[i]?=some x->∃y,ys[i]?=some y/\F x y:=by
 intro xs ys i x h;induction h generalizing i with
 |nil=>intro e;simp at e
 |cons r t ih=>
  intro e;cases i with
  |zero=>
   have e:=Yn (show some _=some _ by simpa using e);subst e;exact⟨_,rfl,r⟩
  |succ i=>
   obtain⟨y,h1,h2⟩:=ih (i:=i) (by simpa using e);exact⟨y,by simpa using h1,h2⟩
theorem cU:∀{xs:List α} {ys:List β},Paired F xs ys->xs.length=ys.length:=by
 intro xs ys h;induction h with
 |nil=>rfl
 |cons _ _ ih=>rw[Y7,Y7,ih]
def ND{α:Type}{xs:List α}{i:Nat}{x:α}(h:xs[i]?=some x):dO xs (0+(i:Int))=some x:=by
 rw[show(0:Int)+(i:Int)=(i:Int) from by omega];exact iH h
def XP(H:Hp)(C:Addr)(wd:Str)(E:XK):Prop:=∀(a d:Addr) (H':Hp),H a=none->H d=none->aj H H'->H' a=some (xo a C (some d))->H' d=some (xq d [("word",.str wd)])->E (.ref C) (some d) H'
def u9.of{K:ah}{C f:Addr}(x:dC K C)(init:PySem.W.findIn K (.ref C) "__init__"=some (some (.ref f)))(fn:isFn K (.ref f)=true)(kp:keepIn K (.ref C)=true):u9 K C f:=by
 obtain⟨nm,q,N,bs,cs,sn,sub,ab,col,dd,k0,k1,k2,k3,k5,l⟩:=id x.mF;have no:∀n:String,ph.contains (.type n)=false->PySem.W.mroIn K C (.type n)=some false:=λn hn=>by
  unfold PySem.W.mroIn PySem.W.clsIn
  grind
 exact⟨⟨nm,q,N,bs,_,sn,sub,ab,col,dd,k0,k1,k2,k3,k5,l⟩,x.mro _ (by decide),x.mro _ (by decide),no _ (by decide),no _ (by decide),init,fn,kp⟩
def ZbF{K:ah}(C:Addr):kitOne K (.ref C) (.ref C)=some true:=by unfold kitOne;rw[if_pos (beq_self_eq_true _)]
def Zc2:List V->Hp->VK->Prop:=λxs H Q=>∃(p:Addr) (n:Nat),xs=[.ref p]/\H p=some (.jJ 0 (n:Int))/\n<=1000/\∀l:Addr,H l=none->Q (.ref l) (upd H l (.tup ((bp n).map V.int)))
section
variable {prog:Program}{w:World}{A:Around}{E:a8}{s:Shared}
theorem YI{Q:List Value->Shared->Prop}{r:Addr}{n:Nat}{t u v:Tok}(hh:A.handled=none)(hr:IsRange s.heap r 0 (n:Int) 1 t u v)(hn:n<=1000)
  (k:∀h' tk (acc:Array Value),(∀b o,s.heap.get? b=some o->h'.get? b=some o)->ItemsOf (λi v=>∃t,v=.int (0+i*1) t) acc n->Q acc.toList {s with heap:=h',toks:=tk}):
  wpAny (model prog w) A (collect (.ref r)) Q E s:=by
 refine wpAny_bind (wpAny_runValue (codeAny_builtin PySem.F.entry_proto_collect (wpAny_bind (wpAny_newObj_type (wpAny_pure ⟨plainId_quiet PySem.F.plain_list_iadd _,codeAny_builtin PySem.F.entry_list_iadd ?_⟩)))));have ZfT:∀s':Shared,(∃(h':Heap) (tk:Nat) (acc:Array Value) (c:Nat),s'={s with heap:=h',toks:=tk}/\(∀b o,b≠s.heap.objs.size->(s.heap.push {cls:=.type "list",data:=.seq ([]:List Value).toArray}).get? b=some o->h'.get? b=some o)/\
   h'.get? s.heap.objs.size=some {cls:=.type "list",dict:=none,data:=.seq acc c,slots:=#[]}/\ItemsOf (λi v=>∃t,v=.int (0+i*1) t) acc n)->
   wpAny (model prog w) A (match Value.ref s.heap.objs.size with
    |Value.ref a=>do
     match(←load a).data with
      |Data.seq xs _=>pure xs.toList
      |_=>unsupported "internal:collect"
    |_=>unsupported "internal:collect") Q E s':=by
  rintro s' ⟨h',tk,acc,c,rfl,kp,here,ai⟩;exact wpAny_bind (wpAny_load here (wpAny_pure (k h' tk acc (λb o hb=>kp b o (Yy (Ys hb)) (Yb _ hb)) ai)))
 refine wpAny_mono (wpAny_extend_range (s:={s with heap:=s.heap.push {cls:=.type "list",data:=.seq ([]:List Value).toArray}})
  (R:=λr s'=>r=.ok (.ret (.ref s.heap.objs.size))/\∃(h':Heap) (tk:Nat) (acc:Array Value) (c:Nat),s'={s with heap:=h',toks:=tk}/\(∀b o,b≠s.heap.objs.size->(s.heap.push {cls:=.type "list",data:=.seq ([]:List Value).toArray}).get? b=some o->h'.get? b=some o)/\
   h'.get? s.heap.objs.size=some {cls:=.type "list",dict:=none,data:=.seq acc c,slots:=#[]}/\ItemsOf (λi v=>∃t,v=.int (0+i*1) t) acc n)
  hh (Yb _ hr) (small_one (by omega) (by omega) (by omega) (by omega)) (by rw[rangeSize_one];split<;>omega) (by omega) _ _ 0 (Yu _ rfl) λh' tk acc c kp here ai=>⟨rfl,h',tk,acc,c,rfl,kp,here,ai⟩) (λfin s' z=>?_) λe s' z=>?_
 ·cases fin with
  |done f=>grind
  |again c'=>exact⟨z.1,codeAny_mono z.2 λr sZ hr=>by obtain⟨rfl,hz⟩:=hr;exact ZfT sZ hz⟩
 ·grind
def Zc3(r:Addr)(n:Nat)(t u v:Tok)(hn:n<=1000):
  Meets (Builtin.«tuple.__new__» ⟨[.type "tuple",.ref r],[]⟩) (λA R s=>A.handled=none/\IsRange s.heap r 0 (n:Int) 1 t u v/\∀(h':Heap) (tk:Nat) (acc:Array Value),(∀b o,s.heap.get? b=some o->h'.get? b=some o)->ItemsOf (λi v=>∃t,v=.int (0+i*1) t) acc n->
   R (.ok (.ret (.ref h'.objs.size))) {s with heap:=h'.push {cls:=.type "tuple",data:=.seq acc},toks:=tk}):=
 .of_wp λprog w A R s h=>by
  obtain⟨hp,g,d,tk,os⟩:=s;obtain⟨hh,ht,q⟩:=h;have sub:=sub_tuple_self;have ini:=init_tuple_lookup;have mh:=madeHere_tuple;have hh1:A.in1.handled=none:=hh
  wp_walk using PySem.AutoSeq1.wpAny_loadPart' ht,wpAny_typeOf ty,YI (A:=A.in1) hh1 ht hn
  intro h' yr acc kp ai;show wpAny _ _ (Builtin.Tuple.tupleExact acc.toList.toArray>>=λv=>ret v) _ _ _;unfold Builtin.Tuple.tupleExact;have lz:acc.toList.toArray.size<=sizeLine:=by
   have e:=ai.1;rw[sizeLine_eq];simp;omega
  refine wpAny_bind (wpAny_newObj_type (wpAny_pure ⟨_,rfl,?_⟩) lz);have e:acc.toList.toArray=acc:=by simp
  rw[e];exact q h' yr acc kp ai
end
def LU(hc:X.calm=true):c7 X (.type "tuple") Zc2:=by
 intro pins s σ H xs us Q I r h;obtain⟨p,n,rfl,hp,hn,q⟩:=h;obtain⟨u,rfl,rx⟩:=vals1 r;cases rx;obtain⟨t,u,v,ho⟩:=I.aw p _ hp;refine callType_new PySem.F.called_tuple (by decide) (PySem.F.typeCall_tuple_1 _) (PySem.F.newCall_tuple_1 _) (λobj=>PySem.F.args_object_init_2 obj _) PySem.F.entry_tuple_new (Zc3 p n t u v hn) ⟨I.ok.hd hc,ho,λh' tk acc kp ai=>⟨⟨_,Yu _ rfl,rfl⟩,?_⟩⟩;have I1:=I.kept (t':=tk) kp;have vs:Vals ((bp n).map V.int) acc.toList:=by
  refine El (by rw[Ya,eG];simp[ai.1]) λi x u e1 e2=>?_;obtain⟨t',rfl⟩:=ai.2 i u (by simpa using e2);have hi:i<n:=by
   have:=(Yl.mp e1).1;rw[Ya,eG] at this;exact this
  rw[Ye,lY hi] at e1;have e3:=Yn e1;subst e3;exact⟨t',by rw[show(0:Int)+(i:Int)*1=(i:Int) by omega]⟩
 have I2:Inv X pins σ (upd H h'.objs.size (.tup ((bp n).map V.int))) {s with heap:=h'.push {cls:=.type "tuple",data:=.seq acc},toks:=tk}:=
  I1.laid (t':=tk) (λb o e=>Yb _ e) (Yd _) (show cJ X.prog X.w _ _ _ (.tup _) from⟨by rw[Ya,eG];exact Jk (jV hn),acc.toList,vs,by simpa using ni.new h' acc⟩)
 exact⟨.ref h'.objs.size,_,I2,rfl,q _ (I1.aw.fresh (Yd _))⟩
inductive ON(K:ah)(vs:List V)(H:Hp)(Q:VK):Prop
 |mk (a C:Addr) (wd y:Str) (aC:vs=[.ref a,.str wd,.str y]) (aS:H a=some (xn a C none)) (bb:dC K C) (bL:de K C "word") (cD:wd.length<=100) (dB:y.length<=1000000) (fD:∀d,H d=none->d≠a->Q .az (upd (upd H d (xq d [("word",.str wd)])) a (xn a C (some d)))):ON K vs H Q
def RA(K:ah):Sp:=λvs H Q _=>ON K vs H Q
def RB(wd:Str)(c:Addr):Sp:=λvs H Q _=>∃(a:Addr) (y:Str),vs=[.ref a,.str y]/\H a=some (xn a c none)/\y.length<=1000000/\
 ∀d,H d=none->d≠a->Q .az (upd (upd H d (xq d [("word",.str wd)])) a (xn a c (some d)))
abbrev vJ:List Str:=["self","why"]
def GY(P:Program)(w:World)(K:ah)(mg:aQ)(base:Heap)(x wd:Str)(c:Addr):Prop:=
 ∃fi fd,u9 K c fi/\aE P w K mg base aM 2 fi fd vJ (RB wd c)/\Binds K fd vJ []/\mg x=some (.ref c)/\dC K c/\de K c "word"
section
variable {X:Cx}{e e2:Expr}{es:List Expr}{te:TE}{t:TF}{pos:Pos}
end
def tW(te:TE)(R:St->Hp->VK):TE:=λσ H Q=>te σ H (R σ H)/\∀v H1,R σ H v H1->Q v H1
def PE.weak{X:Cx}{e:Expr}{te:TE}(h:PE X e te)(R:St->Hp->VK):PE X e (tW te R):=λpins s σ H Q I ⟨q,k⟩=>ay (h pins s σ H (R σ H) I q) λ_ _ ⟨v,H1,I1,r,z⟩=>⟨v,H1,I1,r,k v H1 z⟩
def Zc4(c:Addr)(wd:Str)(E:St->XK)(te:TE):TS:=λ_ σ H=>te σ H λv H1=>∃y:Str,v=.str y/\y.length<=1000000/\XP H1 c wd (E σ)
def ZaJ{X:Cx}{j:Nat}{x wd:Str}{c:Addr}{E:St->XK}{e:Expr}{te:TE}{p pos cy:Pos}(h:GY X.prog X.w X.K X.mg X.base x wd c)(hr:cF j X.A)(hj:3<=j)(hc:X.calm=true)(hg:Gl X x)(hx:oU X E)(he:PE X e te)
  (eN:(x==("__debug__":Str))=false:=by decide)(df:starEach [e] X.env=[(false,eval e X.env)]:=by rfl):
  PS X (.Raise (some (.Call (.Name x p) [e] [] cy)) none pos) (Zc4 c wd E te):=by
 obtain⟨fi,fd,xc,F,b,m,xa,na⟩:=h;intro pins s σ H D I q;refine ZbE xc F (hr.mono hj) hc hg m b .nil hx (aa (he.weak λσ _ v H1=>∃y:Str,v=.str y/\y.length<=1000000/\XP H1 c wd (E σ)) ae df) eN df rfl pins s σ H D I ⟨q,?_⟩;rintro v H1 ⟨y,rfl,ly,xp⟩;refine⟨by show 1<=1000;omega,λa ha=>⟨a,y,rfl,aR,ly,λd hd nd=>⟨rfl,d,aR,?_⟩⟩⟩;have TX:H1 d=none:=by rw[aK nd] at hd;exact hd
 refine xp a d _ ha TX (λb o e=>?_) aR ?_
 ·have n1:b≠a:=bY e ha;rw[aK n1,aK n1,aK (bY e TX),aK n1];exact e
 ·rw[aK nd,aK nd,aR]
def ZbG{X:Cx}{K:ah}(h:X.K=K):c7 X (.builtin "isinstance") (Rv K):=h▸XF
def ZbH{X:Cx}{K:ah}{e:Expr}{ta:TE}{f:Str}{pos:Pos}(h:X.K=K)(he:PE X e ta)(hb:attributeBase e f X.env (eval e X.env)=eval e X.env:=by rfl):PE X (.Attribute e f pos) (Ru K ta f):=h▸ZcX he hb
end L2
namespace L2
open PySem PySem.Spec PyProof.Rows
open PySem.W (Looks InstAt looks_findIn looks_typeIn looks_clsIn looks_mroIn looks_find findObj findIn mroIn clsIn)
section
variable {X:Cx}{B1 B2:Addr}{i:Nat}{n x1 x2:Str}{body Zix Ziy:List Stmt}{b1 b2:Stmt}{px1 px2 lK dh pos:Pos}{tb:(St->XK)->TS}{th1 th2:TS}
end
def Qu{X:Cx}{k j:Nat}{m:Str}{C:Addr}{ps:List Str}{sp:Sp}{E:St->XK}{pos apos:Pos}{o e:Expr}{es:List Expr}{t:TA}{ta:TE}{pl:Sem Bool}(h:∃f fd,fU X.K C/\Meth X.K C m f/\aE X.prog X.w X.K X.mg X.base (dW X.prog X.w) k f fd ps sp/\Binds X.K fd ps [])(hr:cF j X.A)(hj:k<=j)(hx:oU X E)(ho:PE X o ta)(ha:PA X (e::es) t)
  (df:ik X e es:=by rfl)(bQ:iV X pos es:=by rfl)
  (ht:eval (.Call (.Attribute o m apos) (e::es) [] pos) X.env=(do
   let ov←eval o X.env
   standAt apos.atName
   let(f,first)←holding [ov] (getMethod ov m pl)
   callWith pos f first (backTo pos (starEach (e::es) X.env)) (backToKw pos (keywordEach [] X.env))):=by rfl):
  PE X (.Call (.Attribute o m apos) (e::es) [] pos) (Qm C m sp E ta t):=by
 obtain⟨f,fd,c,hm,F,b⟩:=h;exact Zbw ho c hm F (hr.mono hj) b hx ha df bQ ht
end L2
namespace BY
open L2
def EX(n:Nat):(bp n).Nodup:=by
 exact List.Pairwise.map _ (λa b h e=>h (by omega)) List.nodup_range
section
variable {t:List Int}{n:Nat}
end
end BY
namespace L2
open PySem PySem.Spec PyProof.Rows
def Row(K:ah)(H:Hp)(p:Addr)(ns:List Int):Prop:=ak K H p (ns.map V.int)\/aB K H p (ns.map V.int)
def Row.same{K:ah}{H H':Hp}{p:Addr}{ns:List Int}(e:aj H H')(h:Row K H p ns):Row K H' p ns:=by
 rcases h with h|h;·exact .inl (e.seq h)
 ·exact .inr (e.jx h)
def full(ns:List Int):Bool:=decide (ns.Perm (bp ns.length))
def qa(h:full ns=true):ns.Perm (bp ns.length):=of_decide_eq_true h
def rO(h:ns.Perm (bp n)):full ns=true:=decide_eq_true (by rw[h.length_eq,eG];exact h)
def YJ(n:Nat):(bp n).Pairwise (·<=·):=by
 unfold bp;rw[W1];exact List.pairwise_lt_range.imp λh=>by omega
theorem Ms:∀{as bs:List Int},as.Perm bs->as.Pairwise (·<=·)->bs.Pairwise (·<=·)->as=bs
 |[],bs,p,_,_=>by
  simp_all
 |a::as,[],p,_,_=>by
  simp_all
 |a::as,b::bs,p,h1,h2=>by
  rw[List.pairwise_cons] at h1 h2;have e:a=b:=by
   have ha:=p.subset Yo;have hb:=p.symm.subset Yo
   grind
  subst e;rw[Ms (List.Perm.cons_inv p) h1.2 h2.2]
def YK(p:dm.Perm ns)(h:dm.Pairwise (·<=·)):decide (dm=bp ns.length)=full ns:=by
 unfold full;rw[Wj,decide_eq_true_iff,decide_eq_true_iff];constructor;·grind
 ·intro q;exact Ms (p.trans q) h (YJ _)
def RC(K:ah)(neg:Bool)(tr:TE):TE:=jv (Sl K neg) (mO (Gv K) (gW tr js)) (mO Ny (gW (mO OF (gW (mO (xT K) (gW tr js)) js)) js))
def ZbI{K:ah}{i:Nat}{neg:Bool}{σ:St}{H:Hp}{p:Addr}{ns:List Int}{Q:VK}(hi:σ[i]?=some (some (.ref p)))(hR:Row K H p ns)(jw:ns.length<64)(q:∀H',aj H H'->Q (.bl (if neg=true then !full ns else full ns)) H'):
   (RC K neg (fQ i)) σ H Q:=by
 refine⟨_,hi,p,ns,rfl,hR,jw,λl dm hl pm so=>?_⟩;have g1:aj H (upd H l (.lst (dm.map V.int))):=cq hl _;refine⟨_,hi,p,ns.map V.int,rfl,Row.same g1 hR,_,rfl,λr hr=>⟨r,(ns.map V.int).length,rfl,aR,by rw[Ya];omega,λu hu=>?_⟩⟩;have g3:=(g1.trans (cq hr (.jJ 0 (((ns.map V.int).length:Nat):Int)))).trans (cq hu (.lst ((bp (ns.map V.int).length).map V.int)));refine⟨l,u,dm,bp (ns.map V.int).length,rfl,rfl,ak.of ?_,ak.of aR,?_⟩
 ·rw[aK (bY ((cq hr _) _ _ aR) hu)];exact(cq hr _) _ _ aR
 ·rw[Ya,YK pm so]
  grind
theorem any_false(n:Nat):(List.replicate n false).any id=false:=by
 induction n with
 |zero=>rfl
 |succ n ih=>grind
section
open PySem.AutoSeq1 (wpAny_loadPart')
open PySem.MeetsSeq PySem.SeqAt
def Xh(l:Addr)(items:Array Value)(n:Nat)(dd:Option Addr)(sl:Array (Option Value))(x:Value)(e:Value->Bool)(j:Nat)(hj:j<items.size)
  (hit:e items[j]=true)(Kc:∀m (hm:m<items.size),m<j->e items[m]=false):
  Meets (Builtin.«tuple.index» ⟨[.ref l,x],[]⟩)
   (λA R s=>s.heap.get? l=some {cls:=.type "tuple",dict:=dd,data:=.seq items n,slots:=sl}/\(∀y,y∈items->EqAt A.in1 s y x (e y))/\R (.ok (.ret (.int j s.toks))) {s with toks:=s.toks+1}):=
 .of_wp λprog w A R s h=>by
  obtain⟨hp,g,d,tk,os⟩:=s;obtain⟨hl,he,h⟩:=h
  wp_walk using wpAny_loadPart' hl
  show wpAny _ _ (forIn (m:=Sem) [:min items.size items.size] (none,()) _) _ _ _;rw[Std.Legacy.Range.forIn_eq_forIn_range'];refine wpAny_forIn_list _ (λrest b s'=>s'=⟨hp,g,d,tk,os⟩/\∃i,i<=j/\rest=List.range' i (items.size-i)) _ ?_ ?_ _ _ ⟨rfl,0,Yx _,by simp⟩
  ·rintro k rest b s' ⟨rfl,i,hi,hr⟩;have bT:i<items.size:=by omega
   obtain⟨rfl,xH⟩:k=i/\rest=List.range' (i+1) (items.size-(i+1)):=by
    have e:items.size-i=(items.size-(i+1))+1:=by omega
    rw[e,List.range'_succ] at hr;injection hr with h1 h2;exact⟨h1,h2⟩
   rw[Ww bT];refine wpAny_bind (he _ (Array.getElem_mem bT) prog w _ _ ?_);rcases Nat.lt_or_ge k j with hk|hk
   ·rw[Kc k bT hk]
    wp_walk
    exact⟨rfl,k+1,by omega,xH⟩
   ·obtain rfl:k=j:=by omega
    rw[hit]
    wp_walk
    exact⟨_,rfl,h⟩
  ·grind
end
def ZeH(to:TE)(t:TA):TE:=λσ H Q=>to σ H λx H1=>∃(p:Addr) (ns:List Int),x=.ref p/\H1 p=some (.tup (ns.map V.int))/\t σ H1 λvs H2=>∃(z:Int) (j:Nat),vs=[.int z]/\H2 p=some (.tup (ns.map V.int))/\ns[j]?=some z/\(∀m,m<j->ns[m]?≠some z)/\Q (.int (j:Int)) H2
theorem Xi:∀{ns:List Int} {us:List Value} {j:Nat} (h:j<us.length),Vals (ns.map V.int) us->∃n t,ns[j]?=some n/\us[j]=.int n t:=by
 intro ns;induction ns with
 |nil=>intro us j h r;cases r;simp at h
 |cons n ns ih=>
  intro us j h r;rw[Wp] at r;cases r with
  |cons r t=>
   cases j with
   |zero=>
    obtain⟨t',rfl⟩:=r;exact⟨n,t',rfl,rfl⟩
   |succ j=>
    obtain⟨n',t',e1,e2⟩:=ih (j:=j) (by simpa using h) t;exact⟨n',t',by simpa using e1,by simpa using e2⟩
theorem ZaK(ns:List Int):(ns.map V.int).all jn=true:=by
 induction ns with
 |nil=>rfl
 |cons n ns ih=>rw[Wp,Jg,ih];rfl
def L_(ho:PE X o to)(ha:PA X [e] t)
  (sr:attributeBase o "index" X.env (eval o X.env)=eval o X.env:=by rfl)
  (Il:((backTo cy (starEach [e] X.env)).all (λx=>!x.1)&&(backToKw cy (keywordEach [] X.env)).all (λx=>x.1.isSome)
   &&decide ([e].length+([]:List Keyword).length+(if([]:List Keyword).isEmpty then 0 else 1)<30))=true:=by rfl)
  (su:(apos.endLine==cy.line)=true:=by rfl)(hs:starEach [e] X.env=(false,eval e X.env)::starEach [] X.env:=by rfl):
  PE X (.Call (.Attribute o "index" apos) [e] [] cy) (ZeH to t):=by
 intro pins s σ H Q I h;refine wpAny_Call_method_late sr Il su rfl (ay (ho pins s σ H _ I h) λv s1 zq=>?_);obtain⟨x,H1,I1,r1,p,ns,ex,hp,q1⟩:=zq;subst ex;obtain rfl:v=Value.ref p:=r1;obtain⟨_,_,_,ob,g,oc,_,_,od⟩:=(show cJ X.prog X.w H1 s1.heap p (.tup (ns.map V.int)) from I1.aw p _ hp);refine⟨"tuple","tuple.index",F.plainAttrs_tuple,F.slot_tuple_index,F.type_tuple_index,⟨ob,g,oc⟩,λa ea=>by cases ea;exact⟨ob,g,od⟩,?_⟩;have hA:=ha cy pins s1 σ H1 _ I1 q1;rw[hs] at hA⊢;refine Calls.callWith_builtin rfl (Calls.evalArgs_plain ?_);refine ay hA λus s2 zq=>?_;obtain⟨vs,H2,I2,r2,z,j,ev,dh,hj,Kc,q2⟩:=zq;subst ev;obtain⟨u,rfl,ru⟩:=r2.one;obtain⟨tz,rfl⟩:=ru;obtain⟨_,ai,rv,⟨cls,dd,data,sl⟩,g2,TY,n2,TZ,_⟩:=(show cJ X.prog X.w H2 s2.heap p (.tup (ns.map V.int)) from I2.aw p _ dh);simp only at TY TZ;subst TY TZ;have hlen:ai.length=ns.length:=by have:=rv.length;rw[Ya] at this;omega
 have T3:j<ai.length:=by rw[hlen];exact(Yl.mp hj).1
 have ix:∀m (hm:m<ai.length),iq (.int z) ai[m]=decide (ns[m]?=some z):=λm hm=>by
  obtain⟨n',t',e1,e2⟩:=Xi hm rv;rw[e1,e2];show(n'==z)=decide (some n'=some z)
  grind
 refine call_meets F.slot_tuple_index ⟨_,g2,rfl⟩ F.entry_tuple_index (F.args_tuple_index_2 _ _) (Xh p ai.toArray n2 dd sl (.int z tz) (iq (.int z)) j (by rw[Yv];exact T3) ?_ ?_) ⟨g2,?_,?_⟩;·rw[List.getElem_toArray,ix j T3];exact decide_eq_true hj
 ·intro m hm bT;rw[List.getElem_toArray,ix m (by simpa using hm)];exact decide_eq_false (Kc m bT)
 ·intro y hy;exact wW (x:=.int z) ⟨tz,rfl⟩ rfl rv (ZaK ns) y (by simpa using hy)
 ·exact⟨.int _,H2,I2.tok _,⟨_,rfl⟩,q2⟩
section
variable {κ:Type}[DecidableEq κ]
def aT(kvs:List (κ×V))(k:κ):Option V:=(kvs.find? λkv=>decide (kv.1=k)).map (·.2)
def putK(kvs:List (κ×V))(k:κ)(v:V):List (κ×V):=
 if(kvs.any λkv=>decide (kv.1=k))=true then kvs.map (λkv=>if kv.1=k then(kv.1,v) else kv) else kvs++[(k,v)]
def gY(kvs:List (κ×V))(k:κ):List (κ×V):=kvs.filter λkv=>decide (kv.1≠k)
def fN{p:κ×V}{r:List (κ×V)}{k:κ}(e:p.1=k):aT (p::r) k=some p.2:=by simp[aT,Kd,e]
def eX{p:κ×V}{r:List (κ×V)}{k:κ}(e:¬p.1=k):aT (p::r) k=aT r k:=by simp[aT,Kd,e]
theorem uK(k:κ):∀kvs:List (κ×V),(kvs.any λkv=>decide (kv.1=k))=(aT kvs k).isSome
 |[]=>rfl
 |p::r=>by
  rw[Jm];by_cases e:p.1=k;·simp only[fN e,decide_eq_true e,Bool.true_or,Option.isSome_some]
  ·rw[eX e,decide_eq_false e,BZ];exact uK k r
theorem NF(k j:κ)(y:V):∀kvs:List (κ×V),aT (kvs.map λkv=>if kv.1=k then(kv.1,y) else kv) j=(aT kvs j).map λx=>if j=k then y else x
 |[]=>rfl
 |p::r=>by
  have ih:=NF k j y r;rw[Wp];by_cases h:p.1=k
  ·rw[if_pos h];by_cases e:p.1=j;·rw[fN (p:=(p.1,y)) e,fN e,Option.map_some,if_pos (e.symm.trans h)]
   ·rw[eX (p:=(p.1,y)) e,eX e,ih]
  ·rw[if_neg h];by_cases e:p.1=j;·rw[fN e,fN e,Option.map_some,if_neg (λz=>h (e.trans z))]
   ·rw[eX e,eX e,ih]
theorem uC(k j:κ)(y:V):∀kvs:List (κ×V),aT kvs k=none->aT (kvs++[(k,y)]) j=if j=k then some y else aT kvs j
 |[],_=>by
  by_cases e:k=j;·rw[if_pos e.symm];exact fN (p:=(k,y)) e
  ·rw[if_neg (λz=>e z.symm)];exact eX (p:=(k,y)) e
 |p::r,hn=>by
  rw[T4];have hk:¬p.1=k:=λz=>by rw[fN z] at hn;cases hn
  rw[eX hk] at hn;by_cases e:p.1=j;·rw[fN e,fN e,if_neg (λz=>hk (e.trans z))]
  ·rw[eX e,eX e,(uC k j y r hn)]
theorem ZbJ(kvs:List (κ×V))(k j:κ)(y:V):aT (putK kvs k y) j=if j=k then some y else aT kvs j:=by
 unfold putK;by_cases a:(kvs.any λkv=>decide (kv.1=k))=true
 ·rw[if_pos a,NF];rw[uK] at a;by_cases e:j=k
  ·obtain⟨x,hx⟩:=Jb.mp a
   grind
  ·simp_all
 ·rw[if_neg a];refine uC k j y kvs ?_;rw[uK] at a;cases q:aT kvs k with
  |none=>rfl
  |some x=>grind
def zp(kvs:List (κ×V))(k:κ)(v:V):(putK kvs k v).length<=kvs.length+1:=by
 unfold putK
 grind
def kU{kvs:List (κ×V)}{k:κ}(v:V)(h:aT kvs k=none):putK kvs k v=kvs++[(k,v)]:=by
 unfold putK;rw[uK,h];rfl
theorem d7.uD(r:d7 o u):o.isSome=u.isSome:=by
 cases o with
 |none=>cases u with
  |none=>rfl
  |some _=>exact(show False from r).elim
 |some _=>cases u with
  |none=>exact(show False from r).elim
  |some _=>rfl
theorem d7.getD(r:d7 o u)(rd:RelV d d'):RelV (o.getD d) (u.getD d'):=by
 cases o with
 |none=>cases u with
  |none=>exact rd
  |some _=>exact(show False from r).elim
 |some _=>cases u with
  |none=>exact(show False from r).elim
  |some _=>exact r
theorem KV.val{kvs:List (κ×V)}{vs:List (κ×Value)}(r:KV kvs vs)(k:κ):d7 (aT kvs k) (valueAt vs k):=by
 unfold KV at r;induction r with
 |nil=>exact True.intro
 |@cons p q ps qs h t ih=>
  obtain⟨h1,h2⟩:=h;by_cases e:p.1=k
  ·have e':q.1=k:=h1.symm.trans e;have b:valueAt (q::qs) k=some q.2:=by simp[valueAt,Kd,e']
   rw[fN e,b];exact h2
  ·have e':¬q.1=k:=λz=>e (h1.trans z);have b:valueAt (q::qs) k=valueAt qs k:=by simp[valueAt,Kd,e']
   rw[eX e,b];exact ih
theorem KV.any(r:KV kvs vs)(k:κ):(kvs.any λkv=>decide (kv.1=k))=vs.any λkv=>decide (kv.1=k):=by
 induction r with
 |nil=>rfl
 |cons h t ih=>grind
theorem KV.Iw(r:KV kvs vs)(k:κ)(ry:RelV y u):
  KV (kvs.map λkv=>if kv.1=k then(kv.1,y) else kv) (vs.map λkv=>if kv.1=k then(kv.1,u) else kv):=by
 induction r with
 |nil=>exact .nil
 |@cons p q ps qs h t ih=>
  refine .cons ?_ ih
  grind
def KV.put(r:KV kvs vs)(k:κ)(ry:RelV y u):KV (putK kvs k y) (stored vs k u):=by
 unfold putK stored;rw[r.any k];by_cases e:(vs.any λkv=>decide (kv.1=k))=true;·rw[if_pos e,if_pos e];exact r.Iw k ry
 ·rw[if_neg e,if_neg e];exact Paired.snoc r ⟨rfl,ry⟩
theorem KV.drop(r:KV kvs vs)(k:κ):KV (gY kvs k) (without vs k):=by
 unfold gY without;induction r with
 |nil=>exact .nil
 |@cons p q ps qs h t ih=>
  obtain⟨h1,h2⟩:=h;rw[W0,W0];by_cases e:p.1=k;·grind
  ·have e':¬q.1=k:=λz=>e (h1.trans z);have a:decide (p.1≠k)=true:=by simp[e]
   have b:decide (q.1≠k)=true:=by simp[e']
   rw[if_pos a,if_pos b];exact .cons ⟨h1,h2⟩ ih
theorem KV.keys{kvs:List (κ×V)}{vs:List (κ×Value)}(r:KV kvs vs):kvs.map (·.1)=vs.map (·.1):=by
 induction r with
 |nil=>rfl
 |cons h t ih=>grind
def KV.length(r:KV kvs vs):kvs.length=vs.length:=Paired.length r
def NG(kvs:List (κ×V))(k:κ):(gY kvs k).length<=kvs.length:=Wh _ _
end
theorem mf(r:RelV (kV k) u):(dE P w).is k u=true:=by
 cases k with
 |inl i=>obtain⟨t,e⟩:=(show ∃t,u=Value.int i t from r);subst e;exact YC P w i t
 |inr x=>obtain⟨t,e⟩:=(show ∃t,u=Value.str x t from r);subst e;exact YD P w x t
theorem MX:∀{ks:List Key} {us:List Value},Vals (ks.map kV) us->ItemsAre (dE P w) ks us
 |[],_,r=>by rw[List.map_nil] at r;cases r;exact .nil
 |k::ks,_,r=>by
  cases r with
  |cons h t=>exact .cons (mf h) (MX t)
abbrev KT(H:Hp):List (List Key×V)->List (List Key×Addr×Value)->Prop:=Paired λp q=>p.1=q.1/\H q.2.1=some (.tup (p.1.map kV))/\RelV p.2 q.2.2
theorem KT.val{H:Hp}{kvs:List (List Key×V)}{xs:List (List Key×Addr×Value)}(r:KT H kvs xs)(k:List Key):d7 (aT kvs k) ((atKey xs k).map (·.2)):=by
 induction r with
 |nil=>exact True.intro
 |@cons p q ps qs h t ih=>
  obtain⟨h1,_,h2⟩:=h;by_cases e:p.1=k
  ·have e':q.1=k:=h1.symm.trans e;have b:atKey (q::qs) k=some q.2:=by simp[atKey,e']
   rw[fN e,b];exact h2
  ·have e':¬q.1=k:=λz=>e (h1.trans z);have b:atKey (q::qs) k=atKey qs k:=by simp[atKey,e']
   rw[eX e,b];exact ih
theorem KT.Iw(r:KT H kvs xs)(k:List Key)(ry:RelV y u):
  KT H (kvs.map λkv=>if kv.1=k then(kv.1,y) else kv) (xs.map (putAt k u)):=by
 induction r with
 |nil=>exact .nil
 |@cons p q ps qs h t ih=>
  refine .cons ?_ ih;unfold putAt
  grind
def KT.put(r:KT H kvs xs)(k:List Key)(hb:H b=some (.tup (k.map kV)))(ry:RelV y u):
  KT H (putK kvs k y) (storedH xs k b u):=by
 have e:(kvs.any λkv=>decide (kv.1=k))=(atKey xs k).isSome:=by
  rw[uK,(r.val k).uD,T5]
 unfold putK storedH;rw[e];by_cases q:(atKey xs k).isSome=true;·rw[if_pos q,if_pos q];exact r.Iw k ry
 ·rw[if_neg q,if_neg q];exact Paired.snoc r ⟨rfl,hb,ry⟩
def KT.keeps(r:KT H kvs xs)(ht:∀b ys,H b=some (.tup ys)->H' b=some (.tup ys)):KT H' kvs xs:=
 Paired.bq r λ_ _ z=>⟨z.1,ht _ _ z.2.1,z.2.2⟩
section
variable {P:Program}{w:World}{H:Hp}{h:Heap}{a:Addr}
def RD(ok:c_ P w H h)(e:Rd H a u):cJ P w H h a u:=e.ok ok
def oV(ok:c_ P w H h)(e:Rd H a (.dK kvs)):kvs.length<=sizeLine/\(a==sysModules)=false/\∃vs,KV kvs vs/\h.DictOf (dE P w) a vs:=
 show cJ P w H h a (.dK kvs) from RD ok e
def oW(ok:c_ P w H h)(e:H a=some (.dK kvs)):kvs.length<=sizeLine/\(a==sysModules)=false/\∃vs,KV kvs vs/\h.DictOf (dE P w) a vs:=oV ok (.inl e)
def qr(ok:c_ P w H h)(e:H a=some (.tup (ks.map kV))):(tupleKind (dE P w)).is h ks a:=by
 obtain⟨_,ai,r,o,h1,h2,n,h3,_⟩:=(show cJ P w H h a (.tup (ks.map kV)) from ok a _ e);exact⟨o,ai.toArray,n,h1,h2,h3,by simpa using MX r⟩
theorem qv(ok:c_ P w H h)(e:Rd H a (.dT kvs)):kvs.length<=sizeLine/\(a==sysModules)=false/\
  ∃xs,KT H kvs xs/\h.DictOfH (tupleKind (dE P w)) a xs:=by
 obtain⟨z,y,xs,r,o,es,ep,h1,h2,h3,h4,h5⟩:=(show cJ P w H h a (.dT kvs) from RD ok e);refine⟨z,y,xs,r,o,es,ep,h1,h2,h3,h4,λx hx=>?_,h5⟩;have all:∀{l:List (List Key×V)} {m:List (List Key×Addr×Value)},KT H l m->∀x∈m,(tupleKind (dE P w)).is h x.1 x.2.1:=by
  intro l m q;induction q with
  |nil=>grind
  |@cons p q ps qs hq t ih=>
   intro x hx;rcases Yp.mp hx with e|hx
   ·subst e;exact qr ok (by rw[←hq.1];exact hq.2.1)
   ·exact ih x hx
 grind
def RE(ok:c_ P w H h)(e:H a=some (.dT kvs)):kvs.length<=sizeLine/\(a==sysModules)=false/\
  ∃xs,KT H kvs xs/\h.DictOfH (tupleKind (dE P w)) a xs:=qv ok (.inl e)
end
def d_(H:Hp)(a:Addr)(y:V)(r:Option V):Prop:=
 (∃kvs k,Rd H a (.dK kvs)/\y=kV k/\r=aT kvs k)\/∃kvs k b,Rd H a (.dT kvs)/\y=.ref b/\H b=some (.tup (k.map kV))/\r=aT kvs k
def sN(H:Hp)(a:Addr)(y v:V)(H':Hp):Prop:=
 (∃kvs k,H a=some (.dK kvs)/\y=kV k/\kvs.length<sizeLine/\H'=upd H a (.dK (putK kvs k v)))\/
 ∃kvs k b,H a=some (.dT kvs)/\y=.ref b/\H b=some (.tup (k.map kV))/\kvs.length<sizeLine/\H'=upd H a (.dT (putK kvs k v))
def d_.k{H:Hp}{a:Addr}{kvs:List (Key×V)}{k:Key}(e:H a=some (.dK kvs)):d_ H a (kV k) (aT kvs k):=.inl ⟨kvs,k,.inl e,rfl,rfl⟩
def d_.t{H:Hp}{a b:Addr}{kvs:List (List Key×V)}{k:List Key}(e:H a=some (.dT kvs))(eb:H b=some (.tup (k.map kV))):d_ H a (.ref b) (aT kvs k):=.inr ⟨kvs,k,b,.inl e,rfl,eb,rfl⟩
def sN.k{H:Hp}{a:Addr}{kvs:List (Key×V)}{k:Key}{v:V}(e:H a=some (.dK kvs))(hl:kvs.length<sizeLine):sN H a (kV k) v (upd H a (.dK (putK kvs k v))):=.inl ⟨kvs,k,e,rfl,hl,rfl⟩
def sN.t{H:Hp}{a b:Addr}{kvs:List (List Key×V)}{k:List Key}{v:V}(e:H a=some (.dT kvs))(eb:H b=some (.tup (k.map kV)))(hl:kvs.length<sizeLine):
  sN H a (.ref b) v (upd H a (.dT (putK kvs k v))):=.inr ⟨kvs,k,b,e,rfl,eb,hl,rfl⟩
section
variable {X:Cx}{pins:aU}{σ:St}{H:Hp}{s:Shared}{a:Addr}{y v:V}{u r:Value}{o:Option V}{A:Around}{E:a8}
def Inv.big(I:Inv X pins σ H s):sysModules<s.heap.objs.size:=by
 exact Nat.lt_trans (by decide) ((I.mod.glob.keeps I.bk).lt)
def ZaL(hu:A.units+1<cLine)(I:Inv X pins σ H s)(g:d_ H a y (some v))(ry:RelV y u)(h:∀w' s',Inv X pins σ H s'->RelV v w'->Q w' s'):
  wpAny X.md A (getItem (.ref a) u) Q E s:=by
 rcases g with⟨kvs,k,e,ey,l⟩|⟨kvs,k,b,e,ey,eb,l⟩
 ·subst ey;obtain⟨z,hd,vs,rel,dd⟩:=oV I.aw e;obtain⟨w',hw,gn⟩:=d7.some_of (v:=v) (o:=valueAt vs k) (by rw[l];exact rel.val k);exact wpAny_getItem_of (mf ry) dd.mapOf hw (h w' _ (I.tok _) gn)
 ·subst ey;cases(show u=Value.ref b from ry);obtain⟨z,hd,xs,rel,dd⟩:=qv I.aw e;obtain⟨w',hw,gn⟩:=d7.some_of (v:=v) (o:=(atKey xs k).map (·.2)) (by rw[l];exact rel.val k);obtain⟨p,hp,dh⟩:=Option.map_eq_some_iff.mp hw;refine wpAny_getItem_heap (tupleKind_room_in1 hu) (qr I.aw eb) dd hp ?_;rw[dh];exact h w' _ (I.tok _) gn
def ZgJ(hu:A.units+1<cLine)(I:Inv X pins σ H s)(g:d_ H a y o)(ry:RelV y u)(h:∀s',Inv X pins σ H s'->Q (.bool o.isSome) s'):
  wpAny X.md A (compareOp .In u (.ref a)) Q E s:=by
 rcases g with⟨kvs,k,e,ey,l⟩|⟨kvs,k,b,e,ey,eb,l⟩
 ·subst ey;obtain⟨z,hd,vs,rel,dd⟩:=oV I.aw e;refine wpAny_in_of (mf ry) hd dd.mapOf ?_;rw[←(rel.val k).uD,←l];exact h _ (I.tok _)
 ·subst ey;cases(show u=Value.ref b from ry);obtain⟨z,hd,xs,rel,dd⟩:=qv I.aw e;refine wpAny_in_heap (tupleKind_room_in1 hu) (qr I.aw eb) hd dd ?_;have q:=(rel.val k).uD;rw[T5] at q;rw[←q,←l];exact h _ (I.tok _)
def Zc5(hu:A.units+1<cLine)(I:Inv X pins σ H s)(g:d_ H a y o)(ry:RelV y u)(h:∀s',Inv X pins σ H s'->Q (.bool (!o.isSome)) s'):
  wpAny X.md A (compareOp .NotIn u (.ref a)) Q E s:=by
 rcases g with⟨kvs,k,e,ey,l⟩|⟨kvs,k,b,e,ey,eb,l⟩
 ·subst ey;obtain⟨z,hd,vs,rel,dd⟩:=oV I.aw e;refine wpAny_notIn_of (mf ry) hd dd.mapOf ?_;rw[←(rel.val k).uD,←l];exact h _ (I.tok _)
 ·subst ey;cases(show u=Value.ref b from ry);obtain⟨z,hd,xs,rel,dd⟩:=qv I.aw e;refine wpAny_notIn_heap (tupleKind_room_in1 hu) (qr I.aw eb) hd dd ?_;have q:=(rel.val k).uD;rw[T5] at q;rw[←q,←l];exact h _ (I.tok _)
def rP(I:Inv X pins σ H s)(mu:x_ (H a))(hs:Heap.SameBut a s.heap h')(he:∃q,h'.get? a=some q)(new:cJ X.prog X.w (upd H a ob) h' a ob):
  Inv X pins σ (upd H a ob) {s with heap:=h',toks:=t'}:=
 I.write (x:=a) (e:=a) mu (.inl rfl) (λb q hb z=>(hs.2 b hb).trans z) he new
def xv(z:kvs.length<=sizeLine)(hd:(a==sysModules)=false)(rel:KV kvs vs)(dd:h'.DictOf (dE P w) a vs):
  cJ P w H' h' a (.dK kvs):=⟨z,hd,vs,rel,dd⟩
def MY(hu:A.units+1<cLine)(I:Inv X pins σ H s)(g:sN H a y v H')(ry:RelV y u)(rv:RelV v r)(h:∀s',Inv X pins σ H' s'->Q () s'):
  wpAny X.md A (setItem (.ref a) u r) Q E s:=by
 rcases g with⟨kvs,k,e,ey,l,eH⟩|⟨kvs,k,b,e,ey,eb,l,eH⟩
 ·subst ey eH;obtain⟨z,hd,vs,rel,dd⟩:=oW I.aw e;have hz:vs.length<=sizeLine:=by rw[←rel.length];exact z
  have hl:(putK kvs k v).length<=sizeLine:=by have:=zp kvs k v;omega
  refine wpAny_setItem_pairs (hsz:=hz) (mf ry) dd λh' iu hs=>h _ ?_;have he:∃q,h'.get? a=some q:=let⟨q,_,_,hq,_⟩:=iu;⟨q,hq⟩;exact rP I (by rw[e];exact True.intro) hs he (xv hl hd (rel.put k rv) iu)
 ·subst ey eH;cases(show u=Value.ref b from ry);obtain⟨z,hd,xs,rel,dd⟩:=RE I.aw e;have hz:xs.length<=sizeLine:=by rw[←Paired.length rel];exact z
  have hl:(putK kvs k v).length<=sizeLine:=by have:=zp kvs k v;omega
  refine wpAny_setItem_heap (hsz:=hz) (tupleKind_room_in1 hu) (qr I.aw eb) dd λh' iu hs=>h _ ?_;obtain⟨q,es,ep,hq,h2,h3,h4,_,h5⟩:=iu;refine rP I (by rw[e];exact True.intro) hs ⟨q,hq⟩ ⟨hl,hd,_,(rel.put k eb rv).keeps λc ys ec=>?_,q,es,ep,hq,h2,h3,h4,h5⟩;rw[aK (Rc ec e (λz=>nomatch z))];exact ec
end
section
variable {X:Cx}{pins:aU}{σ:St}{H:Hp}{s:Shared}{a:Addr}{kvs:List (Key×V)}{k:Key}{u:Value}{A:Around}{E:a8}
def ZaM(I:Inv X pins σ H s)(e:H a=some (.dK kvs))(ry:RelV (kV k) u)(l:(aT kvs k).isSome=true)(h:∀s',Inv X pins σ (upd H a (.dK (gY kvs k))) s'->Q () s'):
  wpAny X.md A (delItem (.ref a) u) Q E s:=by
 obtain⟨z,hd,vs,rel,dd⟩:=oW I.aw e;refine wpAny_delItem_slot dd.typeIs (by decide) slot_dict_delitem
  (call_meetsIn slot_dict_delitem dd.typeIs PySem.F.entry_dict_delitem (PySem.F.args_dict_delitem_2 _ _) (meets_dict_delitem_pairs (dE X.prog X.w) a (mf ry)) ⟨vs,dd,by rw[←rel.length];exact z,by rw[←(rel.val k).uD];exact l,λh' iu hs=>h _ ?_⟩)
 have he:∃q,h'.get? a=some q:=let⟨q,_,_,hq,_⟩:=iu;⟨q,hq⟩;exact rP I (by rw[e];exact True.intro) hs he (xv (Y0 (NG kvs k) z) hd (rel.drop k) iu)
theorem ZfU(I:Inv X pins σ H s)(e:H a=some (.dK kvs))(ry:RelV (kV k) u)(l:aT kvs k=some v)(hm:more=[]\/∃x,more=[x])
  (h:∀w' s',Inv X pins σ (upd H a (.dK (gY kvs k))) s'->RelV v w'->Q w' s'):wpAny X.md A (call (.builtin "dict.pop") (.ref a::u::more)) Q E s:=by
 obtain⟨z,hd,vs,rel,dd⟩:=oW I.aw e;obtain⟨w',hw,gn⟩:=d7.some_of (v:=v) (o:=valueAt vs k) (by rw[←l];exact rel.val k);have hp:(keyPart u).isSome=true:=by
  cases k with
  |inl i=>obtain⟨t,q⟩:=(show ∃t,u=Value.int i t from ry);subst q;rfl
  |inr x=>obtain⟨t,q⟩:=(show ∃t,u=Value.str x t from ry);subst q;rfl
 have ha:argsOk "dict.pop" ⟨.ref a::u::more,[]⟩:=by
  rcases hm with q|⟨x,q⟩;·subst q;exact PySem.F.args_dict_pop_2 _ _
  ·subst q;exact PySem.F.args_dict_pop_3 _ _ _
 refine call_meetsIn slot_dict_pop dd.typeIs PySem.F.entry_dict_pop ha (meets_dict_pop_there (dE X.prog X.w) a (mf ry) more hm hp)
  ⟨vs,w',dd,by rw[←rel.length];exact z,hw,λh' iu hs=>h w' _ ?_ gn⟩
 have he:∃q,h'.get? a=some q:=let⟨q,_,_,hq,_⟩:=iu;⟨q,hq⟩;exact rP I (by rw[e];exact True.intro) hs he (xv (Y0 (NG kvs k) z) hd (rel.drop k) iu)
def ZfV(I:Inv X pins σ H s)(e:Rd H a (.dK kvs))(h:∀t s',Inv X pins σ H s'->Q (.int kvs.length t) s'):wpAny X.md A (call (.builtin "len") [.ref a]) Q E s:=by
 obtain⟨z,hd,vs,rel,dd⟩:=oV I.aw e;refine call_len_dict hd dd (by rw[←rel.length];rw[sizeLine_eq] at z;omega) ?_;rw[←rel.length];exact h _ _ (I.tok _)
end
def Sq(i:Expr):Prop:=∀ov iv,subscripted i false ov iv=operate [ov,iv] (getItem ov iv)
theorem Zc6{prog:Program}{w:World}{A:Around}{E:a8}{s:Shared}{env:Env}{value slice:Expr}{pos:Pos}{T id:String}{Q:a8}
  (hl:typeLookup (.type T) "__getitem__"=pure (some (.builtin id)))(hs:Sq slice)
  (h:wpAny (model prog w) A (eval value env) (λo bI=>wpAny (model prog w) A (eval slice env) (λi d9=>d9.TypeIs o T/\wpAny (model prog w) A (getItem o i) Q E d9) E bI) E s):
  wpAny (model prog w) A (eval (.Subscript value slice pos) env) Q E s:=by
 refine Subscript_ (wpAny_mono h (λo bI hJ=>wpAny_mono hJ (λi d9 pd=>?_) λ_ _ x=>x) λ_ _ x=>x);obtain⟨hT,pd⟩:=pd;refine wpAny_bind (wpAny_bind (wpAny_specialOf hT hl ?_));have fin:wpAny (model prog w) A (subscripted slice false o i) (λr dR=>wpAny (model prog w) A (letTemporaryGo value o r>>=λ_=>pure r) Q E dR) E d9:=by
  rw[hs o i];exact wpAny_operating (wpAny_mono pd (λr dR u7=>wpAny_bind (wpAny_letTemporaryGo (wpAny_pure u7))) λ_ _ x=>x)
 first
  |exact wpAny_pure (wpAny_bind fin)
  |exact wpAny_bind (wpAny_pure (wpAny_bind fin))
  |exact wpAny_bind fin
def YL(I:Inv X pins σ H s)(g:d_ H a y o):s.TypeIs (.ref a) "dict":=by
 rcases g with⟨kvs,k,e,_,_⟩|⟨kvs,k,b,e,_,_,_⟩
 ·obtain⟨_,_,vs,_,dd⟩:=oV I.aw e;exact dd.typeIs
 ·obtain⟨_,_,xs,_,dd⟩:=qv I.aw e;exact dd.typeIs
inductive OO(Q:VK)(x:V)(y:V)(H2:Hp):Prop
 |mk (a v) (aC:x=.ref a) (aS:d_ H2 a y (some v)) (bb:Q v H2):OO Q x y H2
def ZfW(td ty:TE):TE:=λσ H Q=>td σ H λx H1=>ty σ H1 λy H2=>OO Q x y H2
inductive Qv(Q:VK)(y:V)(x:V)(H2:Hp):Prop
 |mk (a o) (aC:x=.ref a) (aS:d_ H2 a y o) (bb:Q (.bl o.isSome) H2):Qv Q y x H2
def ZgK(ty td:TE):TE:=λσ H Q=>ty σ H λy H1=>td σ H1 λx H2=>Qv Q y x H2
inductive MZ(Q:VK)(y:V)(x:V)(H2:Hp):Prop
 |mk (a o) (aC:x=.ref a) (aS:d_ H2 a y o) (bb:Q (.bl (!o.isSome)) H2):MZ Q y x H2
def Zc7(ty td:TE):TE:=λσ H Q=>ty σ H λy H1=>td σ H1 λx H2=>MZ Q y x H2
section
variable {X:Cx}{o i e value:Expr}{pos pos' AX:Pos}{td ty tv:TE}
def dk(hu:X.A.units+1<cLine)(ho:PE X o td)(hi:PE X i ty)(hs:Sq i):PE X (.Subscript o i pos) (ZfW td ty):=by
 intro pins s σ H Q I h;refine Zc6 PySem.F.slot_dict_getitem.lookup hs (ay (ho pins s σ H _ I h) λu s1 zq=>?_);obtain⟨x,H1,I1,rx,q1⟩:=zq;refine ay (hi pins s1 σ H1 _ I1 q1) λiv s2 zq=>?_;obtain⟨y,H2,I2,ry,a,v,ex,g,q2⟩:=zq;subst ex;obtain rfl:u=Value.ref a:=rx;exact⟨YL I2 g,ZaL hu I2 g ry λw' s3 I3 gn=>⟨v,H2,I3,gn,q2⟩⟩
def xw(hu:X.A.units+1<cLine)(hi:PE X i ty)(ho:PE X o td):PC X .In i o (ZgK ty td):=by
 intro pins s σ H Q I h;refine ay (hi pins s σ H _ I h) λiv s1 zq=>?_;obtain⟨y,H1,I1,ry,q1⟩:=zq;refine ay (ho pins s1 σ H1 _ I1 q1) λu s2 zq=>?_;obtain⟨x,H2,I2,rx,a,ov,ex,g,q2⟩:=zq;subst ex;obtain rfl:u=Value.ref a:=rx;exact ZgJ hu I2 g ry λs3 I3=>⟨.bl ov.isSome,H2,I3,rfl,q2⟩
def m5(hu:X.A.units+1<cLine)(hi:PE X i ty)(ho:PE X o td):PC X .NotIn i o (Zc7 ty td):=by
 intro pins s σ H Q I h;refine ay (hi pins s σ H _ I h) λiv s1 zq=>?_;obtain⟨y,H1,I1,ry,q1⟩:=zq;refine ay (ho pins s1 σ H1 _ I1 q1) λu s2 zq=>?_;obtain⟨x,H2,I2,rx,a,ov,ex,g,q2⟩:=zq;subst ex;obtain rfl:u=Value.ref a:=rx;exact Zc5 hu I2 g ry λs3 I3=>⟨.bl (!ov.isSome),H2,I3,rfl,q2⟩
end
def NH(h:Heap)(hb:sysModules<h.objs.size):cJ P w H (h.push {cls:=.type "dict",data:=.dict #[]}) h.objs.size (.dK []):=
 ⟨Yx _,beq_eq_false_iff_ne.mpr (Ne.symm (Yy hb)),[],.nil,Heap.DictOf.new h⟩
def ZbK(h:Heap)(hb:sysModules<h.objs.size):cJ P w H (h.push {cls:=.type "dict",data:=.dict #[]}) h.objs.size (.dT []):=
 ⟨Yx _,beq_eq_false_iff_ne.mpr (Ne.symm (Yy hb)),[],.nil,_,#[],0,Yu _ rfl,⟨rfl,rfl,rfl⟩,rfl,rfl,Ja⟩
def ZeI:TE:=λ_ H Q=>∀p,H p=none->Q (.ref p) (upd H p (.dK []))
def ZeJ:TE:=λ_ H Q=>∀p,H p=none->Q (.ref p) (upd H p (.dT []))
section
variable {X:Cx}{pos:Pos}
def ZbL:PE X (.Dict [] [] pos) ZeI:=λpins s σ H Q I h=>
 wpAny_Dict_empty ⟨.ref s.heap.objs.size,_,I.laid (a:=s.heap.objs.size) (o:=.dK []) (t':=s.toks) (λ_ _ q=>Yb _ q) (Yd _) (NH s.heap I.big),rfl,h _ (I.aw.fresh (Yd _))⟩
def ZbM:PE X (.Dict [] [] pos) ZeJ:=λpins s σ H Q I h=>
 wpAny_Dict_empty ⟨.ref s.heap.objs.size,_,I.laid (a:=s.heap.objs.size) (o:=.dT []) (t':=s.toks) (λ_ _ q=>Yb _ q) (Yd _) (ZbK s.heap I.big),rfl,h _ (I.aw.fresh (Yd _))⟩
end
def GZ:List (TE×TE)->St->Hp->(List (V×V)->Hp->Prop)->Prop
 |[],_,H,Q=>Q [] H
 |(tk,tv)::r,σ,H,Q=>tk σ H λx H1=>tv σ H1 λy H2=>GZ r σ H2 λps H3=>Q ((x,y)::ps) H3
abbrev VV:List (V×V)->List (Value×Value)->Prop:=Paired λp q=>RelV p.1 q.1/\RelV p.2 q.2
def B0(X:Cx)(pos:Pos)(keys:List (Option Expr))(values:List Expr)(tI:List (TE×TE)):Prop:=
 ∀(pins:aU) (s:Shared) (σ:St) (H:Hp) (Q:List (V×V)->Hp->Prop),Inv X pins σ H s->GZ tI σ H Q->
  wpAny X.md X.A (evalPairs (pairTrees keys values X.env pos)) (λvs s'=>∃ps H',Inv X pins σ H' s'/\VV ps vs/\Q ps H') X.xe s
def Ai:B0 X pos [] [] []:=λpins s σ H Q I h=>pairTrees_nil_walk ⟨[],H,I,.nil,h⟩
def jW(hk:PE X k tk)(hv:PE X v tv)(hr:B0 X pos ks vs tI):
  B0 X pos (some k::ks) (v::vs) ((tk,tv)::tI):=λpins s σ H Q I h=>
 pairTrees_cons_walk (ay (hk pins s σ H _ I h) λu s1 ⟨x,H1,I1,rx,q1⟩=>ay (hv pins s1 σ H1 _ I1 q1) λw2 s2 ⟨y,H2,I2,ry,q2⟩=>
  ay (hr pins s2 σ H2 _ I2 q2) λws s3 ⟨ps,H3,I3,rel,q3⟩=>⟨(x,y)::ps,H3,I3,.cons ⟨rx,ry⟩ rel,q3⟩)
def oP(kvs more:List (Key×V)):List (Key×V):=more.foldl (λacc kv=>putK acc kv.1 kv.2) kvs
theorem KV.merge:∀{more:List (Key×V)} {rs:List (Key×Value)} {kvs:List (Key×V)} {vs:List (Key×Value)},KV more rs->KV kvs vs->KV (oP kvs more) (merged vs rs):=by
 intro more rs kvs vs r;induction r generalizing kvs vs with
 |nil=>intro q;exact q
 |@cons p q ps qs h t ih=>
  intro r0;have e:KV (putK kvs p.1 p.2) (stored vs q.1 q.2):=by
   have:=r0.put p.1 h.2
   grind
  exact ih e
theorem LX:∀(more kvs:List (Key×V)),(oP kvs more).length<=kvs.length+more.length
 |[],kvs=>by show kvs.length<=kvs.length+0;omega
 |p::r,kvs=>by
  have h1:=LX r (putK kvs p.1 p.2);have h2:=zp kvs p.1 p.2;show(oP (putK kvs p.1 p.2) r).length<=_
  grind
theorem Mt:∀{kvs:List (Key×V)} {ws:List (Value×Value)},VV (kvs.map λkv=>(kV kv.1,kv.2)) ws->∃rs,Carries (dE P w) ws rs/\KV kvs rs
 |[],_,r=>by rw[List.map_nil] at r;cases r;exact⟨[],True.intro,.nil⟩
 |p::kvs,_,r=>by
  cases r with
  |@cons a b as bs h t=>
   obtain⟨rs,c,q⟩:=Mt t;obtain⟨b1,b2⟩:=b;exact⟨(p.1,b2)::rs,⟨mf h.1,rfl,c⟩,.cons ⟨rfl,h.2⟩ q⟩
def ZfX(tI:List (TE×TE)):TE:=λσ H Q=>∀p,H p=none->GZ tI σ (upd H p (.dK [])) λps H2=>H2 p=some (.dK [])/\∃kvs:List (Key×V),ps=kvs.map (λkv=>(kV kv.1,kv.2))/\kvs.length<=15/\Q (.ref p) (upd H2 p (.dK (oP [] kvs)))
def Aj(h:B0 X pos keys values tI)(Im:keys.all (·.isSome)=true)(hl:keys.length=values.length)(h0:keys≠[])
  (h15:keys.length<=15):PE X (.Dict keys values pos) (ZfX tI):=by
 intro pins s σ H Q I q;refine wpAny_Dict_walk (knd:=dE X.prog X.w) Im hl h0 h15 (ay (h pins _ σ _ _ (I.laid (λ_ _ q=>Yb _ q) (Yd _) (NH s.heap I.big)) (q _ (I.aw.fresh (Yd s.heap.objs.size)))) λws s2 ⟨ps,H2,I2,rel,e,kvs,ep,lk,q2⟩=>?_);subst ep;obtain⟨rs,c,rk⟩:=Mt rel;obtain⟨z,hd,vs0,r0,dd⟩:=oW I2.aw e;cases r0;refine⟨rs,c,dd,λh' iu hs=>⟨.ref s.heap.objs.size,_,?_,rfl,q2⟩⟩;have hz:(oP [] kvs).length<=sizeLine:=by
  have h1:=LX kvs [];rw[TK] at h1;rw[sizeLine_eq];omega
 exact rP I2 (by rw[e];exact True.intro) hs (let⟨q,_,_,hq,_⟩:=iu;⟨q,hq⟩) (xv hz hd (rk.merge .nil) iu)
structure M1(X:Cx)(o:Expr)(m:Str)(apos:Pos)(e:Expr)(cy:Pos):Prop where
 base:attributeBase o m X.env (eval o X.env)=eval o X.env
 jy:((backTo cy (starEach [e] X.env)).all (λx=>!x.1)&&(backToKw cy (keywordEach [] X.env)).all (λx=>x.1.isSome)
  &&decide (([e]:List Expr).length+([]:List Keyword).length+(if([]:List Keyword).isEmpty then 0 else 1)<30))=true
 line:(apos.endLine==cy.line)=true
 trees:backTo cy (starEach [e] X.env)=[(false,eval e X.env)]
structure M2(X:Cx)(o:Expr)(m:Str)(apos:Pos)(e f:Expr)(cy:Pos):Prop where
 base:attributeBase o m X.env (eval o X.env)=eval o X.env
 jy:((backTo cy (starEach [e,f] X.env)).all (λx=>!x.1)&&(backToKw cy (keywordEach [] X.env)).all (λx=>x.1.isSome)
  &&decide (([e,f]:List Expr).length+([]:List Keyword).length+(if([]:List Keyword).isEmpty then 0 else 1)<30))=true
 line:(apos.endLine==cy.line)=true
 trees:backTo cy (starEach [e,f] X.env)=[(false,eval e X.env),(false,eval f X.env)]
def yt(H:Hp)(a:Addr):Prop:=(∃kvs,Rd H a (.dK kvs))\/∃kvs,Rd H a (.dT kvs)
def xx(I:Inv X pins σ H s)(d:yt H a):
  s.TypeIs (.ref a) "dict"/\(∀b,Value.ref a=.ref b->∃ob,s.heap.get? b=some ob/\ob.dict=none)/\(a==sysModules)=false:=by
 rcases d with⟨kvs,e⟩|⟨kvs,e⟩
 ·obtain⟨_,hd,vs,_,dd⟩:=oV I.aw e;refine⟨dd.typeIs,λb q=>?_,hd⟩;cases q;obtain⟨ob,_,_,h1,h2,_⟩:=dd;exact⟨ob,h1,h2.2.1⟩
 ·obtain⟨_,hd,xs,_,dd⟩:=qv I.aw e;refine⟨dd.typeIs,λb q=>?_,hd⟩;cases q;obtain⟨ob,_,_,h1,h2,_⟩:=dd;exact⟨ob,h1,h2.2.1⟩
section
variable {X:Cx}{pins:aU}{σ:St}{H:Hp}{s:Shared}{a:Addr}{y d:V}{u r:Value}{o:Option V}{A:Around}{E:a8}
def ZeK(hu:A.units+1<cLine)(I:Inv X pins σ H s)(g:d_ H a y o)(ry:RelV y u)(h:∀w' s',Inv X pins σ H s'->RelV (o.getD .az) w'->Q w' s'):
  wpAny X.md A (call (.builtin "dict.get") [.ref a,u]) Q E s:=by
 rcases g with⟨kvs,k,e,ey,l⟩|⟨kvs,k,b,e,ey,eb,l⟩
 ·subst ey;obtain⟨z,hd,vs,rel,dd⟩:=oV I.aw e;refine call_meetsIn slot_dict_get dd.typeIs entry_dict_get (PySem.F.args_dict_get_2 _ _) (meets_dict_get (dE X.prog X.w) a (mf ry) hd) ⟨_,dd.mapOf,h _ _ (I.tok _) ?_⟩;rw[l];exact(rel.val k).getD rfl
 ·subst ey;cases(show u=Value.ref b from ry);obtain⟨z,hd,xs,rel,dd⟩:=qv I.aw e;refine call_meetsIn slot_dict_get dd.typeIs entry_dict_get (PySem.F.args_dict_get_2 _ _) (meetsH_dict_get (tupleKind (dE X.prog X.w)) a b hd) ⟨tupleKind_room_in1 hu,k,xs,qr I.aw eb,dd,h _ _ (I.tok _) ?_⟩;rw[l];exact(rel.val k).getD rfl
def ZeL(hu:A.units+1<cLine)(I:Inv X pins σ H s)(g:d_ H a y o)(ry:RelV y u)(rd:RelV d r)(h:∀w' s',Inv X pins σ H s'->RelV (o.getD d) w'->Q w' s'):
  wpAny X.md A (call (.builtin "dict.get") [.ref a,u,r]) Q E s:=by
 rcases g with⟨kvs,k,e,ey,l⟩|⟨kvs,k,b,e,ey,eb,l⟩
 ·subst ey;obtain⟨z,hd,vs,rel,dd⟩:=oV I.aw e;refine call_meetsIn slot_dict_get dd.typeIs entry_dict_get (PySem.F.args_dict_get_3 _ _ _) (meets_dict_get_default (dE X.prog X.w) a (mf ry) hd r) ⟨_,dd.mapOf,h _ _ (I.tok _) ?_⟩;rw[l];exact(rel.val k).getD rd
 ·subst ey;cases(show u=Value.ref b from ry);obtain⟨z,hd,xs,rel,dd⟩:=qv I.aw e;refine call_meetsIn slot_dict_get dd.typeIs entry_dict_get (PySem.F.args_dict_get_3 _ _ _) (meetsH_dict_get_default (tupleKind (dE X.prog X.w)) a b hd r) ⟨tupleKind_room_in1 hu,k,xs,qr I.aw eb,dd,h _ _ (I.tok _) ?_⟩;rw[l];exact(rel.val k).getD rd
end
def ZeM(td ty:TE):TE:=λσ H Q=>td σ H λx H1=>∃a,x=.ref a/\yt H1 a/\ty σ H1 λy H2=>∃o,d_ H2 a y o/\Q (o.getD .az) H2
def ZeN(td ty tx:TE):TE:=λσ H Q=>td σ H λx H1=>∃a,x=.ref a/\yt H1 a/\ty σ H1 λy H2=>tx σ H2 λz H3=>∃o,d_ H3 a y o/\Q (o.getD z) H3
section
variable {X:Cx}{o e f:Expr}{apos cy:Pos}{td ty tx:TE}
def ZbN(hu:X.A.units+1<cLine)(ho:PE X o td)(he:PE X e ty)(m:M1 X o "get" apos e cy):PE X (.Call (.Attribute o "get" apos) [e] [] cy) (ZeM td ty):=by
 intro pins s σ H Q I h;refine wpAny_Call_method m.base m.jy m.line plainAttrs_dict slot_dict_get type_dict_get (ay (ho pins s σ H _ I h) λu s1 zq=>?_);obtain⟨x,H1,I1,rx,a,ex,d,q1⟩:=zq;subst ex;obtain rfl:u=Value.ref a:=rx;obtain⟨t1,t2,_⟩:=xx I1 d;refine⟨t1,t2,?_⟩;rw[m.trees];exact Calls.callWith_builtin rfl (Calls.evalArgs_plain (Calls.spliced_cons (ay (he pins s1 σ H1 _ I1 q1) λiv s2 ⟨y,H2,I2,ry,ov,g,q2⟩=>Calls.spliced_nil (ZeK hu I2 g ry λw' s3 I3 gn=>⟨_,H2,I3,gn,q2⟩))))
def ZbO(hu:X.A.units+1<cLine)(ho:PE X o td)(he:PE X e ty)(hf:PE X f tx)(m:M2 X o "get" apos e f cy):PE X (.Call (.Attribute o "get" apos) [e,f] [] cy) (ZeN td ty tx):=by
 intro pins s σ H Q I h;refine wpAny_Call_method m.base m.jy m.line plainAttrs_dict slot_dict_get type_dict_get (ay (ho pins s σ H _ I h) λu s1 zq=>?_);obtain⟨x,H1,I1,rx,a,ex,d,q1⟩:=zq;subst ex;obtain rfl:u=Value.ref a:=rx;obtain⟨t1,t2,_⟩:=xx I1 d;refine⟨t1,t2,?_⟩;rw[m.trees];refine Calls.callWith_builtin rfl (Calls.evalArgs_plain (Calls.spliced_cons (ay (he pins s1 σ H1 _ I1 q1) λiv s2 ⟨y,H2,I2,ry,q2⟩=>
  Calls.spliced_cons (ay (hf pins s2 σ H2 _ I2 q2) λfv s3 ⟨z,H3,I3,rz,ov,g,q3⟩=>Calls.spliced_nil ?_))))
 exact ZeL hu I3 g ry rz λw' s4 I4 gn=>⟨_,H3,I4,gn,q3⟩
end
section
variable {X:Cx}{pins:aU}{σ:St}{H:Hp}{s:Shared}{a:Addr}{kvs:List (Key×V)}{A:Around}{E:a8}
end
section
variable {X:Cx}{pins:aU}{σ:St}{H:Hp}{s:Shared}{a:Addr}{y:V}{u:Value}{A:Around}{E:a8}
end
def uY(P:Program)(w:World)(K:ah)(mg:aQ)(base:Heap)(k:Nat)(x:Str)(C:Addr)(ps:List Str)(sp:Sp):Prop:=
 ∃f fd,Mk K C f/\aE P w K mg base aM k f fd ps sp/\Binds K fd ps []/\mg x=some (.ref C)
def cE(P:Program)(w:World)(K:ah)(mg:aQ)(base:Heap)(k:Nat)(m:Str)(C:Addr)(ps:List Str)(sp:Sp):Prop:=
 ∃f fd,fU K C/\Meth K C m f/\aE P w K mg base aM k f fd ps sp/\Binds K fd ps []
def Qw(P:Program)(w:World)(K:ah)(mg:aQ)(base:Heap)(k:Nat)(m:Str)(C:Addr)(ps:List Str)(sp:Sp):Prop:=
 ∃f fd,fU K C/\Meth K C m f/\aE P w K mg base (dW P w) k f fd ps sp/\Binds K fd ps []
section
variable {X:Cx}{k j:Nat}{x m:Str}{C:Addr}{ps:List Str}{sp:Sp}{p pos apos:Pos}{o e:Expr}{es:List Expr}{t:TA}{ta:TE}
def Hw(h:uY X.prog X.w X.K X.mg X.base k x C ps sp)(hr:cF j X.A)(hj:k+1<=j)(hg:Gl X x)(ha:PA X (e::es) t)(eN:(x==("__debug__":Str))=false:=by decide)
  (he:ik X e es:=by rfl)(bQ:iV X pos es:=by rfl):PE X (.Call (.Name x p) (e::es) [] pos) (Rm C sp [] E0 t):=by
 obtain⟨f,fd,M,F,b,hm⟩:=h;exact ZcL M F (hr.mono hj) hg hm b .nil xF ha eN he bQ
def cT(h:cE X.prog X.w X.K X.mg X.base k m C ps sp)(hr:cF j X.A)(hj:k<=j)(ho:PE X o ta)(ha:PA X (e::es) t)
  (df:ik X e es:=by rfl)(bQ:iV X pos es:=by rfl)
  (ht:eval (.Call (.Attribute o m apos) (e::es) [] pos) X.env=(do
   let ov←eval o X.env
   standAt apos.atName
   let(f,first)←holding [ov] (getMethod ov m pl)
   callWith pos f first (backTo pos (starEach (e::es) X.env)) (backToKw pos (keywordEach [] X.env))):=by rfl):
  PE X (.Call (.Attribute o m apos) (e::es) [] pos) (AK C m sp [] E0 ta t):=by
 obtain⟨f,fd,c,hm,F,b⟩:=h;exact ZcK ho c hm F (hr.mono hj) b .nil xF ha df bQ ht
end
def w8{X:Cx}{K:ah}{e:Expr}{ta:TE}{f:Str}{pos:Pos}(h:X.K=K)(he:PE X e ta)(hb:attributeBase e f X.env (eval e X.env)=eval e X.env):PE X (.Attribute e f pos) (Ij K ta f):=h▸Zd9 he hb
section
open PySem.AutoSeq1 (wpAny_loadPart')
def ZaN(lo hi x:Int):(Builtin.Range.rangePlace? lo hi 1 x).isSome=decide (lo<=x/\x<hi):=by
 unfold Builtin.Range.rangePlace?
 grind
def V4(p:Addr)(lo hi x:Int)(a b c t:Tok):
  Meets (Builtin.«range.__contains__» ⟨[.ref p,.int x t],[]⟩)
   (λ_ R s=>s.heap.get? p=some {cls:=.type "range",data:=.fields #[.int lo a,.int hi b,.int 1 c]}/\R (.ok (.ret (.bool (decide (lo<=x/\x<hi))))) s):=
 .of_wp λprog w A R s h=>by
  obtain⟨hp,g,d,tk,os⟩:=s;obtain⟨hl,h⟩:=h;rw[←ZaN] at h
  wp_walk using wpAny_loadPart' hl
  grind
end
def ZeO(neg:Bool):R2:=λx y H Q=>∃(i lo hi:Int) (p:Addr),x=.int i/\y=.ref p/\H p=some (.jJ lo hi)/\Q (.bl (if neg=true then !decide (lo<=i/\i<hi) else decide (lo<=i/\i<hi))) H
def XH:cG X (compareOp .NotIn) (ZeO true):=by
 rintro pins s σ H x y v u Q I rx ry ⟨i,lo,hi,p,rfl,rfl,hp,q⟩;obtain⟨t,rfl⟩:=rx;cases ry;obtain⟨a,b,c,g⟩:=(show cJ X.prog X.w H s.heap p (.jJ lo hi) from I.aw p _ hp);exact SeqRoads2.notIn_meets ⟨_,g,rfl⟩ F.slot_range_contains F.entry_range_contains (F.args_range_contains_2 _ _) (V4 p lo hi i a b c t) ⟨g,_,rfl,.bl _,H,I,rfl,q⟩
def uo(p:Nat->Bool)(n:Nat):(List.range (n+1)).filter p=(List.range n).filter p++(if p n=true then[n] else[]):=by
 rw[List.range_succ,Wr]
 grind
theorem jD{α β:Type}{F:α->β->Prop}:∀{xs:List α} {ys:List β} {x:α} {y:β},Paired F xs ys->F x y->Paired F (xs++[x]) (ys++[y]):=by
 intro xs ys x y h f;induction h with
 |nil=>exact .cons f .nil
 |cons r t ih=>exact .cons r ih
theorem Em:∀{xs:List α} {ys:List β},Paired F xs ys->xs.length=ys.length:=by
 intro xs ys h;induction h with
 |nil=>rfl
 |cons _ _ ih=>rw[Y7,Y7,ih]
theorem DS:∀{xs:List V} {ys:List β},Paired (λx y=>x=f y) xs ys->xs=ys.map f:=by
 intro xs ys h;induction h with
 |nil=>rfl
 |cons r t ih=>rw[Wp,←r,←ih]
def zy(n:Nat):(List.range n).filter (λ_=>true)=List.range n:=by simp
def Xj(xs:List α)(f:Nat->β)(g:α->β)(h:∀(i:Nat) (v:α),xs[i]?=some v->f i=g v):(List.range xs.length).map f=xs.map g:=by
 refine Wo λi=>?_
 grind
def aA(D:Addr)(H H':Hp):Prop:=∀b o,H b=some o->b≠D->H' b=some o
def aA.of(g:aj H H'):aA D H H':=λb o e _=>g b o e
def aA.put(g:aA D H H'):aA D H (upd H' D o):=λb u e n=>by rw[aK n];exact g b u e n
def uZ(tt:TT)(te:TE)(fv:St)(D:Addr)(H:Hp)(v:V)(b:Bool)(Pe:V->Hp->Prop):Prop:=
 ∀H1,aj H H1->(∃ys,H1 D=some (.lst ys))->∀(Kt:VK) (Kf:Hp->Prop),(∀y H3,b=true->aj H1 H3->Pe y H3->Kt y H3)->(∀H3,b=false->aj H1 H3->Kf H3)->tt (some v::fv) H1 λc H2=>if c=true then te (some v::fv) H2 Kt else Kf H2
def wM{K:ah}{a:Addr}{xs:List V}{tt:TT}{te:TE}{fv:St}{D:Addr}{H:Hp}{Q:VK}(hs:ak K H a xs)(hn:xs.length<=1000)(hD:H D=none)(p:Nat->Bool)(Pe:Nat->V->Hp->Prop)(mono:∀i y H1 H2,aA D H1 H2->Pe i y H1->Pe i y H2)
  (turn:∀(i:Nat) (v:V),xs[i]?=some v->uZ tt te fv D H v (p i) (Pe i))(fin:∀ys H',aj H H'->H' D=some (.lst ys)->Paired (λy i=>Pe i y H') ys ((List.range xs.length).filter p)->Q (.ref D) H'):jo (jK K a) tt te fv D H Q:=by
 refine FA (λi ys H1=>i<=xs.length/\aj H H1/\H1 D=some (.lst ys)/\Paired (λy j=>Pe j y H1) ys ((List.range i).filter p)) ⟨Yx _,cq hD _,aR,.nil⟩ (λi ys H1 _ ⟨_,g,_,_⟩=>g.seq hs) ?_ ?_
 ·rintro i v ys H1 hi ⟨_,g,h1,pr⟩;have dG:=(Yl.mp hi).1;have ll:=Em pr;have fl:=Wh p (List.range i);rw[Jc] at fl;refine turn i v hi H1 g ⟨_,h1⟩ _ _ (λy H3 pi g3 py=>⟨g3 _ _ h1,by rw[sizeLine_eq];omega,dG,?_,aR,?_⟩) (λH3 pi g3=>⟨dG,g.trans g3,g3 _ _ h1,?_⟩)
  ·intro b o e;rw[aK (bY e hD)];exact g3 _ _ (g _ _ e)
  ·rw[uo,if_pos pi];exact jD (Paired.bq pr λz j q=>mono _ _ _ _ (aA.put (aA.of g3)) q) (mono _ _ _ _ (aA.put (aA.of (aj.refl _))) py)
  ·rw[uo,if_neg (by rw[pi];exact Yj),Wd];exact Paired.bq pr λz j q=>mono _ _ _ _ (aA.of g3) q
 ·grind
def ZG{K:ah}{a:Addr}{xs:List V}{tt:TT}{te:TE}{fv:St}{D:Addr}{H:Hp}{Q:VK}(hs:ak K H a xs)(hn:xs.length<=1000)(hD:H D=none)(p:Nat->Bool)(f:Nat->V)
  (turn:∀(i:Nat) (v:V),xs[i]?=some v->uZ tt te fv D H v (p i) (λy _=>y=f i))(fin:∀H',aj H H'->H' D=some (.lst (((List.range xs.length).filter p).map f))->Q (.ref D) H'):jo (jK K a) tt te fv D H Q:=
 wM hs hn hD p (λi y _=>y=f i) (λ_ _ _ _ _ e=>e) turn λys H' g h1 pr=>fin H' g (by rw[←DS pr];exact h1)
def ZH{K:ah}{a:Addr}{xs:List V}{te:TE}{fv:St}{D:Addr}{H:Hp}{Q:VK}(hs:ak K H a xs)(hn:xs.length<=1000)(hD:H D=none)(f:V->V)
  (turn:∀(i:Nat) (v:V),xs[i]?=some v->∀H1,aj H H1->∀Kt:VK,(∀H3,aj H1 H3->Kt (f v) H3)->te (some v::fv) H1 Kt)(fin:∀H',aj H H'->H' D=some (.lst (xs.map f))->Q (.ref D) H'):jo (jK K a) A2 te fv D H Q:=by
 refine ZG hs hn hD (λ_=>true) (λi=>f (xs.getD i .az)) (λi v hi H1 g _ Kt Kf kt _=>kj (cY ?_)) λH' g h1=>fin H' g ?_;·grind
 ·rw[h1,zy,Xj xs (λi=>f (xs.getD i .az)) f λi v hi=>by rw[Yf,hi];rfl]
def ZaO{K:ah}{a:Addr}{xs:List V}{tt:TT}{te:TE}{fv:St}{D:Addr}{H:Hp}{Q:VK}(hs:aB K H a xs)(hn:xs.length<=1000)(hD:H D=none)(p:Nat->Bool)(Pe:Nat->V->Hp->Prop)(mono:∀i y H1 H2,aA D H1 H2->Pe i y H1->Pe i y H2)
  (turn:∀(i:Nat) (v:V),xs[i]?=some v->uZ tt te fv D H v (p i) (Pe i))(fin:∀ys H',aj H H'->H' D=some (.lst ys)->Paired (λy i=>Pe i y H') ys ((List.range xs.length).filter p)->Q (.ref D) H'):jo (vB K a) tt te fv D H Q:=by
 refine zV (λi ys H1=>i<=xs.length/\aj H H1/\H1 D=some (.lst ys)/\Paired (λy j=>Pe j y H1) ys ((List.range i).filter p)) ⟨Yx _,cq hD _,aR,.nil⟩ (λi ys H1 _ ⟨_,g,_,_⟩=>g.jx hs) ?_ ?_
 ·rintro i v ys H1 hi ⟨_,g,h1,pr⟩;have dG:=(Yl.mp hi).1;have ll:=Em pr;have fl:=Wh p (List.range i);rw[Jc] at fl;refine turn i v hi H1 g ⟨_,h1⟩ _ _ (λy H3 pi g3 py=>⟨g3 _ _ h1,by rw[sizeLine_eq];omega,dG,?_,aR,?_⟩) (λH3 pi g3=>⟨dG,g.trans g3,g3 _ _ h1,?_⟩)
  ·intro b o e;rw[aK (bY e hD)];exact g3 _ _ (g _ _ e)
  ·rw[uo,if_pos pi];exact jD (Paired.bq pr λz j q=>mono _ _ _ _ (aA.put (aA.of g3)) q) (mono _ _ _ _ (aA.put (aA.of (aj.refl _))) py)
  ·rw[uo,if_neg (by rw[pi];exact Yj),Wd];exact Paired.bq pr λz j q=>mono _ _ _ _ (aA.of g3) q
 ·grind
def ZaP{K:ah}{a:Addr}{xs:List V}{tt:TT}{te:TE}{fv:St}{D:Addr}{H:Hp}{Q:VK}(hs:aB K H a xs)(hn:xs.length<=1000)(hD:H D=none)(p:Nat->Bool)(f:Nat->V)
  (turn:∀(i:Nat) (v:V),xs[i]?=some v->uZ tt te fv D H v (p i) (λy _=>y=f i))(fin:∀H',aj H H'->H' D=some (.lst (((List.range xs.length).filter p).map f))->Q (.ref D) H'):jo (vB K a) tt te fv D H Q:=
 ZaO hs hn hD p (λi y _=>y=f i) (λ_ _ _ _ _ e=>e) turn λys H' g h1 pr=>fin H' g (by rw[←DS pr];exact h1)
def YM{lo:Int}{n:Nat}{tt:TT}{te:TE}{fv:St}{D:Addr}{H:Hp}{Q:VK}(hn:n<=1000)(hD:H D=none)(p:Nat->Bool)(Pe:Nat->V->Hp->Prop)(mono:∀i y H1 H2,aA D H1 H2->Pe i y H1->Pe i y H2)
  (turn:∀i,i<n->uZ tt te fv D H (.int (lo+i)) (p i) (Pe i))(fin:∀ys H',aj H H'->H' D=some (.lst ys)->Paired (λy i=>Pe i y H') ys ((List.range n).filter p)->Q (.ref D) H'):jo (pE lo n) tt te fv D H Q:=by
 refine wL (λi ys H1=>i<=n/\aj H H1/\H1 D=some (.lst ys)/\Paired (λy j=>Pe j y H1) ys ((List.range i).filter p)) ⟨Yx _,cq hD _,aR,.nil⟩ ?_ ?_
 ·rintro i ys H1 hi ⟨_,g,h1,pr⟩;have dG:=hi;have ll:=Em pr;have fl:=Wh p (List.range i);rw[Jc] at fl;refine turn i hi H1 g ⟨_,h1⟩ _ _ (λy H3 pi g3 py=>⟨g3 _ _ h1,by rw[sizeLine_eq];omega,dG,?_,aR,?_⟩) (λH3 pi g3=>⟨dG,g.trans g3,g3 _ _ h1,?_⟩)
  ·intro b o e;rw[aK (bY e hD)];exact g3 _ _ (g _ _ e)
  ·rw[uo,if_pos pi];exact jD (Paired.bq pr λz j q=>mono _ _ _ _ (aA.put (aA.of g3)) q) (mono _ _ _ _ (aA.put (aA.of (aj.refl _))) py)
  ·rw[uo,if_neg (by rw[pi];exact Yj),Wd];exact Paired.bq pr λz j q=>mono _ _ _ _ (aA.of g3) q
 ·grind
def YN{lo:Int}{n:Nat}{tt:TT}{te:TE}{fv:St}{D:Addr}{H:Hp}{Q:VK}(hn:n<=1000)(hD:H D=none)(p:Nat->Bool)(f:Nat->V)
  (turn:∀i,i<n->uZ tt te fv D H (.int (lo+i)) (p i) (λy _=>y=f i))(fin:∀H',aj H H'->H' D=some (.lst (((List.range n).filter p).map f))->Q (.ref D) H'):jo (pE lo n) tt te fv D H Q:=
 YM hn hD p (λi y _=>y=f i) (λ_ _ _ _ _ e=>e) turn λys H' g h1 pr=>fin H' g (by rw[←DS pr];exact h1)
abbrev Nw(H:Hp)(o:HO)(Q:VK):Prop:=∀(p:Addr) (H':Hp),H p=none->aj H H'->H' p=some o->Q (.ref p) H'
def Nw.at(h:Nw H o Q):∀p,H p=none->Q (.ref p) (upd H p o):=λp np=>h p _ np (cq np o) aR
def xI(t:TA):TE:=λσ H Q=>t σ H λxs H1=>xs.length<=sizeLine/\Nw H1 (.tup xs) Q
def RF(t:TA):TE:=λσ H Q=>t σ H λxs H1=>xs.length<=sizeLine/\Nw H1 (.lst xs) Q
section
variable {X:Cx}{es:List Expr}{t:TA}{pos:Pos}{K:ah}
def c6{x1}(h:PA X es t):PE X (.Tuple es x1 pos) (xI t):=by
 intro pins s σ H Q I hq;refine wpAny_Tuple_spliced (ay (h pos pins s σ H _ I hq) λus s1 ⟨xs,H1,I1,r,z,q⟩=>⟨by rw[←r.length];exact z,⟨.ref s1.heap.objs.size,upd H1 s1.heap.objs.size (.tup xs),I1.laid (λb u e=>Yb _ e) (Yd _) ?_,rfl,q.at _ (I1.aw.fresh (Yd _))⟩⟩);exact⟨z,us,r,⟨_,Yu _ rfl,rfl,_,rfl,rfl⟩⟩
def dw(h:PA X es t):PE X (.List es pos) (RF t):=by
 intro pins s σ H Q I hq;refine wpAny_List_spliced (ay (h pos pins s σ H _ I hq) λus s1 ⟨xs,H1,I1,r,z,q⟩=>⟨by rw[←r.length];exact z,⟨.ref s1.heap.objs.size,upd H1 s1.heap.objs.size (.lst xs),I1.laid (λb u e=>Yb _ e) (Yd _) ?_,rfl,q.at _ (I1.aw.fresh (Yd _))⟩⟩);exact⟨z,us,0,r,Yu _ rfl⟩
def c7.mono(h:c7 X f r)(m:∀xs H Q,r' xs H Q->r xs H Q):c7 X f r':=λpins s σ H xs us Q I v q=>h pins s σ H xs us Q I v (m xs H Q q)
def cG.mono(h:cG X f r)(m:∀x y H Q,r' x y H Q->r x y H Q):cG X f r':=λpins s σ H x y v u Q I rx ry q=>h pins s σ H x y v u Q I rx ry (m x y H Q q)
def vD.mono(h:vD X r)(m:∀x lo hi H Q,r' x lo hi H Q->r x lo hi H Q):vD X r':=λpins s σ H x v vl vu lo hi sl Q I rx hs pl pu q=>h pins s σ H x v vl vu lo hi sl Q I rx hs pl pu (m x lo hi H Q q)
inductive Mu(xs:List V)(H:Hp)(Q:VK):Prop
 |mk (j:Int) (aC:xs=[.int j]) (aS:Nw H (.jJ 0 j) Q):Mu xs H Q
def ZbP:List V->Hp->VK->Prop:=λxs H Q=>Mu xs H Q
def D5:c7 X (.type "range") ZbP:=zo.mono λ_ _ _ zq=>by obtain⟨j,e,q⟩:=zq;exact⟨j,e,q.at⟩
inductive Ma(xs:List V)(H:Hp)(Q:VK):Prop
 |mk (p:Addr) (n:Nat) (aC:xs=[.ref p]) (aS:H p=some (.jJ 0 (n:Int))) (bb:n<=1000) (bL:Nw H (.lst ((bp n).map V.int)) Q):Ma xs H Q
def ZaQ:List V->Hp->VK->Prop:=λxs H Q=>Ma xs H Q
def WW(hc:X.calm=true):c7 X (.type "list") ZaQ:=(DR hc).mono λ_ _ _ zq=>by obtain⟨p,n,e,h,l,q⟩:=zq;exact⟨p,n,e,h,l,q.at⟩
inductive Mv(xs:List V)(H:Hp)(Q:VK):Prop
 |mk (p:Addr) (n:Nat) (aC:xs=[.ref p]) (aS:H p=some (.jJ 0 (n:Int))) (bb:n<=1000) (bL:Nw H (.tup ((bp n).map V.int)) Q):Mv xs H Q
def ZbQ:List V->Hp->VK->Prop:=λxs H Q=>Mv xs H Q
def WG(hc:X.calm=true):c7 X (.type "tuple") ZbQ:=(LU hc).mono λ_ _ _ zq=>by obtain⟨p,n,e,h,l,q⟩:=zq;exact⟨p,n,e,h,l,q.at⟩
def ZbR(K:ah):List V->Hp->VK->Prop:=λxs H Q=>∃(p:Addr) (ns:List Int),xs=[.ref p]/\(ak K H p (ns.map V.int)\/aB K H p (ns.map V.int))/\ns.length<64/\
  ∀dm:List Int,dm.Perm ns->dm.Pairwise (·<=·)->Nw H (.lst (dm.map V.int)) Q
def ZbS(h:X.K=K):c7 X (.builtin "sorted") (ZbR K):=h▸L9.mono λ_ _ _ zq=>by obtain⟨p,ns,e,s,l,q⟩:=zq;exact⟨p,ns,e,s,l,λa dm na pm so=>(q dm pm so).at a na⟩
inductive OP(K:ah)(x:V)(lo:Option Int)(hi:Option Int)(H:Hp)(Q:VK):Prop
 |mk (a xs) (aC:x=.ref a) (aS:ak K H a xs) (bb:Nw H (.lst (mC xs lo hi)) Q):OP K x lo hi H Q
def ZfY(K:ah):V->Option Int->Option Int->Hp->VK->Prop:=λx lo hi H Q=>OP K x lo hi H Q
def zX(h:X.K=K):vD X (ZfY K):=h▸ZcQ.mono λ_ _ _ _ _ zq=>by obtain⟨a,xs,e,s,q⟩:=zq;exact⟨a,xs,e,s,q.at⟩
def ZfZ:R2:=λx y H Q=>∃l b xs zs,x=.ref l/\y=.ref b/\H l=some (.lst xs)/\H b=some (.lst zs)/\xs.length+zs.length<=sizeLine/\Nw H (.lst (xs++zs)) Q
def rQ:cG X (binaryOp .Add) ZfZ:=Zeg.mono λ_ _ _ _ zq=>by obtain⟨l,b,xs,zs,e1,e2,h1,h2,z,q⟩:=zq;exact⟨l,b,xs,zs,e1,e2,h1,h2,z,q.at⟩
def Zc8:TE:=λ_ H Q=>Nw H (.dK []) Q
def rL:PE X (.Dict [] [] pos) Zc8:=λpins s σ H Q I q=>ZbL pins s σ H Q I q.at
def Zc9:TE:=λ_ H Q=>Nw H (.dT []) Q
def M0:PE X (.Dict [] [] pos) Zc9:=λpins s σ H Q I q=>ZbM pins s σ H Q I q.at
end
abbrev Ch(H:Hp)(a:Addr)(o:HO)(R:Hp->Prop):Prop:=∀H',aA a H H'->H' a=some o->R H'
def Ch.at(h:Ch H a o R):R (upd H a o):=h _ (aA.put (aA.of (aj.refl _))) aR
section
variable {X:Cx}
def nO.mono{id:String}{r r':V->List V->Hp->VK->Prop}(h:nO X id r)(m:∀x xs H Q,r' x xs H Q->r x xs H Q):nO X id r':=λpins s σ H x xs v us Q I rx rv q=>h pins s σ H x xs v us Q I rx rv (m x xs H Q q)
inductive Mw(x:V)(vs:List V)(H:Hp)(Q:VK):Prop
 |mk (l xs y) (aC:x=.ref l) (aS:vs=[y]) (bb:H l=some (.lst xs)) (bL:xs.length<sizeLine) (cD:Ch H l (.lst (xs++[y])) (Q .az)):Mw x vs H Q
def NI:V->List V->Hp->VK->Prop:=λx vs H Q=>Mw x vs H Q
def oz:nO X "list.append" NI:=wR.mono λ_ _ _ _ zq=>by obtain⟨l,xs,y,e1,e2,h,z,q⟩:=zq;exact⟨l,xs,y,e1,e2,h,z,q.at⟩
def ZbT:V->List V->Hp->VK->Prop:=λx vs H Q=>∃l b xs zs,x=.ref l/\vs=[.ref b]/\H l=some (.lst xs)/\H b=some (.lst zs)/\xs.length+zs.length<=sizeLine/\Ch H l (.lst (xs++zs)) (Q .az)
def ZI:nO X "list.extend" ZbT:=Zay.mono λ_ _ _ _ zq=>by obtain⟨l,b,xs,zs,e1,e2,h1,h2,z,q⟩:=zq;exact⟨l,b,xs,zs,e1,e2,h1,h2,z,q.at⟩
def Zc_:V->List V->Hp->VK->Prop:=λx vs H Q=>∃l xs,x=.ref l/\vs=[]/\H l=some (.lst xs)/\Ch H l (.lst []) (Q .az)
def ZaR:nO X "list.clear" Zc_:=Zbr.mono λ_ _ _ _ zq=>by obtain⟨l,xs,e1,e2,h,q⟩:=zq;exact⟨l,xs,e1,e2,h,q.at⟩
def sH.mono(h:sH X t)(m:∀o i v H Q,t' o i v H Q->t o i v H Q):sH X t':=by
 intro pins s σ H o i x ov iv v Q I r1 r2 r3 q;exact h pins s σ H o i x ov iv v Q I r1 r2 r3 (m _ _ _ _ _ q)
def ZeP:V->V->V->Hp->(Hp->Prop)->Prop:=λo i v H Q=>∃p xs k j,o=.ref p/\i=.int k/\H p=some (.lst xs)/\lG xs.length k=some j/\Ch H p (.lst (xs.set j v)) Q
def M3:sH X ZeP:=set_list.mono λ_ _ _ _ _ zq=>by obtain⟨p,xs,k,j,e1,e2,h,z,q⟩:=zq;exact⟨p,xs,k,j,e1,e2,h,z,q.at⟩
variable {o i value:Expr}{td ty tv ta:TE}{pos pos':Pos}{f:Str}
inductive NJ(D:Ends)(σ:St)(v:V)(x:V)(y:V)(H3:Hp):Prop
 |mk (a kvs k) (aC:x=.ref a) (aS:H3 a=some (.dK kvs)) (bb:y=kV k) (bL:kvs.length<sizeLine) (cD:Ch H3 a (.dK (putK kvs k v)) (D.nx σ)):NJ D σ v x y H3
def ZeQ(td ty tv:TE):TS:=λD σ H=>tv σ H λv H1=>td σ H1 λx H2=>ty σ H2 λy H3=>NJ D σ v x y H3
inductive M4(D:Ends)(σ:St)(v:V)(x:V)(y:V)(H3:Hp):Prop
 |mk (a b kvs k) (aC:x=.ref a) (aS:H3 a=some (.dT kvs)) (bb:y=.ref b) (bL:H3 b=some (.tup (k.map kV))) (cD:kvs.length<sizeLine) (dB:Ch H3 a (.dT (putK kvs k v)) (D.nx σ)):M4 D σ v x y H3
def Zda(td ty tv:TE):TS:=λD σ H=>tv σ H λv H1=>td σ H1 λx H2=>ty σ H2 λy H3=>M4 D σ v x y H3
def oF(hu:X.A.units+1<cLine)(ho:PE X o td)(hi:PE X i ty)(hv:PE X value tv)(hs:swapsWith value (some (.Subscript o i pos')) pos.line X.env=pure false:=by rfl):
  PS X (.Assign [.Subscript o i pos'] value pos) (ZeQ td ty tv):=by
 intro pins s σ H D I h;refine wpAny_Assign_Subscript (ay (hv pins s σ H _ I h) λr s1 zq=>?_) hs;obtain⟨v,H1,I1,rv,q1⟩:=zq;refine ay (ho pins s1 σ H1 _ I1 q1) λu s2 zq=>?_;obtain⟨x,H2,I2,rx,q2⟩:=zq;refine ay (hi pins s2 σ H2 _ I2 q2) λiv s3 zq=>?_;obtain⟨y,H3,I3,ry,a,kvs,k,ex,ha,ey,l,q3⟩:=zq;subst ex;subst ey;obtain rfl:u=Value.ref a:=rx;exact MY hu I3 (sN.k ha l) ry rv λs4 I4=>⟨σ,_,I4,q3.at⟩
def M5(hu:X.A.units+1<cLine)(ho:PE X o td)(hi:PE X i ty)(hv:PE X value tv)(hs:swapsWith value (some (.Subscript o i pos')) pos.line X.env=pure false:=by rfl):
  PS X (.Assign [.Subscript o i pos'] value pos) (Zda td ty tv):=by
 intro pins s σ H D I h;refine wpAny_Assign_Subscript (ay (hv pins s σ H _ I h) λr s1 zq=>?_) hs;obtain⟨v,H1,I1,rv,q1⟩:=zq;refine ay (ho pins s1 σ H1 _ I1 q1) λu s2 zq=>?_;obtain⟨x,H2,I2,rx,q2⟩:=zq;refine ay (hi pins s2 σ H2 _ I2 q2) λiv s3 zq=>?_;obtain⟨y,H3,I3,ry,a,b,kvs,k,ex,ha,ey,hb,l,q3⟩:=zq;subst ex;subst ey;obtain rfl:u=Value.ref a:=rx;exact MY hu I3 (sN.t ha hb l) ry rv λs4 I4=>⟨σ,_,I4,q3.at⟩
def Zf0(K:ah)(ta tv:TE)(f:Str):TS:=λD σ H=>tv σ H λy H1=>ta σ H1 λx H2=>∃a C dx fs,x=.ref a/\H2 a=some (.ins C dx fs)/\fU K C/\de K C f/\fs.length<1000/\Ch H2 a (.ins C dx (cK f y fs)) (D.nx σ)
def gS{K:ah}(hK:X.K=K)(ha:PE X o ta)(hv:PE X value tv)(hs:swapsWith value (some (.Attribute o f pos')) pos.line X.env=pure false:=by rfl):PS X (.Assign [.Attribute o f pos'] value pos) (Zf0 K ta tv f):=by
 subst hK;intro pins s σ H D I h;refine plainObj_wpAny_Assign_Attribute (ay (hv pins s σ H _ I h) λu s1 zq=>?_) hs;obtain⟨y,H1,I1,ry,q⟩:=zq;refine ay (ha pins s1 σ H1 _ I1 q) λov s2 zq=>?_;obtain⟨x,H2,I2,rx,a,C,dx,fs,ex,ea,c,n,l,q2⟩:=zq;subst ex;obtain rfl:ov=Value.ref a:=rx;exact Ml I2 ea c n l ry λs3 I3=>⟨σ,_,I3,q2.at⟩
end
def yu(x:Str):It:=⟨λi _=>i<x.length,λi H v H'=>H'=H/\∃c,x.cps[i]?=some c/\v=.str ⟨#[c]⟩,λi _=>x.length<=i⟩
def WX{P:Program}{w:World}{K:ah}{tg:Expr}(it:Addr)(x:Str)(t:Tok):Turn P w K tg (yu x) [it] it (λi h=>h.IsStrIter it "str_ascii_iterator" x t i) where
 mem:=by simp
 obj:=λi h st b hb=>by
  have e:b=it:=by simpa using hb
  obtain⟨o,e,c,d⟩:=st
  grind
 keep:=λi h h' st k=>let⟨o,e,r⟩:=st;⟨o,k it (by simp) o e,r⟩
 item:=by
  intro X hP hw hK hc i pins s σ H E I hf st hg;obtain⟨f0,f1,f2,f3,f4,f5⟩:=hf it (by simp);have hx:=Ww hg;refine wpAny_pyNext_ascii_item st hx λh' aJ sb=>?_;obtain⟨o,e,c,d⟩:=id aJ;exact⟨_,rfl,sh e c d (by decide) ⟨.str ⟨#[x.cps[i]]⟩,H,(I.turned (λb o hb e=>(sb.2 b hb).trans e) f0 f1 f3 f4 f5),⟨_,rfl⟩,⟨rfl,_,hx,rfl⟩,aJ,λb hb=>(hf b hb).1⟩⟩
 done:=by
  intro X hP hw hK hc i pins s σ H E I hf st hg;obtain⟨f0,f1,f2,f3,f4,f5⟩:=hf it (by simp);exact wpAny_pyNext_ascii_end (I.ok.hd hc) st (J3 hg) λh' eb=>⟨rfl,I.turned (λb o hb e=>eb b o hb e) f0 f1 f3 f4 f5⟩
 self:=λ_ _ _ _ _ st h=>wpAny_pyIter_striter_ascii st h
def Xk{P:Program}{w:World}{K:ah}{tg:Expr}(it:Addr)(x:Str)(t:Tok):Turn P w K tg (yu x) [it] it (λi h=>h.IsStrIter it "str_iterator" x t i) where
 mem:=by simp
 obj:=λi h st b hb=>by
  have e:b=it:=by simpa using hb
  obtain⟨o,e,c,d⟩:=st
  grind
 keep:=λi h h' st k=>let⟨o,e,r⟩:=st;⟨o,k it (by simp) o e,r⟩
 item:=by
  intro X hP hw hK hc i pins s σ H E I hf st hg;obtain⟨f0,f1,f2,f3,f4,f5⟩:=hf it (by simp);have hx:=Ww hg;refine wpAny_pyNext_wide_item st hx λh' aJ sb=>?_;obtain⟨o,e,c,d⟩:=id aJ;exact⟨_,rfl,sh e c d (by decide) ⟨.str ⟨#[x.cps[i]]⟩,H,(I.turned (λb o hb e=>(sb.2 b hb).trans e) f0 f1 f3 f4 f5),⟨_,rfl⟩,⟨rfl,_,hx,rfl⟩,aJ,λb hb=>(hf b hb).1⟩⟩
 done:=by
  intro X hP hw hK hc i pins s σ H E I hf st hg;obtain⟨f0,f1,f2,f3,f4,f5⟩:=hf it (by simp);exact wpAny_pyNext_wide_end (I.ok.hd hc) st (J3 hg) λh' eb=>⟨rfl,I.turned (λb o hb e=>eb b o hb e) f0 f1 f3 f4 f5⟩
 self:=λ_ _ _ _ _ st h=>wpAny_pyIter_striter_wide st h
inductive Qx(R:It->Hp->Prop)(v:V)(H1:Hp):Prop
 |mk (x) (aC:v=.str x) (aS:R (yu x) H1):Qx R v H1
def ZgL(te:TE):TI:=λσ H R=>te σ H λv H1=>Qx R v H1
theorem ZeR{X:Cx}{tg l:Expr}{tl:TE}(hl:PE X l tl):PI X tg l (ZgL tl):=by
 intro pins s σ H R I h;refine ay (hl pins s σ H _ I h) λv s1 zq=>?_;obtain⟨x,H1,I1,r1,q1⟩:=zq;obtain⟨z,e,q⟩:=q1;subst e;obtain⟨t,rfl⟩:=r1;have fin:∀b∈[s1.heap.objs.size],iQ X pins H1 b:=λb hb=>by
  have e:b=s1.heap.objs.size:=by simpa using hb
  subst e;exact I1.qz (Yd _) (I1.aw.fresh (Yd _))
 cases ha:z.cps.all (·<128) with
 |true=>exact wpAny_pyIter_ascii ha ⟨s1.heap.objs.size,[s1.heap.objs.size],_,_,H1,rfl,I1.kept λb o e=>Yb _ e,WX _ z t,⟨_,Yu _ rfl,rfl,rfl⟩,fin,q⟩
 |false=>exact wpAny_pyIter_wide ha ⟨s1.heap.objs.size,[s1.heap.objs.size],_,_,H1,rfl,I1.kept λb o e=>Yb _ e,Xk _ z t,⟨_,Yu _ rfl,rfl,rfl⟩,fin,q⟩
abbrev sg(c:Nat):V:=.str ⟨#[c]⟩
def ZbU(Pv:Nat->List V->Hp->Prop)(h0:Pv 0 [] (upd H D (.lst [])))
  (hs:∀(i c:Nat) (ys:List V) (H:Hp),x.cps[i]?=some c->Pv i ys H->tt (some (sg c)::fv) H λb H1=>if b=true then te (some (sg c)::fv) H1 λy H3=>H3 D=some (.lst ys)/\ys.length<sizeLine/\Pv (i+1) (ys++[y]) (upd H3 D (.lst (ys++[y]))) else Pv (i+1) ys H1)
  (hd:∀ys H,Pv x.length ys H->Q (.ref D) H):jo (yu x) tt te fv D H Q:=by
 refine⟨λi m ys H=>m=x.length-i/\i<=x.length/\Pv i ys H,⟨x.length,by simp,Yx _,h0⟩,?_⟩;rintro i m ys H ⟨rfl,hi,p⟩;by_cases bT:i<x.length
 ·refine .inr ⟨bT,Pv (i+1),λfC H' p'=>⟨x.length-(i+1),by omega,rfl,bT,p'⟩,λv H' y=>?_⟩;obtain⟨e,c,hc,rfl⟩:=y
  grind
 ·have e:i=x.length:=by omega
  subst e;exact .inl ⟨Yd _,hd ys H p⟩
def ZaS(hn:x.length<=100000)(hD:H D=none)(f:Nat->V)
  (turn:∀(i c:Nat),x.cps[i]?=some c->∀H1,aj H H1->∀Kt:VK,(∀H3,aj H1 H3->Kt (f c) H3)->te (some (sg c)::fv) H1 Kt)(fin:∀H',aj H H'->H' D=some (.lst (x.cps.toList.map f))->Q (.ref D) H'):jo (yu x) A2 te fv D H Q:=by
 refine ZbU (λi ys H1=>i<=x.length/\aj H H1/\H1 D=some (.lst ys)/\ys=(x.cps.toList.take i).map f) ⟨Yx _,cq hD _,aR,rfl⟩ ?_ ?_
 ·rintro i c ys H1 hi ⟨_,g,h1,e⟩;have dG:i<x.length:=(Jq.mp hi).1;refine kj (cY (turn i c hi H1 g _ λH3 g3=>⟨g3 _ _ h1,?_,dG,?_,aR,?_⟩))
  ·rw[e,Ya,Y8,sizeLine_eq];omega
  ·intro b o q;rw[aK (bY q hD)];exact g3 _ _ (g _ _ q)
  ·have iy:x.cps.toList[i]?=some c:=by rw[J9];exact hi
   rw[e,Y1,iy,Ym];rfl
 ·rintro ys H1 ⟨_,g,h1,e⟩;refine fin H1 g ?_;rw[h1,e,Wt (by show x.cps.toList.length<=x.cps.size;simp)]
end L2
namespace L2
open PySem PySem.W PySem.Spec PyProof.Rows
def ZeS:List V->Hp->VK->Prop:=λxs H Q=>∃(p:Addr) (kvs:List (Key×V)),xs=[.ref p]/\H p=some (.dK kvs)/\Nw H (.lst (kvs.map λkv=>kV kv.1)) Q
theorem M6:∀{ks:List Key} {us:List Value},us.length=ks.length->(∀(j:Nat) (v:Value),us[j]?=some v->∃k,ks[j]?=some k/\(dE P w).is k v=true)->Vals (ks.map kV) us
 |[],[],_,_=>.nil
 |k::ks,u::us,hl,h=>by
  obtain⟨k',e,hk⟩:=h 0 u rfl;have e':k=k':=by simpa using e
  subst e';refine .cons ?_ (M6 (by simpa using hl) λj v hj=>by simpa using h (j+1) v (by simpa using hj));rcases lW (show se k u=true from hk) with⟨i,t,rfl,rfl⟩|⟨x,t,rfl,rfl⟩;·exact⟨t,rfl⟩
  ·exact⟨t,rfl⟩
 |[],_::_,hl,_=>by simp at hl
 |_::_,[],hl,_=>by simp at hl
def YO(hc:X.calm=true):c7 X (.type "list") ZeS:=by
 rintro pins s σ H xs us Q I r ⟨p,kvs,rfl,hp,q⟩;obtain⟨u,rfl,ru⟩:=vals1 r;obtain rfl:u=Value.ref p:=ru;obtain⟨lim,Iy,vs,kv,dd⟩:=oW I.aw hp;obtain⟨ep,da⟩:=dd.dictAt;have kl:=kv.length;refine kdl_call (kdl_dict Iy) (I.ok.hd hc) da (by omega) λh' tk acc c kp hD it=>?_;have vals:Vals (kvs.map λkv=>kV kv.1) acc.toList:=by
  have e:(kvs.map λkv=>kV kv.1)=(vs.map (·.1)).map kV:=by rw[←kv.keys,Wi];rfl
  rw[e];refine M6 (P:=X.prog) (w:=X.w) (by rw[W6,Ya];exact it.1) λj v hj=>?_;obtain⟨k,x,hx,hk⟩:=it.2 j v (by rw[←J9];exact hj)
  grind
 exact⟨.ref s.heap.objs.size,_,(I.laid (o:=.lst (kvs.map λkv=>kV kv.1)) kp (Yd _) ⟨by rw[Ya];exact lim,acc.toList,c,vals,by rw[Array.toArray_toList];exact hD⟩),rfl,q.at _ (I.aw.fresh (Yd _))⟩
end L2
namespace L2
open PySem PySem.Spec PyProof.Rows
abbrev AO(D:List (Str×Str)):List (Str×PyData):=D.map λp=>(p.1,PyData.str p.2)
def u_(K:ah)(a:Addr)(D:List (Str×Str)):Prop:=KTD.tabLook KTD.flatLooks (λb=>K.lookup b) a (AO D)=true
theorem wU(f:δ->ε)(k:Str):∀D:List (Str×δ),KTD.datumAt k (D.map λp=>(p.1,f p.2))=(KTD.datumAt k D).map f
 |[]=>rfl
 |p::D=>by
  rw[Wp];unfold KTD.datumAt;by_cases e:k=p.1;·simp[e]
  ·simp only[e];exact wU f k D
def u_.here{K:ah}{a:Addr}{D:List (Str×Str)}{h:Heap}(t:u_ K a D)(mI:K.In h):KTD.Here h h a ((AO D).map λp=>(p.1,KTD.Dat.flat p.2)):=
 ⟨KTD.TabOf.text (KTD.tab_of_look (λ_ _=>KTD.flat_of_looks) (λa o e=>mI a o e) t),λ_ _ e=>e⟩
def nJ(D:List (Str×Str))(z:Str):Bool:=(KTD.datumAt z D).isSome
def keys_has(D:List (Str×Str))(z:Str):KTD.inKeys z ((AO D).map λp=>(p.1,KTD.Dat.flat p.2))=nJ D z:=by
 rw[←KTD.isSome_datumAt,wU KTD.Dat.flat,wU PyData.str];unfold nJ
 grind
def ZeT(K:ah)(neg:Bool):R2:=λx y H Q=>∃(z:Str) (a:Addr) (D:List (Str×Str)),x=.str z/\y=.ref a/\u_ K a D/\Q (.bl (if neg=true then !nJ D z else nJ D z)) H
def ZeU{X:Cx}{K:ah}(hK:X.K=K):cG X (compareOp .In) (ZeT K false):=by
 subst hK;rintro pins s σ H x y v u Q I rx ry ⟨z,a,D,rfl,rfl,t,q⟩;obtain⟨tk,rfl⟩:=rx;obtain rfl:u=Value.ref a:=ry;refine KTD.in_text (t.here I.bZ) ?_;rw[keys_has];exact⟨.bl (nJ D z),H,I.tok _,rfl,q⟩
def ZeV(K:ah):R2:=λx y H Q=>∃(a:Addr) (z r:Str) (D:List (Str×Str)),x=.ref a/\y=.str z/\u_ K a D/\KTD.datumAt z D=some r/\Q (.str r) H
theorem Zdb{X:Cx}{K:ah}(hK:X.K=K):iX X (ZeV K):=by
 subst hK;intro value slice pins s σ H x y v u Q I rx ry h hs;obtain⟨a,z,r,D,rfl,rfl,t,e,q⟩:=h;obtain⟨tk,rfl⟩:=ry;obtain rfl:v=Value.ref a:=rx;have T:=t.here I.bZ;refine tail_any T.typeIs slot_dict_getitem.lookup ?_ hs;unfold getItem;try with_reducible refine wpAny_holding ?_
 refine wpAny_bind (wpAny_sequenceKey T.typeIs (by decide) ?_);refine wpAny_bind (wpAny_callSpecial?_slot T.typeIs slot_dict_getitem
  (wpAny_call_entry slot_dict_getitem T.typeIs entry_dict_getitem ?_ (args_dict_getitem _ _)))
 show wpAny _ _ (dictGet a (.str z tk)>>=_) _ _ s;have ed:KTD.datumAt z ((AO D).map λp=>(p.1,KTD.Dat.flat p.2))=some (.flat (.str r)):=by rw[wU KTD.Dat.flat,wU PyData.str,e];rfl
 refine wpAny_bind (KTD.dictGet_text T (λd v ha hv=>wpAny_pure ⟨v,rfl,wpAny_pure ?_⟩) λhn=>by rw[ed] at hn;cases hn);rw[ed] at ha;cases ha;cases hv s.heap with
 |str x t'=>exact⟨.str r,H,I.tok _,⟨t',rfl⟩,q⟩
def xy(h:cE X.prog X.w X.K X.mg X.base k m C ps sp)(hr:cF j X.A)(hj:k<=j)(ho:PE X o ta)
  (ht:eval (.Call (.Attribute o m apos) [] [] pos) X.env=(do
   let ov←eval o X.env
   standAt apos.atName
   let(f,first)←holding [ov] (getMethod ov m pl)
   callWith pos f first (backTo pos (starEach [] X.env)) (backToKw pos (keywordEach [] X.env))):=by rfl):
  PE X (.Call (.Attribute o m apos) [] [] pos) (AK C m sp [] E0 ta js):=by
 obtain⟨f,fd,c,hm,F,b⟩:=h;exact Zbn ho c hm F (hr.mono hj) b .nil xF ht
def A5(K:ah)(neg:Bool):R2:=λx y H Q=>∃(p q:Addr) (xs:List V),x=.ref p/\y=.ref q/\ak K H p xs/\ak K H q []/\Q (.bl (if neg=true then !xs.isEmpty else xs.isEmpty)) H
theorem ZeW(hu:X.A.units<cLine):cG X (compareOp .Eq) (A5 X.K false):=by
 rintro pins s σ H x y v u Q I rx ry ⟨p,q,xs,rfl,rfl,h1,h2,k⟩;cases rx;cases ry;obtain⟨ai,r1,p1,z1⟩:=I.list h1;obtain⟨iR,r2,p2,z2⟩:=I.list h2;cases r2;have l1:=r1.length;cases xs with
 |nil=>
  cases r1;exact SeqAt.eq_listAt (e:=λ_=>true) p1.isList p2.isList rfl hu (λj h1 _=>absurd h1 (by simp)) (cI I k (by simp))
 |cons a r=>exact SeqAt.eq_list_lengthsAt p1.isList p2.isList (by simp;intro z;subst z;simp at l1) hu (cI I k (by simp))
theorem ZeX(hu:X.A.units<cLine):cG X (compareOp .NotEq) (A5 X.K true):=by
 rintro pins s σ H x y v u Q I rx ry ⟨p,q,xs,rfl,rfl,h1,h2,k⟩;cases rx;cases ry;obtain⟨ai,r1,p1,z1⟩:=I.list h1;obtain⟨iR,r2,p2,z2⟩:=I.list h2;cases r2;have l1:=r1.length;cases xs with
 |nil=>
  cases r1;exact SeqAt.RcNeAt.lists (e:=λ_=>true) p1.isList p2.isList rfl hu (λj h1 _=>absurd h1 (by simp)) _ _ _ _ (cI I k (by simp))
 |cons a r=>exact SeqAt.RcNeAt.lists_lengths p1.isList p2.isList (by simp;intro z;subst z;simp at l1) hu _ _ _ _ (cI I k (by simp))
def ZJ:c7 X (.builtin "len") (λxs H Q=>∃p kvs,xs=[.ref p]/\H p=some (.dK kvs)/\Q (.int (kvs.length:Int)) H):=by
 rintro pins s σ H xs us Q I r ⟨p,kvs,rfl,hp,q⟩;obtain⟨u,rfl,ru⟩:=vals1 r;obtain rfl:u=Value.ref p:=ru;exact ZfV I (.inl hp) λt s' I'=>⟨.int (kvs.length:Int),H,I',⟨t,rfl⟩,q⟩
def aA.trans(g:aA D H H')(g':aA D H' Ke):aA D H Ke:=λb o e n=>g' b o (g b o e n) n
def Out(fp:List Addr)(H H':Hp):Prop:=∀b o,H b=some o->b∉fp->H' b=some o
def Out.of(g:aj H H'):Out fp H H':=λb o e _=>g b o e
def Out.trans(g:Out fp H H')(g':Out fp H' Ke):Out fp H Ke:=λb o e n=>g' b o (g b o e n) n
def Out.bar(g:aA a H H')(m:a∈fp):Out fp H H':=λb o e n=>g b o e λz=>n (by rw[z];exact m)
def setC(h:u D (σ.set i (some v)) H):xN (u5 (tC v) (sf i)) u D σ H:=h
def cz(h:te σ H λx H1=>u D (σ.set i (some x)) H1):xN (u5 te (sf i)) u D σ H:=h
def cV(h:H a=some (.dK kvs))(e:aT kvs (.inr z)=o):d_ H a (.str z) o:=.inl ⟨kvs,.inr z,.inl h,rfl,e.symm⟩
section
variable {X:Cx}{elt iter tgt:Expr}{xs:List Str}{pos:Pos}{ifs:List Expr}{scope:Scope}{cl:List (Str×Addr)}{fr:List (Str×Nat)}{tg:TG}{tt:TT}{te:TE}{pins:aU}{σ:St}
def ZeY(n:Nat)(wi:TI)(fr:List (Str×Nat))(tg:TG)(tt:TT)(te:TE):TE:=λσ H Q=>wi σ H λJ H1=>∀D,H1 D=none->GO n J tg tt te (gX σ fr) D H1 Q
def ZbV(hc:X.calm=true)(S:pX X scope cl xs fr)(hg:∀C s H fp,PG (cS X xs fr scope cl C s H fp) tgt tg)(hi:PI X tgt iter wi)
  (ht:∀C s H fp,vF (cS X xs fr scope cl C s H fp) ifs tt)(he:∀C s H fp,PE (cS X xs fr scope cl C s H fp) elt te)
  (hs:∀x,foldedSetIterable iter X.env x=pure x:=by intro _;rfl):PE X (.ListComp elt [⟨tgt,iter,ifs,0⟩] scope pos) (ZeY xs.length wi fr tg tt te):=by
 intro pins s σ H Q I h;refine wpAny_comprehension_free rfl hs S.xQ S.kind S.names (ay (hi pins s σ H _ I h) λv s1 h1=>ay h1 λvA s2 h2=>?_);obtain⟨it,fp,tn,J,H2,e,I2,T,eM,f2,hw⟩:=h2;subst e;refine Mm (RR:=λacc C=>compPost X.md X.A X.xe none (EP X pins σ Q) acc C) hc S hg ht he I2 T eM f2 hw ?_;intro D C s1 H1 m I1 hn f0 f1 f3 f4 f5 q;exact⟨m,hn,λh' pK=>⟨.ref D,H1,I1.turned (λb o hb e=>pK.extBut b o hb e) f0 f1 (.inr f3) f4 f5,rfl,q⟩⟩
end
def ZK{K:ah}{a:Addr}{xs:List V}{n:Nat}{tg:TG}{tt:TT}{te:TE}{fv:St}{D:Addr}{H:Hp}{Q:VK}(Pv:Nat->List V->Hp->Prop)(h0:Pv 0 [] (upd H D (.lst [])))(hl:∀i ys H,i<=xs.length->Pv i ys H->ak K H a xs)
  (hs:∀i v ys H,xs[i]?=some v->Pv i ys H->∀os:St,os.length=n->tg v (os++fv) H λdz H2=>(∃kA:St,kA.length=n/\dz=kA++fv)/\tt dz H2 λc H1=>if c=true then te dz H1 λy H3=>H3 D=some (.lst ys)/\ys.length<sizeLine/\Pv (i+1) (ys++[y]) (upd H3 D (.lst (ys++[y]))) else Pv (i+1) ys H1)
  (hd:∀ys H,Pv xs.length ys H->Q (.ref D) H):GO n (jK K a) tg tt te fv D H Q:=by
 refine⟨λi m ys H=>m=xs.length-i/\i<=xs.length/\Pv i ys H,⟨xs.length,by simp,Yx _,h0⟩,?_⟩;rintro i m ys H ⟨rfl,hi,p⟩;have q:=hl i ys H hi p;by_cases bT:i<xs.length
 ·refine .inr ⟨⟨xs,xs[i],q,by simp[bT]⟩,Pv (i+1),λfC H' p'=>⟨xs.length-(i+1),by omega,rfl,bT,p'⟩,λx H' y=>?_⟩;obtain⟨e,y⟩:=y
  grind
 ·have e:i=xs.length:=by omega
  subst e;exact .inl ⟨⟨xs,q,Yd _⟩,hd ys H p⟩
abbrev qO(elt t1 i1 t2 i2:Expr)(scope:Scope)(pos:Pos):Expr:=.ListComp elt [⟨t1,i1,[],0⟩,⟨t2,i2,[],0⟩] scope pos
section
variable {prog:Program}{w:World}{A:Around}{R:Result->Shared->Prop}{s:Shared}{elt t1 i1 t2 i2:Expr}{scope:Scope}{pos:Pos}{it acc:Value}{env:Env}
theorem ZaT(I:Nat->Shared->Prop)
  (turn:∀n s,I n s->wpAny (model prog w) A (pyNext it) (λr bI=>match r with
   |none=>R (.ok .next) bI
   |some v=>wpAny (model prog w) A (letOwnedTupleGo t2 it v) (λ_ cX=>wpAny (model prog w) A (assign t2 env v) (λ_ d9=>
     wpAny (model prog w) A (eval elt env) (λx iS=>
       wpAny (model prog w) A (call (.builtin "list.append") [acc,x]) (λ_ mD=>∃m,m<n/\I m mD) (notedBy (model prog w) A env λe s'=>R (.error e) s') iS) (notedBy (model prog w) A env λe s'=>R (.error e) s') d9) (notedBy (model prog w) A env λe s'=>R (.error e) s') cX) (notedBy (model prog w) A env λe s'=>R (.error e) s') bI) (notedBy (model prog w) A env λe s'=>R (.error e) s') s)
  (n:Nat)(h:I n s):codeAny (model prog w) A (.compLoop (qO elt t1 i1 t2 i2 scope pos) 1 it acc env) R s:=by
 refine codeAny_loop rfl I (λn s hI=>wpAny_noted (wpAny_bind (wpAny_standAt (wpAny_bind (wpAny_mono (turn n s hI) (λr bI hJ=>?_) λ_ _ h'=>h'))))) n h;cases r with
 |none=>exact wpAny_pure hJ
 |some v=>
  exact wpAny_bind (wpAny_mono hJ (λ_ cX h₀=>wpAny_bind (wpAny_mono h₀ (λ_ d9 pd=>wpAny_bind (wpAny_tests_nil (wpAny_bind (wpAny_bind (wpAny_mono pd (λx iS xR=>wpAny_bind (wpAny_mono xR (λ_ mD xS=>wpAny_pure (wpAny_pure ⟨rfl,xS⟩)) λ_ _ h'=>h')) λ_ _ h'=>h'))))) λ_ _ h'=>h')) λ_ _ h'=>h')
theorem ZaU(hs:∀x,foldedSetIterable i2 env x=pure x)(I:Nat->Shared->Prop)
  (turn:∀n s,I n s->wpAny (model prog w) A (pyNext it) (λr bI=>match r with
   |none=>R (.ok .next) bI
   |some v=>wpAny (model prog w) A (letOwnedTupleGo t1 it v) (λ_ cX=>wpAny (model prog w) A (assign t1 env v) (λ_ d9=>
     wpAny (model prog w) A (eval i2 env) (λx dR=>wpAny (model prog w) A (pyIter x) (λB3 iS=>
      codeAny (model prog w) A (.compStart (qO elt t1 i1 t2 i2 scope pos) 1 B3 acc env) (λr mD=>match r with|.ok _=>∃m,m<n/\I m mD|.error _=>False) iS)
      (notedBy (model prog w) A env λe s'=>R (.error e) s') dR) (notedBy (model prog w) A env λe s'=>R (.error e) s') d9) (notedBy (model prog w) A env λe s'=>R (.error e) s') cX) (notedBy (model prog w) A env λe s'=>R (.error e) s') bI) (notedBy (model prog w) A env λe s'=>R (.error e) s') s)
  (n:Nat)(h:I n s):codeAny (model prog w) A (.compLoop (qO elt t1 i1 t2 i2 scope pos) 0 it acc env) R s:=by
 refine codeAny_loop rfl I (λn s hI=>wpAny_noted (wpAny_bind (wpAny_standAt (wpAny_bind (wpAny_mono (turn n s hI) (λr bI hJ=>?_) λ_ _ h'=>h'))))) n h;cases r with
 |none=>exact wpAny_pure hJ
 |some v=>
  refine wpAny_bind (wpAny_mono hJ (λ_ cX h₀=>wpAny_bind (wpAny_mono h₀ (λ_ d9 pd=>wpAny_bind (wpAny_tests_nil (wpAny_bind (wpAny_mono pd (λx dR u7=>wpAny_bind (wpAny_standAt ?_)) λ_ _ h'=>h')))) λ_ _ h'=>h')) λ_ _ h'=>h');rw[hs];refine wpAny_bind (wpAny_pure (wpAny_bind (wpAny_holding (wpAny_mono u7 (λB3 iS xR=>wpAny_bind (wpAny_runOwn (codeAny_mono xR λr mD xS=>?_))) λ_ _ h'=>h'))));cases r with
  |error e=>grind
  |ok f=>exact wpAny_pure ⟨rfl,xS⟩
theorem XI
  (h0:codeAny (model prog w) A (.compLoop (qO elt t1 i1 t2 i2 scope pos) 1 it acc env) R s)
  (h:wpAny (model prog w) A (pyIter it) (λKg s'=>codeAny (model prog w) A (.compLoop (qO elt t1 i1 t2 i2 scope pos) 1 Kg acc env) R s') (notedBy (model prog w) A env λx s'=>R (.error x) s') s):
  codeAny (model prog w) A (.compStart (qO elt t1 i1 t2 i2 scope pos) 1 it acc env) R s:=by
 refine codeAny_of_tree (wpAny_notedAt (wpAny_bind (wpAny_askSetting (wpAny_ite ?_))));split
 ·first
   |exact wpAny_bind (wpAny_pure (wpAny_pure (And.intro rfl h0)))
   |exact wpAny_pure (And.intro rfl h0)
 ·first
   |exact wpAny_bind (wpAny_rule (wpAny_bind (wpAny_standAt (wpAny_bind (wpAny_mono h (λKg s' h'=>wpAny_pure (And.intro rfl h')) λ_ _ x=>x)))))
   |(refine wpAny_bind (wpAny_rule ?_);show wpAny _ _ (standAt i2.pos>>=_) _ _ s;exact wpAny_bind (wpAny_standAt (wpAny_bind (wpAny_mono h (λKg s' h'=>wpAny_pure (And.intro rfl h')) λ_ _ x=>x))))
end
def G0(n:Nat)(J:It)(kC:TG)(kF:TI)(mQ:TG)(te:TE)(fv:St)(D:Addr)(H:Hp)(Q:VK):Prop:=
 ∃W:Nat->Nat->List V->Hp->Prop,(∃m,W 0 m [] (upd H D (.lst [])))/\∀i m ys H,W i m ys H->
  (J.stop i H/\Q (.ref D) H)\/(J.go i H/\∃N:List V->Hp->Prop,(∀fC H',N fC H'->∃m',m'<m/\W (i+1) m' fC H')/\
   ∀v H',J.qL i H v H'->∀os:St,os.length=n->kC v (os++fv) H' λdz H2=>(∃kA:St,kA.length=n/\dz=kA++fv)/\kF dz H2 λJ2 H3=>
    ∃W2:Nat->Nat->List V->St->Hp->Prop,(∃m2,W2 0 m2 ys dz H3)/\∀i2 m2 gq cQ H4,W2 i2 m2 gq cQ H4->
     (J2.stop i2 H4/\(∃vK:St,vK.length=n/\cQ=vK++fv)/\N gq H4)\/(J2.go i2 H4/\∃N2:List V->St->Hp->Prop,(∀fC aH H',N2 fC aH H'->∃m',m'<m2/\W2 (i2+1) m' fC aH H')/\
      ∀v2 H5,J2.qL i2 H4 v2 H5->mQ v2 cQ H5 λyw H6=>te yw H6 λy H7=>H7 D=some (.lst gq)/\gq.length<sizeLine/\N2 (gq++[y]) yw (upd H7 D (.lst (gq++[y])))))
section
variable {X:Cx}{elt t1 i1 t2 i2:Expr}{xs:List Str}{pos:Pos}{scope:Scope}{cl:List (Str×Addr)}{fr:List (Str×Nat)}{kC mQ:TG}{kF:TI}{te:TE}{pins:aU}{σ:St}
def ZL{H2:Hp}{s2:Shared}{it:Addr}{fp:List Addr}{tn:Nat->Heap->Prop}{J:It}{Q:VK}{RR:Value->Addr->Result->Shared->Prop}{E:a8}
  (hc:X.calm=true)(S:pX X scope cl xs fr)(hg:∀C s H fp,PG (cS X xs fr scope cl C s H fp) t1 kC)(lL:∀C s H fp,PI (cS X xs fr scope cl C s H fp) t2 i2 kF)(Kh:∀C s H fp,PG (cS X xs fr scope cl C s H fp) t2 mQ)(he:∀C s H fp,PE (cS X xs fr scope cl C s H fp) elt te)
  (qN:∀C x,foldedSetIterable i2 (compEnvC scope cl C X.env) x=pure x)
  (I2:Inv X pins σ H2 s2)(T:Turn X.prog X.w X.K t1 J fp it tn)(eM:tn 0 s2.heap)(f2:∀b∈fp,iQ X pins H2 b)
  (hw:∀D,H2 D=none->G0 xs.length J kC kF mQ te (gX σ fr) D H2 Q)
  (hR:∀D C s1 H1 m,Inv X pins σ H1 s1->s1.heap.Ns C m->H1 C=none->C≠X.env.locals->X.cX.heap.objs.size<=C->(∀y c,X.env.cells.lookup y=some c->c≠C)->(∀p∈X.pn++pins,p.1≠C)->Q (.ref D) H1->RR (.ref D) C (.ok .next) s1):
  wpAny X.md X.A (newList []) (λacc dR=>wpAny X.md X.A (newFunctionEnv scope X.env.globals cl [] X.env.qual none .none (some X.env)) (λmE iS=>
   codeAny X.md X.A (.compStart (qO elt t1 i1 t2 i2 scope pos) 0 (.ref it) acc {mE with scope:=relabel scope X.env}) (RR acc mE.locals) iS) E dR) E s2:=by
 refine Nx (tgt:=t1) (iter:=i1) (ifs:=[]) (rest:=[⟨t2,i2,[],0⟩]) S I2 T eM f2 hR λD C s H3 dR hD e3 I4 vG vC fin=>?_;obtain⟨W,⟨m0,w0⟩,turn⟩:=hw D hD;rw[←e3] at w0;refine ZaU (qN _) (λk s'=>∃i ys H' os,os.length=xs.length/\Inv (cS X xs fr scope cl C s H3 fp) [] (os++gX σ fr) H' s'/\tn i s'.heap/\(∀b∈fp,H' b=none)/\W i k ys H') ?_ m0
  ⟨0,[],_,List.replicate xs.length none,Wy,I4,vG,vC,w0⟩
 rintro n s5 ⟨i,ys,H5,os,pG,I5,mK,sY,w5⟩;have mw:∀{H':Hp},(∀b∈fp,H' b=none)->∀b∈fp,iQ (cS X xs fr scope cl C s H3 fp) [] H' b:=λ{H'} hn b hb=>
  ⟨hn b hb,(I5.ok.qJ b hb).1,I5.ok.qy b hb,.inl hb,(I5.ok.qJ b hb).2,λp hp=>absurd (show p∈([]:aU) from hp) (by simp)⟩
 rcases turn i n ys H5 w5 with⟨stop,qn⟩|⟨go,N,hN,step⟩
 ·refine ay (T.done (cS X xs fr scope cl C s H3 fp) rfl rfl rfl hc i [] s5 _ H5 _ I5 (mw sY) mK stop) λr s6 zq=>?_;obtain⟨hr,I6⟩:=zq;subst hr;exact fin _ _ _ I6 qn
 ·refine ay (T.item (cS X xs fr scope cl C s H3 fp) rfl rfl rfl hc i [] s5 _ H5 _ I5 (mw sY) mK go) λr s6 zq=>?_;obtain⟨u,hr,h6⟩:=zq;subst hr;refine ay h6 λ_ s7 zq=>?_;obtain⟨v,H7,I7,r7,y7,tD,JT⟩:=zq;have JU:=I7.pinned (mw JT) (T.obj _ _ tD);refine wpAny_mono (hg _ _ _ _ _ s7 _ H7 v u _ JU r7 (step v H7 y7 os pG)) (λ_ s8 zq=>?_) λ_ _ z=>False.elim z;obtain⟨σ8,H8,I8,⟨kA,Ir,e8⟩,q8⟩:=zq;subst e8;have again:∀{pH:St} {H9:Hp} {s9:Shared} {pI:List V},pH.length=xs.length->Inv (cS X xs fr scope cl C s H3 fp) ([]++qo fp s7.heap) (pH++gX σ fr) H9 s9->N pI H9->
    ∃m,m<n/\∃i ys H' os,os.length=xs.length/\Inv (cS X xs fr scope cl C s H3 fp) [] (os++gX σ fr) H' s9/\tn i s9.heap/\(∀b∈fp,H' b=none)/\W i m ys H':=λ{pH H9 s9 pI} l1 I9 n9=>by
   obtain⟨m',hm,w9⟩:=hN pI H9 n9;refine⟨m',hm,i+1,pI,H9,pH,l1,I9.uI,T.keep _ _ _ tD λb hb o e=>(I9.pin (b,o) (Yr _ (Yr _ (pW hb e)))).1,λb hb=>?_,w9⟩;obtain⟨o,e,d⟩:=T.obj _ _ tD b hb;exact(I9.pin (b,o) (Yr _ (Yr _ (pW hb e)))).2.1
  refine wpAny_mono (lL _ _ _ _ _ s8 _ H8 _ I8 q8) (λx s9 h9=>wpAny_mono h9 (λvA JV h10=>?_) λ_ _ z=>False.elim z) λ_ _ z=>False.elim z;obtain⟨B3,Ki,tn2,J2,lH,pL,JW,T2,Sr,Kj,W2,⟨m2,w2⟩,Zf1⟩:=h10;subst pL;have Hx:∀{H':Hp},(∀b∈Ki,H' b=none)->∀b∈Ki,iQ (cS X xs fr scope cl C s H3 fp) ([]++qo fp s7.heap) H' b:=λhn b hb=>⟨hn b hb,(Kj b hb).2⟩;have RG:codeAny X.md X.A (.compLoop (qO elt t1 i1 t2 i2 scope pos) 1 (.ref B3) (.ref D) (compEnvC scope cl C X.env)) (λr mD=>match r with|.ok _=>∃m,m<n/\∃i ys H' os,os.length=xs.length/\Inv (cS X xs fr scope cl C s H3 fp) [] (os++gX σ fr) H' mD/\tn i mD.heap/\(∀b∈fp,H' b=none)/\W i m ys H'|.error _=>False) JV:=by
   refine ZaT (λk s'=>∃j zs aH H',Inv (cS X xs fr scope cl C s H3 fp) ([]++qo fp s7.heap) aH H' s'/\tn2 j s'.heap/\(∀b∈Ki,H' b=none)/\W2 j k zs aH H') ?_ m2 ⟨0,ys,_,lH,JW,Sr,λb hb=>(Kj b hb).1,w2⟩;rintro k JX ⟨j,zs,ZgM,yo,BU,Ss,Su,w11⟩;rcases Zf1 j k zs ZgM yo w11 with⟨stop,⟨vK,ZgN,e3⟩,qn⟩|⟨go,N2,hN2,Zf2⟩
   ·refine ay (T2.done (cS X xs fr scope cl C s H3 fp) rfl rfl rfl hc j _ JX _ yo _ BU (Hx Su) Ss stop) λr s12 zq=>?_;obtain⟨hr,I12⟩:=zq;subst hr;subst e3;exact again ZgN I12 qn
   ·refine ay (T2.item (cS X xs fr scope cl C s H3 fp) rfl rfl rfl hc j _ JX _ yo _ BU (Hx Su) Ss go) λr s12 zq=>?_;obtain⟨u2,hr,B4⟩:=zq;subst hr;refine ay B4 λ_ s13 zq=>?_;obtain⟨v2,B5,I13,r13,y13,Iz,ZgO⟩:=zq;have ZgP:=I13.pinned (Hx ZgO) (T2.obj _ _ Iz);refine wpAny_mono (Kh _ _ _ _ _ s13 _ B5 v2 u2 _ ZgP r13 (Zf2 v2 B5 y13)) (λ_ s14 zq=>?_) λ_ _ z=>False.elim z;obtain⟨ZgQ,qQ,I14,q14⟩:=zq;refine wpAny_mono (he _ _ _ _ _ s14 _ qQ _ I14 q14) (λu1 s15 zq=>?_) λ_ _ z=>False.elim z;obtain⟨y,Kk,I15,r15,hD,hz,mS⟩:=zq;refine wpAny_mono (wR (X:=cS X xs fr scope cl C s H3 fp) _ s15 _ Kk (.ref D) [y] _ [u1] (λ_ H'=>N2 (zs++[y]) ZgQ H') I15 rfl (.cons r15 .nil) ⟨_,zs,y,rfl,rfl,hD,hz,mS⟩) (λ_ s16 zq=>?_) λ_ _ z=>False.elim z;obtain⟨_,T6,Kl,_,q16⟩:=zq;obtain⟨m',hm,w16⟩:=hN2 _ _ _ q16;refine⟨m',hm,j+1,_,_,T6,Kl.uI,T2.keep _ _ _ Iz λb hb o e=>(Kl.pin (b,o) (Yr _ (Yr _ (pW hb e)))).1,λb hb=>?_,w16⟩;obtain⟨o,e,d⟩:=T2.obj _ _ Iz b hb;exact(Kl.pin (b,o) (Yr _ (Yr _ (pW hb e)))).2.1
  exact XI RG (T2.self _ 0 _ _ _ Sr RG)
def ZeZ(n:Nat)(wi:TI)(fr:List (Str×Nat))(kC:TG)(kF:TI)(mQ:TG)(te:TE):TE:=λσ H Q=>wi σ H λJ H1=>∀D,H1 D=none->G0 n J kC kF mQ te (gX σ fr) D H1 Q
def ZbW(hc:X.calm=true)(S:pX X scope cl xs fr)(hg:∀C s H fp,PG (cS X xs fr scope cl C s H fp) t1 kC)(hi:PI X t1 i1 wi)(lL:∀C s H fp,PI (cS X xs fr scope cl C s H fp) t2 i2 kF)(Kh:∀C s H fp,PG (cS X xs fr scope cl C s H fp) t2 mQ)
  (he:∀C s H fp,PE (cS X xs fr scope cl C s H fp) elt te)(hs:∀x,foldedSetIterable i1 X.env x=pure x:=by intro _;rfl)(qN:∀C x,foldedSetIterable i2 (compEnvC scope cl C X.env) x=pure x:=by intro _ _;rfl):
  PE X (.ListComp elt [⟨t1,i1,[],0⟩,⟨t2,i2,[],0⟩] scope pos) (ZeZ xs.length wi fr kC kF mQ te):=by
 intro pins s σ H Q I h;refine wpAny_comprehension_free rfl hs S.xQ S.kind S.names (ay (hi pins s σ H _ I h) λv s1 h1=>ay h1 λvA s2 h2=>?_);obtain⟨it,fp,tn,J,H2,e,I2,T,eM,f2,hw⟩:=h2;subst e;refine ZL (RR:=λacc C=>compPost X.md X.A X.xe none (EP X pins σ Q) acc C) hc S hg lL Kh he qN I2 T eM f2 hw ?_;intro D C s1 H1 m I1 hn f0 f1 f3 f4 f5 q;exact⟨m,hn,λh' pK=>⟨.ref D,H1,I1.turned (λb o hb e=>pK.extBut b o hb e) f0 f1 (.inr f3) f4 f5,rfl,q⟩⟩
end
def eI{X:Cx}{K:ah}{tg l:Expr}{tl:TE}(h:X.K=K)(hl:PE X l tl):PI X tg l (Rj K tl):=h▸Ov hl
def jj{X:Cx}{K:ah}{pos:Pos}{es:List Expr}{k:Nat}{t:nN}{n:Nat}(h:X.K=K)(hc:X.calm=true)(hg:yd X es t)
  (hn:(assignEach es X.env).length=n:=by rfl)(df:(assignEach es X.env).findIdx? (·.1)=none:=by rfl):PG X (.Tuple es k pos) (R_ K n t):=h▸Zd5 hc hg hn df
def Zdc{K:ah}{a:Addr}{xs:List V}{n:Nat}{kC:TG}{kF:TI}{mQ:TG}{te:TE}{fv:St}{D:Addr}{H:Hp}{Q:VK}(Pv:Nat->List V->Hp->Prop)(h0:Pv 0 [] (upd H D (.lst [])))(hl:∀i ys H,i<=xs.length->Pv i ys H->ak K H a xs)
  (hs:∀i v ys H,xs[i]?=some v->Pv i ys H->∀os:St,os.length=n->kC v (os++fv) H λdz H2=>(∃kA:St,kA.length=n/\dz=kA++fv)/\kF dz H2 λJ2 H3=>∃(b:Addr) (zs:List V) (Pw:Nat->List V->St->Hp->Prop),J2=jK K b/\Pw 0 ys dz H3/\
   (∀k ys σ H,k<=zs.length->Pw k ys σ H->ak K H b zs)/\
   (∀k v2 ys σ H,zs[k]?=some v2->Pw k ys σ H->mQ v2 σ H λyw H6=>te yw H6 λy H7=>H7 D=some (.lst ys)/\ys.length<sizeLine/\Pw (k+1) (ys++[y]) yw (upd H7 D (.lst (ys++[y]))))/\
   ∀ys σ H,Pw zs.length ys σ H->(∃vK:St,vK.length=n/\σ=vK++fv)/\Pv (i+1) ys H)
  (hd:∀ys H,Pv xs.length ys H->Q (.ref D) H)(Zf3:∀σ H (R R':It->Hp->Prop),(∀J H,R J H->R' J H)->kF σ H R->kF σ H R')(Zf4:∀v σ H (R R':St->Hp->Prop),(∀σ H,R σ H->R' σ H)->kC v σ H R->kC v σ H R'):G0 n (jK K a) kC kF mQ te fv D H Q:=by
 refine⟨λi m ys H=>m=xs.length-i/\i<=xs.length/\Pv i ys H,⟨xs.length,by simp,Yx _,h0⟩,?_⟩;rintro i m ys H ⟨rfl,hi,p⟩;have q:=hl i ys H hi p;by_cases bT:i<xs.length
 ·refine .inr ⟨⟨xs,xs[i],q,by simp[bT]⟩,Pv (i+1),λfC H' p'=>⟨xs.length-(i+1),by omega,rfl,bT,p'⟩,λx H' y os pG=>?_⟩;obtain⟨e,y⟩:=y;subst e;refine Zf4 _ _ _ _ _ (λdz H2 ⟨h1,h2⟩=>⟨h1,Zf3 _ _ _ _ (λJ2 H3 h3=>?_) h2⟩) (hs i x ys _ (y xs q) p os pG);obtain⟨b,zs,Pw,rfl,w0,wl,ws,wd⟩:=h3;refine⟨λk m2 gq cQ H4=>m2=zs.length-k/\k<=zs.length/\Pw k gq cQ H4,⟨zs.length,by simp,Yx _,w0⟩,?_⟩;rintro k m2 gq cQ H4 ⟨rfl,hk,w⟩;have q2:=wl k gq cQ H4 hk w;by_cases B6:k<zs.length
  ·refine .inr ⟨⟨zs,zs[k],q2,by simp[B6]⟩,Pw (k+1),λfC aH H' p'=>⟨zs.length-(k+1),by omega,rfl,B6,p'⟩,λv2 H5 y2=>?_⟩;obtain⟨e2,y2⟩:=y2;subst e2;exact ws k v2 gq cQ _ (y2 zs q2) w
  ·have e:k=zs.length:=by omega
   subst e;exact .inl ⟨⟨zs,q2,Yd _⟩,(wd gq cQ H4 w).1,(wd gq cQ H4 w).2⟩
 ·have e:i=xs.length:=by omega
  subst e;exact .inl ⟨⟨xs,q,Yd _⟩,hd ys H p⟩
section
variable {prog:Program}{w:World}{κ:Type}[DecidableEq κ]{knd:PySem.KeyKind prog w κ}{A:Around}{E:a8}{s:Shared}
theorem VO{d:Addr}{kvs:List (κ×Value)}{k:κ}{key dflt:Value}{Q:a8}(nI:knd.is k key=true)(hm:s.heap.DictOf knd d kvs)
  (Ze0:∀v,valueAt kvs k=some v->Q v {s with toks:=s.toks+1})
  (ZgR:valueAt kvs k=none->∀h',h'.DictOf knd d (stored kvs k dflt)->Heap.SameBut d s.heap h'->Q dflt {s with heap:=h',toks:=s.toks+1})
  (hsz:kvs.length<=sizeLine):wpAny (model prog w) A (dictSetDefault d key dflt) Q E s:=by
 obtain⟨o,es,ep,ho,hc,hd,hk,hp,hn⟩:=hm;have hes:es.size<=sizeLine:=by
  have e1:=hp.length
  grind
 have hf:∀x,findBy knd.is es x=valueAt kvs x:=λx=>by
  rw[←hp.find x];simp[findBy]
 unfold dictSetDefault;try with_reducible refine wpAny_holding ?_
 refine wpAny_bind (knd.pyHash nI (wpAny_bind (wpAny_dictFind_of nI ho hd hk ?_)));have ZiM:(es.findIdx? λe=>knd.is k e.key)=kvs.findIdx? λkv=>decide (kv.1=k):=by
  rw[←hp.findIdx k];obtain⟨l⟩:=es;simp
 cases hi:es.findIdx? λe=>knd.is k e.key with
 |some i=>
  have B7:valueAt kvs k=(es[i]?).map (·.val):=by rw[←hf k,findBy_of_findIdx?,hi]
  refine wpAny_bind (wpAny_dictEntries ho hd ?_);cases he:es[i]? with
  |none=>
   have:=Array.findIdx?_eq_some_iff_findIdx_eq.mp hi
   grind
  |some e=>
   rw[he] at B7;exact wpAny_bind (wpAny_rule (wpAny_pure (Ze0 e.val B7)))
 |none=>
  have B7:valueAt kvs k=none:=by rw[←hf k,findBy_of_findIdx?,hi]
  have Sv:¬(kvs.any λkv=>decide (kv.1=k))=true:=by
   grind
  refine wpAny_bind (wpAny_rule (wpAny_bind (wpAny_updateDictKeys ho hd (wpAny_pure (ZgR B7 _ ⟨_,_,ep+1,Wn _ ho (Obj.isFreed_of_dict (Obj.data_mapDictKeys hd _)),
   hc.mapDictKeys _,Obj.data_mapDictKeys hd _,hk.push nI _,?_,?_⟩ (Heap.SameBut.update ..))))))
  ·rw[stored,if_neg Sv];have:=hp.append nI (knd.hash k) dflt
   grind
  ·rw[stored,if_neg Sv,Ym,Wv]
   grind
def V5{d:Addr}{k:κ}{key:Value}(nI:knd.is k key=true)(hd:(d==sysModules)=false)(dflt:Value):
  MeetsIn prog w (Builtin.«dict.setdefault» ⟨[.ref d,key,dflt],[]⟩) (λ_ R s=>∃kvs,s.heap.DictOf knd d kvs/\kvs.length<=sizeLine/\
   (∀v,valueAt kvs k=some v->R (.ok (.ret v)) {s with toks:=s.toks+1})/\
   (valueAt kvs k=none->∀h',h'.DictOf knd d (stored kvs k dflt)->Heap.SameBut d s.heap h'->R (.ok (.ret dflt)) {s with heap:=h',toks:=s.toks+1})):=
 .of_wp λA R s ⟨kvs,hm,hz,h1,h2⟩=>by
  refine wpAny_bind (wpAny_bind (wpAny_notOrdered_dict hm.typeIs (wpAny_pure ?_)));show wpAny _ _ (if(d==sysModules)=true then _ else(dictSetDefault d key dflt>>=_)) _ _ s;rw[if_neg (by rw[hd];exact Yj)];exact wpAny_bind (VO nI hm (λv hv=>wpAny_pure ⟨v,rfl,h1 v hv⟩) (λhn h' hm' pK=>wpAny_pure ⟨dflt,rfl,h2 hn h' hm' pK⟩) hz)
end
section
variable {X:Cx}{pins:aU}{σ:St}{H:Hp}{s:Shared}{a:Addr}{kvs:List (Key×V)}{k:Key}{z:V}{u r:Value}{A:Around}{E:a8}
theorem ZbX(I:Inv X pins σ H s)(e:H a=some (.dK kvs))(ry:RelV (kV k) u)(rz:RelV z r)(l:kvs.length<sizeLine)
  (h1:∀v w' s',aT kvs k=some v->Inv X pins σ H s'->RelV v w'->Q w' s')(h2:∀s',aT kvs k=none->Inv X pins σ (upd H a (.dK (putK kvs k z))) s'->Q r s'):
  wpAny X.md A (call (.builtin "dict.setdefault") [.ref a,u,r]) Q E s:=by
 obtain⟨zz,hd,vs,rel,dd⟩:=oW I.aw e;have hz:vs.length<=sizeLine:=by rw[←rel.length];exact zz
 have rv:=rel.val k;refine call_meetsIn PySem.F.slot_dict_setdefault dd.typeIs PySem.F.entry_dict_setdefault (PySem.F.args_dict_setdefault_3 _ _ _) (V5 (mf ry) hd r) ⟨vs,dd,hz,λv hv=>?_,λhn h' iu hs=>?_⟩
 ·cases ev:aT kvs k with
  |none=>rw[ev,hv] at rv;cases rv
  |some x=>
   rw[ev,hv] at rv;exact h1 x v _ ev (I.tok _) rv
 ·have ev:aT kvs k=none:=by
   cases ev:aT kvs k with
   |none=>rfl
   |some x=>rw[ev,hn] at rv;cases rv
  have hl:(putK kvs k z).length<=sizeLine:=by have:=zp kvs k z;omega
  exact h2 _ ev (rP I (by rw[e];exact True.intro) hs (let⟨q,_,_,hq,_⟩:=iu;⟨q,hq⟩) (xv hl hd (rel.put k rz) iu))
end
def F5(td ty tx:TE):TE:=λσ H Q=>td σ H λx H1=>∃a,x=.ref a/\yt H1 a/\ty σ H1 λy H2=>tx σ H2 λz H3=>∃kvs k,H3 a=some (.dK kvs)/\y=kV k/\kvs.length<sizeLine/\
 (∀v,aT kvs k=some v->Q v H3)/\(aT kvs k=none->Ch H3 a (.dK (kvs++[(k,z)])) (Q z))
def Zdd(td ty:TE):TE:=λσ H Q=>td σ H λx H1=>∃a,x=.ref a/\yt H1 a/\ty σ H1 λy H2=>∃kvs k v,H2 a=some (.dK kvs)/\y=kV k/\aT kvs k=some v/\Ch H2 a (.dK (gY kvs k)) (Q v)
section
variable {X:Cx}{o e f:Expr}{apos cy:Pos}{td ty tx:TE}
def Mx(ho:PE X o td)(he:PE X e ty)(hf:PE X f tx)(m:M2 X o "setdefault" apos e f cy):PE X (.Call (.Attribute o "setdefault" apos) [e,f] [] cy) (F5 td ty tx):=by
 intro pins s σ H Q I h;refine wpAny_Call_method m.base m.jy m.line plainAttrs_dict PySem.F.slot_dict_setdefault PySem.F.type_dict_setdefault (ay (ho pins s σ H _ I h) λu s1 zq=>?_);obtain⟨x,H1,I1,rx,a,ex,d,q1⟩:=zq;subst ex;obtain rfl:u=Value.ref a:=rx;obtain⟨t1,t2,_⟩:=xx I1 d;refine⟨t1,t2,?_⟩;rw[m.trees];refine Calls.callWith_builtin rfl (Calls.evalArgs_plain (Calls.spliced_cons (ay (he pins s1 σ H1 _ I1 q1) λiv s2 ⟨y,H2,I2,ry,q2⟩=>
  Calls.spliced_cons (ay (hf pins s2 σ H2 _ I2 q2) λfv s3 ⟨z,H3,I3,rz,kvs,k,ea,ey,lz,q3,q4⟩=>Calls.spliced_nil ?_))))
 subst ey;refine ZbX I3 ea ry rz lz (λv w' s4 ev I4 rv=>⟨v,H3,I4,rv,q3 v ev⟩) λs4 ev I4=>?_;rw[kU _ ev] at I4;exact⟨z,_,I4,rz,(q4 ev).at⟩
def M7(ho:PE X o td)(he:PE X e ty)(m:M1 X o "pop" apos e cy):PE X (.Call (.Attribute o "pop" apos) [e] [] cy) (Zdd td ty):=by
 intro pins s σ H Q I h;refine wpAny_Call_method m.base m.jy m.line plainAttrs_dict slot_dict_pop PySem.F.type_dict_pop (ay (ho pins s σ H _ I h) λu s1 zq=>?_);obtain⟨x,H1,I1,rx,a,ex,d,q1⟩:=zq;subst ex;obtain rfl:u=Value.ref a:=rx;obtain⟨t1,t2,_⟩:=xx I1 d;refine⟨t1,t2,?_⟩;rw[m.trees];refine Calls.callWith_builtin rfl (Calls.evalArgs_plain (Calls.spliced_cons (ay (he pins s1 σ H1 _ I1 q1) λiv s2 ⟨y,H2,I2,ry,kvs,k,v,ea,ey,l,q2⟩=>Calls.spliced_nil ?_)));subst ey;exact ZfU I2 ea ry l (.inl rfl) λw' s3 I3 gn=>⟨v,_,I3,gn,q2.at⟩
end
end L2
namespace L2
open PySem PySem.W PySem.Calls PySem.Spec PyProof.Rows
def eA{α:Type}(n:Nat)(P:α->Prop):KasT α->Prop
 |.ret a=>P a
 |.ask i j k=>i<n/\j<n/\∀b,eA n P (k b)
theorem eA.bind{α β:Type}{n:Nat}{P:α->Prop}{Q:β->Prop}{f:α->KasT β}(hf:∀a,P a->eA n Q (f a)):∀{t:KasT α},eA n P t->eA n Q (t.bind f)
 |.ret a,h=>hf a h
 |.ask _ _ _,h=>⟨h.1,h.2.1,λb=>eA.bind hf (h.2.2 b)⟩
def Good(n:Nat)(p:Array Nat):Prop:=0<n/\p.Perm (List.range n).toArray
def Good.get(g:Good n p)(m:Nat):p.getD m 0<n:=by
 by_cases h:m<p.size
 ·have e:p.getD m 0=p[m]:=by rw[Y9,Ww h];rfl
  rw[e];have:=g.2.mem_iff.mp (Array.getElem_mem h);simpa using this
 ·have e:p.getD m 0=0:=by rw[Y9,J3 (by omega)];rfl
  rw[e];exact g.1
def Good.rev(g:Good n p)(i j:Nat):Good n (kas_rev p i j):=⟨g.1,(mirror_perm p i j _).trans g.2⟩
theorem F6(g:Good n p):∀f m,eA n (λ_=>True) (kas_asc p f m)
 |0,_=>trivial
 |f+1,m=>⟨g.get m,g.get (m-1),λb=>by
  cases b with
  |true=>(dsimp only;rw[if_pos rfl]);exact trivial
  |false=>(dsimp only;rw[if_neg Yj]);exact F6 g f (m+1)⟩
theorem zL:∀f (p:Array Nat) m q,Good n p->eA n (λr=>Good n r.1) (kas_desc f p m q)
 |0,_,_,_,g=>g
 |f+1,p,m,q,g=>⟨g.get m,g.get (m-1),λb=>by
  cases b with
  |true=>
   split;·exact zL f _ _ _ (g.rev _ _)
   ·exact zL f _ _ _ g
  |false=>
   refine⟨g.get (m-1),g.get m,λd=>?_⟩;cases d with
   |true=>(dsimp only;rw[if_pos rfl]);exact g
   |false=>(dsimp only;rw[if_neg Yj]);exact zL f _ _ _ g⟩
def My{n m k:Nat}{p:Array Nat}(g:Good n p):eA n (λr=>Good n r.2) (kas_tail3 m k p):=by
 refine eA.bind (λa _=>?_) (F6 (g.rev 0 m) _ _);exact g.rev 0 m
def LY{n m k:Nat}{p:Array Nat}(g:Good n p):eA n (λr=>Good n r.2) (kas_descPart m k p):=by
 refine eA.bind (λr hr=>?_) (zL _ p _ _ g);split;·exact My (Good.rev hr _ _)
 ·exact My hr
theorem Mz{n k:Nat}{p:Array Nat}(g:Good n p):eA n (λr=>Good n r.2) (kas_count k p):=by
 refine eA.bind (λm _=>?_) (F6 g _ _);split;·exact g
 ·split
  ·refine⟨g.get _,g.get _,λb=>?_⟩;cases b with
   |true=>(dsimp only;rw[if_pos rfl]);exact g
   |false=>(dsimp only;rw[if_neg Yj]);exact LY (g.rev _ _)
  ·exact LY g
theorem EY(g:Good n p):∀f l r,eA n (λ_=>True) (kas_place p k f l r)
 |0,_,_=>trivial
 |f+1,l,r=>by
  unfold kas_place;split;·exact trivial
  ·refine⟨g.get _,g.get _,λb=>?_⟩;cases b with
   |true=>(dsimp only;rw[if_pos rfl]);exact EY g f _ _
   |false=>(dsimp only;rw[if_neg Yj]);exact EY g f _ _
theorem NK{n:Nat}:∀f (p:Array Nat) k,Good n p->eA n (Good n) (kas_bin f p k)
 |0,_,_,g=>g
 |f+1,p,k,g=>eA.bind (λl _=>NK f _ _ ⟨g.1,(bubble_perm p k _).trans g.2⟩) (EY g _ _ _)
def ZaV{n:Nat}(h:0<n):eA n (Good n) (kas_sort n):=by
 refine eA.bind (λr hr=>?_) (Mz ⟨h,Array.Perm.refl _⟩);split;·exact NK _ _ _ hr
 ·exact hr
def range_getD(vs:List α)(d:α):(List.range vs.length).map (λi=>vs.getD i d)=vs:=by
 refine Wo λi=>?_
 grind
section
variable {prog:Program}{w:World}{A:Around}{E:a8}{s:Shared}
end
def AA(h:Heap)(vs:List Value):Prop:=∀v∈vs,∃(a:Addr) (o:Obj) (n:Nat) (x y:Int) (t u:Tok),v=.ref a/\h.get? a=some o/\o.cls=.type "tuple"/\o.data=.seq #[.int x t,.int y u] n
theorem AA.T7:∀{vs:List Value},AA h vs->∃fs:List Value,KatTups h vs fs/\fs.length=vs.length/\∀v∈fs,∃x t,v=Value.int x t
 |[],_=>⟨[],KatTups.nil,rfl,λ_ h=>by cases h⟩
 |v::vs,hv=>by
  obtain⟨a,o,n,x,y,t,u,rfl,h1,h2,h3⟩:=hv v Yo;obtain⟨fs,k1,k2,k3⟩:=AA.T7 λz hz=>hv z (Yw _ hz);refine⟨.int x t::fs,KatTups.cons h1 h2 h3 rfl k1,by rw[Y7,Y7,k2],λv hv=>?_⟩
  grind
section
variable {prog:Program}{w:World}{A:Around}{E:a8}{s:Shared}
end
section
variable {prog:Program}{w:World}{A:Around}{E:a8}{s:Shared}
end
theorem M8:∀{as:List Addr} {us:List Value},Vals (as.map V.ref) us->us=as.map Value.ref
 |[],_,.nil=>rfl
 |a::as,u::us,.cons r t=>by
  rw[r,M8 t,Wp]
theorem M9:∀as:List Addr,Vals (as.map V.ref) (as.map Value.ref)
 |[]=>.nil
 |_::as=>.cons rfl (M9 as)
def Run{α:Type}(lt:Nat->Nat->Bool):KasT α->α
 |.ret a=>a
 |.ask i j k=>Run lt (k (lt i j))
theorem Run.bind:∀t:KasT α,Run lt (t.bind f)=Run lt (f (Run lt t))
 |.ret _=>rfl
 |.ask i j k=>Run.bind (k (lt i j))
theorem eA.run(hc:∀i j (C:Bool->Shared->Prop),i<n->j<n->C (lt i j) s->cmp i j C s):∀{t:KasT α},eA n P t->G (Run lt t) s->t.kasWp cmp G s
 |.ret _,_,hG=>hG
 |.ask i j k,h,hG=>hc i j _ h.1 h.2.1 (eA.run hc (h.2.2 _) hG)
structure kG(n:Nat)(lt:Nat->Nat->Bool):Prop where
 trans:∀i j k,i<n->j<n->k<n->lt i j=true->lt j k=true->lt i k=true
 B8:∀i j,i<n->j<n->i≠j->lt i j=false->lt j i=true
 ZgS:∀i j,i<n->j<n->lt i j=true->lt j i=false
def Sd(lt:Nat->Nat->Bool)(p:Array Nat)(m:Nat):Prop:=∀i j,i<j->j<m->lt (p.getD i 0) (p.getD j 0)=true
def Ds(lt:Nat->Nat->Bool)(p:Array Nat)(m:Nat):Prop:=∀i j,i<j->j<m->lt (p.getD j 0) (p.getD i 0)=true
def Good.size(g:Good n p):p.size=n:=by
 have:=g.2.size_eq
 grind
def Good.ne(g:Good n p)(hi:i<n)(hj:j<n)(ne:i≠j):p.getD i 0≠p.getD j 0:=by
 have nd:p.toList.Nodup:=by
  have:=(Jr.mp g.2).nodup_iff.mpr (by simpa using List.nodup_range);exact this
 have sz:=g.size;have e:∀k (hk:k<n),p.getD k 0=p.toList[k]'(by rw[W6];omega):=λk hk=>by
  simp_all
 have pw:=Wx.mp nd
 grind
section
variable {n:Nat}{lt:Nat->Nat->Bool}
def OQ(L:kG n lt)(g:Good n p)(h1:1<=m)(sd:Sd lt p m)(h:lt (p.getD (m-1) 0) (p.getD m 0)=true):Sd lt p (m+1):=by
 intro i j kH hj;by_cases e:j=m
 ·subst e;by_cases e2:i=j-1;·rw[e2];exact h
  ·exact L.trans _ _ _ (g.get _) (g.get _) (g.get _) (sd i (j-1) (by omega) (by omega)) h
 ·exact sd i j kH (by omega)
def Zde(L:kG n lt)(g:Good n p)(h1:1<=m)(ds:Ds lt p m)(h:lt (p.getD m 0) (p.getD (m-1) 0)=true):Ds lt p (m+1):=by
 intro i j kH hj;by_cases e:j=m
 ·subst e;by_cases e2:i=j-1;·rw[e2];exact h
  ·exact L.trans _ _ _ (g.get _) (g.get _) (g.get _) h (ds i (j-1) (by omega) (by omega))
 ·exact ds i j kH (by omega)
theorem Ak(L:kG n lt)(g:Good n p):∀f m,1<=m->m+f<=n->Sd lt p m->Sd lt p (Run lt (kas_asc p f m))/\m<=Run lt (kas_asc p f m)/\Run lt (kas_asc p f m)<=m+f
 |0,m,_,_,sd=>⟨sd,Yd _,Yd _⟩
 |f+1,m,h1,h2,sd=>by
  have e:Run lt (kas_asc p (f+1) m)=Run lt (if lt (p.getD m 0) (p.getD (m-1) 0)=true then KasT.ret m else kas_asc p f (m+1)):=rfl;rw[e];by_cases c:lt (p.getD m 0) (p.getD (m-1) 0)=true
  ·rw[if_pos c];exact⟨sd,Yd _,by show m<=_;omega⟩
  ·rw[if_neg c];have c':lt (p.getD m 0) (p.getD (m-1) 0)=false:=by cases z:lt (p.getD m 0) (p.getD (m-1) 0) with|true=>exact absurd z c|false=>rfl
   obtain⟨a,b,d⟩:=Ak L g f (m+1) (by omega) (by omega) (OQ L g h1 sd (L.B8 _ _ (g.get _) (g.get _) (g.ne (by omega) (by omega) (by omega)) c'))
   grind
theorem NL(L:kG n lt)(g:Good n p):∀f m,1<=m->m+f<=n->Ds lt p m->∃m',Run lt (kas_desc f p m 0)=(p,m',0)/\Ds lt p m'/\m<=m'/\m'<=m+f
 |0,m,_,_,ds=>⟨m,rfl,ds,Yd _,Yd _⟩
 |f+1,m,h1,h2,ds=>by
  have e:Run lt (kas_desc (f+1) p m 0)=Run lt (if lt (p.getD m 0) (p.getD (m-1) 0)=true then(if 0>0 then kas_desc f (kas_rev p (m-(0+1)) m) (m+1) 0 else kas_desc f p (m+1) 0) else KasT.ask (p.getD (m-1) 0) (p.getD m 0) λd=>if d=true then KasT.ret (p,m,0) else kas_desc f p (m+1) (0+1)):=rfl;rw[e];by_cases c:lt (p.getD m 0) (p.getD (m-1) 0)=true
  ·rw[if_pos c,if_neg (by omega)];obtain⟨m',a,b,d,d'⟩:=NL L g f (m+1) (by omega) (by omega) (Zde L g h1 ds c)
   grind
  ·rw[if_neg c];have c':lt (p.getD m 0) (p.getD (m-1) 0)=false:=by cases z:lt (p.getD m 0) (p.getD (m-1) 0) with|true=>exact absurd z c|false=>rfl
   have e2:Run lt (KasT.ask (p.getD (m-1) 0) (p.getD m 0) λd=>if d=true then KasT.ret (p,m,0) else kas_desc f p (m+1) (0+1))=Run lt (if lt (p.getD (m-1) 0) (p.getD m 0)=true then KasT.ret (p,m,0) else kas_desc f p (m+1) (0+1)):=rfl;rw[e2,if_pos (L.B8 _ _ (g.get m) (g.get (m-1)) (g.ne (by omega) (by omega) (by omega)) c')];exact⟨m,rfl,ds,Yd _,by omega⟩
def OR(hm:m<=p.size)(hi:i<m):(kas_rev p 0 m).getD i 0=p.getD (m-1-i) 0:=by
 unfold kas_rev;rw[Y9,getElem?_mirror_all hm,if_pos ⟨Yx _,hi⟩,←Y9]
 congr 1
 omega
def ZaW(L:kG n lt)(g:Good n p)(h1:1<=m)(hm:m<=n)(ds:Ds lt p m):Good n (Run lt (kas_tail3 m n p)).2/\Sd lt (Run lt (kas_tail3 m n p)).2 (Run lt (kas_tail3 m n p)).1/\m<=(Run lt (kas_tail3 m n p)).1/\(Run lt (kas_tail3 m n p)).1<=n:=by
 have sd:Sd lt (kas_rev p 0 m) m:=λi j kH hj=>by
  rw[OR (by rw[g.size];exact hm) (by omega),OR (by rw[g.size];exact hm) hj];exact ds _ _ (by omega) (by omega)
 have e:Run lt (kas_tail3 m n p)=(Run lt (kas_asc (kas_rev p 0 m) (n-m) m),kas_rev p 0 m):=by
  unfold kas_tail3;rw[Run.bind];rfl
 obtain⟨a,b,c⟩:=Ak L (g.rev 0 m) (n-m) m h1 (by omega) sd;rw[e];exact⟨g.rev 0 m,a,b,by show Run lt _<=n;omega⟩
def ZaX(L:kG n lt)(g:Good n p):Good n (Run lt (kas_count n p)).2/\Sd lt (Run lt (kas_count n p)).2 (Run lt (kas_count n p)).1/\1<=(Run lt (kas_count n p)).1/\(Run lt (kas_count n p)).1<=n:=by
 have n0:=g.1;obtain⟨sd,h1,h2⟩:=Ak L g (n-1) 1 (Yd _) (by omega) (λi j kH hj=>by omega);have e:Run lt (kas_count n p)=Run lt (if(Run lt (kas_asc p (n-1) 1)==n)=true then KasT.ret (Run lt (kas_asc p (n-1) 1),p) else if Run lt (kas_asc p (n-1) 1)>1 then KasT.ask (p.getD 0 0) (p.getD (Run lt (kas_asc p (n-1) 1)-1) 0) λc=>if c=true then KasT.ret (Run lt (kas_asc p (n-1) 1),p) else kas_descPart (Run lt (kas_asc p (n-1) 1)) n (kas_rev p 0 (Run lt (kas_asc p (n-1) 1))) else kas_descPart (Run lt (kas_asc p (n-1) 1)) n p):=by
  unfold kas_count;rw[Run.bind]
 rw[e];generalize er:Run lt (kas_asc p (n-1) 1)=r at sd h1 h2;by_cases c1:(r==n)=true
 ·rw[if_pos c1];exact⟨g,sd,h1,by show r<=n;omega⟩
 ·rw[if_neg c1];have rn:r≠n:=λz=>c1 (beq_iff_eq.mpr z);by_cases c2:r>1
  ·rw[if_pos c2];have e2:Run lt (KasT.ask (p.getD 0 0) (p.getD (r-1) 0) λc=>if c=true then KasT.ret (r,p) else kas_descPart r n (kas_rev p 0 r))=Run lt (if lt (p.getD 0 0) (p.getD (r-1) 0)=true then KasT.ret (r,p) else kas_descPart r n (kas_rev p 0 r)):=rfl;rw[e2,if_pos (sd 0 (r-1) (by omega) (by omega))];exact⟨g,sd,h1,by show r<=n;omega⟩
  ·rw[if_neg c2];have r1:r=1:=by omega
   subst r1;have hd:lt (p.getD 1 0) (p.getD 0 0)=true:=by
    have:n-1=(n-2)+1:=by omega
    rw[this] at er;have e3:Run lt (kas_asc p (n-2+1) 1)=Run lt (if lt (p.getD 1 0) (p.getD (1-1) 0)=true then KasT.ret 1 else kas_asc p (n-2) (1+1)):=rfl;rw[e3] at er;by_cases c:lt (p.getD 1 0) (p.getD (1-1) 0)=true;·exact c
    ·rw[if_neg c] at er;have c':lt (p.getD 1 0) (p.getD (1-1) 0)=false:=by cases z:lt (p.getD 1 0) (p.getD (1-1) 0) with|true=>exact absurd z c|false=>rfl
     have Km:Sd lt p 2:=OQ L g (m:=1) (Yd _) (λi j kH hj=>by omega) (L.B8 _ _ (g.get _) (g.get _) (g.ne (by omega) (by omega) (by omega)) c');obtain⟨_,b,_⟩:=Ak L g (n-2) 2 (by omega) (by omega) Km;rw[show 1+1=2 from rfl] at er;omega
   have ds2:Ds lt p 2:=λi j kH hj=>by
    grind
   obtain⟨m',a,b,c,d⟩:=NL L g (n-(1+1)) (1+1) (by omega) (by omega) ds2;have e4:Run lt (kas_descPart 1 n p)=Run lt (kas_tail3 m' n p):=by
    unfold kas_descPart;rw[Run.bind,a];dsimp only;rw[if_neg (by omega)]
   rw[e4];obtain⟨x1,x2,x3,x4⟩:=ZaW L g (m:=m') (by omega) (by omega) b;exact⟨x1,x2,by omega,x4⟩
theorem OS(L:kG n lt)(g:Good n p)(sd:Sd lt p n):∀f m,1<=m->m+f<=n->Run lt (kas_asc p f m)=m+f
 |0,_,_,_=>rfl
 |f+1,m,h1,h2=>by
  have e:Run lt (kas_asc p (f+1) m)=Run lt (if lt (p.getD m 0) (p.getD (m-1) 0)=true then KasT.ret m else kas_asc p f (m+1)):=rfl;rw[e,if_neg (by rw[L.ZgS _ _ (g.get _) (g.get _) (sd (m-1) m (by omega) (by omega))];exact Yj),OS L g sd f (m+1) (by omega) (by omega)];omega
def ZaY(L:kG n lt)(g:Good n p)(sd:Sd lt p n):Run lt (kas_count n p)=(n,p):=by
 have n0:=g.1;unfold kas_count;rw[Run.bind,(OS L g sd (n-1) 1 (Yd _) (by omega)),if_pos (beq_iff_eq.mpr (by omega))];show(1+(n-1),p)=(n,p)
 grind
theorem FD(L:kG n lt)(g:Good n p)(hk:k<n)(sd:Sd lt p k):∀f l r,l<=r->r<=k->r-l<=f->(∀i,i<l->lt (p.getD i 0) (p.getD k 0)=true)->(∀i,r<=i->i<k->lt (p.getD k 0) (p.getD i 0)=true)->
  Run lt (kas_place p k f l r)<=k/\(∀i,i<Run lt (kas_place p k f l r)->lt (p.getD i 0) (p.getD k 0)=true)/\∀i,Run lt (kas_place p k f l r)<=i->i<k->lt (p.getD k 0) (p.getD i 0)=true
 |0,l,r,h1,h2,h3,hl,hr=>⟨by show l<=k;omega,hl,λi (hi:l<=i) yx=>hr i (by omega) yx⟩
 |f+1,l,r,h1,h2,h3,hl,hr=>by
  rw[kas_place];by_cases c:l≥r
  ·rw[if_pos c];exact⟨by show l<=k;omega,hl,λi (hi:l<=i) yx=>hr i (by omega) yx⟩
  ·rw[if_neg c];have m1:l<=(l+r)/2:=by omega
   have m2:(l+r)/2<r:=by omega
   generalize(l+r)/2=m at m1 m2;have e2:Run lt (KasT.ask (p.getD k 0) (p.getD m 0) λc=>if c=true then kas_place p k f l m else kas_place p k f (m+1) r)=Run lt (if lt (p.getD k 0) (p.getD m 0)=true then kas_place p k f l m else kas_place p k f (m+1) r):=rfl;rw[e2];by_cases c2:lt (p.getD k 0) (p.getD m 0)=true
   ·rw[if_pos c2];refine FD L g hk sd f l m m1 (by omega) (by omega) hl λi hi yx=>?_;by_cases e:i=m;·rw[e];exact c2
    ·exact L.trans _ _ _ (g.get _) (g.get _) (g.get _) c2 (sd m i (by omega) yx)
   ·rw[if_neg c2];have c':lt (p.getD k 0) (p.getD m 0)=false:=by cases z:lt (p.getD k 0) (p.getD m 0) with|true=>exact absurd z c2|false=>rfl
    have t:=L.B8 _ _ (g.get k) (g.get m) (g.ne hk (by omega) (by omega)) c';refine FD L g hk sd f (m+1) r (by omega) h2 (by omega) (λi hi=>?_) hr;by_cases e:i=m;·rw[e];exact t
    ·exact L.trans _ _ _ (g.get _) (g.get _) (g.get _) (sd i m (by omega) (by omega)) t
theorem OT(L:kG n lt):∀f (p:Array Nat) k,Good n p->k+f=n->Sd lt p k->Good n (Run lt (kas_bin f p k))/\Sd lt (Run lt (kas_bin f p k)) n
 |0,p,k,g,e,sd=>by
  have e':k=n:=by omega
  refine⟨g,?_⟩;rw[←e'];exact sd
 |f+1,p,k,g,e,sd=>by
  have hk:k<n:=by omega
  obtain⟨a,b,c⟩:=FD L g hk sd k 0 k (Yx _) (Yd _) (by omega) (λi hi=>absurd hi (Wk _)) (λi h1 h2=>by omega);have e2:Run lt (kas_bin (f+1) p k)=Run lt (kas_bin f (bubble p k (k-Run lt (kas_place p k k 0 k))) (k+1)):=by
   rw[kas_bin,Run.bind]
  rw[e2];generalize Run lt (kas_place p k k 0 k)=l at a b c;have gb:Good n (bubble p k (k-l)):=⟨g.1,(bubble_perm p k _).trans g.2⟩;have sz:=g.size;have get:∀i,(bubble p k (k-l)).getD i 0=if i=l then p.getD k 0 else if l<i/\i<=k then p.getD (i-1) 0 else p.getD i 0:=λi=>by
   have h:=getElem?_bubble (xs:=p) (src:=k) (by omega) (k-l) (by omega) i;rw[show k-(k-l)=l by omega] at h;rw[Y9,h];by_cases z:i=l;·rw[if_pos z,if_pos z,←Y9]
   ·rw[if_neg z,if_neg z];by_cases z2:l<i/\i<=k;·rw[if_pos z2,if_pos z2,←Y9]
    ·rw[if_neg z2,if_neg z2,←Y9]
  refine OT L f _ (k+1) gb (by omega) λi j kH hj=>?_;rw[get i,get j];by_cases i1:i=l
  ·rw[if_pos i1,if_neg (by omega),if_pos (by omega)];exact c (j-1) (by omega) (by omega)
  ·rw[if_neg i1];by_cases i2:l<i/\i<=k
   ·rw[if_pos i2,if_neg (by omega),if_pos (by omega)];exact sd (i-1) (j-1) (by omega) (by omega)
   ·rw[if_neg i2];have il:i<l:=by omega
    by_cases j1:j=l;·rw[if_pos j1];exact b i il
    ·rw[if_neg j1];by_cases j2:l<j/\j<=k
     ·rw[if_pos j2];exact sd i (j-1) (by omega) (by omega)
     ·rw[if_neg j2];exact sd i j kH (by omega)
def ZbY(L:kG n lt)(h:0<n):Good n (Run lt (kas_sort n))/\Sd lt (Run lt (kas_sort n)) n:=by
 obtain⟨a,b,c,d⟩:=ZaX L ⟨h,Array.Perm.refl _⟩;have e:Run lt (kas_sort n)=Run lt (if(Run lt (kas_count n (List.toArray (List.range n)))).1<n then kas_bin (n-max (Run lt (kas_count n (List.toArray (List.range n)))).1 1) (Run lt (kas_count n (List.toArray (List.range n)))).2 (max (Run lt (kas_count n (List.toArray (List.range n)))).1 1) else KasT.ret (Run lt (kas_count n (List.toArray (List.range n)))).2):=by
  unfold kas_sort;rw[Run.bind]
 rw[e];generalize Run lt (kas_count n (List.toArray (List.range n)))=r at a b c d;have mx:max r.1 1=r.1:=by omega
 by_cases z:r.1<n
 ·rw[if_pos z,mx];exact OT L _ _ _ a (by omega) b
 ·rw[if_neg z];have:r.1=n:=by omega
  refine⟨a,?_⟩;rw[this] at b;exact b
end
def dJ(p q:Int×Int):Prop:=p.1<q.1\/(p.1=q.1/\p.2<q.2)
def ltB(p q:Int×Int):Bool:=if p.1=q.1 then decide (p.2<q.2) else decide (p.1<q.1)
def ltB_iff:ltB p q=true↔dJ p q:=by
 unfold ltB dJ
 grind
def kI(ps:List (Int×Int))(i j:Nat):Bool:=ltB (ps.getD i (0,0)) (ps.getD j (0,0))
theorem Ze1(nd:ps.Nodup):kG ps.length (kI ps):=by
 have fl:∀{p q:Int×Int},ltB p q=false->¬dJ p q:=λ{p q} h z=>by rw[ltB_iff.mpr z] at h;cases h
 refine⟨λi j k _ _ _ h1 h2=>?_,λi j hi hj ne h=>?_,λi j _ _ h=>?_⟩
 ·have a:=ltB_iff.mp h1;have b:=ltB_iff.mp h2;refine ltB_iff.mpr ?_;unfold dJ at*;omega
 ·refine ltB_iff.mpr ?_;have a:=fl h;have e:ps.getD i (0,0)≠ps.getD j (0,0):=by
   rw[Yf,Yf,Yc hi,Yc hj];have pw:=Wx.mp nd
   grind
  have e':¬((ps.getD i (0,0)).1=(ps.getD j (0,0)).1/\(ps.getD i (0,0)).2=(ps.getD j (0,0)).2):=λz=>e (Prod.ext z.1 z.2);unfold dJ at*;omega
 ·cases z:kI ps j i with
  |false=>rfl
  |true=>
   have a:=ltB_iff.mp h;have b:=ltB_iff.mp z;unfold dJ at a b;omega
def sv(h:Heap)(vs:List Value)(ps:List (Int×Int)):Prop:=Paired (λv (p:Int×Int)=>∃(a:Addr) (o:Obj) (n:Nat) (t u:Tok),v=.ref a/\h.get? a=some o/\o.cls=.type "tuple"/\o.data=.seq #[.int p.1 t,.int p.2 u] n) vs ps
theorem sv.g_(q:sv h vs ps):AA h vs:=by
 intro v hv;induction q with
 |nil=>cases hv
 |cons f _ ih=>grind
def En{α β:Type}{F:α->β->Prop}{xs:List α}{ys:List β}(h:Paired F xs ys){i:Nat}(hi:i<xs.length)(x:α)(y:β):F (xs.getD i x) (ys.getD i y):=by
 obtain⟨b,e,f⟩:=gH h (Yc hi)
 grind
section
variable {prog:Program}{w:World}{A:Around}{E:a8}{s:Shared}
def ZbZ{vs:List Value}{ps:List (Int×Int)}(tv:sv s.heap vs ps){i j:Nat}{C:Bool->Shared->Prop}(hi:i<vs.length)(hj:j<vs.length)(hC:C (kI ps i j) s):kas_ask prog w A (tuples' true) vs i j C s:=by
 unfold kas_ask;obtain⟨a,o,n,t,u,e1,h1,h2,h3⟩:=En tv hi Value.none (0,0);obtain⟨a',o',n',t',u',tE,lM,lN,T8⟩:=En tv hj Value.none (0,0);unfold kI at hC;rw[e1,tE];generalize ps.getD i (0,0)=p at hC h3;generalize ps.getD j (0,0)=q at hC T8;refine kat_lt h1 h3 lM T8 ?_;unfold ltB at hC;refine kat_cons (SeqAt.EqAt.int_int p.1 t q.1 t' prog w _ _ (kat_go (λb1=>kat_yes (kat_cons (SeqAt.EqAt.int_int p.2 u q.2 u' prog w _ _ (kat_go (λb2=>kat_yes (kat_nil ?_)) λb2=>kat_no ?_)))) λb1=>kat_no ?_));·grind
 ·rw[if_pos (beq_iff_eq.mp b1)] at hC;exact kat_one _ _ (lt_int hC)
 ·rw[if_neg (λz=>by rw[beq_iff_eq.mpr z] at b1;cases b1)] at hC;show wpAny _ _ (oneLt' true _ _) _ _ _;exact kat_lt_int hC
def Ze2
  (hQ:∀aJ:SortSt,arrOf aJ=(List.toArray (List.range 64)).map (kas_item it)->failedOf aJ=none->Q () aJ s)
  (h:(kas_count 64 (List.toArray (List.range 64))).kasWp (kas_cmp prog w A κ it) (λr s'=>r=(64,List.toArray (List.range 64))/\s'=s) s):kasC (model prog w) A E sortRuns' Q (kas_st κ it (List.toArray (List.range 64))) s:=by
 have Sw:(List.toArray (List.range 64)).size=64:=rfl;have szA:(arrOf (kas_st κ it (List.toArray (List.range 64)))).size=64:=(Array.size_map (f:=kas_item it)).trans Sw;have mr:minRun' 64 64 0=32:=by decide+kernel
 rw[sortRuns'_eq];refine kasC_bind (kasC_get ?_);(try dsimp only);simp only[szA,mr];refine kasC_bind (kasC_range ?_);show kasC _ _ _ (forIn (0::1::List.range' 2 62) _ _) _ _ _;refine kasC_cons ?_;(try dsimp only);rw[if_neg (show ¬(0:Nat)≥64 by omega)];simp only[Nat.sub_zero];refine kasC_bind (kas_count_ (show 1<=64 by omega) (JM Sw.symm) (λm p' s' _ _ _ hg=>?_) h);obtain⟨e,rfl⟩:=hg;cases e;(try dsimp only);rw[if_neg (show ¬(64:Nat)<32 by omega)];refine kasC_bind (kasC_get ?_);rw[show(pendingOf (kas_st κ it (List.toArray (List.range 64)))).back?=none from rfl];(try dsimp only);refine kasC_bind (kasC_modify (kasC_pure ?_));show kasC _ _ _ (forIn (1::List.range' 2 62) _ _) _ _ _;refine kasC_cons ?_;(try dsimp only);rw[if_pos (show(0:Nat)+64≥64 by omega)];refine kasC_pure ?_;(try dsimp only);refine kasC_bind (kasC_range ?_);show kasC _ _ _ (forIn (0::1::List.range' 2 62) _ _) _ _ _;refine kasC_cons ?_;refine kasC_bind (kasC_get ?_);(try dsimp only);rw[if_pos (show(pendingOf (setPending (kas_st κ it (List.toArray (List.range 64))) ((pendingOf (kas_st κ it (List.toArray (List.range 64)))).push (0,64,0)))).size<=1 from Yd 1)];refine kasC_pure ?_;(try dsimp only);exact kasC_pure (hQ _ rfl rfl)
def Xl{R:Array Nat->Prop}{a:Addr}{vs:List Value}{n:Nat}{P:PySem.Fin->Shared->Prop}(ho:s.heap.get? a=some (seqObj "list" vs.toArray n))(jw:vs.length<=64)
  (hk:2<=vs.length->∀h':Heap,(∀b o,b≠a->s.heap.get? b=some o->h'.get? b=some o)->∃κ:SortKind,(∀(Q:SortKind->Shared->Prop),Q κ {s with heap:=h'}->wpAny (model prog w) A (keyKind' vs.toArray) Q E {s with heap:=h'})/\
   ∀Q':SortSt->Shared->Prop,(∀(p:Array Nat) (aJ:SortSt),p.size=vs.length->arrOf aJ=p.map (kas_item (vs.toArray.zip vs.toArray))->failedOf aJ=none->Good vs.length p->R p->Q' aJ {s with heap:=h'})->wpAny (model prog w) A (sortRuns'.run (SortSt.mk' κ (vs.toArray.zip vs.toArray) #[] 7 none)) (λr s'=>Q' r.2 s') E {s with heap:=h'})
  (h:∀out:List Value,out.Perm vs->(2<=vs.length->∃p:Array Nat,Good vs.length p/\R p/\out=p.toList.map λi=>vs.getD i Value.none)->P (.done (.ret .none)) {s with heap:=sortedHeap s.heap a vs out.toArray}):
  wpAny (model prog w) A (Builtin.«list.sort» ⟨[.ref a],[]⟩) P E s:=by
 rw[list_sort_plain];have ha:a<s.heap.objs.size:=Ys ho;refine wpAny_bind (listItems_at ho rfl ?_);refine wpAny_bind (listUpdate_at ho rfl ?_);obtain⟨e1,qR⟩:∃e1,(s.heap.update a (Obj.mapSeq λ_=>#[])).get? a=some (seqObj "list" #[] e1):=⟨_,get?_update_seq ho (λ_=>#[])⟩;refine wpAny_bind (seqEpoch_at qR rfl ?_);refine wpAny_bind (wpAny_newTuple ?_);refine wpAny_bind (wpAny_newList ?_);refine wpAny_holding ?_;have B9:(((s.heap.update a (Obj.mapSeq λ_=>#[])).push (seqObj "tuple" vs.toArray 0)).push (seqObj "list" #[] 0)).get? a=some (seqObj "list" #[] e1):=by
  rw[J8 _ _ _ (by rw[size_push',Heap.size_update];exact Yy (Wu ha)),J8 _ _ _ (by rw[Heap.size_update];exact Yy ha)];exact qR
 have keep:∀b o,b≠a->s.heap.get? b=some o->(((s.heap.update a (Obj.mapSeq λ_=>#[])).push (seqObj "tuple" vs.toArray 0)).push (seqObj "list" #[] 0)).get? b=some o:=λb o nb e=>
  Yb _ (Yb _ (by rw[TU _ _ _ _ nb];exact e))
 dsimp only;have hsz:vs.toArray.size=vs.length:=by simp
 by_cases h2:vs.toArray.size<2
 ·rw[if_pos h2,if_pos h2];refine wpAny_bind (wpAny_pure ?_);rw[StateT.run_pure];refine wpAny_bind (wpAny_pure ?_);dsimp only;refine wpAny_bind (seqEpoch_at B9 rfl ?_);refine wpAny_bind (listUpdate_at B9 rfl ?_ (hsz2:=by rw[Array.size_map];show(pairsOf vs).size<=_;rw[pairsOf_size,sizeLine_eq];omega));simp only[bne_self_eq_false,Bool.false_eq_true,if_false];have e:(arrOf (SortSt.mk' general' (vs.toArray.zip vs.toArray) #[] 7 none)).map (·.2)=vs.toArray:=by
   grind
  have:=h vs (List.Perm.refl _) (λz=>by omega);rw[←e] at this;exact wpAny_pure this
 ·rw[if_neg h2,if_neg h2];have lN:2<=vs.length:=by omega
  obtain⟨κ,kk,cmp⟩:=hk lN _ keep;refine wpAny_bind (kk _ ?_);refine wpAny_bind (wpAny_mono (cmp (λaJ s'=>s'={s with heap:=((s.heap.update a (Obj.mapSeq λ_=>#[])).push (seqObj "tuple" vs.toArray 0)).push (seqObj "list" #[] 0)}/\∃p:Array Nat,p.size=vs.length/\arrOf aJ=p.map (kas_item (vs.toArray.zip vs.toArray))/\failedOf aJ=none/\R p/\Good vs.length p) λp aJ a1 a2 a3 a4 a5=>⟨rfl,p,a1,a2,a3,a5,a4⟩) ?_ λ_ _ e=>e);rintro⟨⟨⟩,aJ⟩ s' ⟨rfl,p,hp,har,hf,ep,g⟩;dsimp only;have Sx:=kat_snds rfl har;have perm:(p.toList.map λi=>vs.getD i Value.none).Perm vs:=by
   have e1:p.toList.Perm (List.range vs.length):=by
    have:=Jr.mp g.2;simpa using this
   have e2:=e1.map λi=>vs.getD i Value.none;rw[range_getD] at e2;exact e2
  refine wpAny_bind (seqEpoch_at B9 rfl ?_);refine wpAny_bind (listUpdate_at B9 rfl ?_ (hsz2:=by rw[Sx,Yv,perm.length_eq,sizeLine_eq];omega));rw[hf];simp only[bne_self_eq_false,Bool.false_eq_true,if_false];have:=h _ perm (λ_=>⟨p,g,ep,rfl⟩);rw[←Sx] at this;exact wpAny_pure this
def FE{aL:List (Int×Int)}(h:aL.Pairwise dJ):aL.Nodup:=by
 refine h.imp ?_;rintro a b h rfl;unfold dJ at h;omega
def Zb0(h:ps.Pairwise dJ):Sd (kI ps) (List.toArray (List.range ps.length)) ps.length:=λi j kH hj=>by
 have e:∀k,k<ps.length->(List.toArray (List.range ps.length)).getD k 0=k:=λk hk=>by
  simp_all
 rw[e i (by omega),e j hj];refine ltB_iff.mpr ?_;rw[Yf,Yf,Yc (by omega),Yc hj];exact Wx.mp h i j (by omega) hj kH
def Zf5{κ:SortKind}{ai:List Value}{ps:List (Int×Int)}{Q':SortSt->Shared->Prop}(Kn:ai.length=64)(lp:ai.length=ps.length)(L:kG ai.length (kI ps))(pw:ps.Pairwise dJ)(ask:∀i j (C:Bool->Shared->Prop),i<ai.length->j<ai.length->C (kI ps i j) s->kas_ask prog w A κ ai i j C s)
  (Ko:∀(p:Array Nat) (aJ:SortSt),p.size=ai.length->arrOf aJ=p.map (kas_item (ai.toArray.zip ai.toArray))->failedOf aJ=none->Good ai.length p->Sd (kI ps) p ai.length->Q' aJ s):wpAny (model prog w) A (sortRuns'.run (SortSt.mk' κ (ai.toArray.zip ai.toArray) #[] 7 none)) (λr s'=>Q' r.2 s') E s:=by
 have gR:Good ai.length (List.toArray (List.range ai.length)):=⟨by omega,Array.Perm.refl _⟩;have T9:Sd (kI ps) (List.toArray (List.range ai.length)) ai.length:=by rw[lp];exact Zb0 pw
 rw[kat_ask_eq (vs:=ai) rfl] at ask;have sz0:(ai.toArray.zip ai.toArray).size=ai.length:=by simp
 have Kp:SortSt.mk' κ (ai.toArray.zip ai.toArray) #[] 7 none=kas_st κ (ai.toArray.zip ai.toArray) (List.toArray (List.range ai.length)):=by
  unfold kas_st;rw[←sz0,kas_range]
 rw[Kp];have wp:=eA.run (G:=λr s'=>r=(ai.length,List.toArray (List.range ai.length))/\s'=s) ask (Mz gR) ⟨(ZaY L gR T9),rfl⟩;have T_:=λaJ a b=>Ko _ aJ (by simp) a b gR T9;rw[Kn] at wp T_⊢;exact Ze2 (Q:=λ_ aJ s'=>Q' aJ s') T_ wp
def XJ(ho:s.heap.get? l=some o)(hc:o.cls=.type "list")(hd:o.data=.seq ai.toArray n)(tv:sv s.heap ai ps)(nd:ps.Nodup)(jw:ai.length<64\/(ai.length=64/\ps.Pairwise dJ))(hsz:ai.toArray.size<=sizeLine)
  (h:∀(h1 h':Heap) (out:List Value) (e:Nat),(∀b o,s.heap.get? b=some o->h1.get? b=some o)->(∀b o,h1.get? b=some o->h'.get? b=some o)->h'.get? h1.objs.size=some (seqObj "list" out.toArray e)->out.Perm ai->(2<=ai.length->∃p:Array Nat,Good ai.length p/\Sd (kI ps) p ai.length/\out=p.toList.map λi=>ai.getD i Value.none)->Q (.ref h1.objs.size) {s with heap:=h'}):
  wpAny (model prog w) A (call (.builtin "sorted") [.ref l]) Q E s:=by
 refine Calls.call_function_entry kind_sorted plain_sorted entry_sorted (args_sorted1 _) ?_;unfold Builtin.«sorted»;refine wpAny_bind (m:=checkCount "sorted" 1 1 _) (wpAny_pure ?_);refine wpAny_bind (wpAny_collect_seq l (.inl rfl) ho hc hd (λh1 kp=>?_) hsz);refine wpAny_bind (wpAny_newList ?_);have e1:ai.toArray.toList=ai:=by simp
 rw[e1];have pC:(h1.push (seqObj "list" ai.toArray 0)).get? h1.objs.size=some (seqObj "list" ai.toArray 0):=Yu _ rfl;refine wpAny_bind (wpAny_holding (wpAny_call_entry slot_list_sort ⟨_,pC,rfl⟩ entry_list_sort (Xl (R:=λp=>Sd (kI ps) p ai.length) pC (by omega) (λh2 h' kp'=>?_) λout pm eo=>⟨_,rfl,?_⟩) (args_list_sort _)))
 ·have Kq:sv h' ai ps:=L2.Paired.bq tv λv p ⟨a,o,n,t,u,e,q1,q2,q3⟩=>by
   have Ua:=kp _ _ q1;exact⟨a,o,n,t,u,e,kp' _ _ (Yy (Ys Ua)) (Yb _ Ua),q2,q3⟩
  obtain⟨fs,k1,k2,k3⟩:=Kq.g_.T7;have lp:=cU Kq;have ask:∀(B:Around) i j (C:Bool->Shared->Prop),i<ai.length->j<ai.length->C (kI ps i j) {s with heap:=h'}->kas_ask prog w B (tuples' true) ai i j C {s with heap:=h'}:=λB i j C hi hj hC=>ZbZ (s:={s with heap:=h'}) Kq hi hj hC;have L:=Ze1 nd;rw[←lp] at L;refine⟨tuples' true,λQ hQ=>?_,λQ' Ko=>?_⟩
  rotate_left
  ·rcases jw with lt|⟨Kn,pw⟩
   ·obtain⟨g,sd⟩:=ZbY L (by omega);refine kat_run (ks:=ai) (vs:=ai) (G:=λp s'=>s'={s with heap:=h'}/\p=Run (kI ps) (kas_sort ai.length)) rfl h2 lt (λp aJ s' a1 a2 a3 a4=>?_) (eA.run (ask _) (ZaV (by omega)) ⟨rfl,rfl⟩)
    grind
   ·exact Zf5 (s:={s with heap:=h'}) Kn lp L pw (ask _) Ko
  refine kat_kind (s:={s with heap:=h'}) (T:=.type "int") k1 (by omega) (λv hv=>?_) (by decide) hQ;obtain⟨x,t,rfl⟩:=k3 v hv;exact .now
 ·obtain⟨e,he⟩:=sortedHeap_at (out:=out.toArray) pC;exact wpAny_pure ⟨_,rfl,h h1 _ out e kp (λb ob hb=>by
   have bT:=Ys hb;rw[sortedHeap_old (Yy bT) (by rw[size_push'];exact Wu bT),J8 _ _ _ (Yy bT)];exact hb) he pm eo⟩
end
def Zb1(K:ah):List V->Hp->VK->Prop:=λxs H Q=>∃(p:Addr) (as:List Addr) (aL:List (Int×Int)),xs=[.ref p]/\ak K H p (as.map V.ref)/\Paired (λa (p:Int×Int)=>H a=some (.tup [.int p.1,.int p.2])) as aL/\aL.Nodup/\(as.length<64\/(as.length=64/\aL.Pairwise dJ))/\
 ∀(iY:List Addr) (mG:List (Int×Int)),Paired (λa (p:Int×Int)=>H a=some (.tup [.int p.1,.int p.2])) iY mG->mG.Perm aL->mG.Pairwise dJ->Nw H (.lst (iY.map V.ref)) Q
theorem Mb:∀{zs:List γ},(∀z∈zs,F (f z) (g z))->Paired F (zs.map f) (zs.map g)
 |[],_=>.nil
 |z::zs,h=>.cons (h z Yo) (Mb λz hz=>h z (Yw _ hz))
theorem NM{X:Cx}{K:ah}(hK:X.K=K):c7 X (.builtin "sorted") (Zb1 K):=by
 subst hK;intro pins s σ H xs us Q I r h;obtain⟨p,as,aL,rfl,hq,ht,nd,jw,q⟩:=h;obtain⟨u,rfl,rx⟩:=vals1 r;cases rx;obtain⟨ai,r',pl,hz⟩:=I.list hq;obtain⟨o,n,ho,hc,_,hd⟩:=pl;have ei:=M8 r';subst ei;rw[Ya] at hz;have lp:=cU ht;have tq:sv s.heap (as.map Value.ref) aL:=by
  have aux:∀{as:List Addr} {aL:List (Int×Int)},Paired (λa (p:Int×Int)=>H a=some (.tup [.int p.1,.int p.2])) as aL->sv s.heap (as.map Value.ref) aL:=λ{as aL} h=>by
   induction h with
   |nil=>exact .nil
   |cons h1 _ ih=>
    refine .cons ?_ ih;obtain⟨iR,r2,⟨o2,g1,g2,n2,g3⟩,_⟩:=I.tuple (aB.of h1);obtain⟨u1,u2,rfl,⟨t1,rfl⟩,⟨t2,rfl⟩⟩:=vals2 r2
    grind
  exact aux ht
 refine XJ (ps:=aL) ho hc hd tq nd (by rw[Ya];exact jw) (by rw[Yv,Ya];exact hz) λh1 h' out e kp JZ he pm eo=>?_;have I1:Inv X pins σ H {s with heap:=h1}:=I.kept (t':=s.toks) kp;obtain⟨iY,mG,ZgT,pa,pr,pw⟩:∃(iY:List Addr) (mG:List (Int×Int)),out=iY.map Value.ref/\Paired (λa (p:Int×Int)=>H a=some (.tup [.int p.1,.int p.2])) iY mG/\mG.Perm aL/\mG.Pairwise dJ:=by
  by_cases z:2<=(as.map Value.ref).length
  ·have eo:=eo z;rw[Ya] at eo z;obtain⟨P,g,sd,eo⟩:=eo;rw[lp] at g sd;have e1:P.toList.Perm (List.range aL.length):=by
    have:=Jr.mp g.2;simpa using this
   have fV:∀i∈P.toList,i<aL.length:=λi hi=>Wg.mp (e1.subset hi);refine⟨P.toList.map λi=>as.getD i 0,P.toList.map λi=>aL.getD i (0,0),?_,Mb λi hi=>En ht (by rw[lp];exact fV i hi) 0 (0,0),?_,?_⟩
   ·rw[eo,Wi];refine W7 λi hi=>?_;have:=fV i hi;show(as.map Value.ref).getD i Value.none=Value.ref (as.getD i 0);rw[Yf,Ye,Yc (by omega),Yf,Yc (by omega)];rfl
   ·have:=e1.map λi=>aL.getD i (0,0);rw[range_getD] at this;exact this
   ·rw[W1,Wx];intro i j hi hj kH;have sz:=g.size;have gi:P.toList[i]=P.getD i 0:=by
     rw[W6] at hi;simp_all
    have gj:P.toList[j]=P.getD j 0:=by
     rw[W6] at hj;simp_all
    rw[gi,gj];rw[W6] at hj;exact ltB_iff.mp (sd i j kH (by omega))
  ·rw[Ya] at z;have eq:out=as.map Value.ref:=by
    match as,out,z,pm with
    |[],out,_,pm=>exact List.Perm.eq_nil pm
    |[a],out,_,pm=>exact List.Perm.eq_singleton pm
    |_::_::_,_,z,_=>exact absurd (by simp) z
   refine⟨as,aL,eq,ht,List.Perm.refl _,?_⟩;match aL,lp with
   |[],_=>exact .nil
   |[a],_=>exact List.pairwise_singleton _ _
   |_::_::_,lp=>exact absurd lp (by simp;omega)
 refine⟨.ref h1.objs.size,_,I1.laid (t':=s.toks) (o:=.lst (iY.map V.ref)) JZ (Yd _) ⟨?_,out,e,by rw[ZgT];exact M9 iY,by simpa[seqObj] using he⟩,rfl,(q iY mG pa pr pw).at _ (I1.aw.fresh (Yd _))⟩;rw[Ya,cU pa,pr.length_eq];exact Jk (jV (by omega))
end L2
namespace L2
open PySem PySem.Spec PyProof.Rows
def nA{X:Cx}{K:ah}{ex:Expr}{T:String}{r:V->List V->Hp->VK->Prop}{to:TE}{t:TA}(h:X.K=K)(p:PE X ex (yi X.K T r to t)):PE X ex (yi K T r to t):=h▸p
def Zdf{X:Cx}{K:ah}{ex:Expr}{T:String}{r:V->List V->Hp->VK->Prop}{to:TE}(h:X.K=K)(p:PE X ex (Ik X.K T r to)):PE X ex (Ik K T r to):=h▸p
def FG{X:Cx}{K:ah}{a:Expr}{ta:TE}(h:X.K=K)(p:PT X a (λσ H Q=>ta σ H λx H'=>∃k,AW X.K x H' k/\Q k H')):PT X a (λσ H Q=>ta σ H λx H'=>∃k,AW K x H' k/\Q k H'):=h▸p
def OU{X:Cx}{K:ah}{f:Value->Value->Sem Value}{b:Bool}(h:X.K=K)(p:cG X f (A5 X.K b)):cG X f (A5 K b):=h▸p
def oX(H0:Hp)(d:Addr):Prop:=(∀xs,H0 d≠some (.tup xs))/\(∀o u,H0 d≠some (.cA o u))/\∀ps,H0 d≠some (.qI ps)
section
variable {X:Cx}{pins:aU}{σ:St}{H:Hp}{s:Shared}{d:Addr}{kvs:List (Key×V)}
def Inv.RH(I:Inv X pins σ H s)(e:H d=some (.dK kvs)):oX X.lu d:=
 ⟨(λxs z=>by have:=I.base.g_ d xs z;rw[e] at this;cases this),(λo u z=>by have:=I.base.ig d o u z;rw[e] at this;cases this),(λps z=>by obtain⟨m,h⟩:=I.base.iP d ps z;rw[e] at h;cases h)⟩
def Inv.swap(I:Inv X pins σ H s)(e:H d=some o)(nf:oX X.lu d)(no:∀a,o≠.own a)(nt:∀xs,o≠.tup xs)(ok:cJ X.prog X.w H s.heap d o'):Inv X pins σ (upd H d o') s:=by
 have ie:∀{a:Addr} {o1:HO},cJ X.prog X.w H s.heap a o1->cJ X.prog X.w (upd H d o') s.heap a o1:=λ{a o1} x=>x.ie (λ_ _ _ z=>z)
  (λb z=>by rw[aK (λq=>no a (Yn (e.symm.trans (by rw[←q];exact z))))];exact z)
  (λb xs z=>by rw[aK (λq=>nt xs (Yn (e.symm.trans (by rw[←q];exact z))))];exact z)
 have ne:∀{b:Addr},H b=none->b≠d:=λ{b} hb z=>by rw[z,e] at hb;cases hb
 refine⟨I.ok,I.os,I.bare,⟨I.base.keep,I.base.slot,λb ob q n hx=>?_,I.base.there,λb xs q=>?_,λb ob u q=>?_,λb ps q=>?_⟩,I.loc,I.cell,?_,λx c ec=>?_,λp hp=>?_,λa o1 e1=>?_,I.len⟩
 ·have h:=I.base.free b ob q n hx;rw[aK (ne h)];exact h
 ·rw[aK (λz=>nf.1 xs (by rw[←z];exact q))];exact I.base.g_ b xs q
 ·rw[aK (λz=>nf.2.1 ob u (by rw[←z];exact q))];exact I.base.ig b ob u q
 ·rw[aK (λz=>nf.2.2 ps (by rw[←z];exact q))];exact I.base.iP b ps q
 ·rw[aK (ne I.free)];exact I.free
 ·rw[aK (ne (I.ib x c ec))];exact I.ib x c ec
 ·obtain⟨p1,p2,p3⟩:=I.pin p hp;exact⟨p1,by rw[aK (ne p2)];exact p2,p3⟩
 ·by_cases z:a=d
  ·subst z;rw[aR] at e1
   grind
  ·rw[aK z] at e1;exact ie (I.aw a o1 e1)
end
def Zf6(h:(dE P w).is k u=true):RelV (kV k) u:=by
 rcases lW h with⟨i,t,rfl,rfl⟩|⟨x,t,rfl,rfl⟩;·exact⟨t,rfl⟩
 ·exact⟨t,rfl⟩
def Qy:∀{kvs:List (Key×V)} {vs:List (Key×Value)} {i:Nat} {k:Key} {y:V},KV kvs vs->kvs[i]?=some (k,y)->∃v,vs[i]?=some (k,v)/\RelV y v:=λ{kvs vs i k y} r h=>by
 obtain⟨q,e,h1,h2⟩:=gH (F:=λ(p:Key×V) (q:Key×Value)=>p.1=q.1/\RelV p.2 q.2) r h
 grind
def AB(I:Inv X pins σ H s)(e:H d=some (.cA od (.dK kvs)))(jM:od.data=.dict es ep):∃vs,KV kvs vs/\s.heap.DictAt (dE X.prog X.w) d vs ep:=by
 obtain⟨g,_,_,vs,rel,o,BI,BJ,h1,h2,h3,h4⟩:=(show cJ X.prog X.w H s.heap d (.cA od (.dK kvs)) from I.aw d _ e);rw[g] at h1;cases h1;rw[jM] at h3;cases h3;exact⟨vs,rel,od,es,g,h2,jM,h4⟩
def Inv.A6(I:Inv X pins σ H s)(nf:oX X.lu d)(e:H d=some (.cA od (.dK kvs))):Inv X pins σ (upd H d (.dK kvs)) s:=
 I.swap e nf (λa z=>by cases z) (λxs z=>by cases z) (show cJ X.prog X.w H s.heap d (.cA od (.dK kvs)) from I.aw d _ e).2
def Kr(d:Addr)(od:Obj)(kvs:List (Key×V)):It:=⟨λi H=>H d=some (.cA od (.dK kvs))/\i<kvs.length,λi H v H'=>H'=H/\∃k y,kvs[i]?=some (k,y)/\v=kV k,λi H=>H d=some (.cA od (.dK kvs))/\kvs.length<=i⟩
def ZaZ{P:Program}{w:World}{K:ah}{tg:Expr}(it d:Addr)(od:Obj)(es:Array DictEntry)(ep:Nat)(jM:od.data=.dict es ep)(kvs:List (Key×V)):Turn P w K tg (Kr d od kvs) [it] it (λi h=>h.IsKeyIter it d i kvs.length ep) where
 mem:=by simp
 obj:=λi h st b hb=>by
  have e:b=it:=by simpa using hb
  obtain⟨o,e,c,dd⟩:=st
  grind
 keep:=λi h h' st k=>let⟨o,e,r⟩:=st;⟨o,k it (by simp) o e,r⟩
 item:=by
  intro X hP hw hK hc i pins s σ H E I hf st hg;subst hP hw hK;obtain⟨f0,f1,f2,f3,f4,f5⟩:=hf it (by simp);obtain⟨hz,bT⟩:=hg;obtain⟨vs,rel,da⟩:=AB I hz jM;have ll:=rel.length;obtain⟨k,y,hk⟩:∃k y,kvs[i]?=some (k,y):=⟨kvs[i].1,kvs[i].2,Yc bT⟩;obtain⟨v,hv,ry⟩:=Qy rel hk;rw[ll] at st;refine wpAny_pyNext_dict_item st da hv λkey h' nI aJ sb=>?_;obtain⟨o,e,c,dd⟩:=id aJ;exact⟨_,rfl,sh e c dd (by decide) ⟨kV k,H,(I.turned (λb o hb e=>sb.extBut b o hb e) f0 f1 f3 f4 f5),Zf6 nI,⟨rfl,k,y,hk,rfl⟩,by rw[ll];exact aJ,λb hb=>(hf b hb).1⟩⟩
 done:=by
  intro X hP hw hK hc i pins s σ H E I hf st hg;subst hP hw hK;obtain⟨f0,f1,f2,f3,f4,f5⟩:=hf it (by simp);obtain⟨hz,hle⟩:=hg;obtain⟨vs,rel,da⟩:=AB I hz jM;have ll:=rel.length;rw[ll] at st;exact wpAny_pyNext_dict_end (I.ok.hd hc) st da (Y4 (by omega)) λh' eb=>⟨rfl,I.turned (λb o hb e=>eb b o hb e) f0 f1 f3 f4 f5⟩
 self:=λA i s Q E st h=>wpAny_pyIter_keyiter st h
def Hy(H0:Hp)(td:TE):TI:=λσ H R=>td σ H λx H1=>∃d kvs,x=.ref d/\H1 d=some (.dK kvs)/\∀od,oX H0 d->R (Kr d od kvs) (upd H1 d (.cA od (.dK kvs)))
def Zdg{X:Cx}{H0:Hp}{tg l:Expr}{td:TE}(h0:X.lu=H0)(hl:PE X l td):PI X tg l (Hy H0 td):=by
 subst h0;intro pins s σ H R I h;refine ay (hl pins s σ H _ I h) λv s1 zq=>?_;obtain⟨x,H1,I1,r1,d,kvs,ex,hd,q⟩:=zq;subst ex;obtain rfl:v=Value.ref d:=r1;obtain⟨zz,Ks,vs,rel,dd⟩:=oW I1.aw hd;obtain⟨od,es,ep,kB,hx,jM,xH⟩:=id dd;have nf:=I1.RH hd;refine wpAny_pyIter_dict Ks ⟨od,es,kB,hx,jM,xH⟩ ?_;have I2:Inv X pins σ H1 {s1 with heap:=s1.heap.push {cls:=.type "dict_keyiterator",data:=.fields #[.ref d,.int 0 0,.int vs.length 0,.int ep 0]},toks:=s1.toks}:=I1.kept λb o e=>Yb _ e;refine⟨s1.heap.objs.size,[s1.heap.objs.size],_,Kr d od kvs,_,rfl,(I2.swap (o':=.cA od (.dK kvs)) hd nf (λa z=>by cases z) (λxs z=>by cases z) ⟨Yb _ kB,(I2.aw d _ hd)⟩),ZaZ _ d od es ep jM kvs,⟨_,Yu _ rfl,rfl,by rw[rel.length];rfl⟩,λb hb=>?_,q od nf⟩;have e:b=s1.heap.objs.size:=by simpa using hb
 subst e;exact I1.qz (Yd _) (by rw[aK (Je (Ys kB))];exact I1.aw.fresh (Yd _))
def RI(H0:Hp)(td:TE)(g:TG)(tb:TS):TS:=λD σ H=>Ie (Hy H0 td) g tb ⟨λaH H'=>∃d od kvs,oX H0 d/\H' d=some (.cA od (.dK kvs))/\D.nx aH (upd H' d (.dK kvs)),λv H'=>∃d od kvs,oX H0 d/\H' d=some (.cA od (.dK kvs))/\D.rt v (upd H' d (.dK kvs)),λ_ _=>False,λ_ _=>False⟩ σ H
theorem ZM(h0:X.lu=H0)(hp:PassesOwn X.md X.A X.env X.xe)(hc:X.calm=true)(hi:PI X tg l (Hy H0 td))(hg:PG X tg g)(hb:eZ X body tb)(hs:∀x,foldedSetIterable l X.env x=pure x:=by intro _;rfl):PS X (.For tg l body [] pos) (RI H0 td g tb):=by
 subst h0;intro pins s σ H D I h;refine ay (fP hp hc hi hg hb hs pins s σ H _ I h) λf s1 q=>?_;cases f with
 |next=>obtain⟨aH,H',I',d,od,kvs,nf,e,q⟩:=q;exact⟨aH,_,I'.A6 nf e,q⟩
 |brk=>obtain⟨_,_,_,q⟩:=q;exact False.elim q
 |cont=>obtain⟨_,_,_,q⟩:=q;exact False.elim q
 |ret u=>obtain⟨v,aH,H',I',r,d,od,kvs,nf,e,q⟩:=q;exact⟨v,aH,_,I'.A6 nf e,r,q⟩
def Zb2(fE:∀R:VK,R (.ref d) H1->td σ H R)(hd:H1 d=some (.dK kvs))(Pv:Nat->St->Hp->Prop)
  (p0:∀od,Pv 0 σ (upd H1 d (.cA od (.dK kvs))))
  (hs:∀od i k y aH H' (N:St->Hp->Prop) (rt:VK) (bk:St->Hp->Prop),kvs[i]?=some (k,y)->Pv i aH H'->H' d=some (.cA od (.dK kvs))->(∀cQ H3,Pv (i+1) cQ H3->H3 d=some (.cA od (.dK kvs))->N cQ H3)->g (kV k) aH H' λdz H2=>tb ⟨N,rt,bk,N⟩ dz H2)
  (IA:∀od aH H',Pv kvs.length aH H'->H' d=some (.cA od (.dK kvs))->D.nx aH (upd H' d (.dK kvs))):RI H0 td g tb D σ H:=by
 refine fE _ ⟨d,kvs,rfl,hd,λod nf=>⟨λi m aH H'=>m=kvs.length-i/\i<=kvs.length/\Pv i aH H'/\H' d=some (.cA od (.dK kvs)),⟨kvs.length,by omega,Yx _,p0 od,aR⟩,?_⟩⟩;rintro i m aH H' ⟨rfl,hi,p,fz⟩;by_cases bT:i<kvs.length
 ·refine .inr ⟨⟨fz,bT⟩,λcQ H3=>Pv (i+1) cQ H3/\H3 d=some (.cA od (.dK kvs)),λcQ H3 ⟨a,c⟩=>⟨kvs.length-(i+1),by omega,rfl,bT,a,c⟩,?_⟩;rintro x H4 ⟨rfl,k,y,hk,rfl⟩;exact hs od i k y aH H4 (λcQ H3=>Pv (i+1) cQ H3/\H3 d=some (.cA od (.dK kvs))) _ _ hk p fz λcQ H3 p3 f3=>⟨p3,f3⟩
 ·have e:i=kvs.length:=by omega
  subst e;exact .inl ⟨⟨fz,Yd _⟩,d,od,kvs,nf,fz,IA od _ _ p fz⟩
section
variable {P:Program}{w:World}{A:Around}{E:a8}{s:Shared}{it d:Addr}{i n ep:Nat}{ok ov:Value}{o:Obj}{es:Array DictEntry}{e:DictEntry}
end
section
variable {P:Program}{w:World}{A:Around}{E:a8}{s:Shared}{d o:Addr}{knd:HeapKind P w (List Key)}{xs ms:List (List Key×Addr×Value)}
end
section
variable {X:Cx}
theorem Zdh{H:Hp}{kvs:List (List Key×V)}{xs:List (List Key×Addr×Value)}(r:KT H kvs xs):xs.map (·.1)=kvs.map (·.1):=by
 induction r with
 |nil=>rfl
 |cons f _ ih=>grind
end
section
variable {X:Cx}{pins:aU}{σ:St}{H:Hp}{s:Shared}{d:Addr}{kvs:List (List Key×V)}
end
def Zdi:bootBuiltins "dict"=some (.type "dict"):=by decide+kernel
def Ku(d:Addr)(od:Obj)(kvs:List (Key×V)):It:=⟨λi H=>H d=some (.cA od (.dK kvs))/\i<kvs.length,λi H v H'=>H'=H/\∃k,kvs[i]?=some (k,v),λi H=>H d=some (.cA od (.dK kvs))/\kvs.length<=i⟩
def Za0{P:Program}{w:World}{K:ah}{tg:Expr}(it d:Addr)(od:Obj)(es:Array DictEntry)(ep:Nat)(jM:od.data=.dict es ep)(kvs:List (Key×V)):Turn P w K tg (Ku d od kvs) [it] it (λi h=>h.IsValIter it d i kvs.length ep) where
 mem:=by simp
 obj:=λi h st b hb=>by
  have e:b=it:=by simpa using hb
  obtain⟨o,e,c,dd⟩:=st
  grind
 keep:=λi h h' st k=>let⟨o,e,r⟩:=st;⟨o,k it (by simp) o e,r⟩
 item:=by
  intro X hP hw hK hc i pins s σ H E I hf st hg;subst hP hw hK;obtain⟨f0,f1,f2,f3,f4,f5⟩:=hf it (by simp);obtain⟨hz,bT⟩:=hg;obtain⟨vs,rel,da⟩:=AB I hz jM;have ll:=rel.length;obtain⟨k,y,hk⟩:∃k y,kvs[i]?=some (k,y):=⟨kvs[i].1,kvs[i].2,Yc bT⟩;obtain⟨v,hv,ry⟩:=Qy rel hk;rw[ll] at st;refine wpAny_pyNext_values_item st da hv λh' aJ sb=>?_;obtain⟨o,e,c,dd⟩:=id aJ;exact⟨_,rfl,sh e c dd (by decide) ⟨y,H,(I.turned (λb o hb e=>sb.extBut b o hb e) f0 f1 f3 f4 f5),ry,⟨rfl,k,hk⟩,by rw[ll];exact aJ,λb hb=>(hf b hb).1⟩⟩
 done:=by
  intro X hP hw hK hc i pins s σ H E I hf st hg;subst hP hw hK;obtain⟨f0,f1,f2,f3,f4,f5⟩:=hf it (by simp);obtain⟨hz,hle⟩:=hg;obtain⟨vs,rel,da⟩:=AB I hz jM;have ll:=rel.length;rw[ll] at st;exact wpAny_pyNext_values_end (I.ok.hd hc) st da (Y4 (by omega)) λh' eb=>⟨rfl,I.turned (λb o hb e=>eb b o hb e) f0 f1 f3 f4 f5⟩
 self:=λA i s Q E st h=>wpAny_pyIter_valiter st h
def Hz(H0:Hp)(td:TE):TI:=λσ H R=>td σ H λx H1=>∃d kvs,x=.ref d/\H1 d=some (.dK kvs)/\∀od,oX H0 d->R (Ku d od kvs) (upd H1 d (.cA od (.dK kvs)))
def Zdj{X:Cx}{H0:Hp}{tg:Expr}{apos cy:Pos}{o:Expr}{td:TE}(h0:X.lu=H0)(ho:PE X o td)(sr:attributeBase o "values" X.env (eval o X.env)=eval o X.env:=by rfl)(su:(apos.endLine==cy.line)=true:=by rfl):PI X tg (.Call (.Attribute o "values" apos) [] [] cy) (Hz H0 td):=by
 subst h0;intro pins s σ H R I h;refine wpAny_Call_method0_late sr su (ay (ho pins s σ H _ I h) λv s1 zq=>?_);obtain⟨x,H1,I1,r1,d,kvs,ex,hd,q⟩:=zq;subst ex;obtain rfl:v=Value.ref d:=r1;obtain⟨t1,t2,Ks⟩:=xx I1 (.inl ⟨kvs,.inl hd⟩);refine⟨"dict","dict.values",plainAttrs_dict,PySem.F.slot_dict_values,PySem.F.type_dict_values,t1,t2,Calls.callWith_builtin rfl (PySem.evalArgs_none ?_)⟩;obtain⟨zz,_,vs,rel,dd⟩:=oW I1.aw hd;refine call_meetsIn PySem.F.slot_dict_values dd.typeIs PySem.F.entry_dict_values (PySem.F.args_dict_values_1 _) (meets_dict_values (dE X.prog X.w) d Ks) ⟨⟨vs,dd⟩,?_⟩;obtain⟨od,es,ep,kB,hx,jM,xH⟩:=id dd;have nf:=I1.RH hd;have up:∀b o,s1.heap.get? b=some o->(s1.heap.push {cls:=.type "dict_values",data:=.fields #[.ref d]}).get? b=some o:=λb o e=>Yb _ e;refine wpAny_pyIter_values (knd:=dE X.prog X.w) (d:=d) (kvs:=vs) (ep:=ep) ⟨_,Yu _ rfl,rfl,rfl⟩ ⟨od,es,up _ _ kB,hx,jM,xH⟩ ?_;generalize hG:s1.heap.push {cls:=.type "dict_values",data:=.fields #[.ref d]}=G at up⊢;have I2:Inv X pins σ H1 {s1 with heap:=G.push {cls:=.type "dict_valueiterator",data:=.fields #[.ref d,.int 0 0,.int vs.length 0,.int ep 0]},toks:=s1.toks}:=I1.kept (t':=s1.toks) λb o e=>Yb _ (up b o e);have hdk:cJ X.prog X.w H1 _ d (.dK kvs):=I2.aw d _ hd;have I3:=I2.swap (o':=.cA od (.dK kvs)) hd nf (λa z=>by cases z) (λxs z=>by cases z) ⟨Yb _ (up _ _ kB),hdk⟩;have Kv:s1.heap.objs.size<=G.objs.size:=by rw[←hG,Jt];omega
 refine⟨G.objs.size,[G.objs.size],_,Ku d od kvs,_,rfl,I3,Za0 _ d od es ep jM kvs,⟨_,Yu _ rfl,rfl,by rw[rel.length];rfl⟩,λb hb=>?_,q od nf⟩;have e:b=G.objs.size:=by simpa using hb
 subst e;have dlt:d<s1.heap.objs.size:=Ys kB;exact I1.qz Kv (by rw[aK (Je (Y2 dlt Kv))];exact I1.aw.fresh Kv)
def RJ(H0:Hp)(td:TE)(g:TG)(tb:TS):TS:=λD σ H=>Ie (Hz H0 td) g tb ⟨λaH H'=>∃d od kvs,oX H0 d/\H' d=some (.cA od (.dK kvs))/\D.nx aH (upd H' d (.dK kvs)),λv H'=>∃d od kvs,oX H0 d/\H' d=some (.cA od (.dK kvs))/\D.rt v (upd H' d (.dK kvs)),λ_ _=>False,λ_ _=>False⟩ σ H
theorem ZN(h0:X.lu=H0)(hp:PassesOwn X.md X.A X.env X.xe)(hc:X.calm=true)(hi:PI X tg (.Call (.Attribute o "values" apos) [] [] cy) (Hz H0 td))(hg:PG X tg g)(hb:eZ X body tb):
  PS X (.For tg (.Call (.Attribute o "values" apos) [] [] cy) body [] pos) (RJ H0 td g tb):=by
 subst h0;intro pins s σ H D I h;refine ay (fP hp hc hi hg hb (λ_=>rfl) pins s σ H _ I h) λf s1 q=>?_;cases f with
 |next=>obtain⟨aH,H',I',d,od,kvs,nf,e,q⟩:=q;exact⟨aH,_,I'.A6 nf e,q⟩
 |brk=>obtain⟨_,_,_,q⟩:=q;exact False.elim q
 |cont=>obtain⟨_,_,_,q⟩:=q;exact False.elim q
 |ret u=>obtain⟨v,aH,H',I',r,d,od,kvs,nf,e,q⟩:=q;exact⟨v,aH,_,I'.A6 nf e,r,q⟩
def Zb3(fE:∀R:VK,R (.ref d) H1->td σ H R)(hd:H1 d=some (.dK kvs))(Pv:Nat->St->Hp->Prop)
  (p0:∀od,Pv 0 σ (upd H1 d (.cA od (.dK kvs))))
  (hs:∀od i k y aH H' (N:St->Hp->Prop) (rt:VK) (bk:St->Hp->Prop),kvs[i]?=some (k,y)->Pv i aH H'->H' d=some (.cA od (.dK kvs))->(∀cQ H3,Pv (i+1) cQ H3->H3 d=some (.cA od (.dK kvs))->N cQ H3)->g y aH H' λdz H2=>tb ⟨N,rt,bk,N⟩ dz H2)
  (IA:∀od aH H',Pv kvs.length aH H'->H' d=some (.cA od (.dK kvs))->D.nx aH (upd H' d (.dK kvs))):RJ H0 td g tb D σ H:=by
 refine fE _ ⟨d,kvs,rfl,hd,λod nf=>⟨λi m aH H'=>m=kvs.length-i/\i<=kvs.length/\Pv i aH H'/\H' d=some (.cA od (.dK kvs)),⟨kvs.length,by omega,Yx _,p0 od,aR⟩,?_⟩⟩;rintro i m aH H' ⟨rfl,hi,p,fz⟩;by_cases bT:i<kvs.length
 ·refine .inr ⟨⟨fz,bT⟩,λcQ H3=>Pv (i+1) cQ H3/\H3 d=some (.cA od (.dK kvs)),λcQ H3 ⟨a,c⟩=>⟨kvs.length-(i+1),by omega,rfl,bT,a,c⟩,?_⟩;rintro x H4 ⟨rfl,k,hk⟩;exact hs od i k x aH H4 (λcQ H3=>Pv (i+1) cQ H3/\H3 d=some (.cA od (.dK kvs))) _ _ hk p fz λcQ H3 p3 f3=>⟨p3,f3⟩
 ·have e:i=kvs.length:=by omega
  subst e;exact .inl ⟨⟨fz,Yd _⟩,d,od,kvs,nf,fz,IA od _ _ p fz⟩
section
variable {X:Cx}{o i:Expr}{td ty:TE}{AX pos:Pos}
def Ze3(td ty:TE):TS:=λD σ H=>td σ H λx H1=>ty σ H1 λy H2=>∃a kvs k,x=.ref a/\H2 a=some (.dK kvs)/\y=kV k/\(aT kvs k).isSome=true/\Ch H2 a (.dK (gY kvs k)) (D.nx σ)
def Zb4(ho:PE X o td)(hi:PE X i ty):PS X (.Delete [.Subscript o i AX] pos) (Ze3 td ty):=by
 intro pins s σ H D I h;refine wpAny_Delete (wpAny_deleteEach_cons (wpAny_delete_Subscript (ay (ho pins s σ H _ I h) λu s1 zq=>?_)));obtain⟨x,H1,I1,rx,q1⟩:=zq;refine ay (hi pins s1 σ H1 _ I1 q1) λiv s2 zq=>?_;obtain⟨y,H2,I2,ry,a,kvs,k,ex,e,ey,l,q2⟩:=zq;subst ex ey;obtain rfl:u=Value.ref a:=rx;exact ZaM I2 e ry l λs3 I3=>wpAny_deleteEach_nil ⟨σ,_,I3,q2.at⟩
theorem NN[DecidableEq α]:∀{xs:List (α×β)} {j:Nat} {k:α} {p:β},(xs.map (·.1)).Nodup->xs[j]?=some (k,p)->xs.eraseIdx j=xs.filter λx=>decide (x.1≠k)
 |[],_,_,_,_,h=>rfl
 |x::xs,0,k,p,nd,h=>by
  have e:x=(k,p):=by simpa using h
  subst e;rw[List.eraseIdx_cons_zero,List.filter_cons_of_neg (by simp)];refine(List.filter_eq_self.mpr λy hy=>?_).symm
  grind
 |x::xs,j+1,k,p,nd,h=>by
  obtain⟨n1,n2⟩:=Yz.mp (show(x.1::xs.map (·.1)).Nodup from nd);have h':xs[j]?=some (k,p):=by simpa using h
  rw[List.eraseIdx_cons_succ,NN n2 h',Jy (by simpa using(λz=>n1 (by rw[z];exact Yh.mpr ⟨_,Yg h',rfl⟩)))]
theorem NO(f:α->β):∀(xs:List α) (j:Nat),(xs.map f).eraseIdx j=(xs.eraseIdx j).map f
 |[],_=>rfl
 |_::_,0=>rfl
 |x::xs,j+1=>by
  show f x::(xs.map f).eraseIdx j=f x::(xs.eraseIdx j).map f;rw[NO f xs j]
theorem Zdk(k:List Key)(r:KT H kvs xs):KT H (gY kvs k) (xs.filter λx=>decide (x.1≠k)):=by
 unfold gY;induction r with
 |nil=>exact .nil
 |@cons p x ps xs f t ih=>
  by_cases e:p.1=k;·grind
  ·rw[Jy (by simpa using e),Jy (by rw[←f.1];simpa using e)];exact .cons f ih
def Zb5{P:Program}{w:World}{A:Around}{E:a8}{s:Shared}{d a:Addr}{knd:HeapKind P w (List Key)}{xs:List (List Key×Addr×Value)}{k:List Key}{Q:Option DictEntry->Shared->Prop}(room:knd.room A)(is:knd.is s.heap k a)(D:s.heap.DictOfH knd d xs)(there:k∈xs.map (·.1))(hz:xs.length<=sizeLine)
  (hQ:∀e h' t',h'.DictOfH knd d (xs.filter λx=>decide (x.1≠k))->Heap.SameBut d s.heap h'->Q (some e) {s with heap:=h',toks:=t'}):wpAny (model P w) A (Builtin.Dict.takeOut d (.ref a)) Q E s:=by
 obtain⟨ob,es,ep,g,ex,hd,he,Ub,nd⟩:=D;refine wpAny_holding (wpAny_bind (knd.pyHash room is (wpAny_bind (wpAny_dictFind_heap room is g hd he Ub nd (λno=>?_) λj p e=>?_))))
 ·obtain⟨x,hx,e⟩:=Yh.mp there;obtain⟨j,hj,ej⟩:=Ws.mp hx;exact absurd (show xs[j]?=some (k,x.2) by rw[Yc hj,ej,←e]) (no j x.2)
 ·have sz:es.size=xs.length:=by rw[←W6,he,Ya]
  refine wpAny_bind (wpAny_dictEntries g hd ?_);rw[entry_at he j,e];have sb:=Heap.SameBut.update s.heap d (Obj.mapDictKeys λx=>x.eraseIdxIfInBounds j);refine wpAny_bind (wpAny_updateDictKeys g hd (wpAny_pure (hQ _ _ _ ⟨_,_,ep+1,Wn _ g (Obj.isFreed_of_dict (Obj.data_mapDictKeys hd _)),ex.mapDictKeys _,Obj.data_mapDictKeys hd _,?_,λx hx=>?_,?_⟩ sb)) (by rw[sz];exact hz))
  ·have hj:j<xs.length:=(Yl.mp e).1;rw[←NN nd e];have e1:(es.eraseIdxIfInBounds j).toList=es.toList.eraseIdx j:=by
    simp_all
   rw[e1,he,NO]
  ·exact knd.keeps (Ub x (Y5.mp hx).1) g hd sb
  ·grind
theorem ZO{pins:aU}{σ:St}{H:Hp}{s:Shared}{a b:Addr}{kvs:List (List Key×V)}{k:List Key}{A:Around}{E:a8}{Q:Unit->Shared->Prop}(hu:A.units+1<cLine)(I:Inv X pins σ H s)(e:H a=some (.dT kvs))(eb:H b=some (.tup (k.map kV)))(l:(aT kvs k).isSome=true)(h:∀s',Inv X pins σ (upd H a (.dT (gY kvs k))) s'->Q () s'):
  wpAny X.md A (delItem (.ref a) (.ref b)) Q E s:=by
 obtain⟨z,sm,xs,rel,dd⟩:=RE I.aw e;have l1:kvs.length=xs.length:=Paired.length rel;have there:k∈xs.map (·.1):=by
  rw[Zdh rel];cases ev:aT kvs k with
  |none=>rw[ev] at l;cases l
  |some v=>
   unfold aT at ev;cases ef:kvs.find? λkv=>decide (kv.1=k) with
   |none=>rw[ef] at ev;cases ev
   |some p=>exact Yh.mpr ⟨p,List.mem_of_find?_eq_some ef,of_decide_eq_true (by simpa using List.find?_some ef)⟩
 refine wpAny_delItem_slot dd.typeIs (by decide) slot_dict_delitem (wpAny_call_entry slot_dict_delitem dd.typeIs PySem.F.entry_dict_delitem ?_ (PySem.F.args_dict_delitem_2 _ _));unfold Builtin.«dict.__delitem__»;refine wpAny_bind ?_;unfold Builtin.Dict.dictSlotArgs;refine wpAny_bind (wpAny_notOrdered_dict dd.typeIs ?_);show wpAny _ _ (pure (Value.ref a,Value.ref b)) _ _ s;refine wpAny_pure ?_;show wpAny _ _ (Builtin.Dict.takeOut a (.ref b)>>=_) _ _ s;refine wpAny_bind (Zb5 (tupleKind_room_in1 hu) (qr I.aw eb) dd there (by omega) λen h' t' d' sb=>?_);refine wpAny_bind (wpAny_letGo (wpAny_pure ⟨.none,rfl,?_⟩));obtain⟨q',es,ep,hq,h2,h3,h4,_,h5⟩:=d';refine h _ (rP (t':=t') (ob:=.dT (gY kvs k)) I (by rw[e];exact True.intro) sb ⟨q',hq⟩ ⟨Y0 (Wh _ _) z,sm,_,(Zdk k rel).keeps λc ys ec=>by
   rw[aK (Rc ec e (λz=>nomatch z))];exact ec,q',es,ep,hq,h2,h3,h4,h5⟩)
def Ze4(td ty:TE):TS:=λD σ H=>td σ H λx H1=>ty σ H1 λy H2=>∃a b kvs k,x=.ref a/\H2 a=some (.dT kvs)/\y=.ref b/\H2 b=some (.tup (k.map kV))/\(aT kvs k).isSome=true/\Ch H2 a (.dT (gY kvs k)) (D.nx σ)
def NP(hu:X.A.units+1<cLine)(ho:PE X o td)(hi:PE X i ty):PS X (.Delete [.Subscript o i AX] pos) (Ze4 td ty):=by
 intro pins s σ H D I h;refine wpAny_Delete (wpAny_deleteEach_cons (wpAny_delete_Subscript (ay (ho pins s σ H _ I h) λu s1 zq=>?_)));obtain⟨x,H1,I1,rx,q1⟩:=zq;refine ay (hi pins s1 σ H1 _ I1 q1) λiv s2 zq=>?_;obtain⟨y,H2,I2,ry,a,b,kvs,k,ex,e,ey,eb,l,q2⟩:=zq;subst ex ey;obtain rfl:u=Value.ref a:=rx;obtain rfl:iv=Value.ref b:=ry;exact ZO hu I2 e eb l λs3 I3=>wpAny_deleteEach_nil ⟨σ,_,I3,q2.at⟩
end
end L2
namespace L2
open PySem PySem.W PySem.Spec PyProof.Rows
def Zdl:List V->Hp->VK->Prop:=λxs H Q=>∃(p:Addr) (kvs:List (Key×V)),xs=[.ref p]/\H p=some (.dK kvs)/\Nw H (.dK kvs) Q
def YQ:c7 X (.type "dict") Zdl:=by
 rintro pins s σ H xs us Q I r ⟨p,kvs,rfl,hp,q⟩;obtain⟨u,rfl,ru⟩:=vals1 r;obtain rfl:u=Value.ref p:=ru;obtain⟨lim,Iy,vs,kv,dd⟩:=oW I.aw hp;have kl:=kv.length;exact PySem.kt_call_dict Iy dd (by omega) λh' d' sb=>⟨.ref s.heap.objs.size,_,I.laid (o:=.dK kvs) (λb o e=>(sb.2 b (Yy (Ys e))).trans (Yb _ e)) (Yd _) ⟨lim,beq_eq_false_iff_ne.mpr (Ne.symm (Yy I.big)),vs,kv,d'⟩,rfl,q.at _ (I.aw.fresh (Yd _))⟩
def ZP(val:Nat->Str)(xV:∀i v,P i v->∃t,v=.str (val i) t):CmpOf prog w A .Lt P (λi j=>decide ((val i).cps.toList<(val j).cps.toList)):=λi j vi vj s Q E hi hj h=>by
 obtain⟨t,rfl⟩:=xV i vi hi;obtain⟨u,rfl⟩:=xV j vj hj;exact richCompare_gives (op:=.Lt) (typeIs_str s _ t) (typeIs_str s _ u) F.slot_str_lt F.entry_str_lt (F.args_str_lt_2 _ _) (gives_str_lt _ _ t u) (λx=>nomatch x) h
def ZQ(val:Nat->Str)(xV:∀i v,P i v->∃t,v=.str (val i) t):CmpOf prog w A .Gt P (λi j=>decide ((val j).cps.toList<(val i).cps.toList)):=λi j vi vj s Q E hi hj h=>by
 obtain⟨t,rfl⟩:=xV i vi hi;obtain⟨u,rfl⟩:=xV j vj hj;exact richCompare_gives (op:=.Gt) (typeIs_str s _ t) (typeIs_str s _ u) F.slot_str_gt F.entry_str_gt (F.args_str_gt_2 _ _) (gives_str_gt _ _ t u) (λx=>nomatch x) h
def qA(a b:Str):Str:=if b.cps.toList<a.cps.toList then b else a
def qB(a b:Str):Str:=if a.cps.toList<b.cps.toList then b else a
def Ze5{a b:Value}{s:Shared}:(s.heap.push {cls:=.type "tuple",data:=.seq #[a,b]}).IsTuple s.heap.objs.size #[a,b]:=⟨_,Yu _ rfl,rfl,0,rfl⟩
section
variable {prog:Program}{w:World}{A:Around}{E:a8}{s:Shared}
theorem OV(i:Nat)(v:Value)(h:(#[Value.str a t,Value.str b u]:Array Value)[i]?=some v):∃t',v=.str (([a,b]:List Str).getD i "") t':=by
 match i,h with
 |0,h=>grind
 |1,h=>grind
 |i+2,h=>simp at h
def NQ{a b:Str}{t u:Tok}{Q:a8}{op:CmpOp}(f:Str->Str->Bool)(hh:A.handled=none)
  (cmp:CmpOf prog w A.in1 op (λi v=>(#[Value.str a t,Value.str b u]:Array Value)[i]?=some v) λi j=>f (([a,b]:List Str).getD i "") (([a,b]:List Str).getD j ""))
  (h:∀h' tk t',(∀c o,s.heap.get? c=some o->h'.get? c=some o)->Q (.str (if f b a=true then b else a) t') {s with heap:=h',toks:=tk}):
  wpAny (model prog w) A.in1 (pyIter (.ref s.heap.objs.size)) (λit d9=>∃I fp wr n P St bt,it=.ref I/\Walks prog w A.in1 I fp wr n P St/\St 0 d9.heap/\(∀b∈fp,b<d9.heap.objs.size)/\0<n/\CmpOf prog w A.in1 op P bt/\
   ∀v h' tk,P (argBest bt (n-1)) v->(∀b o,b∉wr->d9.heap.get? b=some o->h'.get? b=some o)->Q v {d9 with heap:=h',toks:=tk}) E
   {s with heap:=s.heap.push {cls:=.type "tuple",data:=.seq #[.str a t,.str b u]}}:=by
 have hT:=Ze5 (a:=.str a t) (b:=.str b u) (s:=s);refine wpAny_pyIter_tuple hT ?_;have hsz:(s.heap.push {cls:=.type "tuple",data:=.seq #[.str a t,.str b u]}).objs.size=s.heap.objs.size+1:=Jt ..;refine⟨_,[_,s.heap.objs.size],[_],_,_,_,_,rfl,Walks.tuple (A:=A.in1) hh _ s.heap.objs.size (by rw[hsz];exact Yy (Jh _)) #[.str a t,.str b u],
  ⟨⟨_,Yu _ rfl,rfl,rfl⟩,hT.push _⟩,λc hc=>?_,by simp,cmp,λv h' tk hP hk=>?_⟩
 ·show c<((s.heap.push _).push _).objs.size;rw[Jt,hsz];rcases Yp.mp hc with rfl|hc;·rw[hsz];exact Jh _
  ·rw[Yk.mp hc];exact Wu (Jh _)
 ·have hold:∀c o,s.heap.get? c=some o->h'.get? c=some o:=λc o e=>by
   refine hk c o (λhm=>?_) (Yb _ (Yb _ e));have:=Ys e;rw[Yk.mp hm,hsz] at this;exact Wc _ (Nat.lt_of_succ_lt this)
  have lI:(#[Value.str a t,Value.str b u]:Array Value)[if f b a=true then 1 else 0]?=some v:=hP;obtain⟨t',ev⟩:∃t',v=.str (if f b a=true then b else a) t':=by
   by_cases c:f b a=true
   ·rw[if_pos c] at lI⊢;exact⟨u,by simpa using lI.symm⟩
   ·rw[if_neg c] at lI⊢;exact⟨t,by simpa using lI.symm⟩
  subst ev;exact h h' tk t' hold
end
def ZR(hc:X.calm=true):c7 X (.builtin "min") (λxs H Q=>∃i j:Str,xs=[.str i,.str j]/\Q (.str (qA i j)) H):=by
 intro pins s σ H xs us Q I r h;obtain⟨i,j,rfl,q⟩:=h;obtain⟨u,w',rfl,⟨t,rfl⟩,⟨t',rfl⟩⟩:=vals2 r;exact call_min_two (NQ (λx y=>decide (x.cps.toList<y.cps.toList)) (I.ok.hd hc) (ZP _ λi v=>OV i v) λh' tk t2 k=>⟨.str (qA i j),H,I.kept k,⟨t2,by unfold qA;simp only[decide_eq_true_eq]⟩,q⟩)
def ZS(hc:X.calm=true):c7 X (.builtin "max") (λxs H Q=>∃i j:Str,xs=[.str i,.str j]/\Q (.str (qB i j)) H):=by
 intro pins s σ H xs us Q I r h;obtain⟨i,j,rfl,q⟩:=h;obtain⟨u,w',rfl,⟨t,rfl⟩,⟨t',rfl⟩⟩:=vals2 r;exact call_max_two (NQ (λx y=>decide (y.cps.toList<x.cps.toList)) (I.ok.hd hc) (ZQ _ λi v=>OV i v) λh' tk t2 k=>⟨.str (qB i j),H,I.kept k,⟨t2,by unfold qB;simp only[decide_eq_true_eq]⟩,q⟩)
def Ze6:bootBuiltins "max"=some (.builtin "max"):=by decide+kernel
def OW:cG X (binaryOp .Mult) (λx y H Q=>∃(z:Str) (n:Nat),x=.str z/\y=.int (n:Int)/\z.length<=100/\n<=100/\Q (.str (Txt.mul z (n:Int))) H):=by
 intro pins s σ H x y v u Q I rx ry h;obtain⟨z,n,rfl,rfl,lz,ln,q⟩:=h;obtain⟨t,rfl⟩:=rx;obtain⟨t',rfl⟩:=ry;have lm:z.length*n<=10000:=Y0 (Nat.mul_le_mul lz ln) (by omega);refine PySem.SB.mul ⟨?_,λh1 _=>?_,λ_ _=>?_⟩ λt2 k=>⟨.str (Txt.mul z (n:Int)),H,I.tok k,⟨t2,rfl⟩,q⟩;·rw[decide_eq_false (by omega),decide_eq_false (by omega)];rfl
 ·have hn:(1:Int)<=(n:Int):=by omega
  intro hgt;have h3:((2:Int)^63-1)/(n:Int)≥(2^63-1)/100:=by
   refine Int.le_ediv_of_mul_le (by omega) ?_
   grind
  have h4:((2:Int)^63-1)/100>100:=by decide
  omega
 ·rw[Y6];exact decide_eq_false (by rw[sizeLine_eq];omega)
def nQ:V->Bool
 |.int _=>true
 |.str _=>true
 |_=>false
def OX(h:nQ x=true):jn x=true:=by cases x<;>first|rfl|cases h
theorem Ze7(hx:nQ x=true)(hy:nQ y=true):jL x y=decide (x=y):=by
 cases x with
 |int a=>
  cases y with
  |int b=>
   show(a==b)=_
   grind
  |str b=>rfl
  |_=>cases hy
 |str a=>
  cases y with
  |int b=>rfl
  |str b=>
   show(a==b)=_
   grind
  |_=>cases hy
 |_=>cases hx
theorem M_:∀{xs ys:List V},xs.length=ys.length->xs.all nQ=true->ys.all nQ=true->((List.range xs.length).all λj=>jL (xs.getD j .az) (ys.getD j .az))=decide (xs=ys)
 |[],[],_,_,_=>rfl
 |[],_::_,h,_,_=>by simp at h
 |_::_,[],h,_,_=>by simp at h
 |x::xs,y::ys,h,fx,fy=>by
  rw[Jg,Wl] at fx fy;rw[Y7,List.range_succ_eq_map,Jg,Kw];have e:((λj=>jL ((x::xs).getD j .az) ((y::ys).getD j .az))∘Nat.succ)=λj=>jL (xs.getD j .az) (ys.getD j .az):=rfl;rw[e,(M_ (by simpa using h) fx.2 fy.2)];show(jL x y&&_)=_;rw[Ze7 fx.1 fy.1,Wj,Wl,decide_eq_true_iff,decide_eq_true_iff,decide_eq_true_iff,List.cons.injEq]
def ZgU(K:ah)(neg:Bool):R2:=λx y H Q=>∃(p q:Addr) (xs ys:List V),x=.ref p/\y=.ref q/\aB K H p xs/\aB K H q ys/\xs.all nQ=true/\ys.all nQ=true/\Q (.bl (if neg=true then !decide (xs=ys) else decide (xs=ys))) H
theorem OY(r:Vals xs us):∀{j:Nat} (h:j<us.length),RelV (xs.getD j .az) us[j]:=by
 induction r with
 |nil=>grind
 |cons f _ ih=>grind
def OZ{xs:List V}{j:Nat}(f:xs.all nQ=true)(h:j<xs.length):nQ (xs.getD j .az)=true:=by
 grind
def Ze8{X:Cx}{K:ah}(hK:X.K=K)(hu:X.A.units<cLine):cG X (compareOp .NotEq) (ZgU K true):=by
 subst hK;intro pins s σ H x y v u Q I rx ry h;obtain⟨p,q,xs,ys,rfl,rfl,h1,h2,f1,f2,k⟩:=h;cases rx;cases ry;obtain⟨ai,r1,p1,z1⟩:=I.tuple h1;obtain⟨iR,r2,p2,z2⟩:=I.tuple h2;have l1:=r1.length;have l2:=r2.length;show wpAny _ _ (richCompare .NotEq _ _) _ _ _;refine SeqAt.RcNeAt.tuples (e:=λj=>jL (xs.getD j .az) (ys.getD j .az)) p1 p2 hu (λj h1 h2=>?_) _ _ _ _ (cI I k ?_)
 ·have j1:j<ai.length:=by simpa using h1
  have j2:j<iR.length:=by simpa using h2
  have e1:=OY r1 j1;have e2:=OY r2 j2;have a1:ai.toArray[j]=ai[j]:=by simp
  have a2:iR.toArray[j]=iR[j]:=by simp
  rw[a1,a2];exact P_ e1 e2 (OX (OZ f1 (by omega))) (OX (OZ f2 (by omega)))
 ·rw[if_pos rfl,Yv,Yv,←l1,←l2];by_cases hl:xs.length=ys.length
  ·rw[←hl,Nat.min_self,M_ hl f1 f2];simp
  ·grind
section
variable {X:Cx}
end
def vL(g:Nat->Value):Nat->Nat->List Value
 |0,_=>[]
 |n+1,i=>g i::vL g n (i+1)
theorem G1(g:Nat->Value):∀(us:List Value) (i:Nat),(∀k,us[k]?=some (g (i+k))\/us.length<=k)->us=vL g us.length i
 |[],_,_=>rfl
 |a::r,i,h=>by
  have e:a=g i:=by
   rcases h 0 with z|z;·grind
   ·cases z
  refine congr (congrArg _ e) (G1 g r (i+1) λk=>?_);have:=h (k+1)
  grind
inductive bO(K:ah)(x:Str)(st:Stmt)(f:Addr):Prop
 |mk {od an:Option Addr} {sl:Array (Option Value)} {oc kV dc pm cd ct:Value} (a:nsIn K mainGlobals x=some (some (.ref f))) (l:K.lookup f=some ⟨oc,od,.func (fnOf x x (kX st) (iI st) (aF st) .none kV dc pm an cd ct),sl⟩) (c:codeIn K cd x=true) (k:keepIn K (.ref f)=true):bO K x st f
inductive cR(K:ah)(C:Addr)(x q:Str)(st:Stmt)(f:Addr):Prop
 |mk {od an:Option Addr} {sl:Array (Option Value)} {oc kV dc pm cd ct:Value} (a:PySem.W.findIn K (.ref C) x=some (some (.ref f))) (b:isFn K (.ref f)=true) (l:K.lookup f=some ⟨oc,od,.func (fnOf x q (kX st) (iI st) (aF st) .none kV dc pm an cd ct),sl⟩) (c:codeIn K cd q=true) (k:keepIn K (.ref f)=true):cR K C x q st f
inductive iZ(P:Program)(w:World)(K:ah)(mg:aQ)(base:Heap):Prop
 |mk {h:Heap} (X:K.In h) (G:h.Ns mainGlobals mg):iZ P w K mg base
abbrev lO(x q:Str)(st:Stmt)(ps:List Str):Prop:=∀(kV doc pm:Value) (an:Option Addr) (bC ct:Value) (g:Nat->Value),bindArgs (fnOf x q (kX st) (iI st) (aF st) .none kV doc pm an bC ct) ⟨vL g ps.length 0,[]⟩=pure (ps.zip (vL g ps.length 0))
def lO.at{x q:Str}{st:Stmt}{ps:List Str}(b:lO x q st ps)(kV doc pm:Value)(an:Option Addr)(bC ct:Value)(us:List Value)(hl:us.length=ps.length):bindArgs (fnOf x q (kX st) (iI st) (aF st) .none kV doc pm an bC ct) ⟨us,[]⟩=pure (ps.zip us):=by
 have e:=G1 (λk=>us.getD k .none) us 0 λk=>by
  grind
 grind
section
variable {P:Program}{w:World}{K:ah}{mg:aQ}{base:Heap}{C f:Addr}{x q:Str}{st:Stmt}{ps:List Str}{n:Nat}{sp:Sp}
def iZ.p(D:iZ P w K mg base)(p:bO K x st f)(b:lO x x st ps:=by intro _ _ _ _ _ _ _;rfl):∃fd,aN K x x st f fd/\Binds K fd ps []/\keepIn K (.ref f)=true/\mg x=some (.ref f):=by
 obtain⟨X,G⟩:=D;obtain⟨a,l,c,k⟩:=p;exact⟨_,xm l c k,(xm l c k).binds (lO.at b),k,mg_of X G a⟩
def iZ.d(D:iZ P w K mg base)(p:bO K x st f)(o:∀fd,aN K x x st f fd->aE P w K mg base aM n f fd ps sp)(b:lO x x st ps:=by intro _ _ _ _ _ _ _;rfl):HasFn P w K mg base n x ps sp:=by
 obtain⟨fd,F,b,k,m⟩:=D.p p b;exact⟨f,fd,o _ F,b,k,m⟩
def iZ.dX(D:iZ P w K mg base)(p:bO K x st f)(o:∀fd,aN K x x st f fd->aE P w K mg base (dW P w) n f fd ps sp)(b:lO x x st ps:=by intro _ _ _ _ _ _ _;rfl):Iv P w K mg base n x ps sp:=by
 obtain⟨fd,F,b,k,m⟩:=D.p p b;exact⟨f,fd,o _ F,b,k,m⟩
def cR.p(p:cR K C x q st f)(b:lO x q st ps):∃fd,aN K x q st f fd/\Binds K fd ps []/\Meth K C x f/\PySem.W.findIn K (.ref C) x=some (some (.ref f))/\isFn K (.ref f)=true:=by
 obtain⟨a,e,l,c,k⟩:=p;exact⟨_,xm l c k,(xm l c k).binds (lO.at b),⟨a,e,k⟩,a,e⟩
def iZ.m(_:iZ P w K mg base)(kc:fU K C)(p:cR K C x q st f)(o:∀fd,aN K x q st f fd->aE P w K mg base aM n f fd ps sp)(b:lO x q st ps:=by intro _ _ _ _ _ _ _;rfl):cE P w K mg base n x C ps sp:=by
 obtain⟨fd,F,b,m,_,_⟩:=p.p b;exact⟨f,fd,kc,m,o _ F,b⟩
def iZ.mX(_:iZ P w K mg base)(kc:fU K C)(p:cR K C x q st f)(o:∀fd,aN K x q st f fd->aE P w K mg base (dW P w) n f fd ps sp)(b:lO x q st ps:=by intro _ _ _ _ _ _ _;rfl):Qw P w K mg base n x C ps sp:=by
 obtain⟨fd,F,b,m,_,_⟩:=p.p b;exact⟨f,fd,kc,m,o _ F,b⟩
def iZ.i(_:iZ P w K mg base){y:Str}(m:mg y=some (.ref C))(cb:makesIn K C=true)(cc:keepIn K (.ref C)=true)(p:cR K C "__init__" q st f)(o:∀fd,aN K "__init__" q st f fd->aE P w K mg base aM n f fd ps sp)(b:lO "__init__" q st ps:=by intro _ _ _ _ _ _ _;rfl):uY P w K mg base n y C ps sp:=by
 obtain⟨fd,F,b,_,a,e⟩:=p.p b;exact⟨f,fd,⟨cb,a,e,cc⟩,o _ F,b,m⟩
end
end L2
namespace L2
open PySem PySem.Spec PyProof.Rows
section
variable {X:Cx}{K:ah}
def bU(i:Nat){x:Str}{e:Expr}{te:TE}{pos pos':Pos}(hN:X.N.Nodup)(he:PE X e te)(hi:X.N[i]?=some x:=by rfl)(hx:Loc X.env.scope x:=by exact Or.inl rfl)(hs:swapsWith e (some (.Name x pos')) pos.line X.env=pure false:=by rfl)
  (hf:X.fn x=true\/X.env.scope.names.lookup x=some .local:=by first|exact .inl rfl|exact .inr rfl|assumption):PS X (.Assign [.Name x pos'] e pos) (u5 te (sf i)):=gT hN hi hx he hs hf
def bF(i:Nat){x:Str}{pos:Pos}(hN:X.N.Nodup)(hi:X.N[i]?=some x:=by rfl)(hx:Loc X.env.scope x:=by exact Or.inl rfl)
  (hf:X.fn x=true\/X.env.scope.names.lookup x=some .local:=by first|exact .inl rfl|exact .inr rfl|assumption):PG X (.Name x pos) (sf i):=m8 hN hi hx hf
def pF(K:ah)(i:Nat){x f:Str}{p pos:Pos}(h:X.K=K:=by rfl)(hN:X.N[i]?=some x:=by rfl)(hv:sW X.env.scope x:=by first|exact Or.inl rfl|exact Or.inr (Or.inl rfl)|exact Or.inr (Or.inr rfl))(hd:(x==("__debug__":Str))=false:=by decide)
  (e_:(x==("__classdict__":Str))=false:=by decide)(hb:attributeBase (.Name x p) f X.env (eval (.Name x p) X.env)=eval (.Name x p) X.env:=by rfl):PE X (.Attribute (.Name x p) f pos) (Ij K (fQ i) f):=w8 h (pv i hN hv hd e_) hb
def aW{k j:Nat}{x:Str}{ps:List Str}{sp:Sp}{p pos:Pos}{e:Expr}{es:List Expr}{t:TA}(h:HasFn X.prog X.w X.K X.mg X.base k x ps sp)(hr:cF j X.A)(ha:PA X (e::es) t)(hj:k<=j:=by omega)(hg:Gl X x:=by rfl)
  (eN:(x==("__debug__":Str))=false:=by decide)(he:ik X e es:=by rfl)(bQ:iV X pos es:=by rfl):
  PE X (.Call (.Name x p) (e::es) [] pos) (AJ sp [] E0 t):=Hq h hr hj hg ha eN he bQ
def bj{r:R2}{a b:Expr}{ta tb:TE}{pos:Pos}(hr:iX X r)(ha:PE X a ta)(hb:PE X b tb)(hs:OD b:=by exact λ_ _=>rfl):PE X (.Subscript a b pos) (jv r ta tb):=Rn hr ha hb hs
end
section
variable {P:Program}{w:World}{K:ah}{mg:aQ}{base:Heap}
def aN.o{x qual:Str}{st:Stmt}{f:Addr}{fd:FuncData}{N ps:List Str}{k:Nat}{sp:Sp}(F:aN K x qual st f fd)(S:aP N ps (aF st))
  (oS:∀{bC:Value} {A:Around} {outer:List Env} {vs:List V} {Q:VK} {E:XK} (s:Shared) (H:Hp),cF k (A.deeper (envOfC qual (aF st) s.heap.objs.size f bC))->sp vs H Q E->
   ∃t,eZ (kh aM P w K mg base N qual (aF st) f bC A outer s H E).nM (iI st) t/\t {nx:=λ_ H'=>Q .az H',rt:=Q} (start N vs) H)
  (len:∀vs H Q E,sp vs H Q E->vs.length=ps.length:=by intro vs H Q E h;first|(cases h;subst_vars;rfl)|((repeat obtain⟨_,h⟩:=h);subst_vars;rfl)):aE P w K mg base aM (k+1) f fd ps sp:=F.ok S len λ_ _ _ s H _ _ _=>oS s H
end
def aP.aX{N P:List Str}{sc:Scope}(a:sc.kind=.function:=by rfl)(b:sc.isCoroutine=false:=by rfl)(c:sc.isGenerator=false:=by rfl)(d:N.Nodup:=by decide+kernel)(e:N.take P.length=P:=by rfl)(f:∀x∈P,sc.names.lookup x=some .local\/sc.names.lookup x=some .cell:=by decide+kernel)(g:∀y∈sc.names,y.2≠.free:=by decide+kernel):aP N P sc:=⟨a,b,c,d,e,f,g⟩
def zJ.gu{X:Cx}{scope:Scope}{cl:List (Str×Addr)}{x:Str}{fr:List (Str×Nat)}(sub:qi X.env.cells cl)(cP:qj X scope cl fr)(a:closureFor scope X.env=pure cl:=by with_unfolding_all rfl)(b:scope.kind=.function:=by rfl)(c:∀y∈scope.names,y.2=.local->scope.names.lookup y.1=some .local:=by decide+kernel)(d:scope.names.lookup x=some .local:=by rfl)
  (e:∀y∈scope.names,y.2≠.cell:=by decide+kernel)(f:(scope.names.all λy=>!(y.2==.free)||(cl.lookup y.1).isSome)=true:=by rfl)(g:(x::fr.map (·.1)).Nodup:=by decide+kernel):zJ X scope cl x fr:=⟨a,sub,b,c,d,e,f,cP,g⟩
def pX.gu{X:Cx}{scope:Scope}{cl:List (Str×Addr)}{xs:List Str}{fr:List (Str×Nat)}(sub:qi X.env.cells cl)(cP:qj X scope cl fr)(a:closureFor scope X.env=pure cl:=by with_unfolding_all rfl)(b:scope.kind=.function:=by rfl)(c:∀y∈scope.names,y.2=.local->scope.names.lookup y.1=some .local:=by decide+kernel)
  (e:∀y∈scope.names,y.2≠.cell:=by decide+kernel)(f:(scope.names.all λy=>!(y.2==.free)||(cl.lookup y.1).isSome)=true:=by rfl)(g:(xs++fr.map (·.1)).Nodup:=by decide+kernel):pX X scope cl xs fr:=⟨a,sub,b,c,e,f,cP,g⟩
end L2
namespace L2
open PySem PySem.W PySem.Spec PyProof.Rows
inductive qS(K:ah):List Str->Prop
 |nil:qS K []
 |cons {x:Str} {l:List Str} (h:nsIn K mainGlobals x=some none) (t:qS K l):qS K (x::l)
theorem qS.at{K:ah}{x:Str}:∀{l:List Str},qS K l->x∈l->nsIn K mainGlobals x=some none
 |_,.cons h t,m=>by
  cases m with
  |head=>exact h
  |tail _ m=>exact t.at m
def qS.bl{K:ah}{h:Heap}{mg:aQ}(z:qS K ["len","abs","list","range","tuple","any","all","isinstance","bool","int","str","sorted","min","max","sum","dict","reversed","ValueError"])(X:K.In h)(G:h.Ns mainGlobals mg):Bl mg:=by
 constructor<;>exact PySem.W.mg_none_of X G (z.at (by decide))
inductive yy(K:ah)(x:Str)(C:Addr):Prop
 |mk (a:nsIn K mainGlobals x=some (some (.ref C))) (b:makesIn K C=true) (c:keepIn K (.ref C)=true):yy K x C
def iZ.j{P:Program}{w:World}{K:ah}{mg:aQ}{base:Heap}{C f:Addr}{y q:Str}{st:Stmt}{ps:List Str}{n:Nat}{sp:Sp}(D:iZ P w K mg base)(g:yy K y C)(p:cR K C "__init__" q st f)(o:∀fd,aN K "__init__" q st f fd->aE P w K mg base aM n f fd ps sp)(b:lO "__init__" q st ps:=by intro _ _ _ _ _ _ _;rfl):uY P w K mg base n y C ps sp:=by
 obtain⟨a,m,k⟩:=g;exact D.i (let⟨X,G⟩:=D;mg_of X G a) m k p o b
inductive yz(K:ah)(x q:Str)(cs:List Addr)(st:Stmt)(C f:Addr):Prop
 |mk {N t:Addr} {nm qn:Str} {bs sub:List Value} {sn:List Str} {ab:Bool} {col:Option Bool} {dd:Option Addr} {k0 k1 k2 k3 k5:Option Value} {od an td:Option Addr} {sl ts:Array (Option Value)} {oc kV dc pm cd ct tc it:Value} {tn:Nat}
  (a:nsIn K mainGlobals x=some (some (.ref C))) (l:K.lookup C=some (excClassObj nm qn C N bs (cs.map Value.ref++ph) true sn sub ab col dd k0 k1 k2 k3 k5 "ValueError.__new__"))
  (g1:PySem.W.findIn K (.ref C) "__getattribute__"=some (some (.builtin "BaseException.__getattribute__"))) (g2:PySem.W.findIn K (.ref C) "__getattr__"=some none) (g3:PySem.W.findIn K (.ref C) "__setattr__"=some (some (.builtin "object.__setattr__"))) (g4:PySem.W.findIn K (.ref C) "__class__"=some (some (.builtin "object.__class__")))
  (g5:specialIn K (.builtin "object.__class__") "__get__"=some (some (.builtin "getset_descriptor.__get__"))) (g6:takesIn K (.builtin "object.__class__")=some true)
  (ci:PySem.W.findIn K (.ref C) "__init__"=some (some (.ref f))) (cn:isFn K (.ref f)=true) (ck:keepIn K (.ref C)=true)
  (fl:K.lookup f=some ⟨oc,od,.func (fnOf "__init__" q (kX st) (iI st) (aF st) (.ref t) kV dc pm an cd ct),sl⟩) (fc:codeIn K cd q=true) (fk:keepIn K (.ref f)=true) (ft:K.lookup t=some ⟨tc,td,.seq #[it] tn,ts⟩)
  (na:PySem.W.findIn K (.ref C) "word"=some none):yz K x q cs st C f
abbrev BdE(q:Str)(st:Stmt)(ps:List Str):Prop:=∀(s:Shared) (kV doc pm it tc:Value) (td:Option Addr) (ts:Array (Option Value)) (tn:Nat) (t:Addr) (an:Option Addr) (bC ct:Value) (g:Nat->Value),s.heap.get? t=some ⟨tc,td,.seq #[it] tn,ts⟩->BindsTo s (fnOf "__init__" q (kX st) (iI st) (aF st) (.ref t) kV doc pm an bC ct) ⟨vL g ps.length 0,[]⟩ (ps.zip (vL g ps.length 0))
def yz.b{K:ah}{h:Heap}{mg:aQ}{x q:Str}{cs:List Addr}{st:Stmt}{C f:Addr}(p:yz K x q cs st C f)(X:K.In h)(G:h.Ns mainGlobals mg)(ps:List Str)(b:BdE q st ps:=by intro _ _ _ _ _ _ _ _ _ _ _ _ _ _ z;exact BindsTo.of_defaults rfl z rfl rfl rfl):
  ∃fd,xU K "__init__" q st f fd/\Binds K fd ps []/\dC K C/\u9 K C f/\mg x=some (.ref C)/\de K C "word":=by
 obtain⟨a,l,g1,g2,g3,g4,g5,g6,ci,cn,ck,fl,fc,fk,ft,na⟩:=p;have xa:dC K C:=⟨⟨_,_,_,_,cs,_,_,_,_,_,_,_,_,_,_,l⟩,g1,g2,g3,g4,g5,g6⟩;refine⟨_,⟨⟨_,_,_,_,_,_,_,_,_,_,rfl,fl,fc⟩,fk⟩,λs us KX hl=>?_,xa,u9.of xa ci cn ck,mg_of X G a,na⟩;rw[Wd] at hl⊢;have e:=G1 (λk=>us.getD k .none) us 0 λk=>by
  grind
 rw[e,hl];exact b s _ _ _ _ _ _ _ _ _ _ _ _ _ (KX _ _ ft)
end L2
namespace L2
open PySem PySem.Spec PyProof.Rows
section
variable {X:Cx}{a b e e2:Expr}{ta tb te Uc:TE}{p pos:Pos}
def dq(K:ah)(bl:Bl X.mg)(he:PE X e te)(h:X.K=K:=by rfl)(hg:Gl X "len":=by rfl)(df:starEach [e] X.env=(false,eval e X.env)::starEach [] X.env:=by rfl)(bQ:(backTo pos (starEach [] X.env)).any (·.1)=false:=by rfl):PE X (.Call (.Name "len" p) [e] [] pos) (mO (xT K) (gW te js)):=h_ (ZgE h) hg bl.AN Aw (aa he ae df) (by decide) (by decide) df bQ
def lP(K:ah)(bl:Bl X.mg)(he:PE X e te)(h2:PE X e2 Uc)(h:X.K=K:=by rfl)(hg:Gl X "isinstance":=by rfl)(qN:starEach [e2] X.env=(false,eval e2 X.env)::starEach [] X.env:=by rfl)(df:starEach [e,e2] X.env=(false,eval e X.env)::starEach [e2] X.env:=by rfl)(bQ:(backTo pos (starEach [e2] X.env)).any (·.1)=false:=by rfl):PE X (.Call (.Name "isinstance" p) [e,e2] [] pos) (mO (A3 K) (gW te (gW Uc js))):=h_ (ZcV h) hg bl.L3 LW (aa he (aa h2 ae qN) df) (by decide) (by decide) df bQ
def iL(K:ah)(h:X.K=K:=by rfl):iX X (u6 K):=Zbv h
def iT(K:ah)(h:X.K=K:=by rfl):iX X (AZ K):=ZcU h
def bG{op:CmpOp}{r:R2}(ho:cG X (compareOp op) r)(ha:PE X a ta)(hb:PE X b tb)(hm:behindInMarks op b=false:=by exact P4 _):PT X (.Compare a [op] [b] pos) (Hn (jv r ta tb)):=iG ho ha hb hm
def eO{op:CmpOp}{r:R2}(ho:cG X (compareOp op) r)(ha:PE X a ta)(hb:PE X b tb)(hm:behindInMarks op b=false:=by exact P4 _):PE X (.Compare a [op] [b] pos) (jv r ta tb):=Ac ho ha hb hm
end
end L2
namespace Kx
open PySem L2
variable {P:Program}{w:World}{K:PySem.W.Frag}{mg:Str->Option Value}{base:Heap}{f C CL CJ:Addr}{fd:FuncData}
def top(i:Nat):Stmt:=PySem.Challenge.pw_kinhearth_k30_pairs_between_two.main.body.getD i (.Pass ⟨0,0,0,0⟩)
abbrev FH:Stmt:=top 19
abbrev Gx:Stmt:=top 20
abbrev F7:Stmt:=top 21
abbrev G3:Stmt:=top 23
abbrev D6:Stmt:=top 25
abbrev D7:Stmt:=top 75
abbrev Dl:Stmt:=top 76
abbrev FI:Stmt:=top 77
abbrev EZ:Stmt:=top 22
abbrev DT:Stmt:=top 24
abbrev E1:Stmt:=top 2
abbrev F8:Stmt:=top 34
abbrev E2:Stmt:=top 35
abbrev E3:Stmt:=top 38
abbrev Eo:Stmt:=top 39
abbrev Ep:Stmt:=top 40
abbrev FJ:Stmt:=top 47
abbrev DD:Stmt:=top 48
abbrev Es:Stmt:=top 49
abbrev Et:Stmt:=top 50
abbrev DE:Stmt:=top 51
abbrev DF:Stmt:=top 52
abbrev DG:Stmt:=top 53
abbrev Dm:Stmt:=top 54
abbrev Eu:Stmt:=top 70
abbrev FK:Stmt:=top 56
abbrev MA:Stmt:=top 79
abbrev Mc:Stmt:=top 80
abbrev MB:Stmt:=top 81
abbrev FN:Stmt:=top 82
abbrev DU:Stmt:=top 83
abbrev Ew:Stmt:=top 84
abbrev Ex:Stmt:=top 85
abbrev zA:Stmt:=top 86
abbrev E4:Stmt:=top 87
abbrev DV:Stmt:=top 88
abbrev E5:Stmt:=top 90
abbrev E6:Stmt:=top 91
abbrev F9:Stmt:=top 92
abbrev E7:Stmt:=top 93
abbrev Ey:Stmt:=top 94
abbrev E8:Stmt:=top 95
abbrev E9:Stmt:=top 96
abbrev E_:Stmt:=top 97
abbrev FO:Stmt:=top 98
abbrev Fb:Stmt:=top 99
abbrev Fd:Stmt:=top 100
abbrev Fe:Stmt:=top 89
abbrev Ez:Stmt:=top 101
abbrev EA:Stmt:=top 102
abbrev sy:Stmt:=top 103
abbrev EB:Stmt:=inClass (top 74) 0
abbrev EC:Stmt:=inClass (top 74) 1
abbrev D8:Stmt:=inClass (top 58) 0
abbrev ED:Stmt:=inClass (top 58) 1
abbrev EE:Stmt:=inClass (top 58) 2
abbrev EF:Stmt:=inClass (top 58) 3
abbrev Dn:Stmt:=inClass (top 58) 4
abbrev D9:Stmt:=inClass (top 58) 5
abbrev Df:Stmt:=inClass (top 58) 6
abbrev DW:Stmt:=inClass (top 58) 8
abbrev DH:Stmt:=inClass (top 58) 12
abbrev C1:Stmt:=inClass (top 58) 13
abbrev D_:Stmt:=inClass (top 58) 14
abbrev DX:Stmt:=inClass (top 69) 0
abbrev Dp:Stmt:=inClass (top 69) 1
abbrev Ea:Stmt:=inClass (top 69) 2
abbrev Eb:Stmt:=inClass (top 69) 3
abbrev DY:Stmt:=inClass (top 69) 4
abbrev DZ:Stmt:=inClass (top 69) 5
abbrev Dq:Stmt:=inClass (top 69) 10
abbrev Dg:Stmt:=inClass (top 69) 11
abbrev Xm:Stmt:=inClass (top 69) 12
abbrev Ec:Stmt:=inClass (top 69) 13
abbrev C6:Stmt:=inClass (top 69) 17
abbrev C4:Stmt:=inClass (top 69) 18
abbrev DI:Stmt:=inClass (top 69) 19
abbrev Dh:Stmt:=inClass (top 69) 20
abbrev DJ:Stmt:=inClass (top 69) 21
abbrev Dr:Stmt:=inClass (top 69) 22
abbrev C7:Stmt:=inClass (top 69) 23
abbrev Dc:Stmt:=inClass (top 69) 24
abbrev Dd:Stmt:=inClass (top 69) 16
abbrev Du:Stmt:=inClass (top 4) 0
abbrev Dv:Stmt:=inClass (top 11) 0
abbrev RK:Stmt:=MA
abbrev Qz:Stmt:=Mc
abbrev RL:Stmt:=MB
section
variable {K:ah}{mg:aQ}
abbrev vM:List Str:=["self","word","why"]
def V6:aP vM vM (aF Du):=.aX
def YR(F:xU K "__init__" "KinError.__init__" Du f fd)(bl:Bl mg):aE P w K mg base aM 1 f fd vM (RA K):=by
 refine F.ok V6 (λvs H Q E h=>?_) (λbC A outer s H vs Q E hr h=>?_)
 ·obtain⟨a,C,wd,y,rfl,_⟩:=h;rfl
 obtain⟨a,C,wd,y,rfl,ha,xa,na,lw,ly,q⟩:=h;refine⟨_,(aq (b_ (ZbD rfl bl.XG (aa (pv 0) (aa (Zbi (FG (K:=K) rfl (F4 (pv 2) (λ_=>rfl))) (Zc1 (Gw (Qp hr (pv 1)) (Gw bc (Gw (Qp hr (pv 2)) Zes)))) (pv 1)) ae)))) (av (ZcW (pv 0) (pv 1)))),?_⟩;have fin:∀t:Str,GU K [.ref a,.str t] H λ_ H1=>Rt K (fQ 0) (fQ 1) "word" {nx:=λ_ H'=>Q .az H',rt:=Q} [some (.ref a),some (.str wd),some (.str y)] H1:=λt=>
  ⟨a,C,.str t,rfl,xa,ha,_,rfl,_,rfl,a,C,rfl,xa,na,.inl ⟨ha,λd hd nd=>q d hd nd⟩⟩
 have lim:(1000200:Nat)<=sizeLine:=by rw[sizeLine_eq];omega
 refine⟨_,rfl,_,rfl,_,⟨by omega,rfl⟩,?_⟩;refine bJ (λc=>?_) (λc=>?_)
 ·refine⟨_,rfl,.inl ⟨wd,rfl,by omega,wd,rfl,?_,?_⟩⟩
  ·rw[strLen_append];show 0+wd.length<=sizeLine;omega
  refine⟨_,rfl,?_,?_⟩
  ·rw[strLen_append,strLen_append];show 0+wd.length+2<=sizeLine;omega
  refine⟨_,rfl,.inl ⟨y,rfl,by omega,y,rfl,?_,?_,fin _⟩⟩
  ·rw[strLen_append,strLen_append,strLen_append];show 0+wd.length+2+y.length<=sizeLine;omega
  ·rw[strLen_append,strLen_append,strLen_append];show 0+wd.length+2+y.length<=sizeLine;omega
 ·exact⟨_,rfl,fin _⟩
end
section
variable {K:ah}{mg:aQ}{fk ck c:Addr}{Ud:FuncData}
def V7:aP vJ vJ (aF Dv):=.aX
def YS(F:xU K "__init__" "NoPerson.__init__" Dv f fd)(EG:Hv K ck "__init__" fk)(ZT:aE P w K mg base aM 1 fk Ud vM (RA K))(Ff:Binds K Ud vM [])(ux:mg "KinError"=some (.ref ck))(xa:dC K c)(na:de K c "word"):
  aE P w K mg base aM 2 f fd vJ (RB "no person" c):=by
 refine F.ok V7 (λvs H Q E h=>?_) (λbC A outer s H vs Q E hr h=>?_)
 ·obtain⟨a,y,rfl,_⟩:=h;rfl
 obtain⟨a,y,rfl,ha,ly,q⟩:=h;refine⟨_,(av (b_ (ZbB EG ZT (hr.mono (by omega)) rfl ux Ff .nil xF (aa (pv 0) (aa bc (aa (pv 1) ae)))))),?_⟩;exact⟨_,rfl,_,rfl,a,c,_,y,rfl,ha,xa,na,by decide,ly,λd hd nd=>q d hd nd⟩
end
section
variable {K:ah}{mg:aQ}
abbrev B_:List Str:=["_law_script","_law_k"]
def Ze9:aP B_ B_ (aF RK):=⟨rfl,rfl,rfl,by decide+kernel,rfl,by decide+kernel,by decide+kernel⟩
def Zdm(F:aN K "_law_cell" "_law_cell" RK f fd)(ml:mg "len"=none):aE P w K mg base aM 1 f fd B_ (Qi K):=by
 refine F.ok Ze9 (λvs H Q E h=>?_) (λbC A outer s H vs Q E hr h=>?_)
 ·obtain⟨a,ns,k,rfl,_⟩:=h;rfl
 obtain⟨a,ns,k,rfl,hS,h0,q⟩:=h;refine⟨_,aq (aV (bG nF (pv 1) (h_ L0 rfl ml Aw (aa (pv 0) ae))) (av (aG (Rn Gu (pv 0) (pv 1) (λ_ _=>rfl)))) aZ)
  (av (aG aO)),?_⟩
 refine⟨_,rfl,_,rfl,a,_,rfl,.inl hS,_,_,rfl,rfl,_,rfl,?_⟩;refine bJ (λc=>?_) (λc=>?_)
 ·have c':k<(((ns.map V.int).length:Nat):Int):=of_decide_eq_true c;rw[(Ya _)] at c';exact⟨_,rfl,_,rfl,a,_,_,_,rfl,rfl,hS,ny h0 c',q _⟩
 ·exact q _
abbrev yA:List Str:=["_law_cell_here","_law_parts"]
def oM:aP ["_law_cell_here","_law_parts","_law_one","_law_two","_law_six","_law_found","_law_part"] yA (aF Qz):=⟨rfl,rfl,rfl,by decide+kernel,rfl,by decide+kernel,by decide+kernel⟩
def Zb6(F:aN K "_law_draws" "_law_draws" Qz f fd)(ma:mg "abs"=none):aE P w K mg base aM 1 f fd yA (Ah K):=by
 refine F.ok oM (λvs H Q E h=>?_) (λbC A outer s H vs Q E hr h=>?_)
 ·obtain⟨c,a,ps,rfl,_⟩:=h;rfl
 obtain⟨c,a,ps,rfl,hS,hps,hlen,q⟩:=h;refine⟨_,aq (aV (bG nF (h_ Nu rfl ma Qf (aa (pv 0) ae)) (a_ P1 aO aO))
   (aq (gT (i:=2) oM.nd rfl (Or.inl rfl) (a_ d5 (a_ iK (a_ oO (pv 0) aO) aO) aO))
   (aq (gT (i:=3) oM.nd rfl (Or.inl rfl) (a_ d5 (a_ iK (a_ iK (a_ oO (pv 2) (pv 2)) (a_ oO aO (pv 2))) (pv 0)) aO))
   (aq (gT (i:=4) oM.nd rfl (Or.inl rfl) (a_ d5 (a_ iK (a_ oO (pv 3) aO) (pv 2)) aO))
   (av (gT (i:=0) oM.nd rfl (Or.inl rfl) (a_ iK (pv 3) (a_ oO aO (a_ iK (pv 4) (a_ oO aO (pv 2))))))))))
   (av (gT (i:=0) oM.nd rfl (Or.inl rfl) (a_ As (h_ Nu rfl ma Qf (aa (pv 0) ae)) (a_ P1 aO aO)))))
  (aq (gT (i:=5) oM.nd rfl (Or.inl rfl) (xk ae))
  (aq (fP PassesOwn.never rfl (Ov (pv 1)) (m8 (i:=6) oM.nd rfl (Or.inl rfl))
   (aq (b_ (ka plainAttrs_list PySem.F.slot_list_append PySem.F.type_list_append wR (pv 5) (aa (a_ d5 (pv 0) (pv 6)) ae)))
   (av (gT (i:=0) oM.nd rfl (Or.inl rfl) (a_ Aa (pv 0) (pv 6))))))
  (av (aG (pv 5))))),?_⟩
 refine gI (λσ H'=>H'=H/\∃c' o2 o3 o4,σ=[some (.int c'),some (.ref a),o2,o3,o4,none,none]) (λnx k=>?_) ?_
 ·refine⟨_,rfl,c,rfl,_,_,rfl,rfl,⟨by decide,by decide,by decide⟩,_,_,rfl,rfl,_,rfl,?_⟩;refine bJ (λ_=>?_) (λ_=>?_)
  ·refine⟨_,rfl,_,_,rfl,rfl,.inr ⟨by decide,by decide⟩,_,_,rfl,rfl,_,_,rfl,rfl,(by show(0:Int)<2147483647;decide),?_⟩;refine⟨_,rfl,_,rfl,_,_,rfl,rfl,.inl (Zei _ (by decide) (by decide)),_,rfl,_,_,rfl,rfl,.inl ⟨by decide,by decide⟩,_,_,rfl,rfl,_,rfl,_,_,rfl,rfl,_,_,rfl,rfl,(by show(0:Int)<2147483399;decide),?_⟩;refine⟨_,rfl,_,_,rfl,rfl,.inr ⟨by decide,by decide⟩,_,rfl,_,_,rfl,rfl,_,_,rfl,rfl,(by show(0:Int)<1000000007;decide),?_⟩;refine⟨_,rfl,_,rfl,_,rfl,_,_,rfl,rfl,.inl ⟨by decide,by decide⟩,_,_,rfl,rfl,_,_,rfl,rfl,.inl ⟨by decide,by decide⟩,_,_,rfl,rfl,k _ _ ⟨rfl,_,_,_,_,rfl⟩⟩
  ·exact⟨_,rfl,c,rfl,_,_,rfl,rfl,⟨by decide,by decide,by decide⟩,_,_,rfl,rfl,k _ _ ⟨rfl,_,_,_,_,rfl⟩⟩
 ·rintro σ H0 ⟨rfl,c',o2,o3,o4,rfl⟩;refine⟨(by show 0<=sizeLine;decide),λl hl=>?_⟩;have s1:aj H0 (upd H0 l (.lst [])):=cq hl _;refine⟨_,rfl,a,rfl,⟨_,s1.seq hS⟩,je (K:=K) (a:=a) (xs:=ps.map V.int) (λi σ H2=>∃c o2 o3 o4 o6 ds,σ=[some (.int c),some (.ref a),o2,o3,o4,some (.ref l),o6]/\aj H0 H2/\H2 l=some (.lst (ds.map V.int))/\Paired Bd ds (ps.take i))
   ⟨c',o2,o3,o4,none,[],rfl,s1,aR,by rw[List.take_zero];exact .nil⟩ (λi σ H2 _ ⟨_,_,_,_,_,_,_,s2,_⟩=>s2.seq hS) ?_ ?_⟩
  ·rintro i y σ H2 hi ⟨c,o2,o3,o4,o6,ds,rfl,s2,h2,b2⟩;obtain⟨p,rfl,hp⟩:=jY hi;have dG:i<ps.length:=(Yl.mp hp).1;obtain⟨p0,p1⟩:=hps p (Yg hp);have dl:=b2.length;rw[Y8] at dl;refine⟨_,rfl,.inl ⟨rfl,_,ak.of h2⟩,_,rfl,_,rfl,_,_,rfl,rfl,p0,l,_,_,rfl,rfl,h2,(by rw[Ya];exact jV (by omega)),?_⟩;refine⟨_,rfl,_,rfl,_,_,rfl,rfl,⟨p0,p1⟩,?_⟩;refine⟨_,o2,o3,o4,_,ds++[c % p],rfl,λb o e=>?_,?_,?_⟩
   ·rw[aK (bY e hl)];exact s2 b o e
   ·rw[aR,Nz]
   ·rw[Y1,hp];exact b2.snoc ⟨W5 _ (J_ p0),Wq _ p0⟩
  ·rintro σ H2 ⟨c,o2,o3,o4,o6,ds,rfl,s2,h2,b2⟩;rw[Ya,Wb] at b2;exact⟨_,rfl,q l ds H2 hl s2 h2 b2⟩
abbrev Ky:List Str:=["_law_code","_law_size"]
def xA:aP ["_law_code","_law_size","_law_free","_law_found","_law_k"] Ky (aF RL):=⟨rfl,rfl,rfl,by decide+kernel,rfl,by decide+kernel,by decide+kernel⟩
def Zdn(F:aN K "_law_turn" "_law_turn" RL f fd)(mL:mg "list"=none)(mR:mg "range"=none)(mT:mg "tuple"=none):aE P w K mg base aM 1 f fd Ky Qj:=by
 refine F.ok xA (λvs H Q E h=>?_) (λbC A outer s H vs Q E hr h=>?_)
 ·obtain⟨c,n,rfl,_⟩:=h;rfl
 obtain⟨c,n,rfl,hn,q⟩:=h;refine⟨_,aq (gT (i:=2) xA.nd rfl (Or.inl rfl) (eS (DR rfl) rfl mL uO (aa (eS zo rfl mR uJ (aa (pv 1) ae)) ae)))
  (aq (gT (i:=3) xA.nd rfl (Or.inl rfl) (xk ae))
  (aq (fP PassesOwn.never rfl (p_ rfl mR (aa (pv 1) ae)) (m8 (i:=4) xA.nd rfl (Or.inl rfl))
   (aq (b_ (ka plainAttrs_list PySem.F.slot_list_append PySem.F.type_list_append wR (pv 3) (aa (ka plainAttrs_list PySem.F.slot_list_pop PySem.F.type_list_pop Zbq (pv 2) (aa (a_ d5 (pv 0) (a_ As (pv 1) (pv 4))) ae)) ae)))
   (av (gT (i:=0) xA.nd rfl (Or.inl rfl) (a_ Aa (pv 0) (a_ As (pv 1) (pv 4)))))))
  (av (aG (eS ud rfl mT m7 (aa (pv 3) ae)))))),?_⟩
 refine⟨_,rfl,_,rfl,λr vN=>?_⟩;refine⟨r,n,rfl,aR,by omega,λu hu=>?_⟩;refine⟨(by show 0<=sizeLine;decide),λl hl=>?_⟩;have g1:aj H (upd H r (.jJ 0 (n:Int))):=cq vN _;have g2:=g1.trans (cq hu (.lst ((bp n).map V.int)));have g3:=g2.trans (cq hl (.lst []));have Kz:u≠l:=bY aR hl;refine⟨_,rfl,(n:Int),rfl,by omega,by omega,Fy (lo:=0) (n:=n) (λi σ H2=>∃c o4 ds fs,σ=[some (.int c),some (.int (n:Int)),some (.ref u),some (.ref l),o4]/\aj H H2/\H2 u=some (.lst (fs.map V.int))/\H2 l=some (.lst (ds.map V.int))/\(ds++fs).Perm (bp n)/\ds.length=i)
  ⟨c,none,[],bp n,rfl,g3,by rw[aK Kz];exact aR,aR,by rw[Ue],rfl⟩ ?_ ?_⟩
 ·rintro i σ H2 hi ⟨c,o4,ds,fs,rfl,s2,KA,vE,pm,dl⟩;have pl:=pm.length_eq;rw[Yi,eG,dl] at pl;have A7:(0:Int)<(n:Int)-(0+(i:Int)):=by omega
  have m0:=W5 c (J_ A7);have m1:=Wq c A7;have hk:(c % ((n:Int)-(0+(i:Int)))).toNat<fs.length:=by omega
  refine⟨_,rfl,.inl ⟨rfl,_,ak.of vE⟩,_,rfl,.inl ⟨rfl,_,ak.of KA⟩,_,rfl,_,rfl,_,rfl,_,_,rfl,rfl,_,_,rfl,rfl,A7,u,_,_,_,.int fs[(c % ((n:Int)-(0+(i:Int)))).toNat],rfl,rfl,KA,by omega,by omega,((Gr (GR m0 (by rw[Ya];omega))).1),by rw[Ye,Yc hk];rfl,?_⟩;refine⟨l,_,_,rfl,rfl,by rw[aK Kz.symm];exact vE,(by rw[Ya];exact jV (by omega)),?_⟩;refine⟨_,rfl,_,rfl,_,rfl,_,_,rfl,rfl,_,_,rfl,rfl,⟨A7,by omega⟩,?_⟩;refine⟨_,_,ds++[fs[(c % ((n:Int)-(0+(i:Int)))).toNat]],fs.eraseIdx (c % ((n:Int)-(0+(i:Int)))).toNat,rfl,λb o e=>?_,?_,?_,?_,?_⟩
  ·have nl:b≠l:=bY (g2 b o e) hl;have nu:b≠u:=bY (g1 b o e) hu;rw[aK nl,aK nu];exact s2 b o e
  ·rw[aK Kz,aR,MU]
  ·rw[aR,Nz]
  ·refine List.Perm.trans ?_ pm;rw[Jo];refine List.Perm.append_left ds ?_;exact(Mp fs _ hk).symm
  ·rw[Yi,List.length_singleton,dl]
 ·rintro σ H2 ⟨c,o4,ds,fs,rfl,s2,KA,vE,pm,dl⟩;have pl:=pm.length_eq;rw[Yi,eG,dl] at pl;have e:fs=[]:=List.eq_nil_of_length_eq_zero (by omega);rw[e,Wd] at pm;refine⟨_,rfl,l,_,rfl,.inl ⟨ak.of vE,λt ht=>?_⟩⟩;exact q t ds _ (s2.free ht) (s2.trans (cq ht _)) aR pm
end
def Zdo{ds:List Int}{a b c d e:Int}(h:Paired Bd ds [a,b,c,d,e]):∃v w x y z,ds=[v,w,x,y,z]/\Bd v a/\Bd w b/\Bd x c/\Bd y d/\Bd z e:=by
 cases h with|cons h1 h=>cases h with|cons h2 h=>cases h with|cons h3 h=>cases h with|cons h4 h=>cases h with|cons h5 h=>
  cases h
  grind
def bg{q:St->Hp->Prop}{i:Nat}{x:V}{σ:St}{H:Hp}(h:q (σ.set i (some x)) H):sf i x σ H q:=h
def QA{K:ah}{H:Hp}{p:Addr}{xs:List V}{i:Nat}{x:V}{Q:VK}(hp:ak K H p xs\/aB K H p xs)(h:xs[i]?=some x)(q:Q x H):JO K (.ref p) (.int (0+(i:Int))) H Q:=by
 rcases hp with hp|hp;·exact .inl ⟨p,_,_,_,rfl,rfl,hp,ND h,q⟩
 ·exact .inr (.inl ⟨p,_,_,_,rfl,rfl,hp,ND h,q⟩)
def zY(v:V):decide (v=v)=true:=decide_eq_true rfl
theorem all_true(n:Nat):(List.replicate n true).all id=true:=by
 induction n with
 |zero=>rfl
 |succ n ih=>rw[List.replicate_succ,Jg,ih];rfl
inductive NR(m:Nat)(vs:List V)(H:Hp)(Q:VK):Prop
 |mk (x y:V) (d:Dt) (k:Nat) (aC:vs=[x,y]) (aS:m=k+1) (bb:At H k x d) (bL:At H k y d) (cD:∀H',aj H H'->Q (.bl true) H'):NR m vs H Q
def r6(m:Nat):Sp:=λvs H Q _=>NR m vs H Q
section
variable {K:ah}{mg:aQ}
abbrev nR:List Str:=["_law_found","_law_due"]
def YT:aP nR nR (aF zA):=.aX
theorem Zb7{n:Nat}(F:aN K "_law_same" "_law_same" zA f fd)(uy:HasFn P w K mg base n "_law_same" nR (r6 n))(bl:Bl mg):aE P w K mg base aM (n+1) f fd nR (r6 (n+1)):=by
 refine F.o YT λs H hr h=>?_;obtain⟨x,y,d,k,rfl,ek,hx,hy,q⟩:=h;obtain rfl:k=n:=by omega
 have hu:=hr.uT;refine⟨_,(aq (aV (bG GN (pv 1) lZ) (av (aG (eO GN (pv 0) lZ))) aZ) (aq (aV (eY (lP K bl (pv 1) (k_ rfl bl.Ay Ag))) (av (aG (ql (lP K bl (pv 0) (k_ rfl bl.Ay Ag)) (nj (eO cv (pv 0) (pv 1)))))) aZ) (aq (aV (eY (lP K bl (pv 1) (k_ rfl bl.Rz Qh))) (av (aG (ql (lP K bl (pv 0) (k_ rfl bl.Rz Qh)) (ql (Zd3 (lP K bl (pv 0) (k_ rfl bl.Ay Ag))) (nj (eO cv (pv 0) (pv 1))))))) aZ) (aq (aV (eY (lP K bl (pv 1) (k_ rfl bl.xG xt))) (av (aG (ql (lP K bl (pv 0) (k_ rfl bl.xG xt)) (nj (eO cv (pv 0) (pv 1)))))) aZ) (aq (aV (PW.pt (pw_or (bG l_ (lP K bl (pv 1) (k_ rfl bl.uU uO)) (lP K bl (pv 0) (k_ rfl bl.uU uO))) (pw_or1 (bG l_ (lP K bl (pv 1) (k_ rfl bl.m9 m7)) (lP K bl (pv 0) (k_ rfl bl.m9 m7)))))) (av (aG jF)) aZ) (aq (aV (bG l_ (dq K bl (pv 0)) (dq K bl (pv 1))) (av (aG jF)) aZ) (av (aG (h_ (So (K:=K) rfl rfl) rfl bl.Ry Qg (aa (iJ (x:="_law_k") (fr:=[("_law_found",0),("_law_due",1)]) (cl:=[("_law_found",s.heap.objs.size+1),("_law_due",s.heap.objs.size+1+1)]) rfl (.gu ⟨rfl,⟨rfl,trivial⟩⟩ ⟨⟨rfl,.inl rfl,.inl rfl,rfl⟩,⟨⟨rfl,.inl rfl,.inl rfl,rfl⟩,trivial⟩⟩) (p_ rfl bl.jZ (aa (dq K bl (pv 1)) ae)) (λ_ _ _ _=>kY) (λ_ _ _ _=>(Hq uy hr (by omega) rfl (aa (bj (OM (K:=K) rfl) (pv 1) (pv 0)) (aa (bj (OM (K:=K) rfl) (pv 2) (pv 0)) ae))))) ae)))))))))),?_⟩;have sq:(∃(p r:Addr) (xs ys:List V) (ds:List Dt) (t:Value) (b1 b2:Bool) (m:Nat),x=.ref p/\y=.ref r/\jr K H (.ref p) t/\jr K H (.ref r) t/\kitOne K t (.type "bool")=some false/\kitOne K t (.type "int")=some false/\kitOne K t (.type "str")=some false/\
   kitOne K t (.type "list")=some b1/\kitOne K t (.type "tuple")=some b2/\(ak K H p xs\/aB K H p xs)/\(ak K H r ys\/aB K H r ys)/\ds.length<=1000/\Paired (At H m) xs ds/\Paired (At H m) ys ds/\k=m+1)\/
   (x=.az/\y=.az)\/(∃b,x=.bl b/\y=.bl b)\/(∃i,x=.int i/\y=.int i)\/∃z,x=.str z/\y=.str z:=by
  cases d with
  |az=>unfold At at hx hy;exact .inr (.inl ⟨hx,hy⟩)
  |bl b=>unfold At at hx hy;exact .inr (.inr (.inl ⟨b,hx,hy⟩))
  |int i=>unfold At at hx hy;exact .inr (.inr (.inr (.inl ⟨i,hx,hy⟩)))
  |str z=>unfold At at hx hy;exact .inr (.inr (.inr (.inr ⟨z,hx,hy⟩)))
  |lst ds=>
   cases k with
   |zero=>unfold At at hx;exact hx.elim
   |succ m=>
    unfold At at hx hy;obtain⟨a,xs,e0,e1,lz,p1⟩:=hx;obtain⟨b,ys,KC,e2,_,p2⟩:=hy;exact .inl ⟨a,b,xs,ys,ds,.type "list",true,false,m,e0,KC,.lst e1,.lst e2,Zew,Zex,Zey,Zez,ZeA,.inl (ak.of e1),.inl (ak.of e2),lz,p1,p2,rfl⟩
  |tup ds=>
   cases k with
   |zero=>unfold At at hx;exact hx.elim
   |succ m=>
    unfold At at hx hy;obtain⟨a,xs,e0,e1,lz,p1⟩:=hx;obtain⟨b,ys,KC,e2,_,p2⟩:=hy;exact .inl ⟨a,b,xs,ys,ds,.type "tuple",false,true,m,e0,KC,.tup e1,.tup e2,ZeB,ZeC,ZeD,ZeE,ZeF,.inr (aB.of e1),.inr (aB.of e2),lz,p1,p2,rfl⟩
 clear hx hy;rcases sq with⟨p,r,xs,ys,ds,t,b1,b2,m,rfl,rfl,T1,T2,kb,ki,ksr,kl,kt,hp,hq,hz,p1,p2,ek⟩|⟨rfl,rfl⟩|⟨b,rfl,rfl⟩|⟨i,rfl,rfl⟩|⟨z,rfl,rfl⟩
 ·have l1:=cU p1;have l2:=cU p2;refine⟨_,rfl,rfl,_,rfl,?_⟩;refine bJ (λc=>absurd (of_decide_eq_true c) (λz=>nomatch z)) (λ_=>aY ?_);refine⟨_,rfl,_,_,_,false,rfl,T2,kb,_,rfl,bW (aY ?_)⟩;refine⟨_,rfl,_,_,_,false,rfl,T2,ki,_,rfl,bW (aY ?_)⟩;refine⟨_,rfl,_,_,_,false,rfl,T2,ksr,_,rfl,bW (aY ?_)⟩;refine⟨_,rfl,_,_,_,b1,rfl,T2,kl,_,rfl,_,_,_,b1,rfl,T1,kl,rfl,_,rfl,uX rfl ?_⟩;refine⟨_,rfl,_,_,_,b2,rfl,T2,kt,_,rfl,_,_,_,b2,rfl,T1,kt,rfl,_,rfl,uX rfl (aY ?_)⟩;refine⟨_,rfl,p,_,rfl,hp,_,rfl,r,_,rfl,hq,rfl,_,rfl,uX (by rw[l1,l2]) (aY ?_)⟩;refine⟨_,rfl,r,_,rfl,hq,_,rfl,by omega,by omega,λD hD=>wL (lo:=0) (n:=((ys.length:Nat):Int).toNat)
   (λi zs H1=>aj H H1/\H1 D=some (.lst zs)/\zs=(List.replicate i true).map V.bl) ⟨cq hD _,aR,rfl⟩ ?_ ?_⟩
  ·rintro i zs H1 hi ⟨g,h1,rfl⟩;rw[Y6] at hi;have sq:∀{a:Addr} {us:List V},(ak K H a us\/aB K H a us)->(ak K H1 a us\/aB K H1 a us):=λ{a us} z=>by
    rcases z with z|z;·exact .inl (g.seq z)
    ·exact .inr (g.jx z)
   have gx:xs[i]?=some xs[i]:=Yc (by omega);have gy:ys[i]?=some ys[i]:=Yc (by omega);obtain⟨d1,e1,a1⟩:=gH p1 gx;obtain⟨d2,e2,a2⟩:=gH p2 gy;rw[e1] at e2;cases e2;refine kj (cY ?_);refine⟨_,rfl,_,rfl,QA (sq hp) gx ?_⟩;refine⟨_,rfl,_,rfl,QA (sq hq) gy ?_⟩;refine⟨_,_,d1,m,rfl,ek,a1.same g,a2.same g,λH2 g2=>?_⟩;refine⟨g2 _ _ h1,by rw[Ya,Wy];exact jV (by omega),λb o e=>?_,aR,?_⟩
   ·rw[aK (bY e hD)];exact g2 b o (g b o e)
   ·rw[List.replicate_succ',Ym];rfl
  ·rintro zs H1 ⟨g,h1,e⟩;refine⟨D,_,rfl,ak.of (by rw[h1,e]),?_⟩;rw[all_true];exact q H1 g
 ·refine⟨_,rfl,rfl,_,rfl,?_⟩;refine bJ (λc=>?_) (λc=>absurd (zY _) c);exact⟨_,rfl,rfl,q H (aj.refl H)⟩
 ·refine⟨_,rfl,rfl,_,rfl,?_⟩;refine bJ (λc=>absurd (of_decide_eq_true c) (λz=>nomatch z)) (λ_=>aY ?_);refine⟨_,rfl,_,_,_,true,rfl,.bl b,Qr,_,rfl,cY ?_⟩;refine⟨_,rfl,_,_,_,true,rfl,.bl b,Qr,_,rfl,cY ?_⟩;refine⟨_,rfl,_,rfl,rfl,?_⟩;rw[zY];exact q H (aj.refl H)
 ·refine⟨_,rfl,rfl,_,rfl,?_⟩;refine bJ (λc=>absurd (of_decide_eq_true c) (λz=>nomatch z)) (λ_=>aY ?_);refine⟨_,rfl,_,_,_,false,rfl,.int i,GW,_,rfl,bW (aY ?_)⟩;refine⟨_,rfl,_,_,_,true,rfl,.int i,Qq,_,rfl,cY ?_⟩;refine⟨_,rfl,_,_,_,true,rfl,.int i,Qq,_,rfl,cY ?_⟩;refine⟨_,rfl,_,_,_,false,rfl,.int i,GW,_,rfl,_,rfl,cY ?_⟩;refine⟨_,rfl,_,rfl,rfl,?_⟩;rw[zY];exact q H (aj.refl H)
 ·refine⟨_,rfl,rfl,_,rfl,?_⟩;refine bJ (λc=>absurd (of_decide_eq_true c) (λz=>nomatch z)) (λ_=>aY ?_);refine⟨_,rfl,_,_,_,false,rfl,.str z,Zeu,_,rfl,bW (aY ?_)⟩;refine⟨_,rfl,_,_,_,false,rfl,.str z,Zev,_,rfl,bW (aY ?_)⟩;refine⟨_,rfl,_,_,_,true,rfl,.str z,Qs,_,rfl,cY ?_⟩;refine⟨_,rfl,_,_,_,true,rfl,.str z,Qs,_,rfl,cY ?_⟩;refine⟨_,rfl,_,rfl,rfl,?_⟩;rw[zY];exact q H (aj.refl H)
def same_none:aE P w K mg base aM 0 f fd nR (r6 0):=by
 have no:∀vs H Q E,¬r6 0 vs H Q E:=λvs H Q E h=>by
  obtain⟨_,_,_,_,_,z,_⟩:=h;omega
 exact⟨λvs H Q E h=>absurd h (no vs H Q E),λA outer s H args us vs Q E _ _ _ _ h=>absurd h (no vs H Q E)⟩
theorem O0(F:aN K "_law_same" "_law_same" zA f fd)(bS:Binds K fd nR [])(kS:keepIn K (.ref f)=true)(m:mg "_law_same"=some (.ref f))(bl:Bl mg):
  ∀n:Nat,aE P w K mg base aM n f fd nR (r6 n)
 |0=>same_none
 |n+1=>Zb7 F ⟨f,fd,O0 F bS kS m bl n,bS,kS,m⟩ bl
end
inductive QB(K:ah)(vs:List V)(H:Hp)(Q:VK):Prop
 |mk (p:Addr) (ns:List Int) (aC:vs=[.ref p]) (aS:Row K H p ns) (bb:ns.length<64) (bL:∀H',aj H H'->Q (.bl (full ns)) H'):QB K vs H Q
def IB(K:ah):Sp:=λvs H Q _=>QB K vs H Q
def bK(ys xs:List Int):List Int:=xs.map λx=>ys.getD x.toNat 0
def qk{ys:List Int}(h:full ys=true){x:Int}(hx:x∈ys):0<=x/\x<ys.length:=by
 have hm:=(qa h).subset hx;unfold bp at hm;obtain⟨i,hi,rfl⟩:=Yh.mp hm;have:=Wg.mp hi;omega
section
variable {K:ah}{mg:aQ}{c:Addr}
abbrev jz:List Str:=["row"]
def ZU:aP jz jz (aF FH):=.aX
def ZV(F:aN K "is_turn" "is_turn" FH f fd)(bl:Bl mg):aE P w K mg base aM 1 f fd jz (IB K):=by
 refine F.o ZU @λbC A outer vs Q E s H hr h=>?_;obtain⟨p,ns,rfl,hR,jw,q⟩:=h;have hu:=hr.uT;refine⟨_,(aq (aV (eY (h_ (ZgI (K:=K) rfl rfl) rfl bl.ZfP Zej (aa (iJ (x:="number") (fr:=[]) (cl:=[]) rfl (.gu trivial trivial) (Zeh (pv 0)) (λ_ _ _ _=>kY) (λ_ _ _ _=>(lP K bl (pv 0) (k_ rfl bl.Ay Ag)))) ae))) (av (aG jF)) aZ) (av (aG (eO (Qe hu) (h_ (sortedK (K:=K) rfl) rfl bl.zW zK (aa (pv 0) ae)) (eS (DR rfl) rfl bl.uU uO (aa (eS zo rfl bl.jZ uJ (aa (dq K bl (pv 0)) ae)) ae)))))),?_⟩;have hl:(ns.map V.int).length=ns.length:=Ya _;have rest:∀(D:Addr) (H1:Hp),aj H H1->H1 D=some (.lst ((List.replicate ns.length false).map V.bl))->
   ∃(Ug:Addr) (bs:List Bool),[V.ref D]=[V.ref Ug]/\ak K H1 Ug (bs.map V.bl)/\tB (tC (V.bl (bs.any id))) [] H1 (λc H2=>if c=true then Q (.bl false) H2 else
    (RC K false (fQ 0)) [some (.ref p)] H2 Q):=λD H1 g1 h1=>by
  refine⟨D,_,rfl,ak.of h1,_,rfl,?_⟩;rw[any_false];refine bW ?_;exact ZbI rfl (Row.same g1 hR) jw λH' g=>q H' (g1.trans g)
 have turn:∀(D:Addr),H D=none->∀(i:Nat) (v:V) (ys:List V) (H1:Hp),(ns.map V.int)[i]?=some v->(aj H H1/\H1 D=some (.lst ys)/\ys=(List.replicate i false).map V.bl)->
   mO (A3 K) (gW (fQ 0) (gW (tC (V.ty "bool")) js)) [some v] H1 λy H3=>H3 D=some (.lst ys)/\ys.length<sizeLine/\
    (aj H (upd H3 D (.lst (ys++[y])))/\upd H3 D (.lst (ys++[y])) D=some (.lst (ys++[y]))/\ys++[y]=(List.replicate (i+1) false).map V.bl):=λD hD i v ys H1 hi ⟨g,h1,e⟩=>by
  obtain⟨z,rfl,hz⟩:=jY hi;have dG:i<ns.length:=(Yl.mp hz).1;refine⟨_,rfl,_,_,_,false,rfl,.int z,GW,h1,?_,λb o q=>?_,aR,?_⟩
  ·rw[e,Ya,Wy];exact jV (by omega)
  ·rw[aK (bY q hD)];exact g b o q
  ·rw[e,List.replicate_succ',Ym];rfl
 refine⟨_,rfl,p,rfl,?_⟩;rcases hR with yB|yB
 ·refine .inl ⟨⟨_,yB⟩,λD hD=>FA (xs:=ns.map V.int) (λi ys H1=>aj H H1/\H1 D=some (.lst ys)/\ys=(List.replicate i false).map V.bl) ⟨cq hD _,aR,rfl⟩ (λi ys H1 _ ⟨g,_,_⟩=>g.seq yB) (λi v ys H1 hi h=>kj (cY (turn D hD i v ys H1 hi h))) ?_⟩;rintro ys H1 ⟨g,h1,e⟩;exact rest D H1 g (by rw[h1,e,hl])
 ·refine .inr ⟨⟨_,yB⟩,λD hD=>zV (xs:=ns.map V.int) (λi ys H1=>aj H H1/\H1 D=some (.lst ys)/\ys=(List.replicate i false).map V.bl) ⟨cq hD _,aR,rfl⟩ (λi ys H1 _ ⟨g,_,_⟩=>g.jx yB) (λi v ys H1 hi h=>kj (cY (turn D hD i v ys H1 hi h))) ?_⟩;rintro ys H1 ⟨g,h1,e⟩;exact rest D H1 g (by rw[h1,e,hl])
end
inductive O1(K:ah)(vs:List V)(H:Hp)(Q:VK):Prop
 |mk (a b:Addr) (xs ys:List Int) (aC:vs=[.ref a,.ref b]) (aS:aB K H a (xs.map V.int)) (bb:aB K H b (ys.map V.int)) (bL:(∀x∈xs,0<=x/\x<ys.length)) (cD:xs.length<64) (dB:∀(t:Addr) (H':Hp),H t=none->aj H H'->H' t=some (.tup ((bK ys xs).map V.int))->Q (.ref t) H'):O1 K vs H Q
def HH(K:ah):Sp:=λvs H Q _=>O1 K vs H Q
section
variable {K:ah}{mg:aQ}
abbrev nS:List Str:=["first","then"]
def YU:aP nS nS (aF EZ):=.aX
def YV(F:aN K "followed" "followed" EZ f fd)(bl:Bl mg):aE P w K mg base aM 1 f fd nS (HH K):=by
 refine F.o YU λs H hr h=>?_;obtain⟨a,b,xs,ys,rfl,hA,hB,qT,hl,q⟩:=h;have al:(bK ys xs).length=xs.length:=by unfold bK;rw[Ya]
 refine⟨_,(av (aG (eS (ud) rfl bl.m9 m7 (aa (iJ (x:="section") (fr:=[("then",1)]) (cl:=[("then",s.heap.objs.size+1)]) rfl (.gu ⟨rfl,trivial⟩ ⟨⟨rfl,.inl rfl,.inl rfl,rfl⟩,trivial⟩) (GL (pv 0)) (λ_ _ _ _=>kY) (λ_ _ _ _=>(bj (iT K) (pv 1) (pv 0)))) ae)))),?_⟩;refine⟨_,rfl,a,rfl,⟨_,hA⟩,λD hD=>zV (xs:=xs.map V.int) (λi zs H3=>aj H H3/\H3 D=some (.lst zs)/\zs=((bK ys xs).take i).map V.int) ⟨cq hD _,aR,rfl⟩ (λi zs H3 _ ⟨g3,_,_⟩=>g3.jx hA) ?_ ?_⟩
 ·rintro i v zs H3 hi ⟨g3,h3,e3⟩;obtain⟨z,rfl,hz⟩:=jY hi;have bz:=qT z (Yg hz);refine kj (cY ⟨_,rfl,_,rfl,b,_,_,_,rfl,rfl,g3.jx hB,ny bz.1 bz.2,h3,?_,λd o qd=>?_,aR,?_⟩)
  ·rw[e3,Ya,Y8,al];exact jV (by omega)
  ·rw[aK (bY qd hD)];exact g3 d o qd
  ·rw[e3,Y1,FC];unfold bK;rw[Ye,hz];rfl
 ·rintro zs H3 ⟨g3,h3,e3⟩;refine⟨D,_,rfl,.inl ⟨ak.of h3,λt ht=>q t _ (g3.free ht) (g3.trans (cq ht _)) ?_⟩⟩;show upd H3 t (.tup zs) t=_;rw[aR,e3,Ya,Wt (by rw[al];omega)]
end
def kq(x:Int):List Int->Nat
 |[]=>0
 |y::r=>if y=x then 0 else kq x r+1
theorem zZ{x:Int}:∀{l:List Int},x∈l->l[kq x l]?=some x/\∀m,m<kq x l->l[m]?≠some x
 |[],h=>by cases h
 |y::r,h=>by
  unfold kq;by_cases e:y=x;·grind
  ·rw[if_neg e];obtain⟨h1,h2⟩:=zZ ((Yp.mp h).resolve_left λz=>e z.symm);refine⟨by rw[Jz];exact h1,λm hm=>?_⟩;cases m with
   |zero=>grind
   |succ m=>grind
def zM{l:List Int}(nd:l.Nodup){k:Nat}{x:Int}(h:l[k]?=some x):kq x l=k:=by
 obtain⟨h1,h2⟩:=zZ (Yg h);exact(List.getElem?_inj (by rcases Yl.mp h1 with⟨z,_⟩;exact z) nd).mp (h1.trans h.symm)
def inv(xs:List Int):List Int:=(bp xs.length).map λi=>(kq i xs:Int)
def fM(xs:List Int):(inv xs).length=xs.length:=by unfold inv;rw[Ya,eG]
def Al{xs:List Int}{i:Nat}(h:i<xs.length):(inv xs)[i]?=some (kq (i:Int) xs:Int):=by
 unfold inv;rw[Ye,lY h];rfl
def zB{xs:List Int}(h:full xs=true):xs.Nodup:=(qa h).nodup_iff.mpr (BY.EX _)
def NS{xs:List Int}(h:full xs=true){i:Nat}(hi:i<xs.length):(i:Int)∈xs:=(qa h).symm.subset (Yg (lY hi))
def jX{xs:List Int}(h:full xs=true):full (inv xs)=true:=by
 have p:(xs.map λi=>(kq i xs:Int)).Perm (inv xs):=(qa h).map _;have e:xs.map (λi=>(kq i xs:Int))=bp xs.length:=by
  refine Wo λi=>?_;rw[Ye];by_cases hi:i<xs.length
  ·rw[lY hi,Yc hi];show some (kq xs[i] xs:Int)=some (i:Int);rw[zM (zB h) (Yc hi)]
  ·rw[Y4 (by omega),Y4 (by rw[eG];omega)];rfl
 rw[e] at p;exact rO p.symm
def inv_inv{xs:List Int}(h:full xs=true):inv (inv xs)=xs:=by
 refine Wo λi=>?_;by_cases hi:i<xs.length
 ·rw[Al (by rw[fM];exact hi),Yc hi];have b:=qk h (Ju hi);have hk:(xs[i]).toNat<xs.length:=by omega
  have e:((xs[i].toNat:Nat):Int)=xs[i]:=by omega
  have g:(inv xs)[(xs[i]).toNat]?=some (i:Int):=by rw[Al hk,e,zM (zB h) (Yc hi)]
  rw[zM (zB (jX h)) g,e]
 ·rw[Y4 (by rw[fM,fM];omega),Y4 (by omega)]
def NT{xs:List Int}{i:Nat}(hi:i<xs.length):(inv xs).take (i+1)=(inv xs).take i++[(kq (i:Int) xs:Int)]:=by
 rw[Y1,Al hi];rfl
inductive QC(vs:List V)(H:Hp)(Q:VK):Prop
 |mk (a:Addr) (xs:List Int) (aC:vs=[.ref a]) (aS:H a=some (.tup (xs.map V.int))) (bb:xs.length<64) (bL:full xs=true) (cD:∀(t:Addr) (H':Hp),H t=none->aj H H'->H' t=some (.tup ((inv xs).map V.int))->Q (.ref t) H'):QC vs H Q
def A8:Sp:=λvs H Q _=>QC vs H Q
section
variable {K:ah}{mg:aQ}
abbrev nU:List Str:=["turn"]
def WY:aP nU nU (aF DT):=.aX
def WZ(F:aN K "turned_back" "turned_back" DT f fd)(bl:Bl mg):aE P w K mg base aM 1 f fd nU A8:=by
 refine F.ok WY (λvs H Q E h=>?_) (λbC A outer s H1 vs Q E hr h=>?_)
 ·obtain⟨a,xs,rfl,_⟩:=h;rfl
 obtain⟨a,xs,rfl,hA,lx,fx,q⟩:=h;refine⟨_,(av (aG (eS (ud) rfl bl.m9 m7 (aa (iJ (x:="section") (fr:=[("turn",0)]) (cl:=[("turn",s.heap.objs.size+1)]) rfl (.gu ⟨rfl,trivial⟩ ⟨⟨rfl,.inl rfl,.inl rfl,rfl⟩,trivial⟩) (p_ rfl bl.jZ (aa (dq K bl (pv 0)) ae)) (λ_ _ _ _=>kY) (λ_ _ _ _=>(L_ (pv 1) (aa (pv 0) ae)))) ae)))),?_⟩;have el:(xs.map V.int).length=xs.length:=Ya _;refine⟨_,rfl,a,_,rfl,.inr (aB.of hA),_,rfl,by rw[el];omega,by rw[el];omega,λD hD=>wL (lo:=0) (n:=(((xs.map V.int).length:Nat):Int).toNat)
   (λi zs H2=>aj H1 H2/\H2 D=some (.lst zs)/\zs=((inv xs).take i).map V.int) ⟨cq hD _,aR,rfl⟩ ?_ ?_⟩
 ·rintro i zs H2 hi ⟨g2,h2,e2⟩;rw[Y6,el] at hi;rw[Ca];have hx:=zZ (NS fx hi);have yC:=g2 _ _ hA;refine kj (cY ⟨_,rfl,a,xs,rfl,yC,_,rfl,(i:Int),kq (i:Int) xs,rfl,yC,hx.1,hx.2,h2,?_,λd o qd=>?_,aR,?_⟩)
  ·rw[e2,Ya,Y8,fM];exact jV (by omega)
  ·rw[aK (bY qd hD)];exact g2 d o qd
  ·rw[e2,NT hi,Ym];rfl
 ·rintro zs H2 ⟨g2,h2,e2⟩;refine⟨D,_,rfl,.inl ⟨ak.of h2,λt ht=>q t _ (g2.free ht) (g2.trans (cq ht _)) ?_⟩⟩;rw[aR,e2,Y6,el,Wt (by rw[fM];omega)]
end
inductive Na(vs:List V)(H:Hp)(Q:VK):Prop
 |mk (n:Nat) (aC:vs=[.int (n:Int)]) (aS:n<=1000) (bb:∀(t:Addr) (H':Hp),H t=none->aj H H'->H' t=some (.tup ((bp n).map V.int))->Q (.ref t) H'):Na vs H Q
def Gy:Sp:=λvs H Q _=>Na vs H Q
section
variable {K:ah}{mg:aQ}{c:Addr}
def Zb8:aP ["size"] ["size"] (aF Gx):=.aX
def Zb9(F:aN K "still" "still" Gx f fd)(bl:Bl mg):aE P w K mg base aM 1 f fd ["size"] Gy:=by
 refine F.o Zb8 λs H hr h=>?_;obtain⟨n,rfl,hn,q⟩:=h;refine⟨_,(av (aG (eS (LU rfl) rfl bl.m9 m7 (aa (eS zo rfl bl.jZ uJ (aa (pv 0) ae)) ae)))),?_⟩;exact⟨_,rfl,_,rfl,λr vN=>⟨r,n,rfl,aR,hn,λt ht=>q t _ ((cq vN _).free ht) ((cq vN _).trans (cq ht _)) aR⟩⟩
end
inductive O2(K:ah)(vs:List V)(H:Hp)(Q:VK):Prop
 |mk (p:Addr) (ns:List Int) (aC:vs=[.ref p]) (aS:aB K H p (ns.map V.int)) (bb:ns.length<64) (bL:full ns=true) (cD:∀H',aj H H'->Q .az H'):O2 K vs H Q
def HR(K:ah):Sp:=λvs H Q _=>O2 K vs H Q
inductive QD(K:ah)(vs:List V)(H:Hp)(Q:VK):Prop
 |mk (a b:Addr) (xs ys:List Int) (aC:vs=[.ref a,.ref b]) (aS:aB K H a (xs.map V.int)) (bb:aB K H b (ys.map V.int)) (bL:xs.length<64) (cD:full xs=true) (dB:full ys=true) (fD:xs.length=ys.length) (ir:∀(t:Addr) (H':Hp),H t=none->aj H H'->H' t=some (.tup ((bK ys xs).map V.int))->Q (.ref t) H'):QD K vs H Q
def IC(K:ah):Sp:=λvs H Q _=>QD K vs H Q
inductive QE(vs:List V)(H:Hp)(Q:VK):Prop
 |mk (a:Addr) (xs:List Int) (aC:vs=[.ref a]) (aS:H a=some (.tup (xs.map V.int))) (bb:xs.length<64) (bL:full xs=true) (cD:∀(t:Addr) (H':Hp),H t=none->aj H H'->H' t=some (.tup ((inv xs).map V.int))->Q (.ref t) H'):QE vs H Q
def Sy:Sp:=λvs H Q _=>QE vs H Q
inductive NU(K:ah)(vs:List V)(H:Hp)(Q:VK):Prop
 |mk (l a0:Addr) (as:List Addr) (n:Nat) (aC:vs=[.ref l]) (aS:ak K H l ((a0::as).map V.ref)) (bb:2<=n) (bL:n<=8) (cD:(∀a∈a0::as,∃xs:List Int,aB K H a (xs.map V.int)/\xs.length=n/\full xs=true)) (dB:∀H',aj H H'->Q .az H'):NU K vs H Q
def G4(K:ah):Sp:=λvs H Q _=>NU K vs H Q
inductive Md(K:ah)(vs:List V)(H:Hp)(Q:VK):Prop
 |mk (m f w:Addr) (xs ys:List Int) (aC:vs=[.ref m,.ref f,.ref w]) (aS:aB K H m (xs.map V.int)) (bb:aB K H f ((bK xs ys).map V.int)) (bL:aB K H w (ys.map V.int)) (cD:full xs=true) (dB:full ys=true) (fD:xs.length=ys.length) (ir:xs.length<=8) (nP:∀H',aj H H'->Q .az H'):Md K vs H Q
def Nb(K:ah):Sp:=λvs H Q _=>Md K vs H Q
def rG(xs ys:List Int):(bK xs ys).length=ys.length:=by unfold bK;rw[Ya]
def F_{xs ys:List Int}(fx:full xs=true)(fy:full ys=true)(e:xs.length=ys.length):full (bK xs ys)=true:=by
 have p1:(bK xs ys).Perm ((bp ys.length).map λx=>xs.getD x.toNat 0):=(qa fy).map _;have e2:((bp ys.length).map λx=>xs.getD x.toNat 0)=xs:=by
  refine Wo λi=>?_;rw[Ye];by_cases hi:i<ys.length
  ·rw[lY hi]
   grind
  ·rw[Y4 (by rw[eG];omega),Y4 (by omega)];rfl
 rw[e2] at p1;exact rO (p1.trans (qa fx))
abbrev Zf7(n:Nat)(m f w d:Addr):List (Str×V):=[("size",.int (n:Int)),("mother",.ref m),("father",.ref f),("wife",.ref w),("steps",.ref d)]
abbrev xB(m f w im jf iw st:Addr):List (Key×V):=[(.inr "c",.ref m),(.inr "k",.ref f),(.inr "w",.ref w),(.inr "m",.ref im),(.inr "f",.ref jf),(.inr "h",.ref iw),(.inr "s",.ref st)]
def bN(H:Hp)(a:Addr)(ns:List Int):Prop:=H a=some (.tup (ns.map V.int))
inductive NV(H:Hp)(C L:Addr)(xs ys:List Int):Prop
 |mk (dx d m f w im jf iw st:Addr) (aC:H L=some (.ins C dx (Zf7 xs.length m f w d))) (aS:H d=some (.dK (xB m f w im jf iw st))) (bb:bN H m xs) (bL:bN H f (bK xs ys)) (cD:bN H w ys) (dB:bN H im (inv xs)) (fD:bN H jf (inv (bK xs ys))) (ir:bN H iw (inv ys)) (nP:bN H st (bp xs.length)):NV H C L xs ys
def iM(H:Hp)(C L:Addr)(xs ys:List Int):Prop:=NV H C L xs ys
def iM.same{H H':Hp}{C L:Addr}{xs ys:List Int}(g:aj H H')(h:iM H C L xs ys):iM H' C L xs ys:=by
 obtain⟨dx,d,m,f,w,im,jf,iw,st,h1,h2,h3,h4,h5,h6,h7,h8,h9⟩:=h;exact⟨dx,d,m,f,w,im,jf,iw,st,g _ _ h1,g _ _ h2,g _ _ h3,g _ _ h4,g _ _ h5,g _ _ h6,g _ _ h7,g _ _ h8,g _ _ h9⟩
inductive NW(C:Addr)(vs:List V)(H:Hp)(Q:VK):Prop
 |mk (x dx m f w:Addr) (xs ys:List Int) (aC:vs=[.ref x,.ref m,.ref f,.ref w]) (aS:H x=some (.ins C dx [])) (bb:bN H m xs) (bL:bN H f (bK xs ys)) (cD:bN H w ys) (dB:full xs=true) (fD:full ys=true) (ir:xs.length=ys.length) (nP:2<=xs.length) (vI:xs.length<=8) (ID:∀H',(∀b o,H b=some o->b≠x->H' b=some o)->iM H' C x xs ys->Q .az H'):NW C vs H Q
def QF(C:Addr):Sp:=λvs H Q _=>NW C vs H Q
inductive MC(C:Addr)(vs:List V)(H:Hp)(Q:VK):Prop
 |mk (m w:Addr) (xs ys:List Int) (aC:vs=[.ref m,.ref w]) (aS:bN H m xs) (bb:bN H w ys) (bL:full xs=true) (cD:full ys=true) (dB:xs.length=ys.length) (fD:2<=xs.length) (ir:xs.length<=8) (nP:∀(L:Addr) (H':Hp),aj H H'->iM H' C L xs ys->Q (.ref L) H'):MC C vs H Q
def NX(C:Addr):Sp:=λvs H Q _=>MC C vs H Q
structure u3(K:ah)(C:Addr):Prop where
 cls:fU K C
 r8:de K C "size"
 Zb_:de K C "mother"
 Zca:de K C "father"
 Ze_:de K C "wife"
 Gz:de K C "steps"
section
variable {K:ah}{mg:aQ}{c:Addr}
def Xn:aP jz jz (aF D6):=.aX
def Zfa(F:aN K "check_turn" "check_turn" D6 f fd)(uE:HasFn P w K mg base 1 "is_turn" jz (IB K)):aE P w K mg base aM 2 f fd jz (HR K):=by
 refine F.o Xn λs H hr h=>?_;obtain⟨p,ns,rfl,hT,jw,fl,q⟩:=h;refine⟨_,(av (aV (j_ (eY (aW uE hr (aa (pv 0) ae)))) gc aZ)),?_⟩;refine⟨_,rfl,p,ns,rfl,.inr hT,jw,λH1 g=>⟨_,rfl,?_⟩⟩;rw[fl];exact bW (q H1 g)
def Za1:aP nS nS (aF F7):=.aX
def Zf8(F:aN K "behind" "behind" F7 f fd)(rD:HasFn P w K mg base 2 "check_turn" jz (HR K))(pY:HasFn P w K mg base 1 "followed" nS (HH K))(bl:Bl mg):aE P w K mg base aM 3 f fd nS (IC K):=by
 refine F.o Za1 λs H hr h=>?_;obtain⟨a,b,xs,ys,rfl,hA,hB,lx,fx,fy,eq,q⟩:=h;refine⟨_,(aq (b_ (aW rD hr (aa (pv 0) ae))) (aq (b_ (aW rD hr (aa (pv 1) ae))) (aq (aV (bG l_ (dq K bl (pv 0)) (dq K bl (pv 1))) gc aZ) (av (aG (aW pY hr (aa (pv 0) (aa (pv 1) ae)))))))),?_⟩;refine⟨_,rfl,a,xs,rfl,hA,lx,fx,λH1 g1=>?_⟩;refine⟨_,rfl,b,ys,rfl,g1.jx hB,by omega,fy,λH2 g2=>?_⟩;have g:=g1.trans g2;have Uh:=g.jx hA;have Ui:=g.jx hB;have el:∀zs:List Int,(zs.map V.int).length=zs.length:=λzs=>Ya _;refine⟨_,rfl,a,_,rfl,.inr Uh,_,rfl,b,_,rfl,.inr Ui,rfl,_,rfl,uX (by rw[el,el,eq]) (aY ?_)⟩;exact⟨_,rfl,_,rfl,a,b,xs,ys,rfl,Uh,Ui,λz hz=>by rw[←eq];exact qk fx hz,lx,λt H3 nt g3 ht=>q t H3 (g.free nt) (g.trans g3) ht⟩
def Zdp:aP nU nU (aF G3):=.aX
def Zf9(F:aN K "back" "back" G3 f fd)(rD:HasFn P w K mg base 2 "check_turn" jz (HR K))(ou:HasFn P w K mg base 1 "turned_back" nU A8)(bl:Bl mg):aE P w K mg base aM 3 f fd nU Sy:=by
 refine F.o Zdp λs H hr h=>?_;obtain⟨a,xs,rfl,hA,lx,fx,q⟩:=h;refine⟨_,(aq (b_ (aW rD hr (aa (pv 0) ae))) (av (aG (aW ou hr (aa (pv 0) ae))))),?_⟩;refine⟨_,rfl,a,xs,rfl,aB.of hA,lx,fx,λH1 g1=>?_⟩;exact⟨_,rfl,a,xs,rfl,g1 _ _ hA,lx,fx,λt H2 nt g2 ht=>q t H2 (g1.free nt) (g1.trans g2) ht⟩
def D0:aP ["rows","size","row"] ["rows"] (aF D7):=.aX
theorem Zdq(F:aN K "check_rows" "check_rows" D7 f fd)(uE:HasFn P w K mg base 1 "is_turn" jz (IB K)){t1 t2:Tok}(Ed:mg "LEAST_SIZE"=some (.int 2 t1))(EH:mg "MOST_SIZE"=some (.int 8 t2))(bl:Bl mg):aE P w K mg base aM 2 f fd ["rows"] (G4 K):=by
 refine F.o D0 λs H hr h=>?_;obtain⟨l,a0,as,n,rfl,hL,n2,n8,rows,q⟩:=h;refine⟨_,(aq (bU 1 D0.nd (dq K bl (bj (iL K) (pv 0) aO))) (aq (aV (PW.pt (pw_or (bG nF (pv 1) (dv (v:=.int (2)) rfl Ed ⟨_,rfl⟩)) (pw_or1 (bG AI (pv 1) (dv (v:=.int (8)) rfl EH ⟨_,rfl⟩))))) gc aZ) (av (fP PassesOwn.never rfl (eI (K:=K) rfl (pv 0)) (bF 2 D0.nd) (av (aV (PW.pt (pw_or (bG l_ (dq K bl (pv 2)) (pv 1)) (pw_or1 (j_ (eY (aW uE hr (aa (pv 2) ae))))))) gc aZ)))))),?_⟩;have el:∀zs:List Int,(zs.map V.int).length=zs.length:=λzs=>Ya _;obtain⟨x0,h0,l0,f0⟩:=rows a0 Yo;refine⟨_,rfl,l,_,0,.ref a0,rfl,rfl,hL,iH (j:=0) rfl,a0,_,rfl,.inr h0,?_⟩;rw[el,l0];refine⟨_,rfl,_,_,rfl,rfl,_,rfl,bJ (λcc=>absurd (of_decide_eq_true cc) (by omega)) (λ_=>?_)⟩;refine⟨_,rfl,_,_,rfl,rfl,_,rfl,bJ (λcc=>absurd (of_decide_eq_true cc) (by omega)) (λ_=>aY ?_)⟩;refine⟨_,rfl,l,rfl,⟨_,hL⟩,je (xs:=(a0::as).map V.ref) (λi σ H1=>aj H H1/\∃o2:Option V,σ=[some (.ref l),some (.int (n:Int)),o2]) ⟨aj.refl _,none,rfl⟩ (λi σ H1 _ ⟨g,_⟩=>g.seq hL) ?_ ?_⟩
 ·rintro i v σ H1 hi ⟨g,o2,rfl⟩;rw[Ye] at hi;obtain⟨a,ha,rfl⟩:∃a,a∈a0::as/\V.ref a=v:=by
   cases e:(a0::as)[i]? with
   |none=>rw[e] at hi;cases hi
   |some a=>grind
  obtain⟨xs,hx,lx,fx⟩:=rows a ha;refine⟨_,rfl,a,_,rfl,.inr (g.jx hx),_,rfl,rfl,_,rfl,uX (by rw[el,lx]) ?_⟩;refine⟨_,rfl,a,xs,rfl,.inr (g.jx hx),by omega,λH2 g2=>⟨_,rfl,?_⟩⟩;rw[fx];exact bW (aY ⟨g.trans g2,_,rfl⟩)
 ·rintro σ H1 ⟨g,o2,rfl⟩;exact q H1 g
abbrev KD:List Str:=["mother","father","wife"]
def Di:aP ["mother","father","wife","by_mothers","section"] KD (aF Dl):=.aX
def ZW(F:aN K "check_parents" "check_parents" Dl f fd)(uL:HasFn P w K mg base 3 "behind" nS (IC K))(bl:Bl mg):aE P w K mg base aM 4 f fd KD (Nb K):=by
 refine F.o Di λs H hr h=>?_;obtain⟨m,fa,wi,xs,ys,rfl,hM,hF,hW,fx,fy,eq,l8,q⟩:=h;refine⟨_,(aq (bU 3 Di.nd (aW uL hr (aa (pv 2) (aa (pv 0) ae)))) (av (fP PassesOwn.never rfl (p_ rfl bl.jZ (aa (dq K bl (pv 1)) ae)) (bF 4 Di.nd) (av (aV (bG l_ (bj (iT K) (pv 3) (pv 4)) (bj (iT K) (pv 1) (pv 4))) gc aZ))))),?_⟩;have el:∀zs:List Int,(zs.map V.int).length=zs.length:=λzs=>Ya _;refine⟨_,rfl,_,rfl,wi,m,ys,xs,rfl,hW,hM,by omega,fy,fx,eq.symm,λt H1 nt g ht=>?_⟩;have al:=rG xs ys;refine⟨_,rfl,fa,_,rfl,.inr (g.jx hF),_,rfl,by rw[el];omega,by rw[el];omega,Fy (lo:=0) (n:=((((bK xs ys).map V.int).length:Nat):Int).toNat)
  (λi σ H2=>H2=H1/\∃o4:Option V,σ=[some (.ref m),some (.ref fa),some (.ref wi),some (.ref t),o4]) ⟨rfl,none,rfl⟩ ?_ ?_⟩
 ·rintro i σ H2 hi ⟨rfl,o4,rfl⟩;rw[Y6,el] at hi;have at_:dO ((bK xs ys).map V.int) (0+(i:Int))=some (.int ((bK xs ys).getD (0+(i:Int)).toNat 0)):=ny (by omega) (by omega);refine⟨_,rfl,_,rfl,t,_,_,_,rfl,rfl,aB.of ht,at_,_,rfl,_,rfl,fa,_,_,_,rfl,rfl,g.jx hF,at_,rfl,_,rfl,uX rfl (aY ⟨rfl,_,rfl⟩)⟩
 ·rintro σ H2 ⟨rfl,o4,rfl⟩;exact q _ g
end
def vO{f:Str}{y:V}{fs:List (Str×V)}{n:Nat}(h:fs.length<=n):(cK f y fs).length<=n+1:=Y0 (Ek f y fs) (Nat.succ_le_succ h)
def fs4(a b c d:V):cK "wife" d (cK "father" c (cK "mother" b (cK "size" a [])))=([("size",a),("mother",b),("father",c),("wife",d)]:List (Str×V)):=rfl
def fs5(a b c d e:V):cK "steps" e [("size",a),("mother",b),("father",c),("wife",d)]=([("size",a),("mother",b),("father",c),("wife",d),("steps",e)]:List (Str×V)):=rfl
def ds7(a b c d e f g:V):oP [] [(.inr "c",a),(.inr "k",b),(.inr "w",c),(.inr "m",d),(.inr "f",e),(.inr "h",f),(.inr "s",g)]=[(.inr "c",a),(.inr "k",b),(.inr "w",c),(.inr "m",d),(.inr "f",e),(.inr "h",f),(.inr "s",g)]:=rfl
section
variable {K:ah}{mg:aQ}{c:Addr}
abbrev A9:List Str:=["self","mother","father","wife"]
def XM:aP A9 A9 (aF EB):=.aX
def Zdr(F:aN K "__init__" "Land.__init__" EB f fd)(lc:u3 K C)(ui:HasFn P w K mg base 2 "check_rows" ["rows"] (G4 K))(Dw:HasFn P w K mg base 4 "check_parents" KD (Nb K))
  (xC:HasFn P w K mg base 3 "back" nU Sy)(uP:HasFn P w K mg base 1 "still" ["size"] Gy)(bl:Bl mg):aE P w K mg base aM 5 f fd A9 (QF C):=by
 refine F.o XM λs H hr h=>?_;obtain⟨x,dx,m,fa,wi,xs,ys,rfl,hx,hM,hF,hW,fx,fy,eq,l2,l8,q⟩:=h;refine⟨_,(aq (b_ (aW ui hr (aa (xk (aa (pv 1) (aa (pv 2) (aa (pv 3) ae)))) ae))) (aq (b_ (aW Dw hr (aa (pv 1) (aa (pv 2) (aa (pv 3) ae))))) (aq (xh (pv 0) (dq K bl (pv 1)) rfl) (aq (xh (pv 0) (pv 1) rfl) (aq (xh (pv 0) (pv 2) rfl) (aq (xh (pv 0) (pv 3) rfl) (av (xh (pv 0) (Aj (jW bc (pv 1) (jW bc (pv 2) (jW bc (pv 3) (jW bc (aW xC hr (aa (pv 1) ae)) (jW bc (aW xC hr (aa (pv 2) ae)) (jW bc (aW xC hr (aa (pv 3) ae)) (jW bc (aW uP hr (aa (dq K bl (pv 1)) ae)) Ai))))))) rfl rfl (λz=>nomatch z) (Jl rfl)) rfl)))))))),?_⟩;have el:∀zs:List Int,(zs.map V.int).length=zs.length:=λzs=>Ya _;have Uj:=F_ fx fy eq;have al:=rG xs ys;refine⟨_,rfl,_,rfl,_,rfl,by show 3<=sizeLine;decide,λl nl=>?_⟩;have g1:=cq nl (.lst [.ref m,.ref fa,.ref wi]);refine⟨l,m,[fa,wi],xs.length,rfl,ak.of aR,l2,l8,λa ha=>?_,λH2 g2=>?_⟩
 ·rcases Yp.mp ha with rfl|ha;·exact⟨xs,aB.of (g1 _ _ hM),rfl,fx⟩
  ·rcases Yp.mp ha with rfl|ha;·exact⟨bK xs ys,aB.of (g1 _ _ hF),by rw[al,eq],Uj⟩
   ·rw[Yk] at ha;subst ha;exact⟨ys,aB.of (g1 _ _ hW),eq.symm,fy⟩
 have Cb:=g1.trans g2;refine⟨_,rfl,_,rfl,_,rfl,m,fa,wi,xs,ys,rfl,aB.of (Cb _ _ hM),aB.of (Cb _ _ hF),aB.of (Cb _ _ hW),fx,fy,eq,l8,λH3 g3=>?_⟩;have g:=Cb.trans g3;have Cc:=g _ _ hx;have Cd:=g _ _ hM;have KG:=g _ _ hF;have KH:=g _ _ hW;have nm:m≠x:=λe=>by rw[e,Cc] at Cd;cases Cd
 have nf:fa≠x:=λe=>by rw[e,Cc] at KG;cases KG
 have nw:wi≠x:=λe=>by rw[e,Cc] at KH;cases KH
 refine⟨_,rfl,m,_,rfl,.inr (aB.of Cd),_,rfl,x,C,dx,_,rfl,Cc,lc.cls,lc.r8,by decide,?_⟩;refine⟨_,rfl,_,rfl,x,C,dx,_,rfl,aR,lc.cls,lc.Zb_,W9 (vO (Yd 0)) (by decide),?_⟩;refine⟨_,rfl,_,rfl,x,C,dx,_,rfl,aR,lc.cls,lc.Zca,W9 (vO (vO (Yd 0))) (by decide),?_⟩;refine⟨_,rfl,_,rfl,x,C,dx,_,rfl,aR,lc.cls,lc.Ze_,W9 (vO (vO (vO (Yd 0)))) (by decide),?_⟩;rw[Gp,Gp,Gp,el,fs4];have KI:upd H3 x (.ins C dx [("size",.int (xs.length:Int)),("mother",.ref m),("father",.ref fa),("wife",.ref wi)]) x=some (.ins C dx [("size",.int (xs.length:Int)),("mother",.ref m),("father",.ref fa),("wife",.ref wi)]):=aR;have o4:∀b o,H3 b=some o->b≠x->upd H3 x (.ins C dx [("size",.int (xs.length:Int)),("mother",.ref m),("father",.ref fa),("wife",.ref wi)]) b=some o:=λb o e n=>by rw[aK n];exact e
 generalize upd H3 x (.ins C dx [("size",.int (xs.length:Int)),("mother",.ref m),("father",.ref fa),("wife",.ref wi)])=H4 at KI o4⊢;have KJ:=o4 _ _ Cd nm;have Uk:=o4 _ _ KG nf;have Ul:=o4 _ _ KH nw;intro d nd;have g5:=cq nd (.dK []);have KL:upd H4 d (.dK []) d=some (.dK []):=aR;generalize upd H4 d (.dK [])=H5 at g5 KL⊢;refine⟨_,rfl,_,rfl,_,rfl,?_⟩;refine⟨_,rfl,m,xs,rfl,g5 _ _ KJ,by omega,fx,λim H6 nim g6 KN=>?_⟩;refine⟨_,rfl,fa,bK xs ys,rfl,g6 _ _ (g5 _ _ Uk),by omega,Uj,λjf H7 njf g7 KO=>?_⟩;refine⟨_,rfl,wi,ys,rfl,g7 _ _ (g6 _ _ (g5 _ _ Ul)),by omega,fy,λiw H8 niw g8 hiw=>?_⟩;have Um:=(g6.trans g7).trans g8;refine⟨_,rfl,m,_,rfl,.inr (aB.of (Um _ _ (g5 _ _ KJ))),xs.length,by rw[el];rfl,by omega,λst H9 Ce g9 df=>?_⟩;have tJ:=Um.trans g9;refine⟨tJ _ _ KL,xB m fa wi im jf iw st,rfl,by show 7<=15;decide,?_⟩;have jA:d≠x:=bY KI nd |>.symm;have Uo:=tJ _ _ (g5 _ _ KI);refine⟨_,rfl,x,C,dx,_,rfl,by rw[aK jA.symm];exact Uo,lc.cls,lc.Gz,by show 4<1000;decide,?_⟩;rw[fs5,ds7];have key:∀{b:Addr} {o:HO},H9 b=some o->b≠d->b≠x->upd (upd H9 d (.dK (xB m fa wi im jf iw st))) x (.ins C dx [("size",.int (xs.length:Int)),("mother",.ref m),("father",.ref fa),("wife",.ref wi),("steps",.ref d)]) b=some o:=λ{b o} e n1 n2=>by
  rw[aK n2,aK n1];exact e
 have sO:∀{b:Addr} {zs:List Int},H9 b=some (.tup (zs.map V.int))->bN (upd (upd H9 d (.dK (xB m fa wi im jf iw st))) x (.ins C dx [("size",.int (xs.length:Int)),("mother",.ref m),("father",.ref fa),("wife",.ref wi),("steps",.ref d)])) b zs:=λ{b zs} e=>
  key e (λz=>by rw[z,tJ _ _ KL] at e;cases e) (λz=>by rw[z,Uo] at e;cases e)
 refine q _ (λb o e n=>?_) ⟨dx,d,m,fa,wi,im,jf,iw,st,aR,by rw[aK jA];exact aR,sO (tJ _ _ (g5 _ _ KJ)),sO (tJ _ _ (g5 _ _ Uk)),sO (tJ _ _ (g5 _ _ Ul)),sO (g9 _ _ (g8 _ _ (g7 _ _ KN))),sO (g9 _ _ (g8 _ _ KO)),sO (g9 _ _ hiw),sO df⟩;have e4:=o4 _ _ (g _ _ e) n;refine key (tJ _ _ (g5 _ _ e4)) (bY e4 nd) n
abbrev A_:List Str:=["mother","wife"]
def ZX:aP A_ A_ (aF FI):=.aX
def ZY(F:aN K "land_of" "land_of" FI f fd)(ui:HasFn P w K mg base 2 "check_rows" ["rows"] (G4 K))(uL:HasFn P w K mg base 3 "behind" nS (IC K))
  (G5:uY P w K mg base 5 "Land" C A9 (QF C)):aE P w K mg base aM 7 f fd A_ (NX C):=by
 refine F.o ZX λs H hr h=>?_;obtain⟨m,wi,xs,ys,rfl,hM,hW,fx,fy,eq,l2,l8,q⟩:=h;refine⟨_,(aq (b_ (aW ui hr (aa (xk (aa (pv 0) (aa (pv 1) ae))) ae))) (av (aG (Hw G5 hr (by omega) rfl (aa (pv 0) (aa (aW uL hr (aa (pv 1) (aa (pv 0) ae))) (aa (pv 1) ae))))))),?_⟩;refine⟨_,rfl,_,rfl,by show 2<=sizeLine;decide,λl nl=>?_⟩;have g1:=cq nl (.lst [.ref m,.ref wi]);refine⟨l,m,[wi],xs.length,rfl,ak.of aR,l2,l8,λa ha=>?_,λH2 g2=>?_⟩
 ·rcases Yp.mp ha with rfl|ha;·exact⟨xs,aB.of (g1 _ _ hM),rfl,fx⟩
  ·rw[Yk] at ha;subst ha;exact⟨ys,aB.of (g1 _ _ hW),eq.symm,fy⟩
 have g:=g1.trans g2;refine⟨_,rfl,_,rfl,_,rfl,wi,m,ys,xs,rfl,aB.of (g _ _ hW),aB.of (g _ _ hM),by omega,fy,fx,eq.symm,λfa H3 Up g3 di=>?_⟩;have fF:=g.trans g3;refine⟨_,rfl,λx dx nx yD ne=>?_⟩;have yE:upd H3 dx (.own x) x=none:=by rw[aK (λz=>ne z.symm)];exact nx
 have g4:aj H3 (upd (upd H3 dx (.own x)) x (.ins C dx [])):=(cq yD _).trans (cq yE _);refine⟨x,dx,m,fa,wi,xs,ys,rfl,aR,g4 _ _ (fF _ _ hM),g4 _ _ di,g4 _ _ (fF _ _ hW),fx,fy,eq,l2,l8,λH5 k5 la=>⟨rfl,q x H5 (λb o e=>?_) la⟩⟩;have e3:=fF _ _ e;exact k5 b o (g4 _ _ e3) (bY e3 nx)
end
abbrev AD(xs ys:List Int):List (Str×List Int):=[("c",xs),("k",bK xs ys),("w",ys),("m",inv xs),("f",inv (bK xs ys)),("h",inv ys),("s",bp xs.length)]
inductive NY(C:Addr)(vs:List V)(H:Hp)(Q:VK):Prop
 |mk (L:Addr) (z:Str) (xs ys ns:List Int) (aC:vs=[.ref L,.str z]) (aS:iM H C L xs ys) (bb:(z,ns)∈AD xs ys) (bL:∀t:Addr,bN H t ns->Q (.ref t) H):NY C vs H Q
def QG(C:Addr):Sp:=λvs H Q _=>NY C vs H Q
def step_at{H:Hp}{xs ys ns:List Int}{z:Str}{m f w im jf iw st:Addr}(h:(z,ns)∈AD xs ys)(h3:bN H m xs)(h4:bN H f (bK xs ys))(h5:bN H w ys)(h6:bN H im (inv xs))(h7:bN H jf (inv (bK xs ys)))(h8:bN H iw (inv ys))(h9:bN H st (bp xs.length)):
  ∃t,aT (xB m f w im jf iw st) (.inr z)=some (.ref t)/\bN H t ns:=by
 simp only[Yp,Y3,or_false] at h;rcases h with⟨rfl,rfl⟩|⟨rfl,rfl⟩|⟨rfl,rfl⟩|⟨rfl,rfl⟩|⟨rfl,rfl⟩|⟨rfl,rfl⟩|⟨rfl,rfl⟩;·exact⟨m,rfl,h3⟩
 ·exact⟨f,rfl,h4⟩
 ·exact⟨w,rfl,h5⟩
 ·exact⟨im,rfl,h6⟩
 ·exact⟨jf,rfl,h7⟩
 ·exact⟨iw,rfl,h8⟩
 ·exact⟨st,rfl,h9⟩
section
variable {K:ah}{mg:aQ}
abbrev Ba:List Str:=["self","letter"]
def XN:aP Ba Ba (aF EC):=.aX
def Zds(F:aN K "step" "Land.step" EC f fd)(lc:u3 K C):aE P w K mg base aM 1 f fd Ba (QG C):=by
 refine F.o XN λs H hr h=>?_;obtain⟨L,z,xs,ys,ns,rfl,la,hz,q⟩:=h;refine⟨_,(aq (aV (jE (m5 (bw hr) (pv 1) (pF K 0)) (by with_unfolding_all rfl)) gc aZ) (av (aG (dk (bw hr) (pF K 0) (pv 1) (λ_ _=>rfl))))),?_⟩;obtain⟨dx,d,m,fa,wi,im,jf,iw,st,h1,h2,h3,h4,h5,h6,h7,h8,h9⟩:=la;obtain⟨t,hv,ht⟩:=step_at hz h3 h4 h5 h6 h7 h8 h9;have dg:=hv▸d_.k h2;exact⟨_,rfl,_,rfl,L,C,dx,_,.ref d,rfl,h1,lc.cls,lc.Gz,rfl,d,_,rfl,dg,_,rfl,bW (aY ⟨_,rfl,L,C,dx,_,.ref d,rfl,h1,lc.cls,lc.Gz,rfl,_,rfl,d,_,rfl,dg,q t ht⟩)⟩
end
structure JS where
 hd:List Nat
 ld:List (List Int)
 mem:List (Nat×List Nat)
 fr:List (Nat×List Int)
structure JL where
 J:Addr
 ha:Addr
 la:Addr
 md:Addr
 fd:Addr
 eP:List Addr
 fW:List Addr
 bV:List Addr
def JL.fp(l:JL):List Addr:=l.J::l.ha::l.la::l.md::l.fd::l.fW
abbrev JF(n:Nat)(ha la md fd:Addr):List (Str×V):=[("size",.int (n:Int)),("heads",.ref ha),("leads",.ref la),("members",.ref md),("free",.ref fd)]
def jf5(a b c d e:V):cK "free" e (cK "members" d (cK "leads" c (cK "heads" b (cK "size" a []))))=([("size",a),("heads",b),("leads",c),("members",d),("free",e)]:List (Str×V)):=rfl
abbrev dH(is:List Nat):List V:=is.map λi:Nat=>V.int (i:Int)
def bB(ks:List Nat)(as:List Addr):List (Key×V):=(ks.zip as).map λp=>(.inl (p.1:Int),.ref p.2)
structure cL(H:Hp)(C:Addr)(n:Nat)(l:JL)(st:JS):Prop where
 obj:∃dx,H l.J=some (.ins C dx (JF n l.ha l.la l.md l.fd))
 heads:H l.ha=some (.lst (dH st.hd))
 iO:H l.la=some (.lst (l.eP.map V.ref))
 lead:Paired (λa xs=>H a=some (.tup (xs.map V.int))) l.eP st.ld
 jH:H l.md=some (.dK (bB (st.mem.map (·.1)) l.fW))
 mem:Paired (λa p=>H a=some (.lst (dH p.2))) l.fW st.mem
 frees:H l.fd=some (.dK (bB (st.fr.map (·.1)) l.bV))
 free:Paired (λa p=>H a=some (.lst (p.2.map V.int))) l.bV st.fr
 nd:l.fp.Nodup
 out:∀a∈l.bV,a∉l.fp
def cL.same{H H':Hp}{C:Addr}{n:Nat}{l:JL}{st:JS}(g:aj H H')(a:cL H C n l st):cL H' C n l st:=
 ⟨let⟨dx,h⟩:=a.obj;⟨dx,g _ _ h⟩,g _ _ a.heads,g _ _ a.iO,L2.Paired.bq a.lead λ_ _ h=>g _ _ h,g _ _ a.jH,L2.Paired.bq a.mem λ_ _ h=>g _ _ h,g _ _ a.frees,L2.Paired.bq a.free λ_ _ h=>g _ _ h,a.nd,a.out⟩
theorem wO{α β:Type}{F:α->β->Prop}:∀{xs:List α} {ys:List β} {x:α},Paired F xs ys->x∈xs->∃y,F x y:=by
 intro xs ys x p;induction p with
 |nil=>grind
 |cons f t ih=>grind
def cL.ne{H:Hp}{C p:Addr}{n:Nat}{l:JL}{st:JS}(a:cL H C n l st)(h:H p=none):p∉l.fp:=by
 intro z;unfold JL.fp at z;simp only[Yp] at z;rcases z with rfl|rfl|rfl|rfl|rfl|z
 ·obtain⟨dx,e⟩:=a.obj
  grind
 ·rw[a.heads] at h;cases h
 ·rw[a.iO] at h;cases h
 ·rw[a.jH] at h;cases h
 ·rw[a.frees] at h;cases h
 ·obtain⟨y,e⟩:=wO a.mem z
  grind
theorem oB{α:Type}{H:Hp}{f:α->HO}:∀{as:List Addr} {ps:List (Nat×α)} {k:Nat} {v:α},Paired (λa p=>H a=some (f p.2)) as ps->ps.lookup k=some v->∃a,a∈as/\aT (bB (ps.map (·.1)) as) (.inl (k:Int))=some (.ref a)/\H a=some (f v):=by
 intro as ps k v pr;induction pr with
 |nil=>grind
 |@cons a p as ps e t ih=>
  intro h;have e0:bB ((p::ps).map (·.1)) (a::as)=(Sum.inl (p.1:Int),V.ref a)::bB (ps.map (·.1)) as:=rfl;rw[Wz] at h;by_cases ek:k=p.1
  ·have eb:(k==p.1)=true:=beq_iff_eq.mpr ek;rw[eb] at h;exact⟨a,Yo,fN (p:=((Sum.inl (p.1:Int):Key),V.ref a)) (by rw[ek]),by rw[←(Yn h)];exact e⟩
  ·have eb:(k==p.1)=false:=beq_eq_false_iff_ne.mpr ek;rw[eb] at h;obtain⟨b,hb,q,w⟩:=ih h;refine⟨b,Yw _ hb,?_,w⟩;rw[e0,eX (p:=((Sum.inl (p.1:Int):Key),V.ref a)) (λz=>ek (by have:=Cf z;omega))];exact q
def Zcb{q k:Nat}{ks:List Nat}{v:V}(z:((Sum.inl (q:Int):Key),v).1=.inl (k:Int)):k∈q::ks:=by
 grind
theorem zN:∀{as:List Addr} {ks:List Nat} {k:Nat},k∉ks->aT (bB ks as) (.inl (k:Int))=none
 |[],ks,k,_=>by unfold bB;rw[List.zip_nil_right];rfl
 |a::as,[],k,_=>rfl
 |a::as,q::ks,k,h=>by
  have e0:bB (q::ks) (a::as)=(Sum.inl (q:Int),V.ref a)::bB ks as:=rfl;rw[e0,eX (p:=((Sum.inl (q:Int):Key),V.ref a)) (λz=>h (Zcb z))];exact zN λz=>h (Yw _ z)
theorem zC:∀{ks:List Nat} {as:List Addr} (k:Nat) (a:Addr),ks.length=as.length->bB ks as++[(.inl (k:Int),.ref a)]=bB (ks++[k]) (as++[a])
 |[],[],_,_,_=>rfl
 |q::ks,b::as,k,a,h=>by
  have e0:bB (q::ks) (b::as)=(Sum.inl (q:Int),V.ref b)::bB ks as:=rfl;rw[e0,T4,(zC (ks:=ks) (as:=as) k a (by simpa using h))];rfl
 |[],_::_,_,_,h=>by simp at h
 |_::_,[],_,_,h=>by simp at h
structure nB(K:ah)(C:Addr):Prop where
 cls:fU K C
 r8:de K C "size"
 j9:de K C "heads"
 m_:de K C "leads"
 uF:de K C "members"
 r9:de K C "free"
def JS.more(n:Nat)(st:JS):JS:=⟨st.hd++[st.hd.length],st.ld++[bp n],st.mem++[(st.hd.length,[st.hd.length])],st.fr++[(st.hd.length,bp n)]⟩
inductive O3(C:Addr)(vs:List V)(H:Hp)(Q:VK)(E:XK):Prop
 |mk (x dx:Addr) (n:Nat) (aC:vs=[.ref x,.int (n:Int)]) (aS:H x=some (.ins C dx [])) (bb:∀(l:JL) (H':Hp),l.J=x->l.fW=[]->(∀b∈l.fp,b≠x->H b=none)->aA x H H'->cL H' C n l ⟨[],[],[],[]⟩->Q .az H')
inductive Fg(C:Addr)(vs:List V)(H:Hp)(Q:VK)(E:XK):Prop
 |mk (l:JL) (st:JS) (n i j a b:Nat) (aC:vs=[.ref l.J,.int (i:Int),.int (j:Int)]) (aS:cL H C n l st) (bb:st.hd[i]?=some a) (bL:st.hd[j]?=some b) (cD:Q (.bl (decide (a=b))) H)
inductive z4(C:Addr)(vs:List V)(H:Hp)(Q:VK)(E:XK):Prop
 |mk (l:JL) (st:JS) (n i h:Nat) (t secs:List Int) (aC:vs=[.ref l.J,.int (i:Int)]) (aS:cL H C n l st) (bb:st.hd[i]?=some h) (bL:st.ld[i]?=some t) (cD:st.fr.lookup h=some secs) (dB:(∀z∈secs,0<=z/\z<t.length)) (fD:secs.length<64) (ir:∀(p:Addr) (ns:List Int) (H':Hp),H p=none->aj H H'->ns.Perm (secs.map λz=>t.getD z.toNat 0)->ns.Pairwise (·<=·)->H' p=some (.lst (ns.map V.int))->Q (.ref p) H')
inductive HS(C:Addr)(vs:List V)(H:Hp)(Q:VK)(E:XK):Prop
 |mk (l:JL) (st:JS) (n:Nat) (aC:vs=[.ref l.J]) (aS:cL H C n l st) (bb:n<=1000) (bL:st.hd.length<1000) (cD:st.mem.length<=st.hd.length) (dB:st.fr.length<=st.hd.length) (fD:st.ld.length=st.hd.length) (ir:st.hd.length∉st.mem.map (·.1)) (nP:st.hd.length∉st.fr.map (·.1)) (vI:∀(l':JL) (H':Hp),l'.J=l.J->Out l.fp H H'->(∀b∈l'.fp,b∈l.fp\/H b=none)->cL H' C n l' (st.more n)->Q (.int (st.hd.length:Int)) H')
def oN{is:List Nat}{i h:Nat}(e:is[i]?=some h):dO (dH is) (i:Int)=some (.int (h:Int)):=iH (by rw[Ye,e];rfl)
section
variable {K:ah}{mg:aQ}
abbrev Bb:List Str:=["self","size"]
def Xo:aP Bb Bb (aF D8):=.aX
theorem Zcc(F:aN K "__init__" "Joins.__init__" D8 f fd)(jc:nB K C)(bl:Bl mg):aE P w K mg base aM 1 f fd Bb (O3 C):=by
 refine F.o Xo λs H hr h=>?_;obtain⟨x,dx,n,rfl,hx,q⟩:=h;refine⟨_,(aq (gS (K:=K) rfl (pv 0) (pv 1)) (aq (gS (K:=K) rfl (pv 0) (dw ae)) (aq (gS (K:=K) rfl (pv 0) (dw ae)) (aq (gS (K:=K) rfl (pv 0) rL) (av (gS (K:=K) rfl (pv 0) rL)))))),?_⟩;refine⟨_,rfl,_,rfl,x,C,dx,[],rfl,hx,jc.cls,jc.r8,by show 0<1000;omega,λH1 b1 h1=>?_⟩;refine⟨by show 0<=sizeLine;exact Yx _,λha H2 n2 g2 e2=>⟨_,rfl,x,C,dx,_,rfl,g2 _ _ h1,jc.cls,jc.j9,by show 1<1000;omega,λH3 b3 h3=>?_⟩⟩;refine⟨by show 0<=sizeLine;exact Yx _,λla H4 n4 g4 e4=>⟨_,rfl,x,C,dx,_,rfl,g4 _ _ h3,jc.cls,jc.m_,by show 2<1000;omega,λH5 b5 h5=>?_⟩⟩;refine λmd H6 n6 g6 e6=>⟨_,rfl,x,C,dx,_,rfl,g6 _ _ h5,jc.cls,jc.uF,by show 3<1000;omega,λH7 b7 h7=>?_⟩;refine λfe H8 n8 g8 e8=>⟨_,rfl,x,C,dx,_,rfl,g8 _ _ h7,jc.cls,jc.r9,by show 4<1000;omega,λH9 b9 h9=>?_⟩;rw[jf5] at h9;have k8:aA x H8 H9:=b9;have k6:aA x H6 H9:=b7.trans ((aA.of g8).trans k8);have k4:aA x H4 H9:=b5.trans ((aA.of g6).trans k6);have k2:aA x H2 H9:=b3.trans ((aA.of g4).trans k4);have k0:aA x H H9:=b1.trans ((aA.of g2).trans k2);have d2:ha≠x:=λz=>by rw[z,h1] at n2;cases n2
 have d4:la≠x:=λz=>by rw[z,h3] at n4;cases n4
 have d6:md≠x:=λz=>by rw[z,h5] at n6;cases n6
 have d8:fe≠x:=λz=>by rw[z,h7] at n8;cases n8
 have i3:=b3 _ _ e2 d2;have i5:=b5 _ _ (g4 _ _ i3) d2;have i7:=b7 _ _ (g6 _ _ i5) d2;have j5:=b5 _ _ e4 d4;have j7:=b7 _ _ (g6 _ _ j5) d4;have l7:=b7 _ _ e6 d6;have a1:ha≠la:=λz=>by rw[←z,i3] at n4;cases n4
 have a2:ha≠md:=λz=>by rw[←z,i5] at n6;cases n6
 have a3:ha≠fe:=λz=>by rw[←z,i7] at n8;cases n8
 have a4:la≠md:=λz=>by rw[←z,j5] at n6;cases n6
 have a5:la≠fe:=λz=>by rw[←z,j7] at n8;cases n8
 have a6:md≠fe:=λz=>by rw[←z,l7] at n8;cases n8
 have Cg:∀{b:Addr} {H':Hp},aA x H H'->b≠x->H' b=none->H b=none:=λ{b H'} k d n=>by
  cases e:H b with
  |none=>rfl
  |some o=>rw[k b o e d] at n;cases n
 have t3:aA x H H3:=b1.trans ((aA.of g2).trans b3);have t5:aA x H H5:=t3.trans ((aA.of g4).trans b5);have t7:aA x H H7:=t5.trans ((aA.of g6).trans b7);refine q ⟨x,ha,la,md,fe,[],[],[]⟩ H9 rfl rfl (λb hb nb=>?_) k0 ⟨⟨dx,h9⟩,k2 _ _ e2 d2,k4 _ _ e4 d4,.nil,k6 _ _ e6 d6,.nil,k8 _ _ e8 d8,.nil,?_,λa qU=>by cases qU⟩
 ·simp only[JL.fp,Yp,Y3,or_false] at hb;rcases hb with rfl|rfl|rfl|rfl|rfl;·exact absurd rfl nb
  ·exact Cg b1 d2 n2
  ·exact Cg t3 d4 n4
  ·exact Cg t5 d6 n6
  ·exact Cg t7 d8 n8
 ·simp only[JL.fp,Yz,Yp,Y3,or_false,not_or,not_false_eq_true,Ja,and_true];exact⟨⟨λz=>d2 z.symm,λz=>d4 z.symm,λz=>d6 z.symm,λz=>d8 z.symm⟩,⟨a1,a2,a3⟩,⟨a4,a5⟩,a6⟩
abbrev pj:List Str:=["self","one","other"]
def VY:aP pj pj (aF Df):=.aX
def YW(F:aN K "together" "Joins.together" Df f fd)(jc:nB K C)(bl:Bl mg):aE P w K mg base aM 1 f fd pj (Fg C):=by
 refine F.o VY @λbC A outer vs Q E s H hr h=>?_;obtain⟨l,st,n,i,j,a,b,rfl,ja,hi,hj,q⟩:=h;refine⟨_,(av (aG (eO cv (bj (iL K) (pF K 0) (pv 1)) (bj (iL K) (pF K 0) (pv 2))))),?_⟩;obtain⟨dx,ho⟩:=ja.obj;have q':Q (.bl (decide (V.int (a:Int)=V.int (b:Int)))) H:=by
  have e:decide (V.int (a:Int)=V.int (b:Int))=decide (a=b):=by
   rw[Wj,decide_eq_true_iff,decide_eq_true_iff];exact⟨λz=>by have:=V.int.inj z;omega,λz=>by rw[z]⟩
  rw[e];exact q
 exact⟨_,rfl,l.J,C,dx,_,_,rfl,ho,jc.cls,jc.j9,rfl,_,rfl,l.ha,_,_,_,rfl,rfl,ak.of ja.heads,oN hi,_,rfl,l.J,C,dx,_,_,rfl,ho,jc.cls,jc.j9,rfl,_,rfl,l.ha,_,_,_,rfl,rfl,ak.of ja.heads,oN hj,rfl,q'⟩
end
def dI{H:Hp}{a b:Addr}{o o':HO}(h:H a=some o)(h':H b=some o')(ne:o≠o'):a≠b:=λz=>by
 grind
def Zcd(is:List Nat)(k:Nat):dH (is++[k])=dH is++[.int (k:Int)]:=Ym
def rE{H:Hp}{a b:Addr}{o:HO}(h:H a=some o)(h':H b=none):b≠a:=λz=>by
 grind
theorem jD{α β:Type}{F:α->β->Prop}{x:α}{y:β}(f:F x y){xs:List α}{ys:List β}(h:Paired F xs ys):Paired F (xs++[x]) (ys++[y]):=by
 induction h with
 |nil=>exact .cons f .nil
 |cons r t ih=>exact .cons r ih
theorem uG{α β:Type}{F:α->β->Prop}:∀{xs:List α} {ys:List β},Paired F xs ys->Paired (λa b=>F a b/\a∈xs) xs ys
 |_,_,.nil=>.nil
 |_,_,.cons g t=>.cons ⟨g,Yo⟩ (L2.Paired.bq (uG t) λ_ _ h=>⟨h.1,Yw _ h.2⟩)
def qt{H:Hp}{a:Addr}{kvs:List (Key×V)}{k:Nat}{o:Option V}(h:H a=some (.dK kvs))(e:aT kvs (.inl (k:Int))=o):d_ H a (.int (k:Int)) o:=.inl ⟨kvs,.inl (k:Int),.inl h,rfl,e.symm⟩
section
variable {K:ah}{mg:aQ}
abbrev xW:List Str:=["self","one"]
def LR:aP ["self","one","lead"] xW (aF Dn):=.aX
def ZZ(F:aN K "open_at" "Joins.open_at" Dn f fd)(jc:nB K C)(bl:Bl mg):aE P w K mg base aM 2 f fd xW (z4 C):=by
 refine F.o LR λs H hr h=>?_;obtain⟨l,st,n,i,h,t,secs,rfl,ja,hi,ht,hf,qT,jw,q⟩:=h;refine⟨_,(aq (gT (i:=2) LR.nd rfl (Or.inr rfl) (bj (iL K) (pF K 0) (pv 1))) (av (aG (h_ (ZbS (K:=K) rfl) rfl bl.zW zK (aa (iJ (x:="section") (fr:=[("lead",2)]) (cl:=[("lead",s.heap.objs.size+1)]) rfl (.gu ⟨rfl,trivial⟩ ⟨⟨rfl,.inl rfl,.inl rfl,rfl⟩,trivial⟩) (eI (K:=K) rfl (dk (bw hr) (pF K 0) (bj (iL K) (pF K 0) (pv 1)) (λ_ _=>rfl))) (λ_ _ _ _=>kY) (λ_ _ _ _=>(bj (iT K) (pv 1) (pv 0)))) ae))))),?_⟩;obtain⟨dx,ho⟩:=ja.obj;obtain⟨fa,Uq,vf,di⟩:=oB (f:=λv:List Int=>HO.lst (v.map V.int)) ja.free hf;obtain⟨ta,eta,KP⟩:∃ta,l.eP[i]?=some ta/\H ta=some (.tup (t.map V.int)):=by
  have hl:=cU ja.lead;have dG:i<l.eP.length:=by rw[hl];exact(Yl.mp ht).1
  obtain⟨y,ey,hy⟩:=gH ja.lead (Yc dG)
  grind
 have KQ:dO (l.eP.map V.ref) (i:Int)=some (.ref ta):=iH (by rw[Ye,eta];rfl);refine cz ?_;refine⟨_,rfl,l.J,C,dx,_,_,rfl,ho,jc.cls,jc.m_,rfl,_,rfl,l.la,_,_,_,rfl,rfl,ak.of ja.iO,KQ,?_⟩;refine⟨_,rfl,l.J,C,dx,_,_,rfl,ho,jc.cls,jc.r9,rfl,_,rfl,l.J,C,dx,_,_,rfl,ho,jc.cls,jc.j9,rfl,_,rfl,l.ha,_,_,_,rfl,rfl,ak.of ja.heads,oN hi,l.fd,_,rfl,qt ja.frees vf,fa,rfl,⟨_,ak.of di⟩,λD hD=>ZH (xs:=secs.map V.int) (ak.of di) (by rw[Ya];omega) hD (λv=>match v with|.int z=>.int (t.getD z.toNat 0)|_=>.az) (λj v hj H1 g1 Kt k=>?_) λH1 g1 h1=>?_⟩
 ·obtain⟨z,rfl,hz⟩:=jY hj;have bz:=qT z (Yg hz);exact⟨_,rfl,_,rfl,ta,_,_,_,rfl,rfl,aB.of (g1 _ _ KP),ny bz.1 bz.2,k H1 (aj.refl _)⟩
 ·have hy:H1 D=some (.lst ((secs.map λz=>t.getD z.toNat 0).map V.int)):=by
   rw[h1,Wi,Wi];rfl
  exact⟨D,_,rfl,.inl (ak.of hy),by rw[Ya];exact jw,λdm pm so p H2 np g2 h2=>q p dm H2 (g1.free np) (g1.trans g2) pm so h2⟩
abbrev lC:List Str:=["self"]
abbrev xX:List Str:=["self","number"]
def L4:aP xX lC (aF ED):=.aX
theorem Zfb(F:aN K "add" "Joins.add" ED f fd)(jc:nB K C)(uP:HasFn P w K mg base 1 "still" ["size"] Gy)(bl:Bl mg):aE P w K mg base aM 2 f fd lC (HS C):=by
 refine F.o L4 λs H hr h=>?_;obtain⟨l,st,n,rfl,ja,hn,lh,lm,lf,ll,nm,nf,q⟩:=h;refine⟨_,(aq (bU 1 L4.nd (dq K bl (pF K 0))) (aq (b_ (nA (K:=K) rfl (ka plainAttrs_list PySem.F.slot_list_append PySem.F.type_list_append oz (pF K 0) (aa (pv 1) ae)))) (aq (b_ (nA (K:=K) rfl (ka plainAttrs_list PySem.F.slot_list_append PySem.F.type_list_append oz (pF K 0) (aa (aW uP hr (aa (pF K 0) ae)) ae)))) (aq (oF (bw hr) (pF K 0) (pv 1) (dw (aa (pv 1) ae))) (aq (oF (bw hr) (pF K 0) (pv 1) (eS (WW rfl) rfl bl.uU uO (aa (eS D5 rfl bl.jZ uJ (aa (pF K 0) ae)) ae))) (av (aG (pv 1)))))))),?_⟩;have sz:(10000:Nat)<=sizeLine:=by rw[sizeLine_eq];omega
 obtain⟨dx,ho⟩:=ja.obj;have hl:(dH st.hd).length=st.hd.length:=Ya _;have pl1:=cU ja.lead;have KR:=cU ja.mem;have Ci:=cU ja.free;have nd:=ja.nd;simp only[JL.fp,Yz,Yp,not_or] at nd;obtain⟨⟨x1,x2,x3,x4,x5⟩,⟨y1,y2,y3,y4⟩,⟨z1,z2,z3⟩,⟨w1,w2⟩,v1,v2⟩:=nd;have dl:∀{ks:List Nat} {as:List Addr},(bB ks as).length<=as.length:=λ{ks as}=>by unfold bB;rw[Ya,Jd];exact Nat.min_le_right _ _
 refine cz ?_;refine⟨_,rfl,l.J,C,dx,_,_,rfl,ho,jc.cls,jc.j9,rfl,l.ha,_,rfl,.inl (ak.of ja.heads),?_⟩;rw[hl];refine⟨_,rfl,l.J,C,dx,_,_,rfl,ho,jc.cls,jc.j9,rfl,.inl ⟨rfl,_,ak.of ja.heads⟩,_,rfl,l.ha,_,_,rfl,rfl,ja.heads,by rw[hl];omega,λH1 b1 e1=>?_⟩;have o1:=b1 _ _ ho x1;have l1:=b1 _ _ ja.iO (λz=>y1 z.symm);refine⟨_,rfl,l.J,C,dx,_,_,rfl,o1,jc.cls,jc.m_,rfl,.inl ⟨rfl,_,ak.of l1⟩,_,rfl,l.J,C,dx,_,_,rfl,o1,jc.cls,jc.r8,rfl,n,rfl,hn,λt H2 nt g2 ht=>?_⟩;refine⟨l.la,_,_,rfl,rfl,g2 _ _ l1,by rw[Ya];omega,λH3 b3 e3=>?_⟩;have o3:=b3 _ _ (g2 _ _ o1) x2;have m3:=b3 _ _ (g2 _ _ (b1 _ _ ja.jH (λz=>y2 z.symm))) (λz=>z1 z.symm);refine⟨_,rfl,by show 1<=sizeLine;omega,λm H4 vP g4 em=>?_⟩;have o4:=g4 _ _ o3;refine⟨_,rfl,l.J,C,dx,_,_,rfl,o4,jc.cls,jc.uF,rfl,_,rfl,l.md,_,.inl (st.hd.length:Int),rfl,g4 _ _ m3,rfl,?_,λH5 b5 e5=>?_⟩
 ·have:=dl (ks:=st.mem.map (·.1)) (as:=l.fW);omega
 have o5:=b5 _ _ o4 x3;refine⟨_,rfl,l.J,C,dx,_,_,rfl,o5,jc.cls,jc.r8,rfl,(n:Int),rfl,λr H6 nr g6 er=>⟨r,n,rfl,er,hn,λfa H7 Up g7 ef=>?_⟩⟩;have Cj:=g6.trans g7;have f5:=b5 _ _ (g4 _ _ (b3 _ _ (g2 _ _ (b1 _ _ ja.frees (λz=>y3 z.symm))) (λz=>z2 z.symm))) (λz=>w1 z.symm);refine⟨_,rfl,l.J,C,dx,_,_,rfl,Cj _ _ o5,jc.cls,jc.r9,rfl,_,rfl,l.fd,_,.inl (st.hd.length:Int),rfl,Cj _ _ f5,rfl,?_,λH8 b8 e8=>?_⟩
 ·have:=dl (ks:=st.fr.map (·.1)) (as:=l.bV);omega
 have keep:∀b o,H b=some o->b≠l.ha->b≠l.la->b≠l.md->b≠l.fd->H8 b=some o:=λb o e n1 n2 n3 n4=>b8 _ _ (Cj _ _ (b5 _ _ (g4 _ _ (b3 _ _ (g2 _ _ (b1 _ _ e n1)) n2)) n3)) n4;rw[kU _ (zN nm),zC _ _ (by rw[Ya];omega)] at e5;rw[kU _ (zN nf),zC _ _ (by rw[Ya];omega)] at e8;have KS:H m=none:=by
  cases e:H m with
  |none=>rfl
  |some o=>
   have hm1:m≠l.ha:=λz=>by rw[z,b3 _ _ (g2 _ _ e1) y1] at vP;cases vP
   have hm2:m≠l.la:=λz=>by rw[z,e3] at vP;cases vP
   rw[b3 _ _ (g2 _ _ (b1 _ _ e hm1)) hm2] at vP;cases vP
 have en:=ja.ne KS;have KU:fa∉l.fp/\fa≠m:=by
  have e6:H6 fa=none:=Up;have h5:∀b o,H b=some o->b≠l.ha->b≠l.la->b≠l.md->H6 b=some o:=λb o e n1 n2 n3=>g6 _ _ (b5 _ _ (g4 _ _ (b3 _ _ (g2 _ _ (b1 _ _ e n1)) n2)) n3);have f1:H6 l.ha=some _:=g6 _ _ (b5 _ _ (g4 _ _ (b3 _ _ (g2 _ _ e1) y1)) y2);have f2:H6 l.la=some _:=g6 _ _ (b5 _ _ (g4 _ _ e3) z1);have f3:H6 l.md=some _:=g6 _ _ e5;have f4:H6 m=some _:=g6 _ _ (b5 _ _ em (λz=>en (by rw[z];simp[JL.fp])));have f5':H6 l.fd=some _:=g6 _ _ f5;have f6:H6 l.J=some _:=g6 _ _ o5;refine⟨λz=>?_,rE f4 e6⟩;simp only[JL.fp,Yp] at z;rcases z with z|z|z|z|z|z;·exact rE f6 e6 z
  ·exact rE f1 e6 z
  ·exact rE f2 e6 z
  ·exact rE f3 e6 z
  ·exact rE f5' e6 z
  ·obtain⟨y,ey⟩:=wO ja.mem z;refine rE (h5 _ _ ey ?_ ?_ ?_) e6 rfl;·exact λq=>y4 (by rw[←q];exact z)
   ·exact λq=>z3 (by rw[←q];exact z)
   ·exact λq=>w2 (by rw[←q];exact z)
 have kt:∀a∈l.eP,∀xs:List Int,H a=some (.tup (xs.map V.int))->H8 a=some (.tup (xs.map V.int)):=λa _ xs e=>keep a _ e (dI e ja.heads (λz=>by cases z)) (dI e ja.iO (λz=>by cases z)) (dI e ja.jH (λz=>by cases z)) (dI e ja.frees (λz=>by cases z));have k8:∀b o,H5 b=some o->b≠l.fd->H8 b=some o:=λb o e n=>b8 _ _ (Cj _ _ e) n;have nmd:m≠l.md:=λz=>en (by rw[z];simp[JL.fp]);have nmf:m≠l.fd:=λz=>en (by rw[z];simp[JL.fp]);have ntf:t≠l.fd:=λz=>by
  have:=b1 _ _ ja.frees (λz=>y3 z.symm);rw[←z,nt] at this;cases this
 have KW:t≠l.la:=λz=>by rw[←z,nt] at l1;cases l1
 have Ur:t≠l.md:=λz=>by
  have:=b1 _ _ ja.jH (λz=>y2 z.symm);rw[←z,nt] at this;cases this
 refine⟨_,rfl,q ⟨l.J,l.ha,l.la,l.md,l.fd,l.eP++[t],l.fW++[m],l.bV++[fa]⟩ H8 rfl (λb o e nb=>?_) (λb hb=>?_) ⟨⟨dx,k8 _ _ o5 x4⟩,?_,?_,?_,?_,?_,?_,?_,?_,?_⟩⟩
 ·simp only[JL.fp,Yp,not_or] at nb;exact keep b o e nb.2.1 nb.2.2.1 nb.2.2.2.1 nb.2.2.2.2.1
 ·simp only[JL.fp,Yp,Yq,Y3,or_false] at hb⊢;rcases hb with h|h|h|h|h|h|h;·exact .inl (.inl h)
  ·exact .inl (.inr (.inl h))
  ·exact .inl (.inr (.inr (.inl h)))
  ·exact .inl (.inr (.inr (.inr (.inl h))))
  ·exact .inl (.inr (.inr (.inr (.inr (.inl h)))))
  ·exact .inl (.inr (.inr (.inr (.inr (.inr h)))))
  ·rw[h];exact .inr KS
 ·show H8 l.ha=some (.lst (dH (st.hd++[st.hd.length])));rw[k8 _ _ (b5 _ _ (g4 _ _ (b3 _ _ (g2 _ _ e1) y1)) y2) y3,Zcd]
 ·show H8 l.la=some (.lst ((l.eP++[t]).map V.ref));rw[k8 _ _ (b5 _ _ (g4 _ _ e3) z1) z2,Ym];rfl
 ·exact jD (F:=λa (xs:List Int)=>H8 a=some (.tup (xs.map V.int))) (k8 _ _ (b5 _ _ (g4 _ _ (b3 _ _ ht KW)) Ur) ntf) (L2.Paired.bq (uG ja.lead) λa xs h=>kt a h.2 xs h.1)
 ·show H8 l.md=some (.dK (bB ((st.mem++[(st.hd.length,[st.hd.length])]).map (·.1)) (l.fW++[m])));rw[k8 _ _ e5 w1,Ym];rfl
 ·refine jD (F:=λa (p:Nat×List Nat)=>H8 a=some (.lst (dH p.2))) (k8 _ _ (b5 _ _ em nmd) nmf) (L2.Paired.bq (uG ja.mem) λa p h=>keep a _ h.1 ?_ ?_ ?_ ?_);·exact λz=>y4 (by rw[←z];exact h.2)
  ·exact λz=>z3 (by rw[←z];exact h.2)
  ·exact λz=>w2 (by rw[←z];exact h.2)
  ·exact λz=>v1 (by rw[←z];exact h.2)
 ·show H8 l.fd=some (.dK (bB ((st.fr++[(st.hd.length,bp n)]).map (·.1)) (l.bV++[fa])));rw[e8,Ym];rfl
 ·have nfd:fa≠l.fd:=λz=>KU.1 (by rw[z];simp[JL.fp]);refine jD (F:=λa (p:Nat×List Int)=>H8 a=some (.lst (p.2.map V.int))) (b8 _ _ ef nfd) (L2.Paired.bq (uG ja.free) λa p h=>?_);have no:=ja.out a h.2;simp only[JL.fp,Yp,not_or] at no;exact keep a _ h.1 no.2.1 no.2.2.1 no.2.2.2.1 no.2.2.2.2.1
 ·have nd:=ja.nd;have e0:JL.fp ⟨l.J,l.ha,l.la,l.md,l.fd,l.eP++[t],l.fW++[m],l.bV++[fa]⟩=l.fp++[m]:=rfl;rw[e0,Wv];refine⟨nd,by simp,λa ha b hb=>?_⟩;have eb:b=m:=by simpa using hb
  intro z;rw[z,eb] at ha;exact en ha
 ·intro a ha;have e0:JL.fp ⟨l.J,l.ha,l.la,l.md,l.fd,l.eP++[t],l.fW++[m],l.bV++[fa]⟩=l.fp++[m]:=rfl;rw[e0,Yq];have qU:a∈l.bV++[fa]:=ha;rcases Yq.mp qU with h|h
  ·rintro(z|z);·exact ja.out a h z
   ·have e:a=m:=by simpa using z
    obtain⟨y,ey⟩:=wO ja.free h;rw[e,KS] at ey;cases ey
  ·have e:a=fa:=by simpa using h
   rw[e];rintro(z|z);·exact KU.1 z
   ·exact KU.2 (by simpa using z)
end
def Z0{K:ah}{a:Addr}{ns:List Int}{tt:TT}{te:TE}{fv:St}{D:Addr}{H:Hp}{Q:VK}(hs:ak K H a (ns.map V.int))(hn:ns.length<=1000)(hD:H D=none)(p:Int->Bool)(g:Int->V)
  (turn:∀z∈ns,∀H1,aj H H1->∀(Kt:VK) (Kf:Hp->Prop),(p z=true->∀H3,aj H1 H3->Kt (g z) H3)->(p z=false->∀H3,aj H1 H3->Kf H3)->tt (some (.int z)::fv) H1 λc H2=>if c=true then te (some (.int z)::fv) H2 Kt else Kf H2)
  (fin:∀H',aj H H'->H' D=some (.lst ((ns.filter p).map g))->Q (.ref D) H'):jo (jK K a) tt te fv D H Q:=by
 refine FA (λi ys H1=>i<=ns.length/\aj H H1/\H1 D=some (.lst ys)/\ys=((ns.take i).filter p).map g) ⟨Yx _,cq hD _,aR,rfl⟩ (λi ys H1 _ ⟨_,g1,_,_⟩=>g1.seq hs) ?_ ?_
 ·rintro i v ys H1 hi ⟨_,g1,h1,e⟩;obtain⟨z,rfl,hz⟩:=jY hi;have dG:=(Yl.mp hz).1;have yl:ys.length<sizeLine:=by
   have:=Wh p (ns.take i);rw[Y8] at this;rw[e,Ya,sizeLine_eq];omega
  refine turn z (Yg hz) H1 g1 _ _ (λpz H3 g3=>⟨g3 _ _ h1,yl,dG,λb o q=>?_,aR,?_⟩) (λpz H3 g3=>⟨dG,g1.trans g3,g3 _ _ h1,?_⟩)
  ·rw[aK (bY q hD)];exact g3 _ _ (g1 _ _ q)
  ·rw[e,Y1,hz,Wr,Ym]
   grind
  ·rw[e,Y1,hz,Wr,Ym]
   grind
 ·grind
theorem Am(x:Int):∀ss:List Int,fq (.int x) (ss.map V.int)=decide (x∈ss)
 |[]=>rfl
 |s::ss=>by
  have ih:=Am x ss;unfold fq at ih⊢;rw[Wp,Jm,ih];show((s==x)||decide (x∈ss))=_
  grind
def Ga(ss:List Int):(ss.map V.int).all jn=true:=by
 rw[Kw,Wm];intro p _;rfl
def jt(ks:List Nat)(as:List Addr)(h:Nat)(a':Addr):List Addr:=(ks.zip as).map λp=>if p.1=h then a' else p.2
theorem Nc(h:Nat)(a':Addr):∀{ks:List Nat} {as:List Addr},ks.length=as.length->(bB ks as).map (λkv=>if kv.1=(.inl (h:Int):Key) then(kv.1,V.ref a') else kv)=bB ks (jt ks as h a')
 |[],[],_=>rfl
 |k::ks,a::as,e=>by
  have ih:=Nc h a' (by simpa using e);have e0:bB (k::ks) (a::as)=(Sum.inl (k:Int),V.ref a)::bB ks as:=rfl;have e1:jt (k::ks) (a::as) h a'=(if k=h then a' else a)::jt ks as h a':=rfl;have e2:bB (k::ks) ((if k=h then a' else a)::jt ks as h a')=(Sum.inl (k:Int),V.ref (if k=h then a' else a))::bB ks (jt ks as h a'):=rfl
  grind
 |[],_::_,e=>rfl
 |_::_,[],e=>rfl
def Zce{ks:List Nat}{as:List Addr}{h:Nat}{a a':Addr}(e:ks.length=as.length)(hv:aT (bB ks as) (.inl (h:Int))=some (.ref a)):putK (bB ks as) (.inl (h:Int)) (.ref a')=bB ks (jt ks as h a'):=by
 unfold putK;rw[if_pos (by rw[uK,hv];rfl)];exact Nc h a' e
def eB{α:Type}(h:Nat)(v:α)(ps:List (Nat×α)):List (Nat×α):=ps.map λp=>if p.1=h then(p.1,v) else p
theorem rM{α:Type}(h:Nat)(v:α):∀ps:List (Nat×α),(eB h v ps).map (·.1)=ps.map (·.1)
 |[]=>rfl
 |p::ps=>by
  have ih:=rM h v ps;show(if p.1=h then(p.1,v) else p).1::(eB h v ps).map (·.1)=_
  grind
theorem Z1{α:Type}{F G:Addr->Nat×α->Prop}{h:Nat}{a':Addr}{v:α}(new:∀k,G a' (k,v)):∀{as:List Addr} {ps:List (Nat×α)},Paired F as ps->(∀a p,F a p->a∈as->G a p)->Paired G (jt (ps.map (·.1)) as h a') (eB h v ps):=by
 intro as ps pr;induction pr with
 |nil=>intro _;exact .nil
 |@cons a p as ps f t ih=>
  intro k;have e1:jt ((p::ps).map (·.1)) (a::as) h a'=(if p.1=h then a' else a)::jt (ps.map (·.1)) as h a':=rfl;have e2:eB h v (p::ps)=(if p.1=h then(p.1,v) else p)::eB h v ps:=rfl;refine .cons ?_ (ih λb q fb hb=>k b q fb (Yw _ hb))
  grind
theorem NZ{h:Nat}{a' b:Addr}:∀{ks:List Nat} {as:List Addr},b∈jt ks as h a'->b=a'\/b∈as
 |[],_,m=>by unfold jt at m;simp at m
 |_::_,[],m=>by unfold jt at m;simp at m
 |k::ks,a::as,m=>by
  have e1:jt (k::ks) (a::as) h a'=(if k=h then a' else a)::jt ks as h a':=rfl;rcases Yp.mp m with z|z;·grind
  ·rcases NZ z with w|w;·exact .inl w
   ·grind
def JS.lq(st:JS)(h:Nat)(v:List Int):JS:={st with fr:=eB h v st.fr}
structure sP(st:JS)(i h:Nat)(t secs:List Int):Prop where
 hd:st.hd[i]?=some h
 ld:st.ld[i]?=some t
 fr:st.fr.lookup h=some secs
 fV:∀z∈secs,0<=z/\z<t.length
 jy:secs.length<64
 dist:(secs.map λz=>t.getD z.toNat 0).Nodup
inductive Gb(K:ah)(C:Addr)(vs:List V)(H:Hp)(Q:VK)(E:XK):Prop
 |mk (l:JL) (st:JS) (n i h:Nat) (t secs ss:List Int) (sl:Addr) (aC:vs=[.ref l.J,.int (i:Int),.ref sl]) (aS:cL H C n l st) (bb:sP st i h t secs) (bL:st.fr.length<1000) (cD:ak K H sl (ss.map V.int)) (dB:∀(l':JL) (H':Hp),l'.J=l.J->l'.fp=l.fp->Out l.fp H H'->cL H' C n l' (st.lq h (secs.filter λz=>decide (t.getD z.toNat 0∈ss)))->Q .az H')
section
variable {K:ah}{mg:aQ}
abbrev Bc:List Str:=["self","one","sections"]
def Dx:aP ["self","one","sections","lead","head"] Bc (aF DH):=.aX
def Za2(F:aN K "narrow" "Joins.narrow" DH f fd)(jc:nB K C)(bl:Bl mg):aE P w K mg base aM 2 f fd Bc (Gb K C):=by
 refine F.o Dx λs H hr h=>?_;obtain⟨l,st,n,i,h,t,secs,ss,sl,rfl,ja,one,lf,hss,q⟩:=h;refine⟨_,(aq (gT (i:=3) Dx.nd rfl (Or.inr rfl) (bj (iL K) (pF K 0) (pv 1))) (aq (bU 4 Dx.nd (bj (iL K) (pF K 0) (pv 1))) (av (oF (bw hr) (pF K 0) (pv 4) (iJ (x:="section") (fr:=[("sections",2),("lead",3)]) (cl:=[("sections",s.heap.objs.size+1),("lead",s.heap.objs.size+1+1)]) rfl (.gu ⟨rfl,⟨rfl,trivial⟩⟩ ⟨⟨rfl,.inl rfl,.inl rfl,rfl⟩,⟨⟨rfl,.inl rfl,.inl rfl,rfl⟩,trivial⟩⟩) (eI (K:=K) rfl (dk (bw hr) (pF K 0) (pv 4) (λ_ _=>rfl))) (λ_ _ _ _=>wY (iG (mP (K:=K) rfl) (bj (iT K) (pv 2) (pv 0)) (pv 1) (by with_unfolding_all rfl))) (λ_ _ _ _=>(pv 0))))))),?_⟩;have sz:(10000:Nat)<=sizeLine:=by rw[sizeLine_eq];omega
 obtain⟨dx,ho⟩:=ja.obj;obtain⟨fa,Uq,vf,di⟩:=oB (f:=λv:List Int=>HO.lst (v.map V.int)) ja.free one.fr;obtain⟨ta,eta,KP⟩:∃ta,l.eP[i]?=some ta/\H ta=some (.tup (t.map V.int)):=by
  have hl:=cU ja.lead;have dG:i<l.eP.length:=by rw[hl];exact(Yl.mp one.ld).1
  obtain⟨y,ey,hy⟩:=gH ja.lead (Yc dG);rw[one.ld] at ey;cases ey;exact⟨_,Yc dG,hy⟩
 have KQ:dO (l.eP.map V.ref) (i:Int)=some (.ref ta):=iH (by rw[Ye,eta];rfl);have Ci:=cU ja.free;refine cz ?_;refine⟨_,rfl,l.J,C,dx,_,_,rfl,ho,jc.cls,jc.m_,rfl,_,rfl,l.la,_,_,_,rfl,rfl,ak.of ja.iO,KQ,?_⟩;refine cz ?_;refine⟨_,rfl,l.J,C,dx,_,_,rfl,ho,jc.cls,jc.j9,rfl,_,rfl,l.ha,_,_,_,rfl,rfl,ak.of ja.heads,oN one.hd,?_⟩;refine⟨_,rfl,l.J,C,dx,_,_,rfl,ho,jc.cls,jc.r9,rfl,_,rfl,l.fd,_,rfl,qt ja.frees vf,fa,rfl,⟨_,ak.of di⟩,λD hD=>Z0 (ns:=secs) (ak.of di) (by have:=one.jy;omega) hD (λz=>decide (t.getD z.toNat 0∈ss)) V.int (λz hz H1 g1 Kt Kf kt kf=>?_) λH1 g1 h1=>?_⟩
 ·have bz:=one.fV z hz;refine⟨_,rfl,_,rfl,ta,_,_,_,rfl,rfl,aB.of (g1 _ _ KP),ny bz.1 bz.2,_,rfl,sl,_,rfl,.inl (g1.seq hss),rfl,Ga ss,_,rfl,?_⟩;rw[if_neg Yj,Am];refine bJ (λc=>?_) (λc=>?_);·exact⟨_,rfl,kt c H1 (aj.refl _)⟩
  ·exact kf (by cases e:decide (t.getD z.toNat 0∈ss) with|true=>exact absurd e c|false=>rfl) H1 (aj.refl _)
 ·refine⟨_,rfl,l.J,C,dx,_,_,rfl,g1 _ _ ho,jc.cls,jc.r9,rfl,_,rfl,l.fd,_,.inl (h:Int),rfl,g1 _ _ ja.frees,rfl,?_,λH2 b2 e2=>?_⟩
  ·unfold bB;rw[Ya,Jd,Ya];omega
  rw[Zce (by rw[Ya];exact Ci.symm) vf] at e2;have nd:=ja.nd;have Ck:l.fd∈l.fp:=by simp[JL.fp]
  simp only[JL.fp,Yz,Yp,not_or] at nd;obtain⟨⟨x1,x2,x3,x4,x5⟩,⟨y1,y2,y3,y4⟩,⟨z1,z2,z3⟩,⟨w1,w2⟩,v1,v2⟩:=nd;have keep:∀b o,H b=some o->b≠l.fd->H2 b=some o:=λb o e nb=>b2 _ _ (g1 _ _ e) nb;have nD:D∉l.fp:=ja.ne hD;have nDf:D≠l.fd:=λz=>nD (by rw[z];exact Ck);refine q ⟨l.J,l.ha,l.la,l.md,l.fd,l.eP,l.fW,jt (st.fr.map (·.1)) l.bV h D⟩ H2 rfl rfl ((Out.of g1).trans (Out.bar b2 Ck)) ⟨⟨dx,keep _ _ ho x4⟩,keep _ _ ja.heads y3,keep _ _ ja.iO z2,L2.Paired.bq ja.lead λa xs e=>keep a _ e (dI e ja.frees (λz=>by cases z)),keep _ _ ja.jH w1,L2.Paired.bq (uG ja.mem) λa p e=>keep a _ e.1 (λz=>v1 (by rw[←z];exact e.2)),?_,?_,ja.nd,λa ha=>?_⟩
  ·show H2 l.fd=some (.dK (bB ((eB h _ st.fr).map (·.1)) _));rw[rM];exact e2
  ·exact Z1 (λk=>b2 _ _ h1 nDf) ja.free λa p e ma=>keep a _ e (λz=>ja.out a ma (by rw[z];exact Ck))
  ·rcases NZ ha with rfl|z;·exact nD
   ·exact ja.out a z
end
inductive RM(C:Addr)(vs:List V)(H:Hp)(Q:VK)(E:XK):Prop
 |mk (l:JL) (st:JS) (n i h:Nat) (t secs:List Int) (a:Int) (aC:vs=[.ref l.J,.int (i:Int),.int a]) (aS:cL H C n l st) (bb:sP st i h t secs) (bL:st.fr.length<1000) (cD:(a∈secs.map (λz=>t.getD z.toNat 0)->∀(l':JL) (H':Hp),l'.J=l.J->l'.fp=l.fp->Out l.fp H H'->cL H' C n l' (st.lq h (secs.filter λz=>decide (t.getD z.toNat 0∈[a])))->Q (.bl true) H')) (dB:(a∉secs.map (λz=>t.getD z.toNat 0)->∀H',aj H H'->Q (.bl false) H'))
section
variable {K:ah}{mg:aQ}
abbrev Be:List Str:=["self","one","section"]
def XO:aP Be Be (aF EF):=.aX
def Zfc(F:aN K "say" "Joins.say" EF f fd)(mY:cE P w K mg base 2 "open_at" C xW (z4 C))(ub:cE P w K mg base 2 "narrow" C Bc (Gb K C))(bl:Bl mg):aE P w K mg base aM 3 f fd Be (RM C):=by
 refine F.o XO λs H hr h=>?_;obtain⟨l,st,n,i,h,t,secs,a,rfl,ja,one,lf,q1,q2⟩:=h;refine⟨_,(aq (aV (iG (GV (K:=K) rfl) (pv 2) (cT mY hr (by omega) (pv 0) (aa (pv 1) ae)) (by with_unfolding_all rfl)) (av (aG jF)) aZ) (aq (b_ (cT ub hr (by omega) (pv 0) (aa (pv 1) (aa (dw (aa (pv 2) ae)) ae)))) (av (aG jF)))),?_⟩;obtain⟨dx,ho⟩:=ja.obj;refine⟨_,rfl,_,rfl,l.J,dx,_,rfl,ho,rfl,_,rfl,l,st,n,i,h,t,secs,rfl,ja,one.hd,one.ld,one.fr,one.fV,one.jy,λp ns H1 np g1 pm so hp=>⟨p,_,rfl,.inl (ak.of hp),rfl,Ga ns,_,rfl,?_⟩⟩;rw[if_pos rfl,Am];refine bJ (λc=>?_) (λc=>aY ?_)
 ·refine q2 (λz=>?_) H1 g1;rw[decide_eq_true (pm.symm.subset z)] at c;cases c
 ·have qT:a∈ns:=by
   by_cases z:a∈ns;·exact z
   ·rw[decide_eq_false z] at c;exact absurd rfl c
  refine⟨_,rfl,l.J,dx,_,rfl,g1 _ _ ho,rfl,_,rfl,_,rfl,by show 1<=sizeLine;rw[sizeLine_eq];omega,λsl H2 n2 g2 e2=>?_⟩;exact⟨l,st,n,i,h,t,secs,[a],sl,rfl,(ja.same g1).same g2,one,lf,ak.of e2,λl' H3 k1 k2 o3 j3=>q1 (pm.subset qT) l' H3 k1 k2 ((Out.of (g1.trans g2)).trans o3) j3⟩
end
def dN(ks:List Nat)(as:List Addr)(h:Nat):List Addr:=((ks.zip as).filter λp=>decide (p.1≠h)).map (·.2)
def cZ{α:Type}(h:Nat)(ps:List (Nat×α)):List (Nat×α):=ps.filter λp=>decide (p.1≠h)
theorem zD(h:Nat):∀{ks:List Nat} {as:List Addr},ks.length=as.length->gY (bB ks as) (.inl (h:Int))=bB (ks.filter λk=>decide (k≠h)) (dN ks as h)
 |[],[],_=>rfl
 |k::ks,a::as,e=>by
  have ih:=zD h (by simpa using e);have e0:bB (k::ks) (a::as)=(Sum.inl (k:Int),V.ref a)::bB ks as:=rfl;unfold gY at ih⊢;rw[e0,W0,W0];have e1:dN (k::ks) (a::as) h=(if decide (k≠h)=true then(a::dN ks as h) else dN ks as h):=by
   unfold dN;rw[Us,W0];split<;>rfl
  rw[e1,ih];by_cases z:k=h;·grind
  ·have z':¬((Sum.inl (k:Int):Key)=.inl (h:Int)):=λw=>z (by have:=Cf w;omega);rw[if_pos (by simp[z']),if_pos (by simp[z]),if_pos (by simp[z])];rfl
 |[],_::_,e=>rfl
 |_::_,[],e=>by simp at e
theorem oG{α:Type}(h:Nat):∀ps:List (Nat×α),(cZ h ps).map (·.1)=(ps.map (·.1)).filter λk=>decide (k≠h)
 |[]=>rfl
 |p::ps=>by
  have ih:=oG h ps;unfold cZ at ih⊢
  grind
theorem Fh{α:Type}{F G:Addr->Nat×α->Prop}{h:Nat}:∀{as:List Addr} {ps:List (Nat×α)},Paired F as ps->(∀a p,F a p->a∈as->p.1≠h->G a p)->Paired G (dN (ps.map (·.1)) as h) (cZ h ps):=by
 intro as ps pr;induction pr with
 |nil=>intro _;exact .nil
 |@cons a p as ps f t ih=>
  intro k;have e1:dN ((p::ps).map (·.1)) (a::as) h=(if decide (p.1≠h)=true then(a::dN (ps.map (·.1)) as h) else dN (ps.map (·.1)) as h):=by
   unfold dN;rw[Wp,Us,W0];split<;>rfl
  have e2:cZ h (p::ps)=(if decide (p.1≠h)=true then(p::cZ h ps) else cZ h ps):=by
   unfold cZ
   grind
  rw[e1,e2];by_cases z:p.1=h;·grind
  ·rw[if_pos (by simp[z]),if_pos (by simp[z])];exact .cons (k a p f Yo z) (ih λb q fb hb nq=>k b q fb (Yw _ hb) nq)
theorem z5{h:Nat}:∀{ks:List Nat} {as:List Addr},(dN ks as h).Sublist as
 |[],as=>by
  unfold dN;simp_all
 |_::_,[]=>by
  unfold dN;simp_all
 |k::ks,a::as=>by
  have ih:=z5 (h:=h) (ks:=ks) (as:=as);have e1:dN (k::ks) (a::as) h=(if decide (k≠h)=true then(a::dN ks as h) else dN ks as h):=by
   unfold dN;rw[Us,W0];split<;>rfl
  grind
theorem uz{α:Type}{h k:Nat}(ne:k≠h):∀{ps:List (Nat×α)},(cZ h ps).lookup k=ps.lookup k
 |[]=>rfl
 |p::ps=>by
  have ih:=uz ne (ps:=ps);have e2:cZ h (p::ps)=(if decide (p.1≠h)=true then(p::cZ h ps) else cZ h ps):=by
   unfold cZ
   grind
  grind
theorem Z2{α:Type}{F G:Addr->Nat×α->Prop}{h:Nat}{m:Addr}{v:α}(new:∀k,G m (k,v)):∀{as:List Addr} {ps:List (Nat×α)},Paired F as ps->as.Nodup->(ps.map (·.1)).Nodup->aT (bB (ps.map (·.1)) as) (.inl (h:Int))=some (.ref m)->(∀a p,F a p->a∈as->a≠m->G a p)->Paired G as (eB h v ps):=by
 intro as ps pr;induction pr with
 |nil=>intro _ _ e _;cases e
 |@cons a p as ps f t ih=>
  intro n1 n2 e k;have e0:bB ((p::ps).map (·.1)) (a::as)=(Sum.inl (p.1:Int),V.ref a)::bB (ps.map (·.1)) as:=rfl;have e2:eB h v (p::ps)=(if p.1=h then(p.1,v) else p)::eB h v ps:=rfl;rw[Yz] at n1;rw[Wp,Yz] at n2;rw[e2];by_cases z:p.1=h
  ·rw[e0,fN (p:=((Sum.inl (p.1:Int):Key),V.ref a)) (by rw[z])] at e;have ea:a=m:=V.ref.inj (Yn e);have same:eB h v ps=ps:=by
    unfold eB;refine(W7 λq hq=>?_).trans (List.map_id _);rw[if_neg λw=>n2.1 (by rw[z,←w];exact Yh.mpr ⟨q,hq,rfl⟩)];rfl
   rw[if_pos z,same,ea];refine .cons (new p.1) (L2.Paired.bq (uG t) λb q hb=>k b q hb.1 (Yw _ hb.2) λw=>n1.1 (by rw[ea,←w];exact hb.2))
  ·rw[e0,eX (p:=((Sum.inl (p.1:Int):Key),V.ref a)) (λw=>z (by have:=Cf w;omega))] at e;rw[if_neg z];have am:a≠m:=λw=>by
    have:∀{ks:List Nat} {bs:List Addr},aT (bB ks bs) (.inl (h:Int))=some (.ref m)->m∈bs:=λ{ks}=>by
     induction ks with
     |nil=>intro bs q;unfold bB at q;rw[List.zip_nil_left] at q;cases q
     |cons x xs ih=>
      intro bs q;cases bs with
      |nil=>unfold bB at q;rw[List.zip_nil_right] at q;cases q
      |cons b bs=>
       have e0:bB (x::xs) (b::bs)=(Sum.inl (x:Int),V.ref b)::bB xs bs:=rfl;rw[e0] at q;by_cases y:x=h
       ·rw[fN (p:=((Sum.inl (x:Int):Key),V.ref b)) (by rw[y])] at q;have eb:b=m:=V.ref.inj (Yn q);rw[eb];exact Yo
       ·rw[eX (p:=((Sum.inl (x:Int):Key),V.ref b)) (λw=>y (by have:=Cf w;omega))] at q;exact Yw _ (ih q)
    exact n1.1 (by rw[w];exact this e)
   exact .cons (k a p f Yo am) (ih n1.2 n2.2 e λb q fb hb nb=>k b q fb (Yw _ hb) nb)
def pM(a9:List Int)(ld:List (List Int))(i:Nat):List (List Int):=ld.set i (bK (ld.getD i []) a9)
def jk(xs ys:List Int):(bK xs ys).length=ys.length:=by unfold bK;rw[Ya]
def Zfd{xs ys:List Int}{n:Nat}(hx:∀x∈xs,0<=x/\x<n)(hy:∀y∈ys,0<=y/\y<xs.length):∀z∈bK xs ys,0<=z/\z<n:=λz hz=>by
 obtain⟨y,my,rfl⟩:=Yh.mp hz;obtain⟨y0,y1⟩:=hy y my;have hl:y.toNat<xs.length:=by omega
 have e:xs.getD y.toNat 0=xs[y.toNat]:=by rw[Yf,Yc hl];rfl
 simp_all
def ke(hb:Nat)(mv:List Nat)(hd:List Nat):List Nat:=mv.foldl (λacc i=>acc.set i hb) hd
def gZ(a9:List Int)(mv:List Nat)(ld:List (List Int)):List (List Int):=mv.foldl (pM a9) ld
def JS.mv(st:JS)(hb hm:Nat)(mb mv:List Nat)(a9:List Int):JS:=⟨ke hb mv st.hd,gZ a9 mv st.ld,eB hb (mb++mv) (cZ hm st.mem),cZ hm st.fr⟩
inductive QH(C:Addr)(vs:List V)(H:Hp)(Q:VK)(E:XK):Prop
 |mk (l:JL) (st:JS) (n a b ha hb:Nat) (ta tb tn fm:List Int) (tu:Addr) (ma mb:List Nat) (aC:vs=[.ref l.J,.int (a:Int),.int (b:Int),.ref tu]) (aS:cL H C n l st) (bb:H tu=some (.tup (tn.map V.int))) (bL:n<=8) (cD:tn.length=n) (dB:full tn=true) (fD:st.hd[a]?=some ha) (ir:st.hd[b]?=some hb) (nP:st.ld[a]?=some ta) (vI:st.ld[b]?=some tb) (ID:(∀t∈st.ld,full t=true/\t.length=n)) (Sz:st.ld.length=st.hd.length) (ZiN:st.mem.lookup ha=some ma) (ZiO:st.mem.lookup hb=some mb) (ZiP:st.fr.lookup ha=some fm) (ZiQ:ha≠hb) (ZiR:(∀i∈ma,i<st.hd.length)) (ZiS:ma.length+mb.length<=1000) (ZiT:(st.mem.map (·.1)).Nodup) (ZiU:∀(l':JL) (H':Hp),l'.J=l.J->(∀c∈l'.fp,c∈l.fp)->Out l.fp H H'->cL H' C n l' (st.mv hb ha mb ma (bK (inv ta) (bK tn tb)))->Q .az H')
theorem wz{α β:Type}{g:List α->β->List α}(hg:∀acc i,(g acc i).length=acc.length):∀(is:List β) (xs:List α),(is.foldl g xs).length=xs.length
 |[],_=>rfl
 |i::is,xs=>by
  rw[List.foldl_cons,wz hg is,hg]
def MD{α β:Type}{g:List α->β->List α}{is:List β}{j:Nat}{i:β}(h:is[j]?=some i)(xs:List α):(is.take (j+1)).foldl g xs=g ((is.take j).foldl g xs) i:=by
 rw[Y1,h,List.foldl_append];rfl
def Zdt(is:List Nat)(i k:Nat):(dH is).set i (.int (k:Int))=dH (is.set i k):=by
 simp_all
theorem ME{α β:Type}{F:α->β->Prop}{x:α}{y:β}(f:F x y):∀{xs:List α} {ys:List β} (i:Nat),Paired F xs ys->Paired F (xs.set i x) (ys.set i y)
 |_,_,_,.nil=>.nil
 |_,_,0,.cons _ t=>.cons f t
 |_,_,i+1,.cons g t=>.cons g (ME f i t)
def qc{xs ys:List Int}(fx:full xs=true)(fy:full ys=true)(e:xs.length=ys.length):full (bK xs ys)=true:=by
 have p1:(bK xs ys).Perm ((bp ys.length).map λx=>xs.getD x.toNat 0):=(qa fy).map _;have e2:((bp ys.length).map λx=>xs.getD x.toNat 0)=xs:=by
  refine Wo λi=>?_;rw[Ye];by_cases hi:i<ys.length
  ·rw[lY hi]
   grind
  ·rw[Y4 (by rw[eG];omega),Y4 (by omega)];rfl
 rw[e2] at p1;exact rO (p1.trans (qa fx))
inductive HU(H5:Hp)(l:JL)(hd:List Nat)(ld:List (List Int))(n:Nat)(sg:Option V->St)(σ:St)(H6:Hp):Prop
 |mk (ij:List Addr) (o9:Option V) (k1:H6 l.ha=some (.lst (dH hd))) (k2:H6 l.la=some (.lst (ij.map V.ref))) (k3:Paired (λa (xs:List Int)=>H6 a=some (.tup (xs.map V.int))) ij ld) (k4:∀t∈ld,full t=true/\t.length=n) (kp:∀c o,H5 c=some o->c≠l.ha->c≠l.la->H6 c=some o) (e:σ=sg o9):HU H5 l hd ld n sg σ H6
def SA(l:JL)(a b hb ha:Int)(tu tm to mo:Addr)(o9:Option V):St:=[some (.ref l.J),some (.int a),some (.int b),some (.ref tu),some (.int hb),some (.int ha),some (.ref tm),some (.ref to),some (.ref mo),o9]
section
variable {K:ah}{mg:aQ}
abbrev IE:List Str:=["self","mover","stayer","turn"]
def rB:aP ["self","mover","stayer","turn","head","old_head","to_mover","to_old_head","moved","number"] IE (aF D_):=.aX
theorem Zdu(F:aN K "move" "Joins.move" D_ f fd)(jc:nB K C)(pY:HasFn P w K mg base 1 "followed" nS (HH K))(ou:HasFn P w K mg base 1 "turned_back" nU A8)(bl:Bl mg):aE P w K mg base aM 2 f fd IE (QH C):=by
 refine F.o rB λs H hr h=>?_;obtain⟨l,st,n,a,b,ha,hb,ta,tb,tn,fm,tu,ma,mb,rfl,ja,hu,n8,tl,ft,hA,hB,lA,lB,fl,ll,mA,mB,fA,neq,min,lm,ndk,q⟩:=h;refine⟨_,(aq (bU 4 rB.nd (bj (iL K) (pF K 0) (pv 2))) (aq (bU 5 rB.nd (bj (iL K) (pF K 0) (pv 1))) (aq (bU 6 rB.nd (aW pY hr (aa (bj (iL K) (pF K 0) (pv 2)) (aa (pv 3) ae)))) (aq (bU 7 rB.nd (aW pY hr (aa (pv 6) (aa (aW ou hr (aa (bj (iL K) (pF K 0) (pv 1)) ae)) ae)))) (aq (bU 8 rB.nd (M7 (pF K 0) (pv 5) ⟨rfl,rfl,rfl,rfl⟩)) (aq (b_ (M7 (pF K 0) (pv 5) ⟨rfl,rfl,rfl,rfl⟩)) (aq (fP PassesOwn.never rfl (eI (K:=K) rfl (pv 8)) (bF 9 rB.nd) (aq (OH (pF K 0) (pv 9) M3 (pv 4)) (av (OH (pF K 0) (pv 9) M3 (aW pY hr (aa (pv 7) (aa (bj (iL K) (pF K 0) (pv 9)) ae))))))) (av (b_ (nA (K:=K) rfl (ka plainAttrs_list PySem.F.slot_list_extend PySem.F.type_list_extend ZI (dk (bw hr) (pF K 0) (pv 4) (λ_ _=>rfl)) (aa (pv 8) ae)))))))))))),?_⟩;have sz:(10000:Nat)<=sizeLine:=by rw[sizeLine_eq];omega
 obtain⟨dx,ho⟩:=ja.obj;have xJ:∀{i:Nat} {t:List Int},st.ld[i]?=some t->∃x,l.eP[i]?=some x/\H x=some (.tup (t.map V.int)):=λ{i t} ht=>by
  have hl:=cU ja.lead;have dG:i<l.eP.length:=by rw[hl];exact(Yl.mp ht).1
  obtain⟨y,ey,hy⟩:=gH ja.lead (Yc dG);rw[ht] at ey;cases ey;exact⟨_,Yc dG,hy⟩
 obtain⟨xa,exa,KY⟩:=xJ lA;obtain⟨xb,exb,KZ⟩:=xJ lB;have ata:dO (l.eP.map V.ref) (a:Int)=some (.ref xa):=iH (by rw[Ye,exa];rfl);have atb:dO (l.eP.map V.ref) (b:Int)=some (.ref xb):=iH (by rw[Ye,exb];rfl);obtain⟨Ut,lta⟩:=fl ta (Yg lA);obtain⟨K0,K1⟩:=fl tb (Yg lB);obtain⟨mo,yF,vmo,Uu⟩:=oB (f:=λv:List Nat=>HO.lst (dH v)) ja.mem mA;obtain⟨ms,mms,vms,hms⟩:=oB (f:=λv:List Nat=>HO.lst (dH v)) ja.mem mB;obtain⟨fo,mfo,vfo,hfo⟩:=oB (f:=λv:List Int=>HO.lst (v.map V.int)) ja.free fA;have KR:=cU ja.mem;have Ci:=cU ja.free;have nd:=ja.nd;have Ck:∀{x:Addr},x∈l.fW->x∈l.fp:=λ{x} h=>by simp[JL.fp,h]
 simp only[JL.fp,Yz,Yp,not_or] at nd;obtain⟨⟨x1,x2,x3,x4,x5⟩,⟨y1,y2,y3,y4⟩,⟨z1,z2,z3⟩,⟨w1,w2⟩,v1,v2⟩:=nd;refine cz ?_;refine⟨_,rfl,l.J,C,dx,_,_,rfl,ho,jc.cls,jc.j9,rfl,_,rfl,l.ha,_,_,_,rfl,rfl,ak.of ja.heads,oN hB,?_⟩;refine cz ?_;refine⟨_,rfl,l.J,C,dx,_,_,rfl,ho,jc.cls,jc.j9,rfl,_,rfl,l.ha,_,_,_,rfl,rfl,ak.of ja.heads,oN hA,?_⟩;refine cz ?_;refine⟨_,rfl,l.J,C,dx,_,_,rfl,ho,jc.cls,jc.m_,rfl,_,rfl,l.la,_,_,_,rfl,rfl,ak.of ja.iO,atb,_,rfl,xb,tu,tb,tn,rfl,aB.of KZ,aB.of hu,λx hx=>by rw[tl,←K1];exact qk K0 hx,by omega,λtm H1 Ur g1 htm=>?_⟩;refine cz ?_;refine⟨_,rfl,_,rfl,l.J,C,dx,_,_,rfl,g1 _ _ ho,jc.cls,jc.m_,rfl,_,rfl,l.la,_,_,_,rfl,rfl,ak.of (g1 _ _ ja.iO),ata,xa,ta,rfl,g1 _ _ KY,by omega,Ut,λti H2 nti g2 Cm=>?_⟩;refine⟨tm,ti,bK tn tb,inv ta,rfl,aB.of (g2 _ _ htm),aB.of Cm,?_,by rw[jk];omega,λto H3 Cn g3 Uv=>?_⟩
 ·rw[fM,lta];exact Zfd (n:=n) (λx hx=>by rw[←tl];exact qk ft hx) (λy hy=>by rw[tl,←K1];exact qk K0 hy)
 have jN:=(g1.trans g2).trans g3;generalize ZgV:bK (inv ta) (bK tn tb)=a9 at Uv q;have va:full a9=true/\a9.length=n:=by
  rw[←ZgV];refine⟨qc (jX Ut) (qc ft K0 (by omega)) (by rw[fM,jk];omega),by rw[jk,jk];exact K1⟩
 refine cz ?_;refine⟨_,rfl,l.J,C,dx,_,_,rfl,jN _ _ ho,jc.cls,jc.uF,rfl,l.md,rfl,.inl ⟨_,.inl (jN _ _ ja.jH)⟩,_,rfl,_,.inl (ha:Int),.ref mo,jN _ _ ja.jH,rfl,vmo,λH4 b4 e4=>?_⟩;rw[zD ha (by rw[Ya];exact KR.symm)] at e4;have o4:=b4 _ _ (jN _ _ ho) x3;have f4:=b4 _ _ (jN _ _ ja.frees) (λz=>w1 z.symm);refine⟨_,rfl,l.J,C,dx,_,_,rfl,o4,jc.cls,jc.r9,rfl,l.fd,rfl,.inl ⟨_,.inl f4⟩,_,rfl,_,.inl (ha:Int),.ref fo,f4,rfl,vfo,λH5 b5 e5=>?_⟩;rw[zD ha (by rw[Ya];exact Ci.symm)] at e5;have mj:∀c o,H c=some o->c≠l.md->c≠l.fd->H5 c=some o:=λc o e n1 n2=>b5 _ _ (b4 _ _ (jN _ _ e) n1) n2;have e45:H5 l.md=some _:=b5 _ _ e4 w1;have qC:∀{x:Addr},x∈l.fW->x≠l.ha/\x≠l.la/\x≠l.md/\x≠l.fd:=λ{x} hx=>⟨λz=>y4 (by rw[←z];exact hx),λz=>z3 (by rw[←z];exact hx),λz=>w2 (by rw[←z];exact hx),λz=>v1 (by rw[←z];exact hx)⟩;have Uw:=mj _ _ Uu (qC yF).2.2.1 (qC yF).2.2.2;have vQ:H5 to=some (.tup (a9.map V.int)):=by
  have n1:to≠l.md:=λz=>by rw[z,g1.trans g2 _ _ ja.jH] at Cn;cases Cn
  have n2:to≠l.fd:=λz=>by rw[z,g1.trans g2 _ _ ja.frees] at Cn;cases Cn
  exact b5 _ _ (b4 _ _ Uv n1) n2
 dsimp only;have K2:(dH ma).length=ma.length:=Ya _;have hlen:∀is:List Nat,(ke hb is st.hd).length=st.hd.length:=λis=>wz (λ_ _=>W4) is st.hd;have ZgW:∀is:List Nat,(gZ a9 is st.ld).length=st.ld.length:=λis=>wz (λ_ _=>by unfold pM;exact W4) is st.ld;refine gI (HU H5 l (ke hb ma st.hd) (gZ a9 ma st.ld) n (SA l a b hb ha tu tm to mo)) (λnW eV=>?_) ?_
 ·refine⟨_,rfl,mo,rfl,⟨_,ak.of Uw⟩,je (K:=K) (a:=mo) (xs:=dH ma) (λj=>HU H5 l (ke hb (ma.take j) st.hd) (gZ a9 (ma.take j) st.ld) n (SA l a b hb ha tu tm to mo))
   ⟨l.eP,none,mj _ _ ja.heads y2 y3,mj _ _ ja.iO z1 z2,L2.Paired.bq ja.lead λc xs e=>mj c _ e (dI e ja.jH (λz=>by cases z)) (dI e ja.frees (λz=>by cases z)),fl,λc o e _ _=>e,rfl⟩
   (λj σ H6 _ ⟨_,_,_,_,_,_,kp,_⟩=>ak.of (kp _ _ Uw (qC yF).1 (qC yF).2.1)) ?_ ?_⟩
  ·rintro j v σ H6 hj ⟨ij,o9,k1,k2,k3,k4,kp,rfl⟩;rw[Ye] at hj;obtain⟨i,mi,rfl⟩:∃i,ma[j]?=some i/\V.int (i:Int)=v:=by
    cases e:ma[j]? with
    |none=>rw[e] at hj;cases hj
    |some i=>rw[e] at hj;exact⟨i,rfl,Yn hj⟩
   have hi:=min i (Yg mi);have il:i<(gZ a9 (ma.take j) st.ld).length:=by rw[ZgW];omega
   have ZiE:=cU k3;obtain⟨t,et,Cm⟩:=gH k3 (Yc (show i<ij.length by omega));obtain⟨ftt,Ux⟩:=k4 t (Yg et);have oJ:=kp _ _ (mj _ _ ho x3 x4) x1 x2;have ixh:lG (dH (ke hb (ma.take j) st.hd)).length (i:Int)=some i:=by
    rw[GR (by omega) (by rw[Ya,hlen];omega),Y6]
   have ixl:lG (ij.map V.ref).length (i:Int)=some i:=by
    rw[GR (by omega) (by rw[Ya];omega),Y6]
   refine bg ?_;refine⟨_,rfl,_,rfl,l.J,C,dx,_,_,rfl,oJ,jc.cls,jc.j9,rfl,_,rfl,l.ha,_,_,i,rfl,rfl,k1,ixh,λH7 b7 e7=>?_⟩;have Uy:=b7 _ _ oJ x1;have yG:=b7 _ _ k2 (λz=>y1 z.symm);have to7:H7 to=some (.tup (a9.map V.int)):=b7 _ _ (kp _ _ vQ (dI vQ (mj _ _ ja.heads y2 y3) (λz=>by cases z)) (dI vQ (mj _ _ ja.iO z1 z2) (λz=>by cases z))) (dI (kp _ _ vQ (dI vQ (mj _ _ ja.heads y2 y3) (λz=>by cases z)) (dI vQ (mj _ _ ja.iO z1 z2) (λz=>by cases z))) k1 (λz=>by cases z));have x7:H7 ij[i]=some (.tup (t.map V.int)):=b7 _ _ Cm (dI Cm k1 (λz=>by cases z));have atx:dO (ij.map V.ref) (i:Int)=some (.ref ij[i]):=iH (by rw[Ye,Yc (show i<ij.length by omega)];rfl);refine⟨_,rfl,_,rfl,l.J,C,dx,_,_,rfl,Uy,jc.cls,jc.m_,rfl,_,rfl,l.la,_,_,_,rfl,rfl,ak.of yG,atx,to,ij[i],a9,t,rfl,aB.of to7,aB.of x7,λx hx=>by rw[Ux,←va.2];exact qk va.1 hx,by have:=va.2;omega,λtt H8 Uz g8 Co=>?_⟩;refine⟨_,rfl,l.J,C,dx,_,_,rfl,g8 _ _ Uy,jc.cls,jc.m_,rfl,_,rfl,l.la,_,_,i,rfl,rfl,g8 _ _ yG,ixl,λH9 b9 e9=>?_⟩;have gt:(gZ a9 (ma.take j) st.ld).getD i []=t:=by rw[Yf,et];rfl
   have eh:ke hb (ma.take (j+1)) st.hd=(ke hb (ma.take j) st.hd).set i hb:=MD mi st.hd;have el:gZ a9 (ma.take (j+1)) st.ld=(gZ a9 (ma.take j) st.ld).set i (bK t a9):=by
    have e1:gZ a9 (ma.take (j+1)) st.ld=pM a9 (gZ a9 (ma.take j) st.ld) i:=MD mi st.ld;rw[e1,←gt];rfl
   have KW:tt≠l.la:=λz=>by rw[z,yG] at Uz;cases Uz
   have h9:∀c o,H6 c=some o->c≠l.ha->c≠l.la->H9 c=some o:=λc o e n1 n2=>b9 _ _ (g8 _ _ (b7 _ _ e n1)) n2;refine⟨ij.set i tt,_,?_,?_,?_,?_,λc o e n1 n2=>h9 c o (kp c o e n1 n2) n1 n2,rfl⟩
   ·rw[eh,←Zdt];exact b9 _ _ (g8 _ _ e7) y1
   ·rw[e9,List.map_set]
   ·rw[el];exact ME (F:=λa (xs:List Int)=>H9 a=some (.tup (xs.map V.int))) (b9 _ _ Co KW) i (L2.Paired.bq k3 λc xs e=>h9 c _ e (dI e k1 (λz=>by cases z)) (dI e k2 (λz=>by cases z)))
   ·intro u yH;rw[el] at yH;rcases List.mem_or_eq_of_mem_set yH with z|z;·exact k4 u z
    ·rw[z];exact⟨qc ftt va.1 (by rw[Ux,va.2]),by rw[jk];exact va.2⟩
  ·rintro σ H6 ⟨ij,o9,k1,k2,k3,k4,kp,rfl⟩;rw[K2,Wb] at k1 k3 k4;exact eV _ _ ⟨ij,o9,k1,k2,k3,k4,kp,rfl⟩
 rintro σ H6 ⟨ij,o9,k1,k2,k3,k4,kp,rfl⟩;have oJ:=kp _ _ (mj _ _ ho x3 x4) x1 x2;have UA:=kp _ _ e45 (λz=>y2 z.symm) (λz=>z1 z.symm);have fd6:=kp _ _ e5 (λz=>y3 z.symm) (λz=>z2 z.symm);have Cp:=qC mms;have Cq:=qC yF;have xK:∀c o,H c=some o->c≠l.ha->c≠l.la->c≠l.md->c≠l.fd->H6 c=some o:=λc o e n1 n2 n3 n4=>kp _ _ (mj _ _ e n3 n4) n1 n2;have ms6:=xK _ _ hms Cp.1 Cp.2.1 Cp.2.2.1 Cp.2.2.2;have mo6:=xK _ _ Uu Cq.1 Cq.2.1 Cq.2.2.1 Cq.2.2.2;have UB:Paired (λc (p:Nat×List Nat)=>H6 c=some (.lst (dH p.2))/\c∈l.fW) (dN (st.mem.map (·.1)) l.fW ha) (cZ ha st.mem):=Fh ja.mem λc p e mc _=>by
  obtain⟨q1,q2,q3,q4⟩:=qC mc;exact⟨xK _ _ e q1 q2 q3 q4,mc⟩
 have lkB:(cZ ha st.mem).lookup hb=some mb:=by rw[uz (λz=>neq z.symm)];exact mB
 obtain⟨vR,ZgX,IF,IG⟩:=oB (f:=λv:List Nat=>HO.lst (dH v)) (L2.Paired.bq UB λ_ _ h=>h.1) lkB;rw[oG] at IF;have AQ:vR∈l.fW:=z5.subset ZgX;refine⟨_,rfl,l.J,C,dx,_,_,rfl,oJ,jc.cls,jc.uF,rfl,_,rfl,l.md,.ref vR,rfl,qt UA IF,.inl ⟨rfl,_,ak.of IG⟩,_,rfl,vR,mo,_,_,rfl,rfl,IG,mo6,by rw[K2,Ya];omega,λH7 b7 e7=>?_⟩;obtain⟨r1,r2,r3,r4⟩:=qC AQ;have sub:=z5 (h:=ha) (ks:=st.mem.map (·.1)) (as:=l.fW);have ZgY:=z5 (h:=ha) (ks:=st.fr.map (·.1)) (as:=l.bV);have UC:∀c∈JL.fp ⟨l.J,l.ha,l.la,l.md,l.fd,ij,dN (st.mem.map (·.1)) l.fW ha,dN (st.fr.map (·.1)) l.bV ha⟩,c∈l.fp:=λc hc=>by
  simp only[JL.fp,Yp] at hc⊢;rcases hc with h|h|h|h|h|h;·exact .inl h
  ·exact .inr (.inl h)
  ·exact .inr (.inr (.inl h))
  ·exact .inr (.inr (.inr (.inl h)))
  ·exact .inr (.inr (.inr (.inr (.inl h))))
  ·exact .inr (.inr (.inr (.inr (.inr (sub.subset h)))))
 have h7:∀c o,H6 c=some o->c≠vR->H7 c=some o:=λc o e n1=>b7 _ _ e n1;refine q ⟨l.J,l.ha,l.la,l.md,l.fd,ij,dN (st.mem.map (·.1)) l.fW ha,dN (st.fr.map (·.1)) l.bV ha⟩ H7 rfl UC (λc o e nc=>?_) ⟨⟨dx,h7 _ _ oJ (λz=>x5 (by rw[z];exact AQ))⟩,h7 _ _ k1 (λz=>r1 z.symm),h7 _ _ k2 (λz=>r2 z.symm),L2.Paired.bq k3 λc xs e=>h7 c _ e (dI e IG (λz=>by cases z)),?_,?_,?_,?_,?_,λc hc z=>?_⟩
 ·simp only[JL.fp,Yp,not_or] at nc;exact h7 _ _ (xK _ _ e nc.2.1 nc.2.2.1 nc.2.2.2.1 nc.2.2.2.2.1) (λz=>nc.2.2.2.2.2 (by rw[z];exact AQ))
 ·show H7 l.md=some (.dK (bB ((eB hb (mb++ma) (cZ ha st.mem)).map (·.1)) _));rw[rM,oG];exact h7 _ _ UA (λz=>r3 z.symm)
 ·refine Z2 (F:=λc (p:Nat×List Nat)=>H6 c=some (.lst (dH p.2))/\c∈l.fW) (m:=vR) (λk=>?_) UB (sub.nodup v2) ?_ (by rw[oG];exact IF) λc p e _ nc=>h7 _ _ e.1 nc
  ·show H7 vR=some (.lst (dH (mb++ma)));rw[e7,dH,dH,dH,Ym]
  ·rw[oG];exact ndk.filter _
 ·show H7 l.fd=some (.dK (bB ((cZ ha st.fr).map (·.1)) _));rw[oG];exact h7 _ _ fd6 (λz=>r4 z.symm)
 ·refine Fh ja.free λc p e mc _=>?_;have no:=ja.out c mc;simp only[JL.fp,Yp,not_or] at no;exact h7 _ _ (xK _ _ e no.2.1 no.2.2.1 no.2.2.2.1 no.2.2.2.2.1) (λz=>no.2.2.2.2.2 (by rw[z];exact AQ))
 ·have e0:(JL.fp ⟨l.J,l.ha,l.la,l.md,l.fd,ij,dN (st.mem.map (·.1)) l.fW ha,dN (st.fr.map (·.1)) l.bV ha⟩).Sublist l.fp:=(((((sub.cons₂ l.fd).cons₂ l.md).cons₂ l.la).cons₂ l.ha).cons₂ l.J);exact e0.nodup ja.nd
 ·exact ja.out c (ZgY.subset hc) (UC c z)
end
structure SD(st:JS)(n a b ha hb:Nat)(ta tb fma yI:List Int)(ma mb:List Nat):Prop where
 hA:st.hd[a]?=some ha
 hB:st.hd[b]?=some hb
 lA:st.ld[a]?=some ta
 lB:st.ld[b]?=some tb
 fl:∀t∈st.ld,full t=true/\t.length=n
 ll:st.ld.length=st.hd.length
 mA:st.mem.lookup ha=some ma
 mB:st.mem.lookup hb=some mb
 fA:st.fr.lookup ha=some fma
 fB:st.fr.lookup hb=some yI
 ne:ha≠hb
 iA:∀i∈ma,i<st.hd.length
 iB:∀i∈mb,i<st.hd.length
 lm:ma.length+mb.length<=1000
 nd:(st.mem.map (·.1)).Nodup
inductive O4(C:Addr)(vs:List V)(H:Hp)(Q:VK)(E:XK):Prop
 |mk (l:JL) (st:JS) (n a b ha hb:Nat) (ta tb tn fma yI:List Int) (tu:Addr) (ma mb:List Nat) (aC:vs=[.ref l.J,.int (a:Int),.int (b:Int),.ref tu]) (aS:cL H C n l st) (bb:H tu=some (.tup (tn.map V.int))) (bL:n<=8) (cD:tn.length=n) (dB:full tn=true) (fD:SD st n a b ha hb ta tb fma yI ma mb) (ir:∀(l':JL) (aJ:JS) (H':Hp),l'.J=l.J->(∀c∈l'.fp,c∈l.fp)->Out l.fp H H'->cL H' C n l' aJ->(aJ=st.mv hb ha mb ma (bK (inv ta) (bK (inv tn) tb))\/aJ=st.mv ha hb ma mb (bK (inv tb) (bK tn ta)))->Q .az H')
section
variable {K:ah}{mg:aQ}
abbrev lD:List Str:=["self","one","other","turn"]
def VM:aP lD lD (aF C1):=.aX
def Zcf(F:aN K "bring_together" "Joins.bring_together" C1 f fd)(jc:nB K C)(ou:HasFn P w K mg base 1 "turned_back" nU A8)(zm:cE P w K mg base 2 "move" C IE (QH C))(bl:Bl mg):aE P w K mg base aM 3 f fd lD (O4 C):=by
 refine F.o VM λs H hr h=>?_;obtain⟨l,st,n,a,b,ha,hb,ta,tb,tn,fma,yI,tu,ma,mb,rfl,ja,hu,n8,tl,ft,two,q⟩:=h;refine⟨_,(av (aV (bG nF (dq K bl (dk (bw hr) (pF K 0) (bj (iL K) (pF K 0) (pv 1)) (λ_ _=>rfl))) (dq K bl (dk (bw hr) (pF K 0) (bj (iL K) (pF K 0) (pv 2)) (λ_ _=>rfl)))) (av (b_ (cT zm hr (by omega) (pv 0) (aa (pv 1) (aa (pv 2) (aa (aW ou hr (aa (pv 3) ae)) ae)))))) (av (b_ (cT zm hr (by omega) (pv 0) (aa (pv 2) (aa (pv 1) (aa (pv 3) ae)))))))),?_⟩;obtain⟨dx,ho⟩:=ja.obj;obtain⟨xa,mxa,vxa,KY⟩:=oB (f:=λv:List Nat=>HO.lst (dH v)) ja.mem two.mA;obtain⟨xb,mxb,vxb,KZ⟩:=oB (f:=λv:List Nat=>HO.lst (dH v)) ja.mem two.mB;refine⟨_,rfl,l.J,C,dx,_,_,rfl,ho,jc.cls,jc.uF,rfl,_,rfl,l.J,C,dx,_,_,rfl,ho,jc.cls,jc.j9,rfl,_,rfl,l.ha,_,_,_,rfl,rfl,ak.of ja.heads,oN two.hA,l.md,.ref xa,rfl,qt ja.jH vxa,xa,_,rfl,.inl (ak.of KY),?_⟩;refine⟨_,rfl,l.J,C,dx,_,_,rfl,ho,jc.cls,jc.uF,rfl,_,rfl,l.J,C,dx,_,_,rfl,ho,jc.cls,jc.j9,rfl,_,rfl,l.ha,_,_,_,rfl,rfl,ak.of ja.heads,oN two.hB,l.md,.ref xb,rfl,qt ja.jH vxb,xb,_,rfl,.inl (ak.of KZ),_,_,rfl,rfl,_,rfl,bJ (λ_=>?_) (λ_=>?_)⟩
 ·refine⟨_,rfl,l.J,dx,_,rfl,ho,rfl,_,rfl,_,rfl,_,rfl,tu,tn,rfl,hu,by omega,ft,λtv H1 ntv g1 htv=>?_⟩;refine⟨l,st,n,a,b,ha,hb,ta,tb,inv tn,fma,tv,ma,mb,rfl,ja.same g1,htv,n8,by rw[fM];exact tl,jX ft,two.hA,two.hB,two.lA,two.lB,two.fl,two.ll,two.mA,two.mB,two.fA,two.ne,two.iA,two.lm,two.nd,λl' H2 k1 k2 o2 j2=>q l' _ H2 k1 k2 ((Out.of g1).trans o2) j2 (.inl rfl)⟩
 ·refine⟨_,rfl,l.J,dx,_,rfl,ho,rfl,_,rfl,_,rfl,_,rfl,?_⟩;exact⟨l,st,n,b,a,hb,ha,tb,ta,tn,yI,tu,mb,ma,rfl,ja,hu,n8,tl,ft,two.hB,two.hA,two.lB,two.lA,two.fl,two.ll,two.mB,two.mA,two.fB,(λz=>two.ne z.symm),two.iB,by have:=two.lm;omega,two.nd,λl' H2 k1 k2 o2 j2=>q l' _ H2 k1 k2 o2 j2 (.inr rfl)⟩
end
def qw(H:Hp)(as:List Addr)(aL:List (Int×Int)):Prop:=Paired (λa (p:Int×Int)=>H a=some (.tup [.int p.1,.int p.2])) as aL
def jq(hi hj:Nat)(ti tj si sj:List Int):List (Int×Int):=if hi=hj then si.map λz=>(ti.getD z.toNat 0,tj.getD z.toNat 0) else(si.map λz=>ti.getD z.toNat 0).flatMap λx=>sj.map λz=>(x,tj.getD z.toNat 0)
inductive GA(C:Addr)(vs:List V)(H:Hp)(Q:VK)(E:XK):Prop
 |mk (l:JL) (st:JS) (n i j hi hj:Nat) (ti tj si sj:List Int) (aC:vs=[.ref l.J,.int (i:Int),.int (j:Int)]) (aS:cL H C n l st) (bb:sP st i hi ti si) (bL:sP st j hj tj sj) (cD:∀(p:Addr) (as:List Addr) (aL:List (Int×Int)) (H':Hp),H p=none->aj H H'->H' p=some (.lst (as.map V.ref))->qw H' as aL->aL.Perm (jq hi hj ti tj si sj)->aL.Pairwise dJ->Q (.ref p) H')
inductive G6(C:Addr)(vs:List V)(H:Hp)(Q:VK)(E:XK):Prop
 |mk (l:JL) (st:JS) (n i j hi hj:Nat) (ti tj si sj tn:List Int) (tu:Addr) (aC:vs=[.ref l.J,.int (i:Int),.int (j:Int),.ref tu]) (aS:cL H C n l st) (bb:sP st i hi ti si) (bL:sP st j hj tj sj) (cD:H tu=some (.tup (tn.map V.int))) (dB:(∀q∈jq hi hj ti tj si sj,0<=q.1/\q.1<tn.length)) (fD:(jq hi hj ti tj si sj).length<=1000) (ir:∀(p:Addr) (ns:List Int) (H':Hp),H p=none->aj H H'->H' p=some (.lst (ns.map V.int))->ns.Perm (((jq hi hj ti tj si sj).filter λq=>decide (tn.getD q.1.toNat 0=q.2)).map (·.1))->ns.Pairwise (·<·)->Q (.ref p) H')
section
variable {K:ah}{mg:aQ}
def Xp:aP lD lD (aF D9):=.aX
theorem Zdv(F:aN K "left" "Joins.left" D9 f fd)(ue:cE P w K mg base 3 "pairs" C pj (GA C))(bl:Bl mg):aE P w K mg base aM 4 f fd lD (G6 C):=by
 refine F.o Xp λs H hr h=>?_;obtain⟨l,st,n,i,j,hi,hj,ti,tj,si,sj,tn,tu,rfl,ja,o1,o2,hu,fV,jy,q⟩:=h;refine⟨_,(av (aG (ZbV (xs:=["first","second"]) (fr:=[("turn",3)]) (cl:=[("turn",s.heap.objs.size+1)]) rfl (.gu ⟨rfl,trivial⟩ ⟨⟨rfl,.inl rfl,.inl rfl,rfl⟩,trivial⟩) (λ_ _ _ _=>(jj (K:=K) (n:=2) rfl rfl (bR (m8 (i:=0) (show(["first","second","turn"]:List Str).Nodup by decide+kernel) rfl (Or.inl rfl)) (bR (m8 (i:=1) (show(["first","second","turn"]:List Str).Nodup by decide+kernel) rfl (Or.inl rfl)) ji)))) (eI (K:=K) rfl (cT ue hr (by omega) (pv 0) (aa (pv 1) (aa (pv 2) ae)))) (λ_ _ _ _=>wY (bG cv (bj (iT K) (pv 2) (pv 0)) (pv 1))) (λ_ _ _ _=>(pv 0))))),?_⟩;obtain⟨dx,ho⟩:=ja.obj;refine⟨_,rfl,l.J,dx,_,rfl,ho,rfl,_,rfl,_,rfl,l,st,n,i,j,hi,hj,ti,tj,si,sj,rfl,ja,o1,o2,λp as aL H1 np g1 hp pr pm pw=>?_⟩;have pl:=cU pr;have al:(as.map V.ref).length=aL.length:=by rw[Ya];exact pl
 have SE:=pm.length_eq;refine⟨p,rfl,⟨_,ak.of hp⟩,λD hD=>ZK (xs:=as.map V.ref) (λk ys H2=>k<=aL.length/\aj H1 H2/\H2 D=some (.lst ys)/\ys=((aL.take k).filter λq=>decide (tn.getD q.1.toNat 0=q.2)).map λq=>V.int q.1) ⟨Yx _,cq hD _,aR,rfl⟩ (λk ys H2 _ ⟨_,g2,_,_⟩=>ak.of (g2 _ _ hp)) ?_ ?_⟩
 ·rintro k v ys H2 hk ⟨_,g2,h2,ey⟩ os pG;obtain⟨u1,u2,rfl⟩:∃u1 u2,os=[u1,u2]:=by
   match os,pG with
   |[u1,u2],_=>exact⟨u1,u2,rfl⟩
  rw[Ye] at hk;obtain⟨c,ec,rfl⟩:∃c,as[k]?=some c/\V.ref c=v:=by
   cases e:as[k]? with
   |none=>rw[e] at hk;cases hk
   |some c=>rw[e] at hk;exact⟨c,rfl,Yn hk⟩
  obtain⟨⟨x,y⟩,K3,hxy⟩:=gH pr ec;have kl:k<aL.length:=(Yl.mp K3).1;have bx:=fV (x,y) (pm.subset (Yg K3));have hx2:=g2 _ _ hxy;have yl:ys.length<sizeLine:=by
   have:=Wh (λq:Int×Int=>decide (tn.getD q.1.toNat 0=q.2)) (aL.take k);rw[Y8] at this;rw[ey,Ya,sizeLine_eq];omega
  refine⟨c,_,rfl,aB.of hx2,rfl,_,_,rfl,bg ⟨_,_,rfl,bg ⟨rfl,⟨[some (.int x),some (.int y)],rfl,rfl⟩,?_⟩⟩⟩;refine⟨_,rfl,_,rfl,tu,_,_,_,rfl,rfl,aB.of (g2 _ _ (g1 _ _ hu)),ny bx.1 bx.2,_,rfl,rfl,_,rfl,?_⟩;have ed:decide (V.int (tn.getD x.toNat 0)=V.int y)=decide (tn.getD x.toNat 0=y):=by
   rw[Wj,decide_eq_true_iff,decide_eq_true_iff];exact⟨V.int.inj,λz=>by rw[z]⟩
  rw[ed];have et:∀(b:Bool),decide (tn.getD x.toNat 0=y)=b->((aL.take (k+1)).filter λq=>decide (tn.getD q.1.toNat 0=q.2)).map (λq=>V.int q.1)=ys++(if b=true then[V.int x] else[]):=λb eb=>by
   rw[ey,Y1,K3,Wr,Ym]
   congr 1
   show([((x,y):Int×Int)].filter _).map _=_;rw[W0,eb];cases b<;>rfl
  refine bJ (λcc=>?_) (λcc=>?_)
  ·refine⟨_,rfl,h2,yl,kl,λb o e=>?_,aR,?_⟩
   ·rw[aK (bY e hD)];exact g2 _ _ e
   ·rw[et true cc];rfl
  ·refine⟨kl,g2,h2,?_⟩;rw[et false (by cases e:decide (tn.getD x.toNat 0=y) with|true=>exact absurd e cc|false=>rfl)];simp
 ·rintro ys H2 ⟨_,g2,h2,ey⟩;rw[al,Wb] at ey;refine q D ((aL.filter λq=>decide (tn.getD q.1.toNat 0=q.2)).map (·.1)) H2 (g1.free hD) (g1.trans g2) (by rw[h2,ey,Wi];rfl) ((pm.filter _).map _) ?_;rw[W1];refine(List.Pairwise.and_mem.mp (pw.filter _)).imp ?_;rintro a b ⟨ma,mb,lt⟩;have e1:tn.getD a.1.toNat 0=a.2:=of_decide_eq_true (Y5.mp ma).2;have e2:tn.getD b.1.toNat 0=b.2:=of_decide_eq_true (Y5.mp mb).2;rcases lt with lt|⟨e,lt⟩;·exact lt
  ·rw[←e1,←e2,e] at lt;exact absurd lt (Int.lt_irrefl _)
end
theorem QI{H:Hp}{g:Nat->Int×Int}:∀{ys:List V} {ks:List Nat},Paired (λy k=>∃a,y=V.ref a/\H a=some (.tup [.int (g k).1,.int (g k).2])) ys ks->∃as:List Addr,ys=as.map V.ref/\qw H as (ks.map g):=by
 intro ys ks pr;induction pr with
 |nil=>exact⟨[],rfl,.nil⟩
 |cons z t ih=>
  obtain⟨a,e,h⟩:=z;obtain⟨as,e2,h2⟩:=ih;exact⟨a::as,by rw[e,e2];rfl,.cons h h2⟩
def map_range{α:Type}(g:Int->α)(si:List Int):(List.range si.length).map (λk=>g (si.getD k 0))=si.map g:=by
 have e2:(List.range si.length).map (λk=>g (si.getD k 0))=((List.range si.length).map λk=>si.getD k 0).map g:=by rw[Wi];rfl
 rw[e2,(range_getD si 0)]
def SG(D:Addr)(H:Hp)(as:List Addr)(aL:List (Int×Int)):Prop:=Paired (λa (p:Int×Int)=>a≠D/\H a=some (.tup [.int p.1,.int p.2])) as aL
theorem Gd{α β γ:Type}(g:α->β->γ)(ys:List β):∀xs:List α,(xs.flatMap λx=>ys.map (g x)).length=xs.length*ys.length
 |[]=>by simp
 |x::xs=>by rw[List.flatMap_cons,Yi,Gd g ys xs,Ya,Y7,Nat.succ_mul];omega
def Za3{α β γ:Type}{g:α->List γ}{xs:List α}{i:Nat}{x:α}(h:xs[i]?=some x):(xs.take (i+1)).flatMap g=(xs.take i).flatMap g++g x:=by
 rw[Y1,h,List.flatMap_append];simp
def zO{ns:List Int}(so:ns.Pairwise (·<=·))(nd:ns.Nodup):ns.Pairwise (·<·):=by
 refine(List.Pairwise.and so (W8.mp nd)).imp ?_
 grind
def O5(x:Int){ns:List Int}(st:ns.Pairwise (·<·)):(ns.map λy=>((x,y):Int×Int)).Pairwise dJ:=by
 rw[W1];exact st.imp λh=>.inr ⟨rfl,h⟩
def O6{ns:List Int}(st:ns.Pairwise (·<·)){k:Nat}{x y:Int}(hx:ns[k]?=some x)(my:y∈ns.take k):y<x:=by
 obtain⟨i,hi,rfl⟩:=Ws.mp my;obtain⟨hk,rfl⟩:=Yl.mp hx;rw[Y8] at hi;rw[List.getElem_take];exact Wx.mp st i k (by omega) hk (by omega)
section
variable {K:ah}{mg:aQ}
def DK:aP ["self","one","other","here","there"] pj (aF DW):=.aX
theorem Zcg(F:aN K "pairs" "Joins.pairs" DW f fd)(jc:nB K C)(ua:cE P w K mg base 1 "together" C pj (Fg C))(mY:cE P w K mg base 2 "open_at" C xW (z4 C))(bl:Bl mg):aE P w K mg base aM 3 f fd pj (GA C):=by
 refine F.o DK λs H hr h=>?_;obtain⟨l,st,n,i,j,hi,hj,ti,tj,si,sj,rfl,ja,o1,o2,q⟩:=h;refine⟨_,(aq (aV (j_ (eY (cT ua hr (by omega) (pv 0) (aa (pv 1) (aa (pv 2) ae))))) (av (aG (ZbW (xs:=["first","second"]) (fr:=[("self",0),("other",2)]) (cl:=[("self",s.heap.objs.size+1),("other",s.heap.objs.size+1+1)]) rfl (.gu ⟨rfl,⟨rfl,trivial⟩⟩ ⟨⟨rfl,.inl rfl,.inl rfl,rfl⟩,⟨⟨rfl,.inl rfl,.inl rfl,rfl⟩,trivial⟩⟩) (λ_ _ _ _=>(m8 (i:=0) (show(["first","second","self","other"]:List Str).Nodup by decide+kernel) rfl (Or.inl rfl))) (eI (K:=K) rfl (cT mY hr (by omega) (pv 0) (aa (pv 1) ae))) (λ_ _ _ _=>(eI (K:=K) rfl (cT mY hr (by omega) (pv 2) (aa (pv 3) ae)))) (λ_ _ _ _=>(m8 (i:=1) (show(["first","second","self","other"]:List Str).Nodup by decide+kernel) rfl (Or.inl rfl))) (λ_ _ _ _=>(c6 (aa (pv 0) (aa (pv 1) ae))))))) aZ) (aq (gT (i:=3) DK.nd rfl (Or.inr rfl) (bj (iL K) (pF K 0) (pv 1))) (aq (gT (i:=4) DK.nd rfl (Or.inr rfl) (bj (iL K) (pF K 0) (pv 2))) (av (aG (h_ (NM (K:=K) rfl) rfl bl.zW zK (aa (iJ (x:="section") (fr:=[("there",4),("here",3)]) (cl:=[("there",s.heap.objs.size+1+1+1+1),("here",s.heap.objs.size+1+1+1)]) rfl (.gu ⟨rfl,⟨rfl,trivial⟩⟩ ⟨⟨rfl,.inl rfl,.inl rfl,rfl⟩,⟨⟨rfl,.inl rfl,.inl rfl,rfl⟩,trivial⟩⟩) (eI (K:=K) rfl (dk (bw hr) (pF K 0) (bj (iL K) (pF K 0) (pv 1)) (λ_ _=>rfl))) (λ_ _ _ _=>kY) (λ_ _ _ _=>(c6 (aa (bj (iT K) (pv 2) (pv 0)) (aa (bj (iT K) (pv 1) (pv 0)) ae))))) ae))))))),?_⟩;obtain⟨dx,ho⟩:=ja.obj;have f1:=o1.jy;have f2:=o2.jy;refine⟨_,rfl,l.J,dx,_,rfl,ho,rfl,_,rfl,_,rfl,l,st,n,i,j,hi,hj,rfl,ja,o1.hd,o2.hd,_,rfl,?_⟩;by_cases eh:hi=hj
 ·rw[decide_eq_true eh];refine bW (aY ?_);have es:si=sj:=by have a:=o1.fr;have b:=o2.fr;rw[eh,b] at a;exact(Yn a).symm
  have xJ:∀{k:Nat} {t:List Int},st.ld[k]?=some t->∃x,l.eP[k]?=some x/\H x=some (.tup (t.map V.int)):=λ{k t} ht=>by
   have hl:=cU ja.lead;have dG:k<l.eP.length:=by rw[hl];exact(Yl.mp ht).1
   obtain⟨y,ey,hy⟩:=gH ja.lead (Yc dG);rw[ht] at ey;cases ey;exact⟨_,Yc dG,hy⟩
  obtain⟨xi,exi,hxi⟩:=xJ o1.ld;obtain⟨xj,exj,hxj⟩:=xJ o2.ld;have ati:dO (l.eP.map V.ref) (i:Int)=some (.ref xi):=iH (by rw[Ye,exi];rfl);have atj:dO (l.eP.map V.ref) (j:Int)=some (.ref xj):=iH (by rw[Ye,exj];rfl);obtain⟨fa,Uq,vf,di⟩:=oB (f:=λv:List Int=>HO.lst (v.map V.int)) ja.free o1.fr;refine cz ?_;refine⟨_,rfl,l.J,C,dx,_,_,rfl,ho,jc.cls,jc.m_,rfl,_,rfl,l.la,_,_,_,rfl,rfl,ak.of ja.iO,ati,?_⟩;refine cz ?_;refine⟨_,rfl,l.J,C,dx,_,_,rfl,ho,jc.cls,jc.m_,rfl,_,rfl,l.la,_,_,_,rfl,rfl,ak.of ja.iO,atj,?_⟩;refine⟨_,rfl,l.J,C,dx,_,_,rfl,ho,jc.cls,jc.r9,rfl,_,rfl,l.J,C,dx,_,_,rfl,ho,jc.cls,jc.j9,rfl,_,rfl,l.ha,_,_,_,rfl,rfl,ak.of ja.heads,oN o1.hd,l.fd,_,rfl,qt ja.frees vf,fa,rfl,⟨_,ak.of di⟩,λD hD=>wM (xs:=si.map V.int) (ak.of di) (by rw[Ya];omega) hD (λ_=>true) (λk y H1=>∃a,y=V.ref a/\a≠D/\H1 a=some (.tup [.int (ti.getD (si.getD k 0).toNat 0),.int (tj.getD (si.getD k 0).toNat 0)])) (λk y H1 H2 b ⟨a,e1,e2,e3⟩=>⟨a,e1,e2,b _ _ e3 e2⟩) (λk v hk H1 g1 tK Kt Kf kt kf=>?_) λys H1 g1 h1 pr=>?_⟩
  ·obtain⟨z,rfl,hz⟩:=jY hk;have gz:si.getD k 0=z:=by rw[Yf,hz];rfl
   have b1:=o1.fV z (Yg hz);have b2:=o2.fV z (by rw[←es];exact Yg hz);refine kj (cY ?_);refine⟨_,rfl,_,rfl,xi,_,_,_,rfl,rfl,aB.of (g1 _ _ hxi),ny b1.1 b1.2,_,rfl,_,rfl,xj,_,_,_,rfl,rfl,aB.of (g1 _ _ hxj),ny b2.1 b2.2,by show 2<=sizeLine;rw[sizeLine_eq];omega,λa H2 na g2 ha=>?_⟩;obtain⟨ys,tK⟩:=tK;exact kt _ H2 rfl g2 ⟨a,rfl,(λz=>by rw[z,tK] at na;cases na),by rw[gz];exact ha⟩
  ·rw[zy,Ya] at pr;obtain⟨as,eas,dY⟩:=QI (g:=λk=>(ti.getD (si.getD k 0).toNat 0,tj.getD (si.getD k 0).toNat 0)) (L2.Paired.bq pr λy k ⟨a,e1,e2,e3⟩=>⟨a,e1,e3⟩);have em:(List.range si.length).map (λk=>((ti.getD (si.getD k 0).toNat 0,tj.getD (si.getD k 0).toNat 0):Int×Int))=si.map λz=>(ti.getD z.toNat 0,tj.getD z.toNat 0):=map_range (λz=>(ti.getD z.toNat 0,tj.getD z.toNat 0)) si;rw[em] at dY;have al:=cU dY;rw[Ya] at al;rw[eas] at h1;have ndp:(si.map λz=>((ti.getD z.toNat 0,tj.getD z.toNat 0):Int×Int)).Nodup:=by
    have d:=o1.dist;rw[W8,W1] at d⊢;exact d.imp λh e=>h (congrArg (·.1) e)
   refine⟨D,as,_,rfl,ak.of h1,dY,ndp,.inl (by omega),λiY mG pr2 p2 pw p H2 np g2 hp=>?_⟩;refine q p iY mG H2 (g1.free np) (g1.trans g2) hp (L2.Paired.bq pr2 λ_ _ e=>g2 _ _ e) ?_ pw;unfold jq;rw[if_pos eh];exact p2
 ·rw[decide_eq_false eh];refine cY ?_;refine⟨_,rfl,l.J,dx,_,rfl,ho,rfl,_,rfl,l,st,n,i,hi,ti,si,rfl,ja,o1.hd,o1.ld,o1.fr,o1.fV,o1.jy,λp ns H1 np g1 pm srt hp=>?_⟩;have nl:=pm.length_eq;rw[Ya] at nl;have sns:=zO srt (pm.nodup_iff.mpr o1.dist);refine⟨p,rfl,⟨_,ak.of hp⟩,λD hD=>Zdc (xs:=ns.map V.int) (λk ys H2=>k<=ns.length/\aj H1 H2/\H2 D=some (.lst ys)/\∃(as:List Addr) (aL:List (Int×Int)),ys=as.map V.ref/\SG D H2 as aL/\aL.Perm ((ns.take k).flatMap λx=>sj.map λz=>(x,tj.getD z.toNat 0))/\aL.Pairwise dJ/\∀p∈aL,p.1∈ns.take k) ⟨Yx _,cq hD _,aR,[],[],rfl,.nil,.nil,.nil,λ_ h=>(nomatch h)⟩ (λk ys H2 _ ⟨_,g2,_⟩=>ak.of (g2 _ _ hp)) ?_ ?_ ?_ (λv σ H R R' m h=>m _ _ h)⟩
  ·rintro k v ys H2 hk ⟨kl,g2,h2,as,aL,ey,pa,pp,pw,pin⟩ os pG;obtain⟨u1,u2,rfl⟩:∃u1 u2,os=[u1,u2]:=by
    match os,pG with
    |[u1,u2],_=>exact⟨u1,u2,rfl⟩
   obtain⟨x,rfl,hx⟩:=jY hk;have kl':k<ns.length:=(Yl.mp hx).1;refine bg ⟨⟨[some (.int x),u2],rfl,rfl⟩,?_⟩;refine⟨_,rfl,l.J,dx,_,rfl,g2 _ _ (g1 _ _ ho),rfl,_,rfl,l,st,n,j,hj,tj,sj,rfl,ja.same (g1.trans g2),o2.hd,o2.ld,o2.fr,o2.fV,o2.jy,λp2 tL H3 tM g3 K4 ZgZ dh=>?_⟩;have K5:=K4.length_eq;rw[Ya] at K5;have Zg0:=zO ZgZ (K4.nodup_iff.mpr o2.dist);have pD:p2≠D:=λz=>by rw[z,h2] at tM;cases tM
   have SE:=pp.length_eq;rw[Gd (λx z=>((x,tj.getD z.toNat 0):Int×Int)) sj (ns.take k),Y8] at SE;have ZiV:=cU pa;have ZiW:min k ns.length*sj.length<=64*64:=Nat.mul_le_mul (by omega) (by omega);refine⟨p2,rfl,⟨_,ak.of dh⟩,p2,tL.map V.int,λk2 gq σ H4=>k2<=tL.length/\aj H1 H4/\H4 D=some (.lst gq)/\H4 p2=some (.lst (tL.map V.int))/\(∃o2,σ=[some (.int x),o2]++_)/\∃(nX:List Addr) (qD:List (Int×Int)),gq=nX.map V.ref/\SG D H4 nX qD/\qD=aL++(tL.take k2).map λy=>(x,y),rfl,⟨Yx _,g2.trans g3,g3 _ _ h2,dh,⟨u2,rfl⟩,as,aL,ey,L2.Paired.bq pa λ_ _ e=>⟨e.1,g3 _ _ e.2⟩,by simp⟩,λk2 gq σ H4 _ ⟨_,_,_,e,_⟩=>ak.of e,?_,?_⟩
   ·rintro k2 v2 gq σ H4 hk2 ⟨k2l,g4,h4,e4,⟨UD,rfl⟩,nX,qD,Cr,tN,tO⟩;obtain⟨y,rfl,hy⟩:=jY hk2;have Zg1:k2<tL.length:=(Yl.mp hy).1;have Cs:=cU tN;rw[tO,Yi,Ya,Y8] at Cs;refine bg ⟨_,rfl,_,rfl,by show 2<=sizeLine;rw[sizeLine_eq];omega,λa H5 na g5 ha=>⟨g5 _ _ h4,by rw[Cr,Ya,Cs,sizeLine_eq];have:=o2.jy;omega,Zg1,?_,aR,?_,⟨some (.int y),rfl⟩,nX++[a],qD++[(x,y)],by rw[Cr,Ym];rfl,?_,?_⟩⟩
    ·intro b o e;rw[aK (bY e hD)];exact g5 _ _ (g4 _ _ e)
    ·rw[aK pD];exact g5 _ _ e4
    ·have aD:a≠D:=λz=>by rw[z,h4] at na;cases na
     exact jD (F:=λa (p:Int×Int)=>a≠D/\upd H5 D _ a=some (.tup [.int p.1,.int p.2])) ⟨aD,by rw[aK aD];exact ha⟩ (L2.Paired.bq tN λb p e=>⟨e.1,by rw[aK e.1];exact g5 _ _ e.2⟩)
    ·rw[tO,Y1,hy,Ym,Jo];rfl
   ·rintro gq σ H4 ⟨_,g4,h4,e4,⟨UD,rfl⟩,nX,qD,Cr,tN,tO⟩;rw[Ya,Wb] at tO;refine⟨⟨[some (.int x),UD],rfl,rfl⟩,kl',g4,h4,nX,qD,Cr,tN,?_,?_,λp mp=>?_⟩
    ·rw[tO,Za3 (β:=Int) hx];refine pp.append ?_;have:=K4.map λy:Int=>((x,y):Int×Int);rw[Wi] at this;exact this
    ·rw[tO];refine Js.mpr ⟨pw,O5 x Zg0,λp mp q' mq=>.inl ?_⟩;obtain⟨y,_,rfl⟩:=Yh.mp mq;exact O6 sns hx (pin p mp)
    ·rw[tO] at mp;rw[Y1,hx];rcases Yq.mp mp with mp|mp;·exact Yt _ (pin p mp)
     ·obtain⟨y,_,rfl⟩:=Yh.mp mp;exact Yr _ Yo
  ·rintro ys H2 ⟨_,g2,h2,as,aL,ey,pa,pp,pw,_⟩;rw[Ya,Wb] at pp;rw[ey] at h2;refine q D as aL H2 (g1.free hD) (g1.trans g2) h2 (L2.Paired.bq pa λ_ _ e=>e.2) (pp.trans ?_) pw;unfold jq;rw[if_neg eh];exact pm.flatMap_right _
  ·rintro σ H R R' m ⟨x1,e1,x2,x3,x4,e2,e3,e4,x5,e5,l,st,n,i,h,t,secs,e6,j1,j2,j3,j4,j5,j6,k⟩;refine⟨x1,e1,x2,x3,x4,e2,e3,e4,x5,e5,l,st,n,i,h,t,secs,e6,j1,j2,j3,j4,j5,j6,λp ns H' a b c d e=>?_⟩;obtain⟨a,e,s,r⟩:=k p ns H' a b c d e;exact⟨a,e,s,m _ _ r⟩
end
def ap(t:List Int)(z:Int):Int:=t.getD z.toNat 0
def G7(h0:0<=z)(h:z<t.length):t[z.toNat]?=some (ap t z):=by
 unfold ap
 grind
def mn{t:List Int}{n:Nat}(ft:full t=true)(lt:t.length=n){z:Int}(h:0<=z/\z<n):0<=ap t z/\ap t z<n:=by
 have:=qk ft (Yg (G7 h.1 (by omega)));omega
def uQ{t:List Int}{n:Nat}(ft:full t=true)(lt:t.length=n){z:Int}(h:0<=z/\z<n):ap (inv t) (ap t z)=z:=by
 have b:=mn ft lt h;have e2:=Al (xs:=t) (i:=(ap t z).toNat) (by omega);rw[(Jw b.1),zM (zB ft) (G7 h.1 (by omega))] at e2;have e3:ap (inv t) (ap t z)=((z.toNat:Nat):Int):=by
  show(inv t).getD (ap t z).toNat 0=_
  grind
 grind
def O7{t:List Int}{n:Nat}(ft:full t=true)(lt:t.length=n){z:Int}(h:0<=z/\z<n):ap t (ap (inv t) z)=z:=by
 have:=uQ (jX ft) (by rw[fM];exact lt) h;rw[inv_inv ft] at this;exact this
def AE{t:List Int}{n:Nat}(ft:full t=true)(lt:t.length=n){z z':Int}(h:0<=z/\z<n)(h':0<=z'/\z'<n)(e:ap t z=ap t z'):z=z':=by
 have a:=uQ ft lt h;rw[e,uQ ft lt h'] at a;exact a.symm
def AF{xs ys:List Int}{z:Int}(h:0<=z/\z<ys.length):ap (bK xs ys) z=ap xs (ap ys z):=by
 show(bK xs ys).getD z.toNat 0=_;unfold bK;rw[Yf,Ye,(G7 h.1 h.2)];rfl
def JS.ag(st:JS)(i:Nat):Nat:=st.hd.getD i 0
def JS.bP(st:JS)(i:Nat):List Int:=st.ld.getD i []
def JS.cB(st:JS)(h:Nat):List Int:=(st.fr.lookup h).getD []
def cH(st:JS)(f:Nat->Int):Prop:=∃s:Nat->Int,∀i,i<st.hd.length->s (st.ag i)∈st.cB (st.ag i)/\f i=ap (st.bP i) (s (st.ag i))
structure WF(n:Nat)(st:JS):Prop where
 ll:st.ld.length=st.hd.length
 fl:∀t∈st.ld,full t=true/\t.length=n
 fr:∀i,i<st.hd.length->∃secs,st.fr.lookup (st.ag i)=some secs/\secs.Nodup/\∀z∈secs,0<=z/\z<(n:Int)
 mem:∀i,i<st.hd.length->∃ms,st.mem.lookup (st.ag i)=some ms/\ms.Nodup/\∀k,k∈ms↔k<st.hd.length/\st.ag k=st.ag i
 nm:(st.mem.map (·.1)).Nodup
 lm:∀k∈st.mem.map (·.1),k<st.hd.length
 nf:(st.fr.map (·.1)).Nodup
 lf:∀k∈st.fr.map (·.1),k<st.hd.length
 hf:∀k∈st.fr.map (·.1),∃i,i<st.hd.length/\st.ag i=k
def wA{xs:List Nat}{m:Nat}(nd:xs.Nodup)(h:∀x∈xs,x<m):xs.length<=m:=by
 have l:=nd.length_le_of_subset λx hx=>Wg.mpr (h x hx)
 grind
def Ee{xs:List Int}{n:Nat}(nd:xs.Nodup)(h:∀x∈xs,0<=x/\x<(n:Int)):xs.length<=n:=by
 have l:=nd.length_le_of_subset (l₂:=bp n) λx hx=>by
  obtain⟨a,b⟩:=h x hx;have:=Yg (lY (n:=n) (i:=x.toNat) (by omega))
  grind
 rwa [eG] at l
theorem Fi{α:Type}:∀{ps:List (Nat×α)} {k:Nat} {v:α},ps.lookup k=some v->k∈ps.map (·.1)
 |[],_,_,h=>by simp at h
 |p::ps,k,v,h=>by
  rw[Wz] at h;by_cases e:k=p.1;·grind
  ·rw[beq_eq_false_iff_ne.mpr e] at h;exact Yw _ (Fi h)
theorem zr{α:Type}(h:Nat)(v:α)(k:Nat):∀ps:List (Nat×α),(eB h v ps).lookup k=if k=h then(ps.lookup h).map λ_=>v else ps.lookup k
 |[]=>by show([]:List (Nat×α)).lookup k=_;simp
 |p::ps=>by
  have ih:=zr h v k ps;have e0:eB h v (p::ps)=(if p.1=h then(p.1,v) else p)::eB h v ps:=rfl
  grind
section
variable {n:Nat}{st:JS}
def w_{i:Nat}(h:i<st.hd.length):st.hd[i]?=some (st.ag i):=by
 unfold JS.ag;rw[Yf,Yc h];rfl
def WF.AG(wf:WF n st){i:Nat}(h:i<st.hd.length):st.ld[i]?=some (st.bP i):=by
 unfold JS.bP;rw[Yf,Yc (by rw[wf.ll];exact h)];rfl
def WF.kJ(wf:WF n st){i:Nat}(h:i<st.hd.length):full (st.bP i)=true/\(st.bP i).length=n:=wf.fl _ (Yg (wf.AG h))
def WF.dM(wf:WF n st){i:Nat}(h:i<st.hd.length):st.fr.lookup (st.ag i)=some (st.cB (st.ag i))/\(st.cB (st.ag i)).Nodup/\∀z∈st.cB (st.ag i),0<=z/\z<(n:Int):=by
 obtain⟨secs,e,a,b⟩:=wf.fr i h;have e2:st.cB (st.ag i)=secs:=by unfold JS.cB;rw[e];rfl
 grind
def WF.dist(wf:WF n st){i:Nat}(h:i<st.hd.length):((st.cB (st.ag i)).map λz=>(st.bP i).getD z.toNat 0).Nodup:=by
 obtain⟨e,a,b⟩:=wf.dM h;rw[W8,W1];refine(List.Pairwise.and_mem.mp (W8.mp a)).imp ?_;rintro u v ⟨mu,mv,ne⟩ z;exact ne (AE (wf.kJ h).1 (wf.kJ h).2 (b u mu) (b v mv) z)
def WF.one(wf:WF n st)(n8:n<=8){i:Nat}(h:i<st.hd.length):sP st i (st.ag i) (st.bP i) (st.cB (st.ag i)):=by
 obtain⟨e,a,b⟩:=wf.dM h;have:=Ee a b;refine⟨w_ h,wf.AG h,e,λz hz=>by rw[(wf.kJ h).2];exact b z hz,by omega,wf.dist h⟩
def WF.two(wf:WF n st){i j:Nat}(hi:i<st.hd.length)(hj:j<st.hd.length)(m4:st.hd.length<=400)(ne:st.ag i≠st.ag j):∃ma mb,SD st n i j (st.ag i) (st.ag j) (st.bP i) (st.bP j) (st.cB (st.ag i)) (st.cB (st.ag j)) ma mb/\(ma.Nodup/\∀k,k∈ma↔k<st.hd.length/\st.ag k=st.ag i)/\(mb.Nodup/\∀k,k∈mb↔k<st.hd.length/\st.ag k=st.ag j):=by
 obtain⟨ma,e1,a1,b1⟩:=wf.mem i hi;obtain⟨mb,e2,a2,b2⟩:=wf.mem j hj;have l1:=wA a1 λk hk=>((b1 k).mp hk).1;have l2:=wA a2 λk hk=>((b2 k).mp hk).1;exact⟨ma,mb,⟨w_ hi,w_ hj,wf.AG hi,wf.AG hj,wf.fl,wf.ll,e1,e2,(wf.dM hi).1,(wf.dM hj).1,ne,λk hk=>((b1 k).mp hk).1,λk hk=>((b2 k).mp hk).1,by omega,wf.nm⟩,⟨a1,b1⟩,a2,b2⟩
def WF.AR(wf:WF n st):st.fr.length<=st.hd.length:=by
 have:=wA wf.nf wf.lf
 grind
def WF.QJ(wf:WF n st):st.mem.length<=st.hd.length:=by
 have:=wA wf.nm wf.lm
 grind
def wf0:WF n ⟨[],[],[],[]⟩:=⟨rfl,λ_ h=>(nomatch h),λ_ h=>absurd h (Wk _),λ_ h=>absurd h (Wk _),.nil,λ_ h=>(nomatch h),.nil,λ_ h=>(nomatch h),λ_ h=>(nomatch h)⟩
theorem FP(st:JS)(h k:Nat)(v:List Int)(hv:st.fr.lookup h≠none):(st.lq h v).cB k=if k=h then v else st.cB k:=by
 show((eB h v st.fr).lookup k).getD []=_;rw[zr];by_cases e:k=h
 ·rw[if_pos e,if_pos e];cases e2:st.fr.lookup h with
  |none=>grind
  |some x=>rfl
 ·rw[if_neg e,if_neg e];rfl
def WF.lq(wf:WF n st){i:Nat}(hi:i<st.hd.length){p:Int->Bool}:WF n (st.lq (st.ag i) ((st.cB (st.ag i)).filter p)):=by
 refine⟨wf.ll,wf.fl,λk hk=>?_,wf.mem,wf.nm,wf.lm,?_,?_,?_⟩
 ·obtain⟨e,a,b⟩:=wf.dM hk;show ∃secs,(eB _ _ st.fr).lookup (st.ag k)=some secs/\_;rw[zr]
  grind
 ·show((eB _ _ st.fr).map (·.1)).Nodup;rw[rM];exact wf.nf
 ·show ∀k∈(eB _ _ st.fr).map (·.1),_;rw[rM];exact wf.lf
 ·show ∀k∈(eB _ _ st.fr).map (·.1),_;rw[rM];exact wf.hf
def wF(wf:WF n st){i:Nat}(hi:i<st.hd.length)(ss:List Int)(f:Nat->Int):cH (st.lq (st.ag i) ((st.cB (st.ag i)).filter λz=>decide ((st.bP i).getD z.toNat 0∈ss))) f↔cH st f/\f i∈ss:=by
 have hv:st.fr.lookup (st.ag i)≠none:=by rw[(wf.dM hi).1];exact λz=>nomatch z
 constructor
 ·rintro⟨s,h⟩;have hk:∀k,k<st.hd.length->s (st.ag k)∈st.cB (st.ag k)/\f k=ap (st.bP k) (s (st.ag k)):=λk hk=>by
   obtain⟨a,b⟩:=h k hk;refine⟨?_,b⟩;have a':s (st.ag k)∈(st.lq (st.ag i) ((st.cB (st.ag i)).filter λz=>decide ((st.bP i).getD z.toNat 0∈ss))).cB (st.ag k):=a;rw[FP st _ _ _ hv] at a'
   grind
  refine⟨⟨s,hk⟩,?_⟩;obtain⟨a,b⟩:=h i hi;have a':s (st.ag i)∈(st.lq (st.ag i) ((st.cB (st.ag i)).filter λz=>decide ((st.bP i).getD z.toNat 0∈ss))).cB (st.ag i):=a;rw[FP st _ _ _ hv,if_pos rfl] at a';rw[b];exact of_decide_eq_true (Y5.mp a').2
 ·rintro⟨⟨s,h⟩,m⟩;refine⟨s,λk hk=>?_⟩;obtain⟨a,b⟩:=h k hk;refine⟨?_,b⟩;show s (st.ag k)∈(st.lq (st.ag i) ((st.cB (st.ag i)).filter λz=>decide ((st.bP i).getD z.toNat 0∈ss))).cB (st.ag k);rw[FP st _ _ _ hv];by_cases z:st.ag k=st.ag i
  ·rw[if_pos z];rw[z] at a⊢;refine Y5.mpr ⟨a,decide_eq_true ?_⟩;rw[((h i hi).2)] at m;exact m
  ·grind
def FQ(wf:WF n st){f:Nat->Int}(d:cH st f)(h1 h2:Nat)(z1 z2:Int)(m1:z1∈st.cB h1)(m2:z2∈st.cB h2)(ne:h1=h2->z1=z2):∃f',cH st f'/\∀k,k<st.hd.length->(st.ag k=h1->f' k=ap (st.bP k) z1)/\(st.ag k=h2->f' k=ap (st.bP k) z2):=by
 obtain⟨s,h⟩:=d;refine⟨λk=>ap (st.bP k) ((λq=>if q=h1 then z1 else if q=h2 then z2 else s q) (st.ag k)),⟨λq=>if q=h1 then z1 else if q=h2 then z2 else s q,λk hk=>⟨?_,rfl⟩⟩,λk hk=>⟨λe=>?_,λe=>?_⟩⟩;·grind
 ·grind
 ·grind
def uM(wf:WF n st){i j:Nat}(hi:i<st.hd.length)(hj:j<st.hd.length){f:Nat->Int}(d:cH st f):(f i,f j)∈jq (st.ag i) (st.ag j) (st.bP i) (st.bP j) (st.cB (st.ag i)) (st.cB (st.ag j)):=by
 obtain⟨s,h⟩:=d;obtain⟨a1,b1⟩:=h i hi;obtain⟨a2,b2⟩:=h j hj;unfold jq;by_cases e:st.ag i=st.ag j
 ·rw[if_pos e];refine Yh.mpr ⟨s (st.ag i),a1,?_⟩;rw[b1,b2,←e];rfl
 ·rw[if_neg e];refine UE.mpr ⟨f i,Yh.mpr ⟨_,a1,b1.symm⟩,Yh.mpr ⟨_,a2,?_⟩⟩;rw[b2];rfl
def Ge(wf:WF n st){i j:Nat}(hi:i<st.hd.length)(hj:j<st.hd.length)(live:∃f,cH st f){x y:Int}(m:(x,y)∈jq (st.ag i) (st.ag j) (st.bP i) (st.bP j) (st.cB (st.ag i)) (st.cB (st.ag j))):∃f,cH st f/\f i=x/\f j=y:=by
 obtain⟨f0,d0⟩:=live;unfold jq at m;by_cases e:st.ag i=st.ag j
 ·rw[if_pos e] at m;obtain⟨z,mz,ez⟩:=Yh.mp m;obtain⟨f,d,q⟩:=FQ wf d0 (st.ag i) (st.ag i) z z mz mz (λ_=>rfl);exact⟨f,d,((q i hi).1 rfl).trans (congrArg (·.1) ez),((q j hj).1 e.symm).trans (congrArg (·.2) ez)⟩
 ·rw[if_neg e] at m;obtain⟨x',mx,my⟩:=UE.mp m;obtain⟨z1,K6,K7⟩:=Yh.mp mx;obtain⟨z2,K8,yJ⟩:=Yh.mp my;obtain⟨f,d,q⟩:=FQ wf d0 (st.ag i) (st.ag j) z1 z2 K6 K8 (λz=>absurd z e);exact⟨f,d,(((q i hi).1 rfl).trans K7).trans (congrArg (·.1) yJ),((q j hj).2 rfl).trans (congrArg (·.2) yJ)⟩
end
theorem Nd(hb:Nat):∀(mv:List Nat) (hd:List Nat) (i:Nat),i<hd.length->(ke hb mv hd)[i]?=if i∈mv then some hb else hd[i]?
 |[],hd,i,h=>rfl
 |k::mv,hd,i,h=>by
  have ih:=Nd hb mv (hd.set k hb) i (by rw[W4];exact h);have e0:ke hb (k::mv) hd=ke hb mv (hd.set k hb):=rfl
  grind
theorem Nf(a9:List Int):∀(mv:List Nat) (ld:List (List Int)) (i:Nat),mv.Nodup->i<ld.length->(gZ a9 mv ld)[i]?=if i∈mv then some (bK (ld.getD i []) a9) else ld[i]?
 |[],ld,i,_,h=>rfl
 |k::mv,ld,i,nd,h=>by
  obtain⟨n1,n2⟩:=Yz.mp nd;have e0:gZ a9 (k::mv) ld=gZ a9 mv (pM a9 ld k):=rfl;rw[e0,(Nf a9 mv (pM a9 ld k) i n2 (by unfold pM;rw[W4];exact h))];by_cases m:i∈mv
  ·have ne:k≠i:=λz=>n1 (by rw[z];exact m);unfold pM
   grind
  ·rw[if_neg m];unfold pM
   grind
def Ng(hb:Nat)(mv hd:List Nat):(ke hb mv hd).length=hd.length:=wz (λ_ _=>W4) mv hd
def Nh(a9:List Int)(mv:List Nat)(ld:List (List Int)):(gZ a9 mv ld).length=ld.length:=wz (λ_ _=>by unfold pM;exact W4) mv ld
section
variable {n:Nat}{st:JS}{a b:Nat}{ma mb:List Nat}{tn:List Int}
def qu(wf:WF n st)(im:∀k,k∈ma↔k<st.hd.length/\st.ag k=st.ag a)(a9:List Int){i:Nat}(hi:i<st.hd.length):(st.mv (st.ag b) (st.ag a) mb ma a9).ag i=if st.ag i=st.ag a then st.ag b else st.ag i:=by
 show(ke (st.ag b) ma st.hd).getD i 0=_;rw[Yf,Nd _ _ _ _ hi];by_cases e:st.ag i=st.ag a;·grind
 ·rw[if_neg (λz=>e ((im i).mp z).2),if_neg e,←Yf];rfl
def G8(wf:WF n st)(nd:ma.Nodup)(im:∀k,k∈ma↔k<st.hd.length/\st.ag k=st.ag a)(a9:List Int)(hb:Nat){i:Nat}(hi:i<st.hd.length):(st.mv hb (st.ag a) mb ma a9).bP i=if st.ag i=st.ag a then bK (st.bP i) a9 else st.bP i:=by
 show(gZ a9 ma st.ld).getD i []=_;rw[Yf,Nf _ _ _ _ nd (by rw[wf.ll];exact hi)];by_cases e:st.ag i=st.ag a;·rw[if_pos ((im i).mpr ⟨hi,e⟩),if_pos e];rfl
 ·rw[if_neg (λz=>e ((im i).mp z).2),if_neg e,←Yf];rfl
def QK(hb ha:Nat)(a9:List Int){h:Nat}(ne:h≠ha):(st.mv hb ha mb ma a9).cB h=st.cB h:=by
 show((cZ ha st.fr).lookup h).getD []=_;rw[uz ne];rfl
def xD(hb ha:Nat)(a9:List Int):(st.mv hb ha mb ma a9).hd.length=st.hd.length:=Ng _ _ _
def WF.mv(wf:WF n st)(hA:a<st.hd.length)(hB:b<st.hd.length)(ne:st.ag a≠st.ag b)(nY:ma.Nodup)(iz:∀k,k∈ma↔k<st.hd.length/\st.ag k=st.ag a)(vS:mb.Nodup)(tP:∀k,k∈mb↔k<st.hd.length/\st.ag k=st.ag b)(eb:st.mem.lookup (st.ag b)=some mb){a9:List Int}(ft:full a9=true)(tl:a9.length=n):WF n (st.mv (st.ag b) (st.ag a) mb ma a9):=by
 have len:(st.mv (st.ag b) (st.ag a) mb ma a9).hd.length=st.hd.length:=xD _ _ _;have BW:∀k,k<st.hd.length->(if st.ag k=st.ag a then st.ag b else st.ag k)≠st.ag a:=λk hk=>by
  grind
 have ky:(st.mv (st.ag b) (st.ag a) mb ma a9).mem.map (·.1)=(st.mem.map (·.1)).filter λk=>decide (k≠st.ag a):=by
  show(eB _ _ (cZ _ st.mem)).map (·.1)=_;rw[rM,oG]
 have kf:(st.mv (st.ag b) (st.ag a) mb ma a9).fr.map (·.1)=(st.fr.map (·.1)).filter λk=>decide (k≠st.ag a):=oG _ _;refine⟨?_,λt ht=>?_,λi hi=>?_,λi hi=>?_,?_,?_,?_,?_,?_⟩
 ·show(gZ _ _ _).length=(ke _ _ _).length;rw[Nh,Ng];exact wf.ll
 ·obtain⟨i,hi,rfl⟩:=Ws.mp ht;have iy:i<st.hd.length:=by
   have:(gZ a9 ma st.ld).length=st.ld.length:=Nh _ _ _;have h2:i<(gZ a9 ma st.ld).length:=hi;have:=wf.ll;omega
  have e:=G8 (mb:=mb) wf nY iz a9 (st.ag b) iy;have e2:(st.mv (st.ag b) (st.ag a) mb ma a9).bP i=(st.mv (st.ag b) (st.ag a) mb ma a9).ld[i]:=by
   unfold JS.bP;rw[Yf,Yc hi];rfl
  rw[←e2,e];obtain⟨f1,f2⟩:=wf.kJ iy;by_cases z:st.ag i=st.ag a;·rw[if_pos z];exact⟨qc f1 ft (by omega),by rw[jk];exact tl⟩
  ·rw[if_neg z];exact⟨f1,f2⟩
 ·rw[len] at hi;rw[qu (mb:=mb) wf iz a9 hi];show ∃secs,(cZ (st.ag a) st.fr).lookup _=some secs/\_;rw[uz (BW i hi)];by_cases e:st.ag i=st.ag a;·rw[if_pos e];exact⟨_,wf.dM hB⟩
  ·rw[if_neg e];exact⟨_,wf.dM hi⟩
 ·rw[len] at hi;rw[qu (mb:=mb) wf iz a9 hi];show ∃ms,(eB (st.ag b) (mb++ma) (cZ (st.ag a) st.mem)).lookup _=some ms/\_;rw[zr,uz (BW i hi),uz (λz=>ne z.symm),eb];have iff:∀k,k<st.hd.length->((st.mv (st.ag b) (st.ag a) mb ma a9).ag k=(if st.ag k=st.ag a then st.ag b else st.ag k)):=λk hk=>qu (mb:=mb) wf iz a9 hk;by_cases e:(if st.ag i=st.ag a then st.ag b else st.ag i)=st.ag b
  ·rw[if_pos e];refine⟨_,rfl,?_,λk=>?_⟩;·grind
   ·grind
  ·have e1:¬st.ag i=st.ag a:=λz=>e (if_pos z);rw[if_neg e1] at e⊢;rw[if_neg e];obtain⟨ms,m1,m2,m3⟩:=wf.mem i hi
   grind
 ·rw[ky];exact wf.nm.filter _
 ·rw[ky,len];exact λk hk=>wf.lm k (Y5.mp hk).1
 ·rw[kf];exact wf.nf.filter _
 ·rw[kf,len];exact λk hk=>wf.lf k (Y5.mp hk).1
 ·rw[kf,len];intro k hk;obtain⟨m1,m2⟩:=Y5.mp hk;obtain⟨i,hi,e⟩:=wf.hf k m1;refine⟨i,hi,?_⟩;rw[qu (mb:=mb) wf iz a9 hi,if_neg (λz=>of_decide_eq_true m2 (e.symm.trans z))];exact e
def O8(wf:WF n st)(hA:a<st.hd.length)(hB:b<st.hd.length)(ne:st.ag a≠st.ag b)(nY:ma.Nodup)(iz:∀k,k∈ma↔k<st.hd.length/\st.ag k=st.ag a)(ft:full tn=true)(tl:tn.length=n)(f:Nat->Int):
  cH (st.mv (st.ag b) (st.ag a) mb ma (bK (inv (st.bP a)) (bK tn (st.bP b)))) f↔∃s:Nat->Int,(∀i,i<st.hd.length->(0<=s (st.ag i)/\s (st.ag i)<(n:Int))/\(st.ag i≠st.ag a->s (st.ag i)∈st.cB (st.ag i))/\f i=ap (st.bP i) (s (st.ag i)))/\f a=ap tn (f b):=by
 obtain⟨fa,la⟩:=wf.kJ hA;obtain⟨fb,lb⟩:=wf.kJ hB;have fi:=jX fa;have li:(inv (st.bP a)).length=n:=by rw[fM];exact la
 generalize et:bK (inv (st.bP a)) (bK tn (st.bP b))=a9;have K9:∀z:Int,0<=z/\z<(n:Int)->ap a9 z=ap (inv (st.bP a)) (ap tn (ap (st.bP b) z)):=λz hz=>by
  rw[←et,AF (by rw[jk,lb];exact hz),AF (by rw[lb];exact hz)]
 have Zg2:∀z:Int,0<=z/\z<(n:Int)->0<=ap a9 z/\ap a9 z<(n:Int):=λz hz=>by
  rw[K9 z hz];exact mn fi li (mn ft tl (mn fb lb hz))
 have SH:a9.length=n:=by rw[←et,jk,jk];exact lb
 constructor
 ·rintro⟨s,h⟩;have h':∀i,i<st.hd.length->s (if st.ag i=st.ag a then st.ag b else st.ag i)∈st.cB (if st.ag i=st.ag a then st.ag b else st.ag i)/\f i=ap (if st.ag i=st.ag a then bK (st.bP i) a9 else st.bP i) (s (if st.ag i=st.ag a then st.ag b else st.ag i)):=λi hi=>by
   have x:=h i (by rw[xD];exact hi);rw[qu (mb:=mb) wf iz a9 hi,G8 (mb:=mb) wf nY iz a9 _ hi,QK] at x;·exact x
   ·by_cases e:st.ag i=st.ag a;·rw[if_pos e];exact λz=>ne z.symm
    ·rw[if_neg e];exact e
  have hb:=h' b hB;rw[if_neg (λz=>ne z.symm),if_neg (λz=>ne z.symm)] at hb;have fV:=(wf.dM hB).2.2 _ hb.1;have eq:∀i,i<st.hd.length->f i=ap (st.bP i) (if st.ag i=st.ag a then ap a9 (s (st.ag b)) else s (st.ag i)):=λi hi=>by
   have x:=(h' i hi).2;by_cases e:st.ag i=st.ag a
   ·rw[if_pos e,if_pos e,AF (by rw[SH];exact fV)] at x;rw[if_pos e];exact x
   ·rw[if_neg e,if_neg e] at x;rw[if_neg e];exact x
  refine⟨λq=>if q=st.ag a then ap a9 (s (st.ag b)) else s q,λi hi=>⟨?_,λe=>?_,eq i hi⟩,?_⟩
  ·show 0<=(if st.ag i=st.ag a then _ else _)/\(if st.ag i=st.ag a then _ else _)<_;by_cases e:st.ag i=st.ag a;·rw[if_pos e];exact Zg2 _ fV
   ·rw[if_neg e];have x:=(h' i hi).1;rw[if_neg e] at x;exact(wf.dM hi).2.2 _ x
  ·show(if st.ag i=st.ag a then _ else _)∈_;have x:=(h' i hi).1;rw[if_neg e] at x;rw[if_neg e];exact x
  ·rw[eq a hA,if_pos rfl,K9 _ fV,O7 fa la (mn ft tl (mn fb lb fV)),hb.2]
 ·rintro⟨s,h,ef⟩;have sb:=(h b hB).1;have sa:=(h a hA).1;have et2:ap a9 (s (st.ag b))=s (st.ag a):=by
   rw[K9 _ sb,←(h b hB).2.2,←ef,(h a hA).2.2,uQ fa la sa]
  refine⟨s,λi hi=>?_⟩;rw[xD] at hi;rw[qu (mb:=mb) wf iz a9 hi,G8 (mb:=mb) wf nY iz a9 _ hi,QK]
  ·by_cases e:st.ag i=st.ag a
   ·rw[if_pos e,if_pos e];refine⟨(h b hB).2.1 (λz=>ne z.symm),?_⟩;rw[AF (by rw[SH];exact sb),et2,←e];exact(h i hi).2.2
   ·rw[if_neg e,if_neg e];exact⟨(h i hi).2.1 e,(h i hi).2.2⟩
  ·by_cases e:st.ag i=st.ag a;·rw[if_pos e];exact λz=>ne z.symm
   ·rw[if_neg e];exact e
end
section
variable {n:Nat}{st:JS}{i j:Nat}{tn ns:List Int}
def N0{P:List (Int×Int)}(pm:ns.Perm ((P.filter λq=>decide (tn.getD q.1.toNat 0=q.2)).map (·.1)))(x:Int):x∈ns↔(x,ap tn x)∈P:=by
 rw[pm.mem_iff,Yh];constructor
 ·rintro⟨⟨u,v⟩,m,rfl⟩;obtain⟨m1,m2⟩:=Y5.mp m;have e:ap tn u=v:=of_decide_eq_true m2;rw[e];exact m1
 ·intro m;exact⟨_,Y5.mpr ⟨m,decide_eq_true rfl⟩,rfl⟩
abbrev JS.aL(st:JS)(i j:Nat):List (Int×Int):=jq (st.ag i) (st.ag j) (st.bP i) (st.bP j) (st.cB (st.ag i)) (st.cB (st.ag j))
def FR(ne:st.ag i≠st.ag j){x y:Int}(m:(x,y)∈st.aL i j):(∃z∈st.cB (st.ag i),ap (st.bP i) z=x)/\∃z∈st.cB (st.ag j),ap (st.bP j) z=y:=by
 unfold JS.aL jq at m;rw[if_neg ne] at m;obtain⟨x',mx,my⟩:=UE.mp m;obtain⟨z1,K6,K7⟩:=Yh.mp mx;obtain⟨z2,K8,yJ⟩:=Yh.mp my;exact⟨⟨z1,K6,K7.trans (congrArg (·.1) yJ)⟩,z2,K8,(congrArg (·.2) yJ)⟩
def QL(wf:WF n st)(hi:i<st.hd.length){x y:Int}(m:(x,y)∈st.aL i j):0<=x/\x<(n:Int):=by
 obtain⟨f1,l1⟩:=wf.kJ hi;by_cases e:st.ag i=st.ag j
 ·unfold JS.aL jq at m;rw[if_pos e] at m;obtain⟨z,mz,ez⟩:=Yh.mp m;have e1:ap (st.bP i) z=x:=congrArg (·.1) ez;rw[←e1];exact mn f1 l1 ((wf.dM hi).2.2 z mz)
 ·obtain⟨⟨z,mz,ez⟩,_⟩:=FR e m;rw[←ez];exact mn f1 l1 ((wf.dM hi).2.2 z mz)
def O9(wf:WF n st)(n8:n<=8)(hi:i<st.hd.length)(hj:j<st.hd.length):(st.aL i j).length<=64:=by
 have a:=Ee (wf.dM hi).2.1 (wf.dM hi).2.2;have b:=Ee (wf.dM hj).2.1 (wf.dM hj).2.2;unfold JS.aL jq;by_cases e:st.ag i=st.ag j;·grind
 ·rw[if_neg e,Gd (λ(x z:Int)=>((x,(st.bP j).getD z.toNat 0):Int×Int)),Ya];exact Y0 (Nat.mul_le_mul (show _<=8 by omega) (show _<=8 by omega)) (by omega)
def Zch(wf:WF n st)(hi:i<st.hd.length)(hj:j<st.hd.length)(e:st.ag i=st.ag j)(ms:∀x,x∈ns↔(x,ap tn x)∈st.aL i j)(f:Nat->Int):cH st f/\f i∈ns↔cH st f/\f j=ap tn (f i):=by
 refine and_congr_right λd=>?_;constructor
 ·intro m;have m':=(ms _).mp m;obtain⟨s,h⟩:=d;unfold JS.aL jq at m';rw[if_pos e] at m';obtain⟨z,mz,ez⟩:=Yh.mp m';have e2:ap (st.bP j) z=ap tn (f i):=congrArg (·.2) ez;obtain⟨f1,l1⟩:=wf.kJ hi;have fV:=(wf.dM hi).2.2;rw[(h j hj).2,←e,←(AE f1 l1 (fV z mz) (fV _ (h i hi).1) ((congrArg (·.1) ez).trans (h i hi).2)),e2]
 ·intro m;have:=uM wf hi hj d
  grind
def Zdw(wf:WF n st)(hi:i<st.hd.length)(hj:j<st.hd.length)(ne:st.ag i≠st.ag j){ma mb:List Nat}(nY:ma.Nodup)(iz:∀k,k∈ma↔k<st.hd.length/\st.ag k=st.ag i)(ft:full tn=true)(tl:tn.length=n)(ms:∀x,x∈ns↔(x,ap tn x)∈st.aL i j)(f:Nat->Int):
  cH (st.mv (st.ag j) (st.ag i) mb ma (bK (inv (st.bP i)) (bK (inv tn) (st.bP j)))) f/\f i∈ns↔cH st f/\f j=ap tn (f i):=by
 rw[O8 wf hi hj ne nY iz (jX ft) (by rw[fM];exact tl)];obtain⟨f1,l1⟩:=wf.kJ hi;obtain⟨f2,l2⟩:=wf.kJ hj;constructor
 ·rintro⟨⟨s,h,ef⟩,m⟩;obtain⟨⟨z,mz,ez⟩,_⟩:=FR ne ((ms _).mp m);have e1:=AE f1 l1 ((wf.dM hi).2.2 z mz) (h i hi).1 (ez.trans (h i hi).2.2);refine⟨⟨s,λk hk=>⟨?_,(h k hk).2.2⟩⟩,?_⟩;·grind
  ·have rj:0<=f j/\f j<(n:Int):=by rw[(h j hj).2.2];exact mn f2 l2 (h j hj).1
   rw[ef,O7 ft tl rj]
 ·rintro⟨d,e⟩;have m:=uM wf hi hj d;rw[e] at m;obtain⟨s,h⟩:=d;refine⟨⟨s,λk hk=>⟨(wf.dM hk).2.2 _ (h k hk).1,λ_=>(h k hk).1,(h k hk).2⟩,?_⟩,(ms _).mpr m⟩;have ri:0<=f i/\f i<(n:Int):=by rw[(h i hi).2];exact mn f1 l1 ((wf.dM hi).2.2 _ (h i hi).1)
  rw[e,uQ ft tl ri]
def Zdx(wf:WF n st)(hi:i<st.hd.length)(hj:j<st.hd.length)(ne:st.ag i≠st.ag j){ma mb:List Nat}(vS:mb.Nodup)(tP:∀k,k∈mb↔k<st.hd.length/\st.ag k=st.ag j)(ft:full tn=true)(tl:tn.length=n)(ms:∀x,x∈ns↔(x,ap tn x)∈st.aL i j)(f:Nat->Int):
  cH (st.mv (st.ag i) (st.ag j) ma mb (bK (inv (st.bP j)) (bK tn (st.bP i)))) f/\f i∈ns↔cH st f/\f j=ap tn (f i):=by
 rw[O8 wf hj hi (λz=>ne z.symm) vS tP ft tl];obtain⟨f2,l2⟩:=wf.kJ hj;constructor
 ·rintro⟨⟨s,h,ef⟩,m⟩;obtain⟨_,z,mz,ez⟩:=FR ne ((ms _).mp m);have e1:=AE f2 l2 ((wf.dM hj).2.2 z mz) (h j hj).1 ((ez.trans ef.symm).trans (h j hj).2.2);refine⟨⟨s,λk hk=>⟨?_,(h k hk).2.2⟩⟩,ef⟩
  grind
 ·rintro⟨d,e⟩;have m:=uM wf hi hj d;rw[e] at m;obtain⟨s,h⟩:=d;exact⟨⟨s,λk hk=>⟨(wf.dM hk).2.2 _ (h k hk).1,λ_=>(h k hk).1,(h k hk).2⟩,e⟩,(ms _).mpr m⟩
end
def r_(st aJ:JS)(i j:Nat):Prop:=∀a c,a<st.hd.length->c<st.hd.length->(aJ.ag a=aJ.ag c↔st.ag a=st.ag c\/(st.ag a=st.ag i/\st.ag c=st.ag j)\/(st.ag a=st.ag j/\st.ag c=st.ag i))
def Zci{st:JS}{i j:Nat}(e:st.ag i=st.ag j):r_ st st i j:=λa c _ _=>⟨.inl,λh=>h.elim id λh=>h.elim (λh=>h.1.trans (e.trans h.2.symm)) λh=>h.1.trans (e.symm.trans h.2.symm)⟩
def QM{n:Nat}{st:JS}(wf:WF n st){a b:Nat}{ma mb:List Nat}(im:∀k,k∈ma↔k<st.hd.length/\st.ag k=st.ag a)(a9:List Int)(ne:st.ag a≠st.ag b):r_ st (st.mv (st.ag b) (st.ag a) mb ma a9) a b:=λx y hx hy=>by
 rw[qu wf im a9 hx,qu wf im a9 hy]
 grind
def r_.symm{st aJ:JS}{i j:Nat}(h:r_ st aJ j i):r_ st aJ i j:=λa c ha hc=>(h a c ha hc).trans (or_congr Iff.rfl or_comm)
structure QN(n:Nat)(st aJ:JS)(b:Bool)(i j:Nat)(tn:List Int):Prop where
 wf:WF n aJ
 len:aJ.hd.length=st.hd.length
 yes:b=true->(∃f,cH aJ f)/\∀f,cH aJ f↔cH st f/\f j=ap tn (f i)
 no:b=false->aJ=st/\∀f,cH st f->f j≠ap tn (f i)
 hds:b=true->r_ st aJ i j
inductive RN(C:Addr)(vs:List V)(H:Hp)(Q:VK)(E:XK):Prop
 |mk (l:JL) (st:JS) (n i j:Nat) (tn:List Int) (tu:Addr) (aC:vs=[.ref l.J,.int (i:Int),.int (j:Int),.ref tu]) (aS:cL H C n l st) (bb:WF n st) (bL:(∃f,cH st f)) (cD:n<=8) (dB:st.hd.length<=400) (fD:i<st.hd.length) (ir:j<st.hd.length) (nP:H tu=some (.tup (tn.map V.int))) (vI:full tn=true) (ID:tn.length=n) (Sz:∀(b:Bool) (l':JL) (aJ:JS) (H':Hp),l'.J=l.J->(∀c∈l'.fp,c∈l.fp)->Out l.fp H H'->cL H' C n l' aJ->QN n st aJ b i j tn->Q (.bl b) H')
section
variable {K:ah}{mg:aQ}
def L5:aP ["self","one","other","turn","sections"] lD (aF EE):=.aX
theorem Zfe(F:aN K "tie" "Joins.tie" EE f fd)(jc:nB K C)(uj:cE P w K mg base 4 "left" C lD (G6 C))(ua:cE P w K mg base 1 "together" C pj (Fg C))(C2:cE P w K mg base 3 "bring_together" C lD (O4 C))(ub:cE P w K mg base 2 "narrow" C Bc (Gb K C))(bl:Bl mg):aE P w K mg base aM 5 f fd lD (RN C):=by
 refine F.o L5 λs H hr h=>?_;obtain⟨l,st,n,i,j,tn,tu,rfl,ja,wf,live,n8,m4,hi,hj,hu,ft,tl,q⟩:=h;refine⟨_,(aq (bU 4 L5.nd (cT uj hr (by omega) (pv 0) (aa (pv 1) (aa (pv 2) (aa (pv 3) ae))))) (aq (aV (j_ (FG (K:=K) rfl (F4 (pv 4) (λ_=>rfl)))) (av (aG jF)) aZ) (aq (aV (j_ (eY (cT ua hr (by omega) (pv 0) (aa (pv 1) (aa (pv 2) ae))))) (av (b_ (cT C2 hr (by omega) (pv 0) (aa (pv 1) (aa (pv 2) (aa (pv 3) ae)))))) aZ) (aq (b_ (cT ub hr (by omega) (pv 0) (aa (pv 1) (aa (pv 4) ae)))) (av (aG jF)))))),?_⟩;obtain⟨dx,ho⟩:=ja.obj;have pf:=O9 wf n8 hi hj;refine cz ?_;refine⟨_,rfl,l.J,dx,_,rfl,ho,rfl,_,rfl,_,rfl,_,rfl,l,st,n,i,j,_,_,_,_,_,_,tn,tu,rfl,ja,wf.one n8 hi,wf.one n8 hj,hu,λp hp=>by rw[tl];exact QL wf hi (x:=p.1) (y:=p.2) hp,Y0 pf (by omega),λp ns H1 np g1 hp pm _=>?_⟩;have ms:=N0 pm;refine qp (λσ H2=>σ=[some (.ref l.J),some (.int (i:Int)),some (.int (j:Int)),some (.ref tu),some (.ref p)]/\H2=H1/\ns≠[]) (λnx hn=>?_) ?_
 ·refine⟨_,rfl,_,.inl ⟨_,ak.of hp,rfl⟩,?_⟩;refine bJ (λc=>?_) (λc=>aY (hn _ _ ⟨rfl,rfl,λz=>?_⟩))
  ·have e:ns=[]:=by
    cases ns with
    |nil=>rfl
    |cons a r=>cases c
   refine q false l st H1 rfl (λ_ h=>h) (Out.of g1) (ja.same g1) ⟨wf,rfl,(λz=>nomatch z),λ_=>⟨rfl,λf d z=>?_⟩,(λz=>nomatch z)⟩;have m:=uM wf hi hj d;rw[z] at m;have:=(ms _).mpr m;rw[e] at this;cases this
  ·rw[z] at c;exact c rfl
 rintro _ _ ⟨rfl,rfl,nne⟩;refine qp (λσ H2=>σ=[some (.ref l.J),some (.int (i:Int)),some (.int (j:Int)),some (.ref tu),some (.ref p)]/\∃(l1:JL) (nZ:JS),l1.J=l.J/\(∀c∈l1.fp,c∈l.fp)/\Out l.fp H H2/\cL H2 C n l1 nZ/\H2 p=some (.lst (ns.map V.int))/\WF n nZ/\nZ.hd.length=st.hd.length/\(∀f,cH nZ f/\f i∈ns↔cH st f/\f j=ap tn (f i))/\r_ st nZ i j) (λnx hn=>?_) ?_
 ·refine⟨_,rfl,l.J,dx,_,rfl,g1 _ _ ho,rfl,_,rfl,_,rfl,l,st,n,i,j,_,_,rfl,ja.same g1,w_ hi,w_ hj,_,rfl,?_⟩;refine bJ (λc=>?_) (λc=>aY (hn _ _ ⟨rfl,l,st,rfl,λ_ h=>h,Out.of g1,ja.same g1,hp,wf,rfl,?_,?_⟩))
  ·have ne:st.ag i≠st.ag j:=λz=>by
    rw[decide_eq_true z] at c;cases c
   obtain⟨ma,mb,two,⟨nY,iz⟩,vS,tP⟩:=wf.two hi hj m4 ne;refine⟨_,rfl,l.J,dx,_,rfl,g1 _ _ ho,rfl,_,rfl,_,rfl,_,rfl,l,st,n,i,j,_,_,_,_,tn,_,_,tu,ma,mb,rfl,ja.same g1,g1 _ _ hu,n8,tl,ft,two,λl1 nZ H2 k1 k2 o2 j2 es=>hn _ _ ⟨rfl,l1,nZ,k1,k2,(Out.of g1).trans o2,j2,o2 _ _ hp (λz=>ja.ne np z),?_⟩⟩;obtain⟨fi,li⟩:=wf.kJ hi;obtain⟨fj,lj⟩:=wf.kJ hj;rcases es with rfl|rfl;·exact⟨wf.mv hi hj ne nY iz vS tP two.mB (qc (jX fi) (qc (jX ft) fj (by rw[fM];omega)) (by rw[fM,jk];omega)) (by rw[jk,jk];exact lj),xD _ _ _,λf=>Zdw wf hi hj ne nY iz ft tl ms f,QM wf iz _ ne⟩
   ·exact⟨wf.mv hj hi (λz=>ne z.symm) vS tP nY iz two.mA (qc (jX fj) (qc ft fi (by omega)) (by rw[fM,jk];omega)) (by rw[jk,jk];exact li),xD _ _ _,λf=>Zdx wf hi hj ne vS tP ft tl ms f,(QM wf tP _ (λz=>ne z.symm)).symm⟩
  ·have e:st.ag i=st.ag j:=by
    by_cases z:st.ag i=st.ag j;·exact z
    ·rw[decide_eq_false z] at c;exact absurd rfl c
   exact λf=>Zch wf hi hj e ms f
  ·have e:st.ag i=st.ag j:=by
    by_cases z:st.ag i=st.ag j;·exact z
    ·rw[decide_eq_false z] at c;exact absurd rfl c
   exact Zci e
 rintro _ H2 ⟨rfl,l1,nZ,k1,k2,o2,j2,dh,yK,SI,iff,hdj⟩;obtain⟨pN,qR⟩:=j2.obj;have Ct:i<nZ.hd.length:=by rw[SI];exact hi
 have fl:=yK.AR;refine⟨_,rfl,l1.J,pN,_,by rw[k1],qR,rfl,_,rfl,_,rfl,l1,nZ,n,i,_,_,_,ns,p,by rw[k1];rfl,j2,yK.one n8 Ct,by omega,ak.of dh,λl2 H3 k3 k4 o3 j3=>?_⟩;refine q true l2 _ H3 (k3.trans k1) (λc hc=>k2 c (by rw[←k4];exact hc)) (λb o e nb=>o3 _ _ (o2 _ _ e nb) λz=>nb (k2 b z)) j3 ⟨yK.lq Ct,SI,λ_=>⟨?_,λf=>?_⟩,(λz=>nomatch z),λ_=>hdj⟩
 ·obtain⟨x,mx⟩:∃x,x∈ns:=by
   cases ns with
   |nil=>exact absurd rfl nne
   |cons a r=>exact⟨a,Yo⟩
  obtain⟨f,d,e1,e2⟩:=Ge wf hi hj live ((ms x).mp mx);refine⟨f,(wF yK Ct ns f).mpr ((iff f).mpr ⟨d,?_⟩)⟩;rw[e2,e1]
 ·exact(wF yK Ct ns f).trans (iff f)
end
def nG(xs ys:List Int):Prop:=full xs=true/\full ys=true/\xs.length=ys.length/\2<=xs.length/\xs.length<=8
def Z3(g:nG xs ys)(h:(z,ns)∈AD xs ys):full ns=true/\ns.length=xs.length:=by
 obtain⟨fx,fy,e,_,_⟩:=g;have fa:=F_ fx fy e;simp only[Yp,Y3,or_false,Prod.mk.injEq] at h;rcases h with⟨rfl,rfl⟩|⟨rfl,rfl⟩|⟨rfl,rfl⟩|⟨rfl,rfl⟩|⟨rfl,rfl⟩|⟨rfl,rfl⟩|⟨rfl,rfl⟩;·exact⟨fx,rfl⟩
 ·exact⟨fa,by rw[rG];exact e.symm⟩
 ·exact⟨fy,e.symm⟩
 ·exact⟨jX fx,fM _⟩
 ·exact⟨jX fa,by rw[fM,rG];exact e.symm⟩
 ·exact⟨jX fy,by rw[fM];exact e.symm⟩
 ·exact⟨rO (List.Perm.refl _),eG _⟩
structure Fc where
 k:Str
 one:Nat
 aI:Int
 tn:List Int
abbrev bH:Str:="said"
def fR(F:List Fc)(x y:Nat)(t:List Int):Prop:=∃c∈F,c.k≠bH/\((c.one=x/\c.aI.toNat=y/\t=c.tn)\/(c.aI.toNat=x/\c.one=y/\t=inv c.tn))
def gf(n:Nat)(F:List Fc)(g:Nat->Option Int):Prop:=(∀x y t u,fR F x y t->g x=some u->g y=some (ap t u))/\(∀c∈F,c.k=bH->∀u,g c.one=some u->u=c.aI)/\∀k v,g k=some v->0<=v/\v<(n:Int)
structure dP(n m:Nat)(c:Fc):Prop where
 one:c.one<m
 hU:c.k≠bH->(0<=c.aI/\c.aI.toNat<m)/\full c.tn=true/\c.tn.length=n
def sQ(L:Nat->List (Nat×List Int))(x:Nat)(p:Nat×List Int):Nat->List (Nat×List Int):=λz=>if z=x then L x++[p] else L z
def uC{kvs:List (Key×V)}{k k':Key}{v:V}(h:aT kvs k=none):aT (kvs++[(k,v)]) k'=if k'=k then some v else aT kvs k':=by
 rw[←kU v h];exact ZbJ _ _ _ _
def N1:q∈sQ L x p z↔q∈L z\/(z=x/\q=p):=by
 unfold sQ;by_cases e:z=x
 ·rw[if_pos e,Yq,e];simp
 ·rw[if_neg e];simp[e]
def Zcj:¬fR [] x y t:=λ⟨_,m,_⟩=>nomatch m
def qf:fR (F++[c]) x y t↔fR F x y t\/(c.k≠bH/\((c.one=x/\c.aI.toNat=y/\t=c.tn)\/(c.aI.toNat=x/\c.one=y/\t=inv c.tn))):=by
 constructor
 ·rintro⟨c',m,h1,h2⟩;rcases Yq.mp m with m|m;·exact .inl ⟨c',m,h1,h2⟩
  ·rw[Yk] at m;subst m;exact .inr ⟨h1,h2⟩
 ·rintro(⟨c',m,h⟩|h);·exact⟨c',Yt _ m,h⟩
  ·exact⟨c,Yr _ Yo,h⟩
theorem lookup_mem:∀{ps:List (Nat×α)} {k:Nat} {v:α},ps.lookup k=some v->(k,v)∈ps
 |[],_,_,h=>by simp at h
 |p::ps,k,v,h=>by
  rw[Wz] at h;by_cases e:k=p.1;·grind
  ·rw[beq_eq_false_iff_ne.mpr e] at h;exact Yw _ (lookup_mem h)
theorem mem_lookup:∀{ps:List (Nat×α)} {k:Nat} {v:α},(ps.map (·.1)).Nodup->(k,v)∈ps->ps.lookup k=some v
 |p::ps,k,v,nd,h=>by
  obtain⟨n1,n2⟩:=Yz.mp (show(p.1::ps.map (·.1)).Nodup from nd);rw[Wz];rcases Yp.mp h with h|h;·grind
  ·have e:k≠p.1:=λz=>n1 (by rw[←z];exact Yh.mpr ⟨_,h,rfl⟩);rw[beq_eq_false_iff_ne.mpr e];exact mem_lookup n2 h
def zE{α:Type}{ps:List (Nat×α)}{q:Nat×α}{k:Nat}{v:α}(h:ps.lookup k=some v):(ps++[q]).lookup k=some v:=by
 grind
def MF{α:Type}{ps:List (Nat×α)}{k:Nat}{v:α}(h:ps.lookup k=none):(ps++[(k,v)]).lookup k=some v:=by
 grind
def xf(ok:∀c∈F,dP n m c)(e:fR F x y t):x<m/\y<m/\full t=true/\t.length=n:=by
 obtain⟨c,mc,ns,h⟩:=e;obtain⟨⟨o0,om⟩,ft,tl⟩:=(ok c mc).hU ns;have o1:=(ok c mc).one;rcases h with⟨rfl,rfl,rfl⟩|⟨rfl,rfl,rfl⟩;·grind
 ·exact⟨om,o1,jX ft,by rw[fM];exact tl⟩
inductive dF(F:List Fc)(x:Nat):Nat->Prop
 |refl:dF F x x
 |step {y z:Nat} {t:List Int}:dF F x y->fR F y z t->dF F x z
structure BF(F:List Fc)(n m x:Nat)(a:Int)(g:List (Nat×Int)):Prop where
 nd:(g.map (·.1)).Nodup
 lt:∀p∈g,p.1<m/\0<=p.2/\p.2<(n:Int)
 hd:g.lookup x=some a
 snd:∀g',gf n F g'->g' x=some a->∀p∈g,g' p.1=some p.2
 conn:∀p∈g,dF F x p.1
section
variable {F:List Fc}{n m x:Nat}{a:Int}{g:List (Nat×Int)}
def bf0(hx:x<m)(ha:0<=a/\a<(n:Int)):BF F n m x a [(x,a)]:=by
 refine⟨by simp,λp hp=>?_,by simp,λg' _ h p hp=>?_,λp hp=>?_⟩;·grind
 ·grind
 ·rw[Yk] at hp;rw[hp];exact .refl
def BF.len(b:BF F n m x a g):g.length<=m:=by
 have:=wA b.nd λk hk=>by
  obtain⟨p,hp,rfl⟩:=Yh.mp hk;exact(b.lt p hp).1
 grind
def BF.add(b:BF F n m x a g)(ok:∀c∈F,dP n m c){k y:Nat}{t:List Int}{v:Int}(e:fR F k y t)(hk:g.lookup k=some v)(hy:g.lookup y=none):BF F n m x a (g++[(y,ap t v)]):=by
 obtain⟨_,ym,ft,tl⟩:=xf ok e;have mk:=lookup_mem hk;refine⟨?_,λp hp=>?_,zE b.hd,λg' c h p hp=>?_,λp hp=>?_⟩
 ·rw[Ym];refine Wv.mpr ⟨b.nd,by simp,λu hu w hw z=>?_⟩
  grind
 ·rcases Yq.mp hp with hp|hp;·exact b.lt p hp
  ·rw[Yk] at hp;rw[hp];exact⟨ym,mn ft tl (b.lt _ mk).2⟩
 ·rcases Yq.mp hp with hp|hp;·exact b.snd g' c h p hp
  ·rw[Yk] at hp;rw[hp];exact c.1 k y t v e (b.snd g' c h _ mk)
 ·rcases Yq.mp hp with hp|hp;·exact b.conn p hp
  ·rw[Yk] at hp;rw[hp];exact .step (b.conn _ mk) e
def BF.Zf_(b:BF F n m x a g)(e:fR F k y t)(hk:g.lookup k=some v)(hy:g.lookup y=some v')(ne:v'≠ap t v):¬∃g',gf n F g'/\g' x=some a:=by
 rintro⟨g',c,h⟩;have h2:=b.snd g' c h _ (lookup_mem hy);have h3:=c.1 k y t v e (b.snd g' c h _ (lookup_mem hk))
 grind
def BF.Zff(b:BF F n m x a g)(mc:c∈F)(sd:c.k=bH)(hk:g.lookup c.one=some v)(ne:v≠c.aI):¬∃g',gf n F g'/\g' x=some a:=by
 rintro⟨g',cl,h⟩;exact ne (cl.2.1 c mc sd v (b.snd g' cl h _ (lookup_mem hk)))
def Cl(L:Nat->List (Nat×List Int))(g:List (Nat×Int))(r:Nat):Prop:=∀p,g[r]?=some p->∀q∈L p.1,g.lookup q.1=some (ap q.2 p.2)
def BF.done(b:BF F n m x a g)(ed:∀x y t,(y,t)∈L x↔fR F x y t)(cl:∀r,r<g.length->Cl L g r)(sd:∀c∈F,c.k=bH->∀u,g.lookup c.one=some u->u=c.aI):gf n F (λk=>g.lookup k):=by
 refine⟨λk y t u e hk=>?_,sd,λk v h=>(b.lt _ (lookup_mem h)).2⟩;obtain⟨r,hr,er⟩:=Ws.mp (lookup_mem hk);have:=cl r hr (k,u) (by rw[Yc hr,er]) (y,t) ((ed _ _ _).mpr e);exact this
end
def zt{α:Type}{ps qs:List (Nat×α)}{k:Nat}{v:α}(h:ps.lookup k=some v):(ps++qs).lookup k=some v:=by
 grind
def Cl.app(hr:r<g.length)(c:Cl L g r):Cl L (g++tl) r:=λp hp q hq=>by
 rw[We hr] at hp;exact zt (c p hp q hq)
open Classical in
noncomputable def ic (F:List Fc) (n x:Nat):List Int:=(bp n).filter λa=>decide (∃g,gf n F g/\g x=some a)
def eU(f:Nat->Int)(c:Fc):Prop:=(c.k=bH->f c.one=c.aI)/\(c.k≠bH->f c.aI.toNat=ap c.tn (f c.one))
def lQ(n m:Nat)(f:Nat->Int):Prop:=∀i,i<m->0<=f i/\f i<(n:Int)
structure du(n:Nat)(st:JS)(F:List Fc):Prop where
 wf:WF n st
 hV:∀c∈F,dP n st.hd.length c
 iff:∀f,cH st f↔lQ n st.hd.length f/\∀c∈F,eU f c
 live:∃f,cH st f
 conn:∀i j,i<st.hd.length->j<st.hd.length->(st.ag i=st.ag j↔dF F i j)
def LZ{f:Nat->Int}(ok:∀c∈F,dP n m c)(inr:lQ n m f)(sat:∀c∈F,eU f c):∃g,gf n F g/\∀x,x<m->g x=some (f x):=by
 refine⟨λi=>if i<m then some (f i) else none,⟨λu v t a e hu=>?_,λc mc sd u hu=>?_,λk v hk=>?_⟩,λx hx=>if_pos hx⟩
 ·obtain⟨um,vm,_,_⟩:=xf ok e;obtain⟨c,mc,ns,h⟩:=e;have s:=(sat c mc).2 ns;obtain⟨_,ft,tl⟩:=(ok c mc).hU ns;have e1:f u=a:=by
   grind
  show(if v<m then some (f v) else none)=_;rw[if_pos vm];rcases h with⟨rfl,rfl,rfl⟩|⟨rfl,rfl,rfl⟩;·rw[s,e1]
  ·rw[←e1,s,uQ ft tl (inr _ (ok c mc).one)]
 ·have yH:(if c.one<m then some (f c.one) else none)=some u:=hu;rw[if_pos (ok c mc).one] at yH;rw[←Yn yH];exact(sat c mc).1 sd
 ·have Cu:(if k<m then some (f k) else none)=some v:=hk;by_cases z:k<m
  ·rw[if_pos z] at Cu;rw[←Yn Cu];exact inr k z
  ·grind
def XQ{f:Nat->Int}(ok:∀c∈F,dP n m c)(hx:x<m)(inr:lQ n m f)(sat:∀c∈F,eU f c):∃g,gf n F g/\g x=some (f x):=by
 obtain⟨g,c,h⟩:=LZ ok inr sat
 grind
theorem D1(ok:∀c∈F,dP n m c)(inr:lQ n m f0)(sat:∀c∈F,c.one=x\/eU f0 c)(cl:gf n F g)(hx:g x=some a):∃f,lQ n m f/\(∀c∈F,eU f c)/\f x=a/\∀i,f i=(g i).getD (f0 i):=by
 refine⟨λi=>(g i).getD (f0 i),λi hi=>?_,λc mc=>⟨λsd=>?_,λns=>?_⟩,by show(g x).getD _=a;rw[hx];rfl,λ_=>rfl⟩
 ·show 0<=(g i).getD (f0 i)/\(g i).getD (f0 i)<_;cases e:g i with
  |none=>exact inr i hi
  |some v=>exact cl.2.2 i v e
 ·show(g c.one).getD (f0 c.one)=_;cases e:g c.one with
  |none=>
   rcases sat c mc with h|h;·grind
   ·exact h.1 sd
  |some v=>exact cl.2.1 c mc sd v e
 ·show(g c.aI.toNat).getD (f0 c.aI.toNat)=ap c.tn ((g c.one).getD (f0 c.one));have ed1:fR F c.one c.aI.toNat c.tn:=⟨c,mc,ns,.inl ⟨rfl,rfl,rfl⟩⟩;have ed2:fR F c.aI.toNat c.one (inv c.tn):=⟨c,mc,ns,.inr ⟨rfl,rfl,rfl⟩⟩;cases e:g c.one with
  |some v=>
   rw[cl.1 _ _ _ v ed1 e];rfl
  |none=>
   have e2:g c.aI.toNat=none:=by
    cases z:g c.aI.toNat with
    |none=>rfl
    |some v=>rw[cl.1 _ _ _ v ed2 z] at e;cases e
   rw[e2];rcases sat c mc with h|h;·grind
   ·exact h.2 ns
def L6(ok:∀c∈F,dP n m c)(inr:lQ n m f0)(sat:∀c∈F,c.one=x\/eU f0 c)(cl:gf n F g)(hx:g x=some a):∃f,lQ n m f/\(∀c∈F,eU f c)/\f x=a:=by
 obtain⟨f,h1,h2,h3,_⟩:=D1 ok inr sat cl hx
 grind
open Classical in
def FT:a∈ic F n x↔(0<=a/\a<(n:Int))/\∃g,gf n F g/\g x=some a:=by
 unfold ic;rw[Y5,decide_eq_true_iff];refine and_congr_left λ_=>?_;unfold bp;rw[Yh];constructor
 ·rintro⟨i,hi,rfl⟩;have:=Wg.mp hi;omega
 ·intro h;exact⟨a.toNat,Wg.mpr (by omega),Jw h.1⟩
section
variable {n x:Nat}{st:JS}{F:List Fc}
def du.room(me:du n st F)(hx:x<st.hd.length)(a:Int):a∈ic F n x↔∃f,cH st f/\f x=a:=by
 rw[FT];constructor
 ·rintro⟨_,g,cl,h⟩;obtain⟨f0,d0⟩:=me.live;obtain⟨i0,s0⟩:=(me.iff f0).mp d0;obtain⟨f,i1,s1,e⟩:=L6 me.hV i0 (λc mc=>.inr (s0 c mc)) cl h;exact⟨f,(me.iff f).mpr ⟨i1,s1⟩,e⟩
 ·rintro⟨f,d,rfl⟩;obtain⟨i1,s1⟩:=(me.iff f).mp d;exact⟨i1 x hx,XQ me.hV hx i1 s1⟩
def du.put(me:du n st F)(ok:dP n st.hd.length c)(wf':WF n aJ)(len:aJ.hd.length=st.hd.length)(live:∃f,cH aJ f)(iff:∀f,cH aJ f↔cH st f/\eU f c)(cn:∀i j,i<st.hd.length->j<st.hd.length->(aJ.ag i=aJ.ag j↔dF (F++[c]) i j)):du n aJ (F++[c]):=by
 refine⟨wf',λc' m'=>?_,λf=>?_,live,by rw[len];exact cn⟩
 ·rw[len];rcases Yq.mp m' with m'|m';·exact me.hV c' m'
  ·grind
 ·rw[iff,me.iff,len,and_assoc]
  grind
def z6(F:List Fc)(n x:Nat):(ic F n x).Pairwise (·<=·)/\(ic F n x).Nodup:=by
 have pw:(bp n).Pairwise (·<=·):=by
  unfold bp;rw[W1];exact List.pairwise_lt_range.imp λh=>by omega
 exact⟨pw.filter _,(BY.EX n).filter _⟩
def kW(hi:i<st.hd.length):(st.more n).ag i=st.ag i:=by
 show(st.hd++[_]).getD i 0=st.hd.getD i 0
 grind
def oC:(st.more n).ag st.hd.length=st.hd.length:=by
 show(st.hd++[_]).getD _ 0=_;simp
def N3(wf:WF n st)(hi:i<st.hd.length):(st.more n).bP i=st.bP i:=by
 show(st.ld++[_]).getD i []=st.ld.getD i [];rw[Yf,We (by rw[wf.ll];exact hi),←Yf]
def Ni(wf:WF n st):(st.more n).bP st.hd.length=bp n:=by
 show(st.ld++[_]).getD _ []=_;rw[←wf.ll];simp
theorem EI{α:Type}{ps:List (Nat×α)}{k:Nat}{v:α}(h:k∉ps.map (·.1)):(ps++[(k,v)]).lookup k=some v:=by
 refine MF ?_;cases e:ps.lookup k with
 |none=>rfl
 |some x=>exact absurd (Fi e) h
def jg:(st.more n).hd.length=st.hd.length+1:=by
 show(st.hd++[_]).length=_;simp
def Za4(n:Nat):full (bp n)=true/\(bp n).length=n:=⟨rO (List.Perm.refl (bp n)),eG n⟩
def O_(h:0<=z/\z<(n:Int)):ap (bp n) z=z:=by
 show(bp n).getD z.toNat 0=z;rw[Yf,lY (by omega)]
 grind
def Gf:z∈bp n↔0<=z/\z<(n:Int):=by
 unfold bp;rw[Yh];constructor;·grind
 ·intro h;exact⟨z.toNat,Wg.mpr (by omega),Jw h.1⟩
def WF.xY(wf:WF n st)(hi:i<st.hd.length):st.ag i<st.hd.length:=wf.lf _ (Fi (wf.dM hi).1)
def WF.more(wf:WF n st):WF n (st.more n):=by
 have nm:st.hd.length∉st.mem.map (·.1):=λz=>Wc _ (wf.lm _ z);have nf:st.hd.length∉st.fr.map (·.1):=λz=>Wc _ (wf.lf _ z);have km:(st.more n).mem.map (·.1)=st.mem.map (·.1)++[st.hd.length]:=by
  show(st.mem++[(st.hd.length,[st.hd.length])]).map (·.1)=_;rw[Ym];rfl
 have kf:(st.more n).fr.map (·.1)=st.fr.map (·.1)++[st.hd.length]:=by
  show(st.fr++[(st.hd.length,bp n)]).map (·.1)=_;rw[Ym];rfl
 have nd:∀{xs:List Nat},xs.Nodup->st.hd.length∉xs->(xs++[st.hd.length]).Nodup:=λ{xs} h h'=>Wv.mpr ⟨h,by simp,λu hu w hw z=>by
  have:w=st.hd.length:=by simpa using hw
  rw[z,this] at hu;exact h' hu⟩
 refine⟨?_,λt ht=>?_,λi hi=>?_,λi hi=>?_,?_,?_,?_,?_,?_⟩
 ·show(st.ld++[_]).length=(st.hd++[_]).length;rw[Yi,Yi,wf.ll];rfl
 ·rcases Yq.mp (show t∈st.ld++[_] from ht) with h|h;·exact wf.fl t h
  ·rw[Yk] at h;rw[h];exact Za4 n
 ·rw[jg] at hi;by_cases z:i=st.hd.length
  ·rw[z,oC];exact⟨bp n,EI nf,BY.EX n,λz hz=>Gf.mp hz⟩
  ·rw[kW (by omega)];exact⟨_,zE (wf.dM (i:=i) (by omega)).1,(wf.dM (i:=i) (by omega)).2⟩
 ·rw[jg] at hi;by_cases z:i=st.hd.length
  ·rw[z,oC];refine⟨[st.hd.length],EI nm,by simp,λk=>?_⟩;rw[Yk,jg];constructor
   ·rintro rfl;exact⟨by omega,oC⟩
   ·rintro⟨h1,h2⟩;by_cases w:k=st.hd.length;·exact w
    ·rw[kW (by omega)] at h2;have:=wf.xY (i:=k) (by omega);omega
  ·obtain⟨ms,e,a,b⟩:=wf.mem i (by omega);rw[kW (by omega)];refine⟨ms,zE e,a,λk=>?_⟩;rw[b,jg];constructor
   ·rintro⟨h1,h2⟩;exact⟨by omega,by rw[kW h1];exact h2⟩
   ·rintro⟨h1,h2⟩;by_cases w:k=st.hd.length
    ·rw[w,oC] at h2;have:=wf.xY (i:=i) (by omega);omega
    ·rw[kW (by omega)] at h2;exact⟨by omega,h2⟩
 ·rw[km];exact nd wf.nm nm
 ·rw[km,jg];intro k hk;rcases Yq.mp hk with h|h;·have:=wf.lm k h;omega
  ·rw[Yk] at h;omega
 ·rw[kf];exact nd wf.nf nf
 ·rw[kf,jg];intro k hk;rcases Yq.mp hk with h|h;·have:=wf.lf k h;omega
  ·rw[Yk] at h;omega
 ·rw[kf,jg];intro k hk;rcases Yq.mp hk with h|h
  ·obtain⟨i,hi,e⟩:=wf.hf k h;exact⟨i,by omega,by rw[kW hi];exact e⟩
  ·rw[Yk] at h;exact⟨st.hd.length,by omega,by rw[oC,h]⟩
def Nj(wf:WF n st)(f:Nat->Int):cH (st.more n) f↔cH st f/\(0<=f st.hd.length/\f st.hd.length<(n:Int)):=by
 have yL:(st.more n).cB st.hd.length=bp n:=by
  show((st.fr++[(st.hd.length,bp n)]).lookup st.hd.length).getD []=_;rw[EI (λz=>Wc _ (wf.lf _ z))];rfl
 have UG:∀i,i<st.hd.length->(st.more n).cB (st.ag i)=st.cB (st.ag i):=λi hi=>by
  show((st.fr++[(st.hd.length,bp n)]).lookup _).getD []=_;rw[zE (wf.dM hi).1];rfl
 constructor
 ·rintro⟨s,h⟩;refine⟨⟨s,λi hi=>?_⟩,?_⟩
  ·have x:=h i (by rw[jg];omega);rw[kW hi,N3 wf hi,UG i hi] at x;exact x
  ·have x:=h st.hd.length (by rw[jg];omega);rw[oC,Ni wf,yL] at x;have b:=Gf.mp x.1;rw[x.2,O_ b];exact b
 ·rintro⟨⟨s,h⟩,b⟩;refine⟨λq=>if q=st.hd.length then f st.hd.length else s q,λi hi=>?_⟩;rw[jg] at hi;by_cases z:i=st.hd.length
  ·rw[z,oC,Ni wf,yL];show(if st.hd.length=st.hd.length then _ else _)∈_/\f st.hd.length=ap _ (if st.hd.length=st.hd.length then _ else _);rw[if_pos rfl,O_ b];exact⟨Gf.mpr b,rfl⟩
  ·have iy:i<st.hd.length:=by omega
   have:=wf.xY iy;rw[kW iy,N3 wf iy,UG i iy]
   grind
theorem Zdy(ok:∀c∈F,dP n m c)(h:dF F x y)(hx:x<m):y<m:=by
 cases h with
 |refl=>exact hx
 |step _ e=>exact(xf ok e).2.1
theorem du.more(me:du n st F)(n0:0<n):du n (st.more n) F:=by
 refine⟨me.wf.more,λc mc=>?_,λf=>?_,?_,λi j hi hj=>?_⟩
 ·have ok:=me.hV c mc;rw[jg];exact⟨Wu ok.one,λns=>⟨⟨(ok.hU ns).1.1,Wu (ok.hU ns).1.2⟩,(ok.hU ns).2⟩⟩
 ·rw[Nj me.wf,me.iff,jg];constructor
  ·rintro⟨⟨h1,h2⟩,h3⟩;refine⟨λi hi=>?_,h2⟩;by_cases z:i=st.hd.length;·rw[z];exact h3
   ·exact h1 i (by omega)
  ·rintro⟨h1,h2⟩;exact⟨⟨λi hi=>h1 i (by omega),h2⟩,h1 _ (by omega)⟩
 ·obtain⟨f0,s,h⟩:=me.live;refine⟨λi=>if i=st.hd.length then 0 else f0 i,(Nj me.wf _).mpr ⟨⟨s,λi hi=>?_⟩,?_⟩⟩;·grind
  ·grind
 ·rw[jg] at hi hj;by_cases zi:i=st.hd.length
  ·by_cases zj:j=st.hd.length;·rw[zi,zj];exact⟨λ_=>.refl,λ_=>rfl⟩
   ·rw[zi,oC,kW (by omega)];have:=me.wf.xY (i:=j) (by omega);refine⟨λz=>by omega,λz=>?_⟩;have b:∀{k:Nat},dF F st.hd.length k->k=st.hd.length:=λ{k} h=>by
     induction h with
     |refl=>rfl
     |step _ e ih=>rw[ih] at e;exact absurd (xf me.hV e).1 (Wc _)
    exact absurd (b z) zj
  ·by_cases zj:j=st.hd.length
   ·rw[zj,oC,kW (by omega)];have:=me.wf.xY (i:=i) (by omega);refine⟨λz=>by omega,λz=>?_⟩;have:=Zdy me.hV z (by omega);omega
   ·rw[kW (by omega),kW (by omega)];exact me.conn i j (by omega) (by omega)
def Zga:du n ⟨[],[],[],[]⟩ []:=⟨wf0,λ_ h=>(nomatch h),λf=>⟨λ_=>⟨λ_ h=>absurd h (Wk _),λ_ h=>(nomatch h)⟩,λ_=>⟨λ_=>0,λ_ h=>absurd h (Wk _)⟩⟩,⟨λ_=>0,λ_=>0,λ_ h=>absurd h (Wk _)⟩,λ_ _ h=>absurd h (Wk _)⟩
end
theorem dF.mono(h:∀x y t,fR F x y t->fR G x y t)(c:dF F x y):dF G x y:=by
 induction c with
 |refl=>exact .refl
 |step _ e ih=>exact .step ih (h _ _ _ e)
theorem dF.trans(c:dF F x y)(d:dF F y z):dF F x z:=by
 induction d with
 |refl=>exact c
 |step _ e ih=>exact .step ih e
def Za5(h:c.k=bH):dF (F++[c]) x y↔dF F x y:=
 ⟨dF.mono λ_ _ _ e=>(qf.mp e).elim id λz=>absurd h z.1,dF.mono λ_ _ _ e=>qf.mpr (.inl e)⟩
theorem Zck(h:c.k≠bH):dF (F++[c]) x y↔dF F x y\/(dF F x c.one/\dF F c.aI.toNat y)\/(dF F x c.aI.toNat/\dF F c.one y):=by
 have up:∀{x y:Nat},dF F x y->dF (F++[c]) x y:=λd=>d.mono λ_ _ _ e=>qf.mpr (.inl e);have e1:fR (F++[c]) c.one c.aI.toNat c.tn:=qf.mpr (.inr ⟨h,.inl ⟨rfl,rfl,rfl⟩⟩);have e2:fR (F++[c]) c.aI.toNat c.one (inv c.tn):=qf.mpr (.inr ⟨h,.inr ⟨rfl,rfl,rfl⟩⟩);constructor
 ·intro d;induction d with
  |refl=>exact .inl .refl
  |step _ e ih=>
   rcases qf.mp e with e|⟨_,⟨rfl,rfl,_⟩|⟨rfl,rfl,_⟩⟩
   ·rcases ih with a|⟨a,b⟩|⟨a,b⟩;·exact .inl (.step a e)
    ·exact .inr (.inl ⟨a,.step b e⟩)
    ·exact .inr (.inr ⟨a,.step b e⟩)
   ·rcases ih with a|⟨a,b⟩|⟨a,b⟩;·exact .inr (.inl ⟨a,.refl⟩)
    ·exact .inr (.inl ⟨a,.refl⟩)
    ·exact .inl a
   ·rcases ih with a|⟨a,b⟩|⟨a,b⟩;·exact .inr (.inr ⟨a,.refl⟩)
    ·exact .inl a
    ·exact .inr (.inr ⟨a,.refl⟩)
 ·rintro(a|⟨a,b⟩|⟨a,b⟩);·exact up a
  ·exact((up a).step e1).trans (up b)
  ·exact((up a).step e2).trans (up b)
section
variable {n i j:Nat}{st eM:JS}{F:List Fc}{k:Str}{tn:List Int}{b:Bool}
def Zcl(me:du n st F)(to:QN n st eM b i j tn)(hk:k≠bH)(ok:dP n st.hd.length ⟨k,i,(j:Int),tn⟩):(b=true->du n eM (F++[⟨k,i,(j:Int),tn⟩]))/\(b=false->du n eM F/\∀f,cH eM f->¬eU f ⟨k,i,(j:Int),tn⟩):=by
 have sat:∀f,eU f ⟨k,i,(j:Int),tn⟩↔f j=ap tn (f i):=λf=>⟨λh=>by have:=h.2 hk;rwa [show((⟨k,i,(j:Int),tn⟩:Fc).aI.toNat)=j from Y6 j] at this,λh=>⟨λz=>absurd z hk,λ_=>by rw[show((⟨k,i,(j:Int),tn⟩:Fc).aI.toNat)=j from Y6 j];exact h⟩⟩;refine⟨λe=>?_,λe=>?_⟩
 ·obtain⟨lv,iff⟩:=to.yes e;have hi:i<st.hd.length:=ok.one;have hj:j<st.hd.length:=by
   have:=(ok.hU hk).1.2
   rwa [show((⟨k,i,(j:Int),tn⟩:Fc).aI.toNat)=j from Y6 j] at this
  refine me.put ok to.wf to.len lv (λf=>by rw[iff,sat]) λx y hx hy=>?_;rw[to.hds e x y hx hy,Zck (c:=⟨k,i,(j:Int),tn⟩) hk,show((⟨k,i,(j:Int),tn⟩:Fc).aI.toNat)=j from Y6 j,me.conn x y hx hy,me.conn x i hx hi,me.conn x j hx hj,←me.conn j y hj hy,←me.conn i y hi hy];exact or_congr_right (or_congr (and_congr_right λ_=>eq_comm) (and_congr_right λ_=>eq_comm))
 ·obtain⟨es,no⟩:=to.no e;rw[es];exact⟨me,λf d z=>no f d ((sat f).mp z)⟩
def Pa(me:du n st F)(hi:i<st.hd.length)(m:a∈(st.cB (st.ag i)).map λz=>(st.bP i).getD z.toNat 0):du n (st.lq (st.ag i) ((st.cB (st.ag i)).filter λz=>decide ((st.bP i).getD z.toNat 0∈[a]))) (F++[⟨bH,i,a,tn⟩]):=by
 refine me.put (c:=⟨bH,i,a,tn⟩) ⟨hi,λz=>absurd rfl z⟩ (me.wf.lq hi) rfl ?_ (λf=>?_) λx y hx hy=>?_
 ·obtain⟨z,mz,rfl⟩:=Yh.mp m;obtain⟨f0,d0⟩:=me.live;obtain⟨f,d,q⟩:=FQ me.wf d0 (st.ag i) (st.ag i) z z mz mz (λ_=>rfl);exact⟨f,(wF me.wf hi _ f).mpr ⟨d,by rw[(q i hi).1 rfl];exact Yo⟩⟩
 ·rw[wF me.wf hi,Yk];refine and_congr_right λ_=>?_;exact⟨λh=>⟨λ_=>h,λz=>absurd rfl z⟩,λh=>h.1 rfl⟩
 ·rw[Za5 rfl];exact me.conn x y hx hy
def Zfg(me:du n st F)(hi:i<st.hd.length)(m:a∉(st.cB (st.ag i)).map λz=>(st.bP i).getD z.toNat 0)(f:Nat->Int)(d:cH st f):¬eU f ⟨bH,i,a,tn⟩:=by
 obtain⟨s,h⟩:=d;intro z;have e:f i=a:=z.1 rfl;refine m (Yh.mpr ⟨s (st.ag i),(h i hi).1,?_⟩);rw[←e,(h i hi).2];rfl
end
abbrev bA:=List (Str×Str)
def au(ps:bA)(i:Nat):Str:=(ps.getD i ("","")).1
def bo(ps:bA)(c:Fc):Key:=if c.k=bH then .inl c.aI else .inr (au ps c.aI.toNat)
def dZ(ps:bA)(z:Nat)(c:Fc):List Key:=[.inl (z:Int),.inr c.k,.inr (au ps c.one),bo ps c]
def keyOf(k a:Str):Key->List Key
 |.inl b=>[.inr k,.inr a,.inl b]
 |.inr b=>if k="sibling" then[.inr k,.inr (L2.qA a b),.inr (L2.qB a b)] else[.inr k,.inr a,.inr b]
def fG(ps:bA)(c:Fc):List Key:=keyOf c.k (au ps c.one) (bo ps c)
def cO(k:Str):Bool:=decide (k="mother")||decide (k="father")
def fH(ps:bA)(fs:List (Nat×Fc)):List (List Key×V):=fs.map λp=>(fG ps p.2,.int (p.1:Int))
def cj(ps:bA)(fs:List (Nat×Fc)):List (List Key×V):=(fs.filter λp=>cO p.2.k).map λp=>([.inr p.2.k,.inr (au ps p.2.one)],kV (bo ps p.2))
def i4(ps:bA):List (Key×V):=ps.zipIdx.map λp=>(.inr p.1.1,.int (p.2:Int))
structure Bf where
 way:Int
 row:List Key
 c0:Nat
 c1:Nat
def nC(H:Hp)(a:Addr)(d:Bf):Prop:=∃r,H a=some (.tup [.int d.way,.ref r,.int (d.c0:Int),.int (d.c1:Int)])/\H r=some (.tup (d.row.map kV))
structure BS where
 ps:bA
 fs:List (Nat×Fc)
 co:Nat
 dn:List Bf
 un:List Bf
def BS.F(b:BS):List Fc:=b.fs.map (·.2)
structure BL where
 h:Addr
 L:Addr
 sd:Addr
 pl:Addr
 fc:Addr
 kn:Addr
 pr:Addr
 dn:Addr
 un:Addr
 rk:V
 bV:List Addr
 iC:List Addr
 kK:List Addr
 eF:List Addr
def BL.own(l:BL):List Addr:=[l.h,l.sd,l.pl,l.fc,l.kn,l.pr,l.dn,l.un]
def BL.fp(l:BL):List Addr:=l.own++l.eF
structure fO(K:ah)(C:Addr):Prop where
 cls:fU K C
 uV:de K C "land"
 rR:de K C "sides"
 qg:de K C "places"
 uR:de K C "facts"
 An:de K C "known"
 uH:de K C "parents"
 qh:de K C "coming"
 QO:de K C "done"
 N4:de K C "undone"
 iF:de K C "reckoned"
abbrev HF(L sd pl fc kn pr:Addr)(co:Int)(dn un:Addr)(rk:V):List (Str×V):=[("land",.ref L),("sides",.ref sd),("places",.ref pl),("facts",.ref fc),("known",.ref kn),("parents",.ref pr),("coming",.int co),("done",.ref dn),("undone",.ref un),("reckoned",rk)]
def Zg3(a b c d e f g h i j:V):cK "reckoned" j (cK "undone" i (cK "done" h (cK "coming" g (cK "parents" f (cK "known" e (cK "facts" d (cK "places" c (cK "sides" b (cK "land" a [])))))))))=
  ([("land",a),("sides",b),("places",c),("facts",d),("known",e),("parents",f),("coming",g),("done",h),("undone",i),("reckoned",j)]:List (Str×V)):=rfl
abbrev gw(ps:bA):List (Key×V):=ps.map λp=>(.inr p.1,.str p.2)
inductive sR(H:Hp)(CJ:Addr)(n:Nat)(l:BL)(b:BS):Prop
 |no (e1:l.rk=.az) (e2:l.eF=[])
 |at_ (jl:JL) (st:JS) (e1:l.rk=.ref jl.J) (e2:l.eF=jl.fp) (ja:cL H CJ n jl st) (me:du n st b.F) (len:st.hd.length=b.ps.length) (fX:∀a∈l.own,a∉jl.fp)
structure bh(H:Hp)(C CL CJ:Addr)(l:BL)(xs ys:List Int)(b:BS):Prop where
 obj:∃dx,H l.h=some (.ins C dx (HF l.L l.sd l.pl l.fc l.kn l.pr (b.co:Int) l.dn l.un l.rk))
 land:∀H',Out l.fp H H'->iM H' CL l.L xs ys
 c8:H l.sd=some (.dK (gw b.ps))
 places:H l.pl=some (.dK (i4 b.ps))
 facts:H l.fc=some (.dK (bB (b.fs.map (·.1)) l.bV))
 fact:Paired (λa (p:Nat×Fc)=>H a=some (.tup ((dZ b.ps p.1 p.2).map kV))) l.bV b.fs
 known:H l.kn=some (.dT (fH b.ps b.fs))
 parents:H l.pr=some (.dT (cj b.ps b.fs))
 done:H l.dn=some (.lst (l.iC.map V.ref))
 lE:Paired (nC H) l.iC b.dn
 iN:H l.un=some (.lst (l.kK.map V.ref))
 nE:Paired (nC H) l.kK b.un
 sA:sR H CJ xs.length l b
 nd:l.own.Nodup
def nC.out(o:Out fp H H')(t:∀a xs,H a=some (.tup xs)->a∉fp)(h:nC H a d):nC H' a d:=by
 obtain⟨r,h1,h2⟩:=h;exact⟨r,o _ _ h1 (t _ _ h1),o _ _ h2 (t _ _ h2)⟩
def cL.off(j:cL H C n l st)(h:H a=some (.tup xs)):a∉l.fp:=by
 intro z;unfold JL.fp at z;simp only[Yp] at z;rcases z with rfl|rfl|rfl|rfl|rfl|z
 ·obtain⟨dx,e⟩:=j.obj
  grind
 ·rw[j.heads] at h;cases h
 ·rw[j.iO] at h;cases h
 ·rw[j.jH] at h;cases h
 ·rw[j.frees] at h;cases h
 ·obtain⟨y,e⟩:=wO j.mem z
  grind
theorem cL.ie(j:cL H C n l st)(o:Out fp H H')(d1:∀a∈fp,a∉l.fp)(d2:∀a∈fp,a∉l.bV)(t:∀a xs,H a=some (.tup xs)->a∉fp):cL H' C n l st:=by
 have k:∀{a:Addr} {u:HO},H a=some u->a∈l.fp->H' a=some u:=λ{a u} e m=>o _ _ e λz=>d1 _ z m;obtain⟨dx,e⟩:=j.obj;refine⟨⟨dx,k e (by simp[JL.fp])⟩,k j.heads (by simp[JL.fp]),k j.iO (by simp[JL.fp]),L2.Paired.bq j.lead λa x h=>o _ _ h (t _ _ h),k j.jH (by simp[JL.fp]),?_,k j.frees (by simp[JL.fp]),?_,j.nd,j.out⟩
 ·have aux:∀{as:List Addr} {ps:List (Nat×List Nat)},Paired (λa p=>H a=some (.lst (dH p.2))) as ps->(∀a∈as,a∈l.fp)->Paired (λa p=>H' a=some (.lst (dH p.2))) as ps:=by
   intro as ps p;induction p with
   |nil=>intro _;exact .nil
   |cons f _ ih=>intro m;exact .cons (k f (m _ Yo)) (ih λa ha=>m a (Yw _ ha))
  exact aux j.mem λa ha=>by simp[JL.fp,ha]
 ·have aux:∀{as:List Addr} {ps:List (Nat×List Int)},Paired (λa p=>H a=some (.lst (p.2.map V.int))) as ps->(∀a∈as,a∈l.bV)->Paired (λa p=>H' a=some (.lst (p.2.map V.int))) as ps:=by
   intro as ps p;induction p with
   |nil=>intro _;exact .nil
   |cons f _ ih=>intro m;exact .cons (o _ _ f λz=>d2 _ z (m _ Yo)) (ih λa ha=>m a (Yw _ ha))
  exact aux j.free λa ha=>ha
section
variable {H H':Hp}{l:BL}{xs ys:List Int}{b:BS}
def bh.landAt(h:bh H C CL CJ l xs ys b):iM H CL l.L xs ys:=h.land H (Out.of (aj.refl _))
theorem bh.tup(h:bh H C CL CJ l xs ys b)(e:H a=some (.tup us)):a∉l.fp:=by
 intro z;unfold BL.fp BL.own at z;rcases Yq.mp z with z|z
 ·simp only[Yp,Y3,or_false] at z;rcases z with rfl|rfl|rfl|rfl|rfl|rfl|rfl|rfl
  ·obtain⟨dx,q⟩:=h.obj
   grind
  ·rw[h.c8] at e;cases e
  ·rw[h.places] at e;cases e
  ·rw[h.facts] at e;cases e
  ·rw[h.known] at e;cases e
  ·rw[h.parents] at e;cases e
  ·rw[h.done] at e;cases e
  ·rw[h.iN] at e;cases e
 ·cases h.sA with
  |no _ e2=>grind
  |at_ jl st _ e2 ja=>rw[e2] at z;exact ja.off e z
theorem bh.there(h:bh H C CL CJ l xs ys b)(z:a∈l.fp):H a≠none:=by
 intro e;unfold BL.fp BL.own at z;rcases Yq.mp z with z|z
 ·simp only[Yp,Y3,or_false] at z;rcases z with rfl|rfl|rfl|rfl|rfl|rfl|rfl|rfl
  ·obtain⟨dx,q⟩:=h.obj
   grind
  ·rw[h.c8] at e;cases e
  ·rw[h.places] at e;cases e
  ·rw[h.facts] at e;cases e
  ·rw[h.known] at e;cases e
  ·rw[h.parents] at e;cases e
  ·rw[h.done] at e;cases e
  ·rw[h.iN] at e;cases e
 ·cases h.sA with
  |no _ e2=>grind
  |at_ jl st _ e2 ja=>rw[e2] at z;exact ja.ne e z
theorem sR.same(g:aj H H')(h:sR H CJ n l b):sR H' CJ n l b:=by
 cases h with
 |no e1 e2=>exact .no e1 e2
 |at_ jl st e1 e2 ja me len fX=>exact .at_ jl st e1 e2 (ja.same g) me len fX
def bh.same(g:aj H H')(h:bh H C CL CJ l xs ys b):bh H' C CL CJ l xs ys b:=
 ⟨let⟨dx,e⟩:=h.obj;⟨dx,g _ _ e⟩,λH2 o=>h.land H2 ((Out.of g).trans o),g _ _ h.c8,g _ _ h.places,g _ _ h.facts,L2.Paired.bq h.fact λ_ _ e=>g _ _ e,g _ _ h.known,g _ _ h.parents,g _ _ h.done,L2.Paired.bq h.lE λ_ _ ⟨r,e1,e2⟩=>⟨r,g _ _ e1,g _ _ e2⟩,g _ _ h.iN,L2.Paired.bq h.nE λ_ _ ⟨r,e1,e2⟩=>⟨r,g _ _ e1,g _ _ e2⟩,h.sA.same g,h.nd⟩
def eC(fp tQ:List Addr)(H:Hp):Prop:=∀a∈tQ,a∈fp\/H a=none
def eC.refl(fp:List Addr)(H:Hp):eC fp fp H:=λ_ h=>.inl h
def Gg(o:Out fp H H1)(g:eC fp tQ H)(o2:Out tQ H1 H2):Out fp H H2:=λa u e n=>o2 _ _ (o _ _ e n) λz=>(g a z).elim n λq=>by rw[e] at q;cases q
theorem eC.trans(g:eC fp tQ H)(o:Out fp H H1)(g2:eC tQ Zg4 H1):eC fp Zg4 H:=λa z=>by
 rcases g2 a z with q|q;·exact g a q
 ·by_cases m:a∈fp;·exact .inl m
  ·right
   cases e:H a with
   |none=>rfl
   |some u=>rw[o _ _ e m] at q;cases q
def eC.same(s:aj H H1)(g2:eC fp tQ H1):eC fp tQ H:=λa z=>(g2 a z).imp id λq=>s.free q
def Zcm(me:du n st F)(m:(k,secs)∈st.fr):secs≠[]:=by
 obtain⟨i,hi,e⟩:=me.wf.hf k (Yh.mpr ⟨_,m,rfl⟩);obtain⟨f,s,d⟩:=me.live;have q:=(d i hi).1;unfold JS.cB at q;rw[e,(mem_lookup me.wf.nf m)] at q
 grind
theorem Zdz(ja:cL H CJ n jl st)(me:du n st b.F)(h:∃dx us,H l.h=some (.ins C dx us))(h2:∃k,H l.sd=some (.dK k))(h3:∃k,H l.pl=some (.dK k))(h4:∃k,H l.fc=some (.dK k))(h5:∃k,H l.kn=some (.dT k))(h6:∃k,H l.pr=some (.dT k))(h7:∃as:List Addr,H l.dn=some (.lst (as.map V.ref)))(h8:∃as:List Addr,H l.un=some (.lst (as.map V.ref))):∀a∈l.own,a∉jl.bV:=by
 intro a ha hf;obtain⟨p,hp,e⟩:∃p∈st.fr,H a=some (.lst (p.2.map V.int)):=by
  have aux:∀{as:List Addr} {ps:List (Nat×List Int)},Paired (λa p=>H a=some (.lst (p.2.map V.int))) as ps->a∈as->∃p∈ps,H a=some (.lst (p.2.map V.int)):=by
   intro as ps pr;induction pr with
   |nil=>intro h;cases h
   |cons f _ ih=>
    intro h;rcases Yp.mp h with rfl|h;·exact⟨_,Yo,f⟩
    ·obtain⟨q,m,e⟩:=ih h;exact⟨q,Yw _ m,e⟩
  exact aux ja.free hf
 have ne:=Zcm me (k:=p.1) (secs:=p.2) hp;have lst:∀as:List Addr,H a=some (.lst (as.map V.ref))->False:=λas q=>by
  rw[q] at e;have e':as.map V.ref=p.2.map V.int:=by injection e with e;injection e
  cases dh:p.2 with
  |nil=>exact ne dh
  |cons x r=>
   rw[dh] at e';cases as with
   |nil=>cases e'
   |cons y s=>injection e' with e1 _;cases e1
 unfold BL.own at ha;simp only[Yp,Y3,or_false] at ha;rcases ha with rfl|rfl|rfl|rfl|rfl|rfl|rfl|rfl;·obtain⟨_,_,q⟩:=h;rw[q] at e;cases e
 ·obtain⟨_,q⟩:=h2;rw[q] at e;cases e
 ·obtain⟨_,q⟩:=h3;rw[q] at e;cases e
 ·obtain⟨_,q⟩:=h4;rw[q] at e;cases e
 ·obtain⟨_,q⟩:=h5;rw[q] at e;cases e
 ·obtain⟨_,q⟩:=h6;rw[q] at e;cases e
 ·obtain⟨_,q⟩:=h7;exact lst _ q
 ·obtain⟨_,q⟩:=h8;exact lst _ q
def bh.G9(h:bh H C CL CJ l xs ys b)(ja:cL H CJ xs.length jl st)(me:du xs.length st b.F):∀a∈l.own,a∉jl.bV:=
 Zdz ja me (let⟨dx,e⟩:=h.obj;⟨dx,_,e⟩) ⟨_,h.c8⟩ ⟨_,h.places⟩ ⟨_,h.facts⟩ ⟨_,h.known⟩ ⟨_,h.parents⟩ ⟨_,h.done⟩ ⟨_,h.iN⟩
def bh.build(h:bh H C CL CJ l xs ys b)(eh:l'.h=l.h)(eL:l'.L=l.L)(es:l'.sd=l.sd)(ep:l'.pl=l.pl)(ef:l'.fc=l.fc)(ek:l'.kn=l.kn)(er:l'.pr=l.pr)(ed:l'.dn=l.dn)(eu:l'.un=l.un)(o:Out l.fp H H')(g:eC l.fp l'.fp H)
  (obj:∃dx,H' l.h=some (.ins C dx (HF l.L l.sd l.pl l.fc l.kn l.pr (b'.co:Int) l.dn l.un l'.rk)))(c8:H' l.sd=some (.dK (gw b'.ps)))(places:H' l.pl=some (.dK (i4 b'.ps)))(facts:H' l.fc=some (.dK (bB (b'.fs.map (·.1)) l'.bV)))
  (fact:Paired (λa (p:Nat×Fc)=>H' a=some (.tup ((dZ b'.ps p.1 p.2).map kV))) l'.bV b'.fs)(known:H' l.kn=some (.dT (fH b'.ps b'.fs)))(parents:H' l.pr=some (.dT (cj b'.ps b'.fs)))
  (done:H' l.dn=some (.lst (l'.iC.map V.ref)))(lE:Paired (nC H') l'.iC b'.dn)(iN:H' l.un=some (.lst (l'.kK.map V.ref)))(nE:Paired (nC H') l'.kK b'.un)(rk:sR H' CJ xs.length l' b'):bh H' C CL CJ l' xs ys b':=by
 have oe:l'.own=l.own:=by unfold BL.own;rw[eh,es,ep,ef,ek,er,ed,eu]
 refine⟨?_,λH2 o2=>?_,by rw[es];exact c8,by rw[ep];exact places,by rw[ef];exact facts,fact,by rw[ek];exact known,by rw[er];exact parents,by rw[ed];exact done,lE,by rw[eu];exact iN,nE,rk,by rw[oe];exact h.nd⟩;·rw[eh,eL,es,ep,ef,ek,er,ed,eu];exact obj
 ·rw[eL];exact h.land H2 (Gg o g o2)
theorem bh.owned(h:bh H C CL CJ l xs ys b)(eh:l'.h=l.h)(eL:l'.L=l.L)(es:l'.sd=l.sd)(ep:l'.pl=l.pl)(ef:l'.fc=l.fc)(ek:l'.kn=l.kn)(er:l'.pr=l.pr)(ed:l'.dn=l.dn)(eu:l'.un=l.un)
  (rk:(l'.rk=l.rk/\l'.eF=l.eF/\b'.F=b.F/\b'.ps.length=b.ps.length)\/(l'.rk=.az/\l'.eF=[]))(o:Out l.own H H')
  (obj:∃dx,H' l.h=some (.ins C dx (HF l.L l.sd l.pl l.fc l.kn l.pr (b'.co:Int) l.dn l.un l'.rk)))(c8:H' l.sd=some (.dK (gw b'.ps)))(places:H' l.pl=some (.dK (i4 b'.ps)))(facts:H' l.fc=some (.dK (bB (b'.fs.map (·.1)) l'.bV)))
  (fact:Paired (λa (p:Nat×Fc)=>H' a=some (.tup ((dZ b'.ps p.1 p.2).map kV))) l'.bV b'.fs)(known:H' l.kn=some (.dT (fH b'.ps b'.fs)))(parents:H' l.pr=some (.dT (cj b'.ps b'.fs)))
  (done:H' l.dn=some (.lst (l'.iC.map V.ref)))(lE:Paired (nC H') l'.iC b'.dn)(iN:H' l.un=some (.lst (l'.kK.map V.ref)))(nE:Paired (nC H') l'.kK b'.un):bh H' C CL CJ l' xs ys b'/\eC l.fp l'.fp H:=by
 have oe:l'.own=l.own:=by unfold BL.own;rw[eh,es,ep,ef,ek,er,ed,eu]
 have sub:∀a∈l'.fp,a∈l.fp:=λa z=>by
  unfold BL.fp at z⊢;rw[oe] at z;rcases rk with⟨_,e,_⟩|⟨_,e⟩;·rw[e] at z;exact z
  ·rw[e,Wd] at z;exact Yt _ z
 have of:Out l.fp H H':=λa u e n=>o _ _ e λz=>n (Yt _ z);refine⟨⟨?_,λH2 o2=>?_,by rw[es];exact c8,by rw[ep];exact places,by rw[ef];exact facts,fact,by rw[ek];exact known,by rw[er];exact parents,by rw[ed];exact done,lE,by rw[eu];exact iN,nE,?_,by rw[oe];exact h.nd⟩,λa z=>.inl (sub a z)⟩;·rw[eh,eL,es,ep,ef,ek,er,ed,eu];exact obj
 ·rw[eL];exact h.land H2 (Gg of (λa z=>.inl (sub a z)) o2)
 ·rcases rk with⟨r1,r2,r3,r4⟩|⟨r1,r2⟩
  ·cases h.sA with
   |no e1 e2=>exact .no (by rw[r1];exact e1) (by rw[r2];exact e2)
   |at_ jl st e1 e2 ja me len fX=>
    exact .at_ jl st (by rw[r1];exact e1) (by rw[r2];exact e2) (ja.ie o fX (h.G9 ja me) λa us e=>λz=>h.tup e (Yt _ z)) (by rw[r3];exact me) (by rw[r4];exact len) (by rw[oe];exact fX)
  ·exact .no r1 r2
end
abbrev qE:List (Str×Str):=[("mother","m"),("father","f"),("wed","w"),("sibling","s")]
abbrev qx(xs ys:List Int):List (Str×List Int):=[("mother",inv xs),("father",inv (bK xs ys)),("wed",ys),("sibling",bp xs.length)]
structure dQ(xs ys:List Int)(m:Nat)(c:Fc):Prop where
 ok:dP xs.length m c
 kind:c.k=bH\/(c.k,c.tn)∈qx xs ys
 IH:c.k=bH->0<=c.aI/\c.aI<(xs.length:Int)
def Z4:(bH,tn)∉qx xs ys:=by
 intro h;simp only[Yp,Y3,or_false] at h;rcases h with⟨h,_⟩|⟨h,_⟩|⟨h,_⟩|⟨h,_⟩<;>exact absurd h (by decide+kernel)
def Ef(h:(k,tn)∈qx xs ys):∃r,PyProof.Rows.KTD.datumAt k qE=some r/\(r,tn)∈AD xs ys:=by
 simp only[Yp,Y3,or_false] at h;rcases h with⟨rfl,rfl⟩|⟨rfl,rfl⟩|⟨rfl,rfl⟩|⟨rfl,rfl⟩;·exact⟨"m",by decide+kernel,by simp⟩
 ·exact⟨"f",by decide+kernel,by simp⟩
 ·exact⟨"w",by decide+kernel,by simp⟩
 ·exact⟨"s",by decide+kernel,by simp⟩
def dQ.u4(g:dQ xs ys m c)(h:c.k≠bH):(c.k,c.tn)∈qx xs ys:=g.kind.resolve_left h
def Zcn(gd:nG xs ys)(h:(k,tn)∈qx xs ys):full tn=true/\tn.length=xs.length:=by
 obtain⟨r,_,h2⟩:=Ef h;exact Z3 gd h2
theorem rS(nd:(ps.map (·.1)).Nodup)(hi:i<ps.length):aT (i4 ps) (.inr (au ps i))=some (.int (i:Int)):=by
 have aux:∀(ps:bA) (k i:Nat),(ps.map (·.1)).Nodup->i<ps.length->aT ((ps.zipIdx k).map λp=>((.inr p.1.1:Key),V.int (p.2:Int))) (.inr (au ps i))=some (.int ((k+i:Nat):Int)):=by
  intro ps;induction ps with
  |nil=>intro k i _ h;cases h
  |cons p ps ih=>
   intro k i nd hi;obtain⟨n1,n2⟩:=Yz.mp (show(p.1::ps.map (·.1)).Nodup from nd);rw[List.zipIdx_cons,Wp];cases i with
   |zero=>exact fN rfl
   |succ i=>
    have iy:i<ps.length:=by simpa using hi
    have e:au (p::ps) (i+1)=au ps i:=rfl;have m:au ps i∈ps.map (·.1):=by
     unfold au;rw[Yf,Yc iy];exact Yh.mpr ⟨_,Ju iy,rfl⟩
    rw[e,eX (λz=>n1 (by rw[Wf z];exact m)),ih (k+1) i n2 iy]
    congr 2
    omega
 have:=aux ps 0 i nd hi
 rwa [Nat.zero_add] at this
def m6(h:c.k=bH):bo ps c=.inl c.aI:=if_pos h
def jh(h:c.k≠bH):bo ps c=.inr (au ps c.aI.toNat):=if_neg h
inductive GB(vs:List V)(H:Hp)(Q:VK)(E:XK):Prop
 |mk (k:Str) (aC:vs=[.str k]) (aS:Q (.bl (nJ qE k)) H)
inductive FU(CL:Addr)(vs:List V)(H:Hp)(Q:VK)(E:XK):Prop
 |mk (L:Addr) (k:Str) (xs ys tn:List Int) (aC:vs=[.ref L,.str k]) (aS:iM H CL L xs ys) (bb:(k,tn)∈qx xs ys) (bL:∀t:Addr,bN H t tn->Q (.ref t) H)
inductive AS(vs:List V)(H:Hp)(Q:VK)(E:XK):Prop
 |mk (k a:Str) (o:Key) (aC:vs=[.str k,.str a,kV o]) (aS:k="sibling"->∃b,o=.inr b) (bb:Nw H (.tup ((keyOf k a o).map kV)) Q)
inductive N5(CL CJ:Addr)(vs:List V)(H:Hp)(Q:VK):Prop
 |mk (jl:JL) (st:JS) (L pl fa:Addr) (xs ys:List Int) (ps:bA) (F:List Fc) (z:Nat) (c:Fc) (aC:vs=[.ref jl.J,.ref L,.ref pl,.ref fa]) (ja:cL H CJ xs.length jl st) (me:du xs.length st F) (la:iM H CL L xs ys) (gd:nG xs ys) (hp:H pl=some (.dK (i4 ps))) (nd:(ps.map (·.1)).Nodup) (len:st.hd.length=ps.length) (m4:ps.length<=100) (hf:H fa=some (.tup ((dZ ps z c).map kV))) (fg:dQ xs ys ps.length c) (lv:∃f,cH st f/\eU f c)
   (q:∀(v:V) (hZ:JL) (aJ:JS) (H':Hp),hZ.J=jl.J->(∀a∈hZ.fp,a∈jl.fp)->Out jl.fp H H'->cL H' CJ xs.length hZ aJ->du xs.length aJ (F++[c])->aJ.hd.length=st.hd.length->Q v H'):N5 CL CJ vs H Q
def GC(CL CJ:Addr):Sp:=λvs H Q _=>N5 CL CJ vs H Q
inductive Pb(CL CJ:Addr)(vs:List V)(H:Hp)(Q:VK):Prop
 |mk (jl:JL) (st:JS) (L pl fa:Addr) (xs ys:List Int) (ps:bA) (F:List Fc) (z:Nat) (c:Fc) (aC:vs=[.ref jl.J,.ref L,.ref pl,.ref fa]) (ja:cL H CJ xs.length jl st) (me:du xs.length st F) (la:iM H CL L xs ys) (gd:nG xs ys) (hp:H pl=some (.dK (i4 ps))) (nd:(ps.map (·.1)).Nodup) (len:st.hd.length=ps.length) (m4:ps.length<=100) (hf:H fa=some (.tup ((dZ ps z c).map kV))) (fg:dQ xs ys ps.length c)
   (q1:(∃f,cH st f/\eU f c)->∀H',aj H H'->Q (.bl true) H') (q2:(∀f,cH st f->¬eU f c)->∀H',aj H H'->Q (.bl false) H'):Pb CL CJ vs H Q
def QP(CL CJ:Addr):Sp:=λvs H Q _=>Pb CL CJ vs H Q
def Ao:∀b:Bool,decide (V.str k=V.str bH)=b->(b=true↔k=bH):=λb e=>by
 grind
section
variable {K:ah}{mg:aQ}{mZ:Addr}
def Za6:aP ["kind"] ["kind"] (aF F8):=.aX
def Za7(F:aN K "is_tie" "is_tie" F8 f fd)(uf:mg "TIE_LETTERS"=some (.ref mZ))(tb:u_ K mZ qE):aE P w K mg base aM 1 f fd ["kind"] GB:=by
 refine F.o Za6 λs H hr h=>?_;obtain⟨k,rfl,q⟩:=h;refine⟨_,(av (aG (Ac (ZeU (K:=K) rfl) (pv 0) (dv (v:=.ref mZ) rfl uf rfl) (by with_unfolding_all rfl)))),?_⟩;exact⟨_,rfl,k,mZ,qE,rfl,rfl,tb,q⟩
abbrev xZ:List Str:=["land","kind"]
def YX:aP xZ xZ (aF E2):=.aX
def YY(F:aN K "tie_turn" "tie_turn" E2 f fd)(uf:mg "TIE_LETTERS"=some (.ref mZ))(tb:u_ K mZ qE)(lc:u3 K CL)(uN:HasFn P w K mg base 1 "is_tie" ["kind"] GB)(EJ:cE P w K mg base 1 "step" CL Ba (QG CL)):aE P w K mg base aM 2 f fd xZ (FU CL):=by
 refine F.o YX λs H hr h=>?_;obtain⟨L,k,xs,ys,tn,rfl,la,hk,q⟩:=h;refine⟨_,(aq (aV (j_ (eY (aW uN hr (aa (pv 1) ae)))) gc aZ) (av (aG (cT EJ hr (by omega) (pv 0) (aa (bj (Zdb (K:=K) rfl) (dv (v:=.ref mZ) rfl uf rfl) (pv 1)) ae))))),?_⟩;obtain⟨r,dr,hs⟩:=Ef hk;have ht:nJ qE k=true:=by unfold nJ;rw[dr];rfl
 obtain⟨dx,d,mo,fY,wi,im,jf,iw,st,h1,_⟩:=id la;refine⟨_,rfl,k,rfl,_,rfl,?_⟩;rw[ht];refine bW (aY ?_);exact⟨_,rfl,L,dx,_,rfl,h1,rfl,_,rfl,mZ,k,r,qE,rfl,rfl,tb,dr,L,r,xs,ys,tn,rfl,la,hs,q⟩
abbrev vc:List Str:=["kind","one","other"]
def YZ:aP vc vc (aF E3):=.aX
theorem Y_(F:aN K "fact_key" "fact_key" E3 f fd)(oE:mg "SIBLING"=some (.str "sibling" t1))(bl:Bl mg):aE P w K mg base aM 1 f fd vc AS:=by
 refine F.o YZ λs H hr h=>?_;obtain⟨k,a,o,rfl,hs,q⟩:=h;refine⟨_,(aq (aV (bG cv (pv 0) (dv (v:=.str "sibling") rfl oE ⟨_,rfl⟩)) (av (aG (c6 (aa (pv 0) (aa (h_ (ZR rfl) rfl bl.ZfQ Zek (aa (pv 1) (aa (pv 2) ae))) (aa (h_ (ZS rfl) rfl bl.ZfR Ze6 (aa (pv 1) (aa (pv 2) ae))) ae)))))) aZ) (av (aG (c6 (aa (pv 0) (aa (pv 1) (aa (pv 2) ae))))))),?_⟩;refine⟨_,rfl,rfl,_,rfl,?_⟩;by_cases e:k="sibling"
 ·obtain⟨b,rfl⟩:=hs e;rw[decide_eq_true (by rw[e])];refine⟨_,rfl,_,rfl,_,rfl,_,_,rfl,_,rfl,_,rfl,_,_,rfl,by show 3<=sizeLine;decide,?_⟩;have ek:keyOf k a (.inr b)=[.inr k,.inr (L2.qA a b),.inr (L2.qB a b)]:=if_pos e;rw[ek] at q;exact q
 ·rw[decide_eq_false (λz=>e (V.str.inj z))];refine⟨_,rfl,_,rfl,_,rfl,by show 3<=sizeLine;decide,?_⟩;have ek:(keyOf k a o).map kV=[.str k,.str a,kV o]:=by
   cases o with
   |inl i=>rfl
   |inr b=>
    have:keyOf k a (.inr b)=[.inr k,.inr a,.inr b]:=if_neg e;rw[this];rfl
  rw[ek] at q;exact q
abbrev sS:List Str:=["joins","land","places","fact"]
abbrev SJ:List Str:=["joins","land","places","fact","number","kind","one","other"]
def wB:aP SJ sS (aF Eo):=.aX
theorem XR(F:aN K "keep_fact" "keep_fact" Eo f fd)(kZ:mg "SAID"=some (.str "said" t1))(uA:HasFn P w K mg base 2 "tie_turn" xZ (FU CL))(EK:cE P w K mg base 3 "say" CJ Be (RM CJ))(EL:cE P w K mg base 5 "tie" CJ lD (RN CJ)):aE P w K mg base aM 6 f fd sS (GC CL CJ):=by
 refine F.o wB λs H hr h=>?_;obtain⟨jl,st,L,pl,fa,xs,ys,ps,FF,z,c,rfl,ja,me,la,gd,hp,nd,len,m4,hf,fg,lv,q⟩:=h;refine⟨_,(aq (nv (pv 3) (jj (K:=K) (n:=4) rfl rfl (bR (bF 4 wB.nd) (bR (bF 5 wB.nd) (bR (bF 6 wB.nd) (bR (bF 7 wB.nd) ji)))))) (aq (aV (bG cv (pv 5) (dv (v:=.str "said") rfl kZ ⟨_,rfl⟩)) (av (aG (cT EK hr (by omega) (pv 0) (aa (dk (bw hr) (pv 2) (pv 6) (λ_ _=>rfl)) (aa (pv 7) ae))))) aZ) (av (aG (cT EL hr (by omega) (pv 0) (aa (dk (bw hr) (pv 2) (pv 6) (λ_ _=>rfl)) (aa (dk (bw hr) (pv 2) (pv 7) (λ_ _=>rfl)) (aa (aW uA hr (aa (pv 1) (aa (pv 5) ae))) ae)))))))),?_⟩;obtain⟨dx,ho⟩:=ja.obj;have p1:=rS nd fg.ok.one;have n8:xs.length<=8:=gd.2.2.2.2;have hi:c.one<st.hd.length:=by rw[len];exact fg.ok.one
 refine⟨_,rfl,fa,_,rfl,aB.of hf,rfl,_,_,rfl,bg ⟨_,_,rfl,bg ⟨_,_,rfl,bg ⟨_,_,rfl,bg ⟨rfl,?_⟩⟩⟩⟩⟩;refine⟨_,rfl,rfl,_,rfl,bJ (λcc=>?_) (λcc=>aY ?_)⟩
 ·have e:c.k=bH:=(Ao _ rfl).mp cc;have eo:kV (bo ps c)=.int c.aI:=by rw[m6 e];rfl
  refine⟨_,rfl,jl.J,dx,_,rfl,ho,rfl,_,rfl,_,rfl,pl,_,rfl,cV hp p1,_,rfl,?_⟩;have one:=me.wf.one n8 hi;have yL:=me.wf.AR;obtain⟨f0,d0,s0⟩:=lv;obtain⟨s0',h0⟩:=id d0;have mm:c.aI∈(st.cB (st.ag c.one)).map (λz=>(st.bP c.one).getD z.toNat 0):=Yh.mpr ⟨s0' (st.ag c.one),(h0 c.one hi).1,by rw[←s0.1 e,(h0 c.one hi).2];rfl⟩;refine⟨jl,st,xs.length,c.one,_,_,_,c.aI,?_,ja,one,by omega,λ_ l' H' k1 k2 o3 j3=>?_,λno=>absurd mm no⟩
  ·show[V.ref jl.J,V.int (c.one:Int),kV (bo ps c)]=_;rw[eo]
  ·have ec:c=⟨bH,c.one,c.aI,c.tn⟩:=by rw[←e]
   refine q _ l' _ H' k1 (λa ha=>by rw[k2] at ha;exact ha) o3 j3 ?_ rfl;rw[ec];exact Pa me hi mm
 ·have e:c.k≠bH:=λz=>cc ((Ao _ rfl).mpr z);obtain⟨⟨o0,om⟩,ft,tl⟩:=fg.ok.hU e;have eo:kV (bo ps c)=.str (au ps c.aI.toNat):=by rw[jh e];rfl
  have p2:=rS nd om;have hj:c.aI.toNat<st.hd.length:=by rw[len];exact om
  refine⟨_,rfl,jl.J,dx,_,rfl,ho,rfl,_,rfl,_,rfl,pl,_,rfl,cV hp p1,_,rfl,_,rfl,pl,.int (c.aI.toNat:Int),rfl,?_,_,rfl,_,rfl,L,c.k,xs,ys,c.tn,rfl,la,fg.u4 e,λt ht=>?_⟩
  ·show d_ H pl (kV (bo ps c)) _;rw[eo];exact cV hp p2
  refine⟨jl,st,xs.length,c.one,c.aI.toNat,c.tn,t,rfl,ja,me.wf,me.live,n8,by omega,hi,hj,ht,ft,tl,λb l' aJ H' k1 k2 o3 j3 to=>?_⟩;have ec:c=⟨c.k,c.one,(c.aI.toNat:Int),c.tn⟩:=by rw[Jw o0]
  have Zg5:dP xs.length st.hd.length ⟨c.k,c.one,(c.aI.toNat:Int),c.tn⟩:=by rw[←ec,len];exact fg.ok
  obtain⟨tm,tf⟩:=Zcl me to e Zg5;have eb:b=true:=by
   cases eb:b with
   |true=>rfl
   |false=>
    obtain⟨f0,d0,s0⟩:=lv;obtain⟨es,no⟩:=to.no eb;exact absurd (s0.2 e) (no f0 d0)
  refine q _ l' aJ H' k1 k2 o3 j3 ?_ to.len;have:=tm eb;rw[←ec] at this;exact this
def wC:aP SJ sS (aF Ep):=.aX
theorem XS(F:aN K "fact_fits" "fact_fits" Ep f fd)(kZ:mg "SAID"=some (.str "said" t1))(uA:HasFn P w K mg base 2 "tie_turn" xZ (FU CL))(mY:cE P w K mg base 2 "open_at" CJ xW (z4 CJ))(uj:cE P w K mg base 4 "left" CJ lD (G6 CJ)):aE P w K mg base aM 5 f fd sS (QP CL CJ):=by
 refine F.o wC @λbC A outer vs Q E s H hr h=>?_;obtain⟨jl,st,L,pl,fa,xs,ys,ps,FF,z,c,rfl,ja,me,la,gd,hp,nd,len,m4,hf,fg,q1,q2⟩:=h;have hu:=hr.uT;refine⟨_,(aq (nv (pv 3) (jj (K:=K) (n:=4) rfl rfl (bR (bF 4 wC.nd) (bR (bF 5 wC.nd) (bR (bF 6 wC.nd) (bR (bF 7 wC.nd) ji)))))) (aq (aV (bG cv (pv 5) (dv (v:=.str "said") rfl kZ ⟨_,rfl⟩)) (av (aG (Ac (mP (K:=K) rfl) (pv 7) (cT mY hr (by omega) (pv 0) (aa (dk (bw hr) (pv 2) (pv 6) (λ_ _=>rfl)) ae)) (by with_unfolding_all rfl)))) aZ) (av (aG (eO (OU (K:=K) rfl (ZeX hu)) (cT uj hr (by omega) (pv 0) (aa (dk (bw hr) (pv 2) (pv 6) (λ_ _=>rfl)) (aa (dk (bw hr) (pv 2) (pv 7) (λ_ _=>rfl)) (aa (aW uA hr (aa (pv 1) (aa (pv 5) ae))) ae)))) (dw ae)))))),?_⟩;obtain⟨dx,ho⟩:=ja.obj;have p1:=rS nd fg.ok.one;have n8:xs.length<=8:=gd.2.2.2.2;have hi:c.one<st.hd.length:=by rw[len];exact fg.ok.one
 refine⟨_,rfl,fa,_,rfl,aB.of hf,rfl,_,_,rfl,bg ⟨_,_,rfl,bg ⟨_,_,rfl,bg ⟨_,_,rfl,bg ⟨rfl,?_⟩⟩⟩⟩⟩;refine⟨_,rfl,rfl,_,rfl,bJ (λcc=>?_) (λcc=>aY ?_)⟩
 ·have e:c.k=bH:=(Ao _ rfl).mp cc;have eo:kV (bo ps c)=.int c.aI:=by rw[m6 e];rfl
  have one:=me.wf.one n8 hi;refine⟨_,rfl,_,rfl,jl.J,dx,_,rfl,ho,rfl,_,rfl,_,rfl,pl,_,rfl,cV hp p1,jl,st,xs.length,c.one,_,_,_,rfl,ja,one.hd,one.ld,one.fr,one.fV,one.jy,λp ns H1 np g1 pm so lK=>⟨p,_,rfl,.inl (ak.of lK),?_,Ga ns,?_⟩⟩
  ·show jn (kV (bo ps c))=true;rw[eo];rfl
  show Q (.bl (if(false:Bool)=true then !fq (kV (bo ps c)) (ns.map V.int) else fq (kV (bo ps c)) (ns.map V.int))) H1;rw[if_neg Yj,eo,Am];have ec:c=⟨bH,c.one,c.aI,c.tn⟩:=by rw[←e]
  by_cases m:c.aI∈ns
  ·rw[decide_eq_true m];refine q1 ?_ H1 g1;have UH:=Pa (tn:=c.tn) me hi (pm.subset m);obtain⟨f,d⟩:=UH.live;obtain⟨_,s⟩:=(UH.iff f).mp d;refine⟨f,((wF me.wf hi _ f).mp d).1,?_⟩;rw[ec];exact s _ (Yr _ Yo)
  ·rw[decide_eq_false m];refine q2 (λf d=>?_) H1 g1;rw[ec];exact Zfg me hi (λz=>m (pm.symm.subset z)) f d
 ·have e:c.k≠bH:=λz=>cc ((Ao _ rfl).mpr z);obtain⟨⟨o0,om⟩,ft,tl⟩:=fg.ok.hU e;have eo:kV (bo ps c)=.str (au ps c.aI.toNat):=by rw[jh e];rfl
  have p2:=rS nd om;have hj:c.aI.toNat<st.hd.length:=by rw[len];exact om
  have pf:=O9 me.wf n8 hi hj;refine⟨_,rfl,jl.J,dx,_,rfl,ho,rfl,_,rfl,_,rfl,pl,_,rfl,cV hp p1,_,rfl,_,rfl,pl,.int (c.aI.toNat:Int),rfl,?_,_,rfl,_,rfl,L,c.k,xs,ys,c.tn,rfl,la,fg.u4 e,λt ht=>?_⟩
  ·show d_ H pl (kV (bo ps c)) _;rw[eo];exact cV hp p2
  refine⟨jl,st,xs.length,c.one,c.aI.toNat,_,_,_,_,_,_,c.tn,t,rfl,ja,me.wf.one n8 hi,me.wf.one n8 hj,ht,λp hp=>by rw[tl];exact QL me.wf hi (x:=p.1) (y:=p.2) hp,Y0 pf (by omega),λp ns H1 np g1 lK pm _=>?_⟩;have ms:=N0 pm;refine⟨by show 0<=sizeLine;exact Yx _,λe0 H2 n2 g2 yM=>?_⟩;refine⟨p,e0,ns.map V.int,rfl,rfl,ak.of (g2 _ _ lK),ak.of yM,?_⟩;rw[if_pos rfl];have sat:∀f,eU f c↔f c.aI.toNat=ap c.tn (f c.one):=λf=>⟨λh=>h.2 e,λh=>⟨λz=>absurd z e,λ_=>h⟩⟩;cases ns with
  |nil=>
   refine q2 (λf d z=>?_) H2 (g1.trans g2);have m:=uM me.wf hi hj d;rw[(sat f).mp z] at m;exact absurd ((ms _).mpr m) (λz=>nomatch z)
  |cons a r=>
   refine q1 ?_ H2 (g1.trans g2);have m:=(ms a).mp Yo;obtain⟨f,d,e1,e2⟩:=Ge me.wf hi hj me.live m;exact⟨f,d,(sat f).mpr (by rw[e1,e2])⟩
end
def BS.keys(b:BS):List (List Key):=b.fs.map λp=>fG b.ps p.2
def BS.told(b:BS)(k:List Key):Bool:=(aT (fH b.ps b.fs) k).isSome
structure cM(xs ys:List Int)(b:BS):Prop where
 gd:nG xs ys
 nm:(b.ps.map (·.1)).Nodup
 m:b.ps.length<=64
 fl:b.fs.length<=63
 fg:∀p∈b.fs,dQ xs ys b.ps.length p.2
 zs:(b.fs.map (·.1)).Nodup
 lt:∀p∈b.fs,p.1<b.co
 ky:b.keys.Nodup
 pr:((cj b.ps b.fs).map (·.1)).Nodup
 lv:∃f,lQ xs.length b.ps.length f/\∀c∈b.F,eU f c
 dl:b.dn.length<=200
 ul:b.un.length<=200
structure bM(H H':Hp)(l l':BL):Prop where
 h:l'.h=l.h
 out:Out l.fp H H'
 grow:eC l.fp l'.fp H
def bM.of(g:aj H H'):bM H H' l l:=⟨rfl,Out.of g,eC.refl _ _⟩
def bM.trans(a:bM H H1 l l1)(b:bM H1 H2 l1 l2):bM H H2 l l2:=⟨b.h.trans a.h,Gg a.out a.grow b.out,a.grow.trans a.out b.grow⟩
def bM.same(a:bM H H1 l l1)(g:aj H1 H2):bM H H2 l l1:=⟨a.h,a.out.trans (Out.of g),a.grow⟩
def bM.after(g:aj H H1)(a:bM H1 H2 l l1):bM H H2 l l1:=⟨a.h,(Out.of g).trans a.out,a.grow.same g⟩
theorem z7[DecidableEq κ](kvs:List (κ×V))(k:κ):(aT kvs k).isSome=true↔k∈kvs.map (·.1):=by
 induction kvs with
 |nil=>exact⟨(λz=>nomatch z),(λz=>nomatch z)⟩
 |cons p r ih=>
  by_cases e:p.1=k
  ·rw[fN e]
   grind
  ·rw[eX e,ih]
   grind
theorem pV{κ:Type}[DecidableEq κ]{kvs:List (κ×V)}{k:κ}(h:k∉kvs.map (·.1)):aT kvs k=none:=by
 cases e:aT kvs k with
 |none=>rfl
 |some v=>exact absurd ((z7 kvs k).mp (by rw[e];rfl)) h
theorem Pc{κ:Type}[DecidableEq κ]{kvs:List (κ×V)}{k:κ}{v:V}(nd:(kvs.map (·.1)).Nodup)(h:(k,v)∈kvs):aT kvs k=some v:=by
 induction kvs with
 |nil=>cases h
 |cons p r ih=>
  obtain⟨n1,n2⟩:=Yz.mp (show(p.1::r.map (·.1)).Nodup from nd);rcases Yp.mp h with h|h;·rw[←h];exact fN rfl
  ·rw[eX (λz=>n1 (by rw[z];exact Yh.mpr ⟨_,h,rfl⟩))];exact ih n2 h
def rT(h:i<ps.length):au ps i∈ps.map (·.1):=by
 unfold au
 grind
inductive N6(C CL CJ:Addr)(vs:List V)(H:Hp)(Q:VK)(E:XK):Prop
 |mk (l:BL) (b:BS) (xs ys:List Int) (aC:vs=[.ref l.h]) (aS:bh H C CL CJ l xs ys b) (bb:Nw H (.lst (b.ps.map λp=>V.str p.1)) Q)
inductive Gh(C CL CJ:Addr)(vs:List V)(H:Hp)(Q:VK)(E:XK):Prop
 |mk (l:BL) (b:BS) (xs ys:List Int) (z:Str) (v:V) (aC:vs=[.ref l.h,.str z]) (aS:bh H C CL CJ l xs ys b) (bb:aT (gw b.ps) (.inr z)=some v) (bL:Q v H)
inductive HV(C CL CJ:Addr)(vs:List V)(H:Hp)(Q:VK)(E:XK):Prop
 |mk (l:BL) (b:BS) (xs ys:List Int) (k a:Str) (o:Key) (aC:vs=[.ref l.h,.str k,.str a,kV o]) (aS:bh H C CL CJ l xs ys b) (bb:k="sibling"->∃b,o=.inr b) (bL:∀H',aj H H'->Q (.bl (b.told (keyOf k a o))) H')
inductive MG(C CL CJ:Addr)(vs:List V)(H:Hp)(Q:VK)(E:XK):Prop
 |mk (l:BL) (b:BS) (xs ys:List Int) (k a:Str) (aC:vs=[.ref l.h,.str k,.str a]) (aS:bh H C CL CJ l xs ys b) (bL:∀H',aj H H'->Q ((aT (cj b.ps b.fs) [.inr k,.inr a]).getD .az) H')
abbrev iU:List Str:=["mother","father"]
def oQ(b:BS)(a:Str):List V:=iU.filterMap λk=>aT (cj b.ps b.fs) [.inr k,.inr a]
def Zco(g:Nat->Option V):((List.range 2).filter λi=>(g i).isSome).map (λi=>(g i).getD .az)=[g 0,g 1].filterMap id:=by
 show(([0,1]:List Nat).filter _).map _=_
 grind
def N7(b:BS)(k:List Key):b.told k=true↔k∈b.keys:=by
 unfold BS.told;rw[z7];unfold fH BS.keys
 grind
inductive Me(C CL CJ:Addr)(vs:List V)(H:Hp)(Q:VK)(E:XK):Prop
 |mk (l:BL) (b:BS) (xs ys:List Int) (a:Str) (aC:vs=[.ref l.h,.str a]) (aS:bh H C CL CJ l xs ys b) (bL:∀(p:Addr) (H':Hp),H p=none->aj H H'->H' p=some (.lst (oQ b a))->Q (.ref p) H')
def eK(H:Hp)(ps:bA)(a:Addr)(p:Nat×Fc):Prop:=H a=some (.tup ((dZ ps p.1 p.2).map kV))
def Fj(K:ah):Sp:=λvs H Q _=>∃(r:Addr) (xs:List V),vs=[.ref r]/\aB K H r xs/\Q (.bl (decide (xs.length=2))) H
theorem Pd:∀{as:List Addr} {fs:List (Nat×Fc)} {p:Nat×Fc},Paired (eK H ps) as fs->(fs.map (·.1)).Nodup->p∈fs->∃a,aT (bB (fs.map (·.1)) as) (.inl (p.1:Int))=some (.ref a)/\eK H ps a p:=by
 intro as fs p pr;induction pr with
 |nil=>grind
 |@cons a q as fs f t ih=>
  intro nd h;obtain⟨n1,n2⟩:=Yz.mp (show(q.1::fs.map (·.1)).Nodup from nd);have e0:bB ((q::fs).map (·.1)) (a::as)=(Sum.inl (q.1:Int),V.ref a)::bB (fs.map (·.1)) as:=rfl;rw[e0];rcases Yp.mp h with rfl|h;·exact⟨a,fN rfl,f⟩
  ·obtain⟨a',e1,e2⟩:=ih n2 h;refine⟨a',?_,e2⟩;rw[eX (p:=((Sum.inl (q.1:Int):Key),V.ref a)) (λz=>n1 (by
    have e:=Cf z;have e':q.1=p.1:=by omega
    rw[e'];exact Yh.mpr ⟨_,h,rfl⟩))]
   exact e1
section
variable {K:ah}{mg:aQ}{dD:Addr}
def V8:aP lC lC (aF Dq):=.aX
def Za8(F:aN K "people" "Hearth.people" Dq f fd)(hc:fO K C)(bl:Bl mg):aE P w K mg base aM 1 f fd lC (N6 C CL CJ):=by
 refine F.o V8 λs H hr h=>?_;obtain⟨l,b,xs,ys,rfl,ba,q⟩:=h;refine⟨_,(av (aG (eS (YO rfl) rfl bl.uU uO (aa (pF K 0) ae)))),?_⟩;obtain⟨dx,h1⟩:=ba.obj;refine⟨_,rfl,l.h,C,dx,_,_,rfl,h1,hc.cls,hc.rR,rfl,l.sd,_,rfl,ba.c8,λp H' np g hp=>q p H' np g ?_⟩;rw[hp,Wi];rfl
abbrev kr:List Str:=["self","name"]
def VZ:aP kr kr (aF Dg):=.aX
def Z5(F:aN K "side_of" "Hearth.side_of" Dg f fd)(hc:fO K C)(bl:Bl mg):aE P w K mg base aM 1 f fd kr (Gh C CL CJ):=by
 refine F.o VZ λs H hr h=>?_;obtain⟨l,b,xs,ys,z,v,rfl,ba,ev,q⟩:=h;refine⟨_,(aq (aV (jE (m5 (bw hr) (pv 1) (pF K 0)) (by with_unfolding_all rfl)) gc aZ) (av (aG (dk (bw hr) (pF K 0) (pv 1) (λ_ _=>rfl))))),?_⟩;obtain⟨dx,h1⟩:=ba.obj;exact⟨_,rfl,_,rfl,l.h,C,dx,_,_,rfl,h1,hc.cls,hc.rR,rfl,l.sd,some v,rfl,cV ba.c8 ev,_,rfl,bW (aY ⟨_,rfl,l.h,C,dx,_,_,rfl,h1,hc.cls,hc.rR,rfl,_,rfl,l.sd,v,rfl,cV ba.c8 ev,q⟩)⟩
def XT:aP jz jz (aF Eu):=.aX
def XU(F:aN K "is_person" "is_person" Eu f fd)(bl:Bl mg):aE P w K mg base aM 1 f fd jz (Fj K):=by
 refine F.o XT λs H hr h=>?_;obtain⟨r,xs,rfl,vN,q⟩:=h;refine⟨_,(av (aG (eO cv (dq K bl (pv 0)) aO))),?_⟩;refine⟨_,rfl,r,xs,rfl,.inr vN,rfl,?_⟩;have e:decide (V.int (xs.length:Int)=V.int 2)=decide (xs.length=2):=by
  rw[Wj,decide_eq_true_iff,decide_eq_true_iff];exact⟨λz=>by have:=V.int.inj z;omega,λz=>by rw[z];rfl⟩
 rw[←e] at q;exact q
abbrev pk:List Str:=["self","kind","one","other"]
def Xq:aP pk pk (aF Ec):=.aX
def Zfh(F:aN K "has" "Hearth.has" Ec f fd)(hc:fO K C)(oA:HasFn P w K mg base 1 "fact_key" vc AS):aE P w K mg base aM 2 f fd pk (HV C CL CJ):=by
 refine F.o Xq λs H hr h=>?_;obtain⟨l,b,xs,ys,k,a,o,rfl,ba,hs,q⟩:=h;refine⟨_,(av (aG (Zd2 (xw (bw hr) (aW oA hr (aa (pv 1) (aa (pv 2) (aa (pv 3) ae)))) (pF K 0)) (by with_unfolding_all rfl)))),?_⟩;refine⟨_,rfl,_,rfl,_,rfl,k,a,o,rfl,hs,λp H1 np g1 hp=>?_⟩;obtain⟨dx,h1⟩:=ba.obj;refine⟨_,rfl,l.h,C,dx,_,_,rfl,g1 _ _ h1,hc.cls,hc.An,rfl,l.kn,_,rfl,d_.t (g1 _ _ ba.known) hp,?_⟩;exact q H1 g1
abbrev Bg:List Str:=["self","kind","name"]
def VR:aP Bg Bg (aF C6):=.aX
def XW(F:aN K "parent_of" "Hearth.parent_of" C6 f fd)(hc:fO K C):aE P w K mg base aM 1 f fd Bg (MG C CL CJ):=by
 refine F.o VR λs H hr h=>?_;obtain⟨l,b,xs,ys,k,a,rfl,ba,q⟩:=h;refine⟨_,(av (aG (ZbN (bw hr) (pF K 0) (c6 (aa (pv 1) (aa (pv 2) ae))) ⟨rfl,rfl,rfl,rfl⟩))),?_⟩;obtain⟨dx,h1⟩:=ba.obj;refine⟨_,rfl,l.h,C,dx,_,_,rfl,h1,hc.cls,hc.uH,rfl,l.pr,rfl,.inr ⟨_,.inl ba.parents⟩,_,rfl,_,rfl,by show 2<=sizeLine;decide,λp H1 np g1 hp=>?_⟩;exact⟨_,d_.t (k:=[.inr k,.inr a]) (g1 _ _ ba.parents) hp,q H1 g1⟩
def VP:aP kr kr (aF C4):=.aX
theorem Xr(F:aN K "parents_of" "Hearth.parents_of" C4 f fd)(hc:fO K C)(jd:mg "PARENTS"=some (.ref dD))(qP:∀H,aB K H dD (iU.map V.str)):aE P w K mg base aM 1 f fd kr (Me C CL CJ):=by
 refine F.o VP λs H hr h=>?_;obtain⟨l,b,xs,ys,a,rfl,ba,q⟩:=h;refine⟨_,(av (aG (iJ (x:="kind") (fr:=[("self",0),("name",1)]) (cl:=[("self",s.heap.objs.size+1),("name",s.heap.objs.size+1+1)]) rfl (.gu ⟨rfl,⟨rfl,trivial⟩⟩ ⟨⟨rfl,.inl rfl,.inl rfl,rfl⟩,⟨⟨rfl,.inl rfl,.inl rfl,rfl⟩,trivial⟩⟩) (GL (dv (v:=.ref dD) rfl jd rfl)) (λ_ _ _ _=>wY (jE (xw (bw hr) (c6 (aa (pv 0) (aa (pv 2) ae))) (w8 (K:=K) rfl (pv 1) rfl)) (by with_unfolding_all rfl))) (λ_ _ _ _=>(dk (bw hr) (w8 (K:=K) rfl (pv 1) rfl) (c6 (aa (pv 0) (aa (pv 2) ae))) (λ_ _=>rfl)))))),?_⟩;obtain⟨dx,h1⟩:=ba.obj;let val:Nat->Option V:=λi=>aT (cj b.ps b.fs) [.inr (iU.getD i ""),.inr a];refine⟨dD,rfl,⟨_,qP _⟩,λD hD=>ZaP (K:=K) (a:=dD) (xs:=iU.map V.str) (qP _) (by show 2<=1000;decide) hD (λi=>(val i).isSome) (λi=>(val i).getD .az) (λi v hi H1 g1 _ Kt Kf kt kf=>?_) λH1 g1 h2=>q D H1 hD g1 ?_⟩
 ·obtain⟨k,rfl,ek⟩:∃k:Str,v=.str k/\iU.getD i ""=k:=by
   match i,hi with
   |0,hi=>exact⟨"mother",(Yn hi).symm,rfl⟩
   |1,hi=>exact⟨"father",(Yn hi).symm,rfl⟩
   |i+2,hi=>simp at hi
  have ev:val i=aT (cj b.ps b.fs) [.inr k,.inr a]:=by show aT (cj b.ps b.fs) [.inr (iU.getD i ""),.inr a]=_;rw[ek]
  refine⟨_,rfl,_,rfl,by show 2<=sizeLine;decide,λp H2 np g2 hp=>?_⟩;refine⟨_,rfl,l.h,C,dx,_,_,rfl,g2 _ _ (g1 _ _ h1),hc.cls,hc.uH,rfl,l.pr,_,rfl,d_.t (k:=[.inr k,.inr a]) (g2 _ _ (g1 _ _ ba.parents)) hp,_,rfl,?_⟩;rw[ev] at kt kf;cases e:aT (cj b.ps b.fs) [.inr k,.inr a] with
  |none=>
   rw[e] at kf;exact bW (kf H2 rfl g2)
  |some u=>
   rw[e] at kt;refine cY ?_;refine⟨_,rfl,l.h,C,dx,_,_,rfl,g2 _ _ (g1 _ _ h1),hc.cls,hc.uH,rfl,_,rfl,_,rfl,by show 2<=sizeLine;decide,λp3 H3 K_ g3 vT=>?_⟩;refine⟨l.pr,u,rfl,?_,kt u H3 rfl (g2.trans g3) rfl⟩;have z:=d_.t (k:=[.inr k,.inr a]) (g3 _ _ (g2 _ _ (g1 _ _ ba.parents))) vT;rw[e] at z;exact z
 ·rw[h2];have e:((List.range (iU.map V.str).length).filter λi=>(val i).isSome).map (λi=>(val i).getD .az)=oQ b a:=by
   exact Zco val
  rw[e]
end
def Ap(h:i<ps.length):au (ps++[x]) i=au ps i:=by
 unfold au
 grind
def Gi(ok:dP n ps.length c):bo (ps++[x]) c=bo ps c:=by
 unfold bo;by_cases e:c.k=bH;·grind
 ·rw[if_neg e,if_neg e,Ap (ok.hU e).1.2]
def ZdA(ok:dP n ps.length c):dZ (ps++[x]) z c=dZ ps z c:=by
 unfold dZ;rw[Gi ok,Ap ok.one]
def Pf(ok:dP n ps.length c):fG (ps++[x]) c=fG ps c:=by
 unfold fG;rw[Gi ok,Ap ok.one]
def ZdB(ok:∀p∈fs,dP n ps.length p.2):fH (ps++[x]) fs=fH ps fs:=by
 exact W7 λp hp=>by rw[Pf (ok p hp)]
def Pg(ok:∀p∈fs,dP n ps.length p.2):cj (ps++[x]) fs=cj ps fs:=by
 exact W7 λp hp=>by
  have o:=ok p (Y5.mp hp).1;rw[Gi o,Ap o.one]
def ZdC(ps:bA)(n s:Str):gw (ps++[(n,s)])=gw ps++[(.inr n,.str s)]:=Ym
def ZdD(ps:bA)(x:Str×Str):i4 (ps++[x])=i4 ps++[(.inr x.1,.int (ps.length:Int))]:=by
 unfold i4
 grind
def Zcp(ps:bA)(fs:List (Nat×Fc))(z:Nat)(c:Fc):fH ps (fs++[(z,c)])=fH ps fs++[(fG ps c,.int (z:Int))]:=Ym
def N8(h:cO c.k=true):cj ps (fs++[(z,c)])=cj ps fs++[([.inr c.k,.inr (au ps c.one)],kV (bo ps c))]:=by
 unfold cj
 grind
def N9(h:cO c.k=false):cj ps (fs++[(z,c)])=cj ps fs:=by
 unfold cj
 grind
def Aq(k:Str):fq (.str k) (iU.map V.str)=cO k:=by
 show((("mother":Str)==k)||((("father":Str)==k)||false))=(decide (k="mother")||decide (k="father"))
 grind
theorem Mf{α β γ:Type}[DecidableEq β][DecidableEq γ]{f:α->β}{g:α->γ}:∀{xs:List α} {x:α},(xs.map f).Nodup->(xs.map g).Nodup->x∈xs->xs.filter (λy=>decide (f y≠f x))=xs.filter (λy=>decide (g y≠g x)):=by
 intro xs x n1 n2 hx;have inj:∀{δ:Type} {h:α->δ},(xs.map h).Nodup->∀y∈xs,h y=h x->y=x:=by
  induction xs with
  |nil=>cases hx
  |cons a r ih=>grind
 refine List.filter_congr λy hy=>?_
 grind
def Zcq{ps:bA}{fs:List (Nat×Fc)}{z:Nat}{c:Fc}(zs:(fs.map (·.1)).Nodup)(ky:(fs.map λp=>fG ps p.2).Nodup)(m:(z,c)∈fs):gY (fH ps fs) (fG ps c)=fH ps (cZ z fs):=by
 unfold fH gY cZ;rw[J0];exact congrArg _ (Mf (x:=(z,c)) ky zs m)
def Zcr{ps:bA}{fs:List (Nat×Fc)}{z:Nat}{c:Fc}(zs:(fs.map (·.1)).Nodup)(pr:((cj ps fs).map (·.1)).Nodup)(m:(z,c)∈fs)(h:cO c.k=true):gY (cj ps fs) [.inr c.k,.inr (au ps c.one)]=cj ps (cZ z fs):=by
 unfold cj at pr⊢;rw[Wi] at pr;unfold gY cZ;rw[J0,Jj];have e:=Mf (f:=λp:Nat×Fc=>([.inr p.2.k,.inr (au ps p.2.one)]:List Key)) (x:=(z,c)) pr (zs.sublist (List.filter_sublist.map _)) (Y5.mpr ⟨m,h⟩);rw[Jj,Jj] at e;rw[Jj]
 grind
theorem Za9(zs:(fs.map (·.1)).Nodup)(m:(z,c)∈fs)(h:cO c.k=false):cj ps fs=cj ps (cZ z fs):=by
 unfold cj cZ;rw[Jj];refine congrArg _ (List.filter_congr λp hp=>?_);by_cases e:p.1=z
 ·have:p=(z,c):=by
   have aux:∀{fs:List (Nat×Fc)},(fs.map (·.1)).Nodup->p∈fs->(z,c)∈fs->p=(z,c):=by
    induction fs with
    |nil=>grind
    |cons a r ih=>grind
   exact aux zs hp m
  grind
 ·grind
inductive Move(xs ys:List Int)(H:Hp)(r:Addr)(b:BS):Int->BS->Prop
 |pin (n s:Str) (hr:H r=some (.tup [.str n,.str s])) (new:n∉b.ps.map (·.1)) (lim:b.ps.length<64):Move xs ys H r b 1 {b with ps:=b.ps++[(n,s)]}
 |fin (z:Nat) (c:Fc) (hr:eK H b.ps r (z,c)) (fg:dQ xs ys b.ps.length c) (nz:z∉b.fs.map (·.1)) (nk:fG b.ps c∉b.keys) (np:cO c.k=true->[.inr c.k,.inr (au b.ps c.one)]∉(cj b.ps b.fs).map (·.1)) (lv:∃f,lQ xs.length b.ps.length f/\∀c'∈b.F++[c],eU f c') (lim:b.fs.length<63):Move xs ys H r b 1 {b with fs:=b.fs++[(z,c)]}
 |vd (z:Nat) (c:Fc) (hr:eK H b.ps r (z,c)) (m:(z,c)∈b.fs):Move xs ys H r b (-1) {b with fs:=cZ z b.fs}
theorem Move.out{w:Int}(m:Move xs ys H r b w b')(k:∀us,H r=some (.tup us)->H' r=some (.tup us)):Move xs ys H' r b w b':=by
 cases m with
 |pin n s hr new lim=>exact .pin n s (k _ hr) new lim
 |fin z c hr fg nz nk np lv lim=>exact .fin z c (k _ hr) fg nz nk np lv lim
 |vd z c hr m=>exact .vd z c (k _ hr) m
theorem Move.Zgb{w:Int}(m:Move xs ys H r b w b')(dn un:List Bf):Move xs ys H r {b with dn:=dn,un:=un} w {b' with dn:=dn,un:=un}:=by
 cases m with
 |pin n s hr new lim=>exact .pin n s hr new lim
 |fin z c hr fg nz nk np lv lim=>exact .fin z c hr fg nz nk np lv lim
 |vd z c hr m=>exact .vd z c hr m
inductive Ph(C CL CJ:Addr)(vs:List V)(H:Hp)(Q:VK):Prop
 |mk (l:BL) (b:BS) (xs ys:List Int) (fa:Addr) (z:Nat) (c:Fc) (aC:vs=[.ref l.h,.ref fa]) (ba:bh H C CL CJ l xs ys b) (hf:eK H b.ps fa (z,c)) (nz:z∉b.fs.map (·.1)) (nk:fG b.ps c∉b.keys) (np:cO c.k=true->[.inr c.k,.inr (au b.ps c.one)]∉(cj b.ps b.fs).map (·.1)) (fl:b.fs.length<=63)
   (q:∀H',Out [l.fc,l.kn,l.pr] H H'->H' l.fc=some (.dK (bB ((b.fs++[(z,c)]).map (·.1)) (l.bV++[fa])))->H' l.kn=some (.dT (fH b.ps (b.fs++[(z,c)])))->H' l.pr=some (.dT (cj b.ps (b.fs++[(z,c)])))->Q .az H'):Ph C CL CJ vs H Q
def QQ(C CL CJ:Addr):Sp:=λvs H Q _=>Ph C CL CJ vs H Q
inductive Pj(C CL CJ:Addr)(vs:List V)(H:Hp)(Q:VK)(E:XK):Prop
 |mk (l:BL) (b b':BS) (xs ys:List Int) (r:Addr) (aC:vs=[.ref l.h,.ref r]) (ba:bh H C CL CJ l xs ys b) (ok:cM xs ys b) (mv:Move xs ys H r b 1 b') (q:∀(l':BL) (H':Hp),bM H H' l l'->bh H' C CL CJ l' xs ys b'->Q .az H')
inductive Nk(C CL CJ:Addr)(vs:List V)(H:Hp)(Q:VK)(E:XK):Prop
 |mk (l:BL) (b b':BS) (xs ys:List Int) (r:Addr) (aC:vs=[.ref l.h,.ref r]) (ba:bh H C CL CJ l xs ys b) (ok:cM xs ys b) (mv:Move xs ys H r b (-1) b') (q:∀(l':BL) (H':Hp),bM H H' l l'->bh H' C CL CJ l' xs ys b'->Q .az H')
inductive Pk(C CL CJ:Addr)(vs:List V)(H:Hp)(Q:VK)(E:XK):Prop
 |mk (l:BL) (b b':BS) (xs ys:List Int) (r:Addr) (w:Int) (c2:Nat) (aC:vs=[.ref l.h,.int w,.ref r,.int (c2:Int)]) (ba:bh H C CL CJ l xs ys b) (ok:cM xs ys b) (mv:Move xs ys H r b w b') (q:∀(l':BL) (H':Hp),bM H H' l l'->bh H' C CL CJ l' xs ys {b' with co:=c2}->Q .az H')
inductive z8(C CL CJ:Addr)(vs:List V)(H:Hp)(Q:VK)(E:XK):Prop
 |mk (l:BL) (b b':BS) (xs ys:List Int) (r:Addr) (w:Int) (c2:Nat) (row:List Key) (aC:vs=[.ref l.h,.int w,.ref r,.int (c2:Int)]) (ba:bh H C CL CJ l xs ys b) (ok:cM xs ys b) (dl:b.dn.length<200) (hr:H r=some (.tup (row.map kV))) (mv:Move xs ys H r b w b') (q:∀(l':BL) (H':Hp),bM H H' l l'->bh H' C CL CJ l' xs ys {b' with co:=c2,dn:=b.dn++[⟨w,row,b.co,c2⟩],un:=[]}->Q .az H')
section
variable {K:ah}{mg:aQ}{dD:Addr}
def Pl{ps:bA}{c:Fc}(e:c.k="sibling"):∃b,bo ps c=.inr b:=⟨_,jh (by rw[e];decide+kernel)⟩
abbrev sT:List Str:=["self","fact"]
abbrev SK:List Str:=["self","fact","number","kind","one","other"]
def wu:aP SK sT (aF C7):=.aX
theorem ZdE(F:aN K "note_fact" "Hearth.note_fact" C7 f fd)(hc:fO K C)(jd:mg "PARENTS"=some (.ref dD))(qP:∀H,aB K H dD (iU.map V.str))(oA:HasFn P w K mg base 1 "fact_key" vc AS):aE P w K mg base aM 2 f fd sT (QQ C CL CJ):=by
 refine F.o wu λs H hr h=>?_;obtain⟨l,b,xs,ys,fa,z,c,rfl,ba,hf,nz,nk,np,fl,q⟩:=h;refine⟨_,(aq (nv (pv 1) (jj (K:=K) (n:=4) rfl rfl (bR (bF 2 wu.nd) (bR (bF 3 wu.nd) (bR (bF 4 wu.nd) (bR (bF 5 wu.nd) ji)))))) (aq (oF (bw hr) (pF K 0) (pv 2) (pv 1)) (aq (M5 (bw hr) (pF K 0) (aW oA hr (aa (pv 3) (aa (pv 4) (aa (pv 5) ae)))) (pv 2)) (av (aV (iG (mP (K:=K) rfl) (pv 3) (dv (v:=.ref dD) rfl jd rfl) (by with_unfolding_all rfl)) (av (M5 (bw hr) (pF K 0) (c6 (aa (pv 3) (aa (pv 4) ae))) (pv 5))) aZ))))),?_⟩;obtain⟨dx,h1⟩:=ba.obj;have sz:(10000:Nat)<=sizeLine:=by rw[sizeLine_eq];omega
 have al:(b.fs.map (·.1)).length=l.bV.length:=by rw[Ya];exact(cU ba.fact).symm
 have Cv:l.h≠l.fc:=dI h1 ba.facts (λz=>by cases z);have nh2:l.h≠l.kn:=dI h1 ba.known (λz=>by cases z);have UI:l.kn≠l.fc:=dI ba.known ba.facts (λz=>by cases z);have jO:l.pr≠l.fc:=dI ba.parents ba.facts (λz=>by cases z);have UJ:l.pr≠l.kn:=λe=>by
  have:=ba.nd;unfold BL.own at this;simp[e] at this
 refine⟨_,rfl,fa,_,rfl,aB.of hf,rfl,_,_,rfl,bg ⟨_,_,rfl,bg ⟨_,_,rfl,bg ⟨_,_,rfl,bg ⟨rfl,?_⟩⟩⟩⟩⟩;refine⟨_,rfl,_,rfl,l.h,C,dx,_,_,rfl,h1,hc.cls,hc.uR,rfl,_,rfl,l.fc,_,.inl (z:Int),rfl,ba.facts,rfl,by unfold bB;rw[Ya,Jd,Ya];omega,λH1 b1 e1=>?_⟩;have vz:aT (bB (b.fs.map (·.1)) l.bV) (.inl (z:Int))=none:=zN nz;rw[kU _ vz,zC z fa al] at e1;refine⟨_,rfl,_,rfl,l.h,C,dx,_,_,rfl,b1 _ _ h1 Cv,hc.cls,hc.An,rfl,_,rfl,_,rfl,_,rfl,c.k,au b.ps c.one,bo b.ps c,rfl,λe=>Pl e,λp H2 tM g2 dh=>?_⟩;refine⟨l.kn,p,_,fG b.ps c,rfl,g2 _ _ (b1 _ _ ba.known UI),rfl,dh,by unfold fH;rw[Ya];omega,λH3 b3 e3=>?_⟩;have vk:aT (fH b.ps b.fs) (fG b.ps c)=none:=pV (by
  have:(fH b.ps b.fs).map (·.1)=b.keys:=by unfold fH BS.keys;rw[Wi];rfl
  rw[this];exact nk)
 rw[kU _ vk] at e3
 replace e3:H3 l.kn=some (.dT (fH b.ps (b.fs++[(z,c)]))):=by rw[Zcp];exact e3
 have k3:∀{a:Addr} {o:HO},H a=some o->a≠l.fc->a≠l.kn->H3 a=some o:=λ{a o} e n1 n2=>b3 _ _ (g2 _ _ (b1 _ _ e n1)) n2;have i6:H3 l.fc=some (.dK (bB ((b.fs++[(z,c)]).map (·.1)) (l.bV++[fa]))):=by
  have:=b3 _ _ (g2 _ _ e1) (λz=>UI z.symm);rw[this,Ym];rfl
 have yN:=k3 ba.parents jO UJ;refine⟨_,rfl,dD,_,rfl,.inr (qP _),rfl,rfl,_,rfl,?_⟩;dsimp only;rw[if_neg Yj,show fq (kV (Sum.inr c.k)) (iU.map V.str)=cO c.k from Aq c.k];refine bJ (λcc=>?_) (λcc=>aY ?_)
 ·refine⟨_,rfl,_,rfl,l.h,C,dx,_,_,rfl,k3 h1 Cv nh2,hc.cls,hc.uH,rfl,_,rfl,_,rfl,by show 2<=sizeLine;decide,λp4 H4 La g4 yO=>?_⟩;refine⟨l.pr,p4,_,[.inr c.k,.inr (au b.ps c.one)],rfl,g4 _ _ yN,rfl,yO,?_,λH5 b5 e5=>?_⟩
  ·unfold cj;rw[Ya];have:=Wh (λp:Nat×Fc=>cO p.2.k) b.fs;omega
  have vp:aT (cj b.ps b.fs) [.inr c.k,.inr (au b.ps c.one)]=none:=pV (np cc);rw[kU _ vp] at e5
  replace e5:H5 l.pr=some (.dT (cj b.ps (b.fs++[(z,c)]))):=by rw[N8 cc];exact e5
  refine q H5 (λa o e n=>?_) (b5 _ _ (g4 _ _ i6) (λz=>jO z.symm)) (b5 _ _ (g4 _ _ e3) (λz=>UJ z.symm)) e5;simp only[Yp,Y3,or_false,not_or] at n;exact b5 _ _ (g4 _ _ (k3 e n.1 n.2.1)) n.2.2
 ·have ef:cO c.k=false:=by
   cases e:cO c.k with
   |true=>exact absurd e cc
   |false=>rfl
  refine q H3 (λa o e n=>?_) i6 e3 (by rw[N9 ef];exact yN)
  grind
theorem QR{l:BL}{H H1:Hp}{jl hZ:JL}(e2:l.eF=jl.fp)(o:Out l.own H H1)(gr:eC jl.fp hZ.fp H1):eC l.fp ({l with eF:=hZ.fp}:BL).fp H:=λa z=>by
 rcases Yq.mp (show a∈l.own++hZ.fp from z) with q|q;·exact .inl (Yt _ q)
 ·rcases gr a q with m|m;·exact .inl (Yr _ (by rw[e2];exact m))
  ·by_cases ma:a∈l.own;·exact .inl (Yt _ ma)
   ·right
    cases e:H a with
    |none=>rfl
    |some u=>rw[o _ _ e ma] at m;cases m
def RO{l:BL}{H H1 H2:Hp}{jl:JL}(e2:l.eF=jl.fp)(o:Out l.own H H1)(o2:Out jl.fp H1 H2):Out l.fp H H2:=λa u e n=>o2 _ _ (o _ _ e λz=>n (Yt _ z)) λz=>n (Yr _ (by rw[e2];exact z))
def rV{l:BL}{H H1:Hp}(o:Out l.own H H1):Out l.fp H H1:=λa u e n=>o _ _ e λz=>n (Yt _ z)
abbrev ve:List Str:=["self","row"]
def Dj:aP ["self","row","name","side"] ve (aF Dr):=.aX
theorem Za_(F:aN K "put_in" "Hearth.put_in" Dr f fd)(hc:fO K C)(uq:HasFn P w K mg base 1 "is_person" jz (Fj K))(ur:cE P w K mg base 2 "add" CJ lC (HS CJ))(C8:cE P w K mg base 2 "note_fact" C sT (QQ C CL CJ))(uu:HasFn P w K mg base 6 "keep_fact" sS (GC CL CJ))(bl:Bl mg):aE P w K mg base aM 8 f fd ve (Pj C CL CJ):=by
 refine F.o Dj @λbC A outer vs Q E s H hr h=>?_;obtain⟨l,b,b',xs,ys,r,rfl,ba,ok,mv,q⟩:=h;refine⟨_,(av (aV (eY (aW uq hr (aa (pv 1) ae))) (aq (nv (pv 1) (jj (K:=K) (n:=2) rfl rfl (bR (bF 2 Dj.nd) (bR (bF 3 Dj.nd) ji)))) (aq (oF (bw hr) (pF K 0) (pv 2) (h_ (ZJ) rfl bl.AN Aw (aa (pF K 0) ae))) (aq (oF (bw hr) (pF K 0) (pv 2) (pv 3)) (av (aV (bG Ab (pF K 0) lZ) (av (b_ (xy ur hr (by omega) (pF K 0)))) aZ))))) (aq (b_ (cT C8 hr (by omega) (pv 0) (aa (pv 1) ae))) (av (aV (bG Ab (pF K 0) lZ) (av (b_ (aW uu hr (aa (pF K 0) (aa (pF K 0) (aa (pF K 0) (aa (pv 1) ae))))))) aZ))))),?_⟩;obtain⟨dx,h1⟩:=ba.obj;have sz:(10000:Nat)<=sizeLine:=by rw[sizeLine_eq];omega
 have nd:=ba.nd;unfold BL.own at nd;have UK:=nd;simp only[Yz,Yp,Y3,or_false,not_or] at UK;obtain⟨⟨mU,bQ,i8,mV,pO,n5,pP⟩,⟨yP,tR,tS,tT,vU,vV⟩,⟨qV,tU,tV,vW,vX⟩,_⟩:=UK;have sU:∀p∈b.fs,dP xs.length b.ps.length p.2:=λp hp=>(ok.fg p hp).ok;cases mv with
 |pin n s hR new lim=>
  refine⟨_,rfl,r,_,rfl,aB.of hR,_,rfl,cY ?_⟩;refine⟨_,rfl,r,_,rfl,aB.of hR,rfl,_,_,rfl,bg ⟨_,_,rfl,bg ⟨rfl,?_⟩⟩⟩;have kl:(gw b.ps).length=b.ps.length:=Ya _;have pl':(i4 b.ps).length=b.ps.length:=by unfold i4;rw[Ya,List.length_zipIdx]
  refine⟨_,rfl,l.h,C,dx,_,_,rfl,h1,hc.cls,hc.rR,rfl,l.sd,_,rfl,ba.c8,_,rfl,l.h,C,dx,_,_,rfl,h1,hc.cls,hc.qg,rfl,_,rfl,l.pl,_,.inr n,rfl,ba.places,rfl,by omega,λH1 b1 e1=>?_⟩;have Zgc:(i4 b.ps).map (·.1)=b.ps.map λp=>(.inr p.1:Key):=by
   unfold i4;rw[Wi];have:(λp:(Str×Str)×Nat=>((.inr p.1.1:Key),V.int (p.2:Int)).1)=(λp:Str×Str=>(.inr p.1:Key))∘Prod.fst:=rfl;show b.ps.zipIdx.map (λp:(Str×Str)×Nat=>((.inr p.1.1:Key),V.int (p.2:Int)).1)=_;rw[this,←Wi,List.zipIdx_map_fst]
  have SM:∀{ks:List Key},ks=(b.ps.map λp=>(.inr p.1:Key))->(.inr n:Key)∉ks:=λ{ks} e z=>by
   rw[e] at z;obtain⟨p,hp,ep⟩:=Yh.mp z;exact new (Yh.mpr ⟨p,hp,Wf ep⟩)
  have vp:aT (i4 b.ps) (.inr n)=none:=pV (SM Zgc);have vs':aT (gw b.ps) (.inr n)=none:=pV (SM (by show(b.ps.map _).map _=_;rw[Wi];rfl));rw[kU _ vp,kl] at e1;refine⟨_,rfl,_,rfl,l.h,C,dx,_,_,rfl,b1 _ _ h1 bQ,hc.cls,hc.rR,rfl,_,rfl,l.sd,_,.inr n,rfl,b1 _ _ ba.c8 yP,rfl,by omega,λH2 b2 e2=>?_⟩;rw[kU _ vs'] at e2;have k2:∀{a:Addr} {o:HO},H a=some o->a≠l.pl->a≠l.sd->H2 a=some o:=λ{a o} e n1 n2=>b2 _ _ (b1 _ _ e n1) n2;have o2:Out l.own H H2:=λa u e na=>k2 e (λz=>na (by rw[z];simp[BL.own])) (λz=>na (by rw[z];simp[BL.own]));have s2:H2 l.sd=some (.dK (gw (b.ps++[(n,s)]))):=by rw[ZdC];exact e2
  have p2:H2 l.pl=some (.dK (i4 (b.ps++[(n,s)]))):=by rw[ZdD];exact b2 _ _ e1 (λz=>yP z.symm)
  have h2:=k2 h1 bQ mU;have tp:∀{a:Addr} {us:List V} {H3:Hp},Out l.fp H H3->H a=some (.tup us)->H3 a=some (.tup us):=λo e=>o _ _ e (ba.tup e);have mk:∀(l':BL) (H3:Hp),l'={l with eF:=l'.eF}->Out l.fp H H3->eC l.fp l'.fp H->(∀a u,H2 a=some u->a∈l.own->H3 a=some u)->sR H3 CJ xs.length l' {b with ps:=b.ps++[(n,s)]}->Q .az H3:=λl' H3 el o g k rk=>by
   refine q l' H3 ⟨by rw[el],o,g⟩ ?_;refine ba.build (l':=l') (b':={b with ps:=b.ps++[(n,s)]}) (by rw[el]) (by rw[el]) (by rw[el]) (by rw[el]) (by rw[el]) (by rw[el]) (by rw[el]) (by rw[el]) (by rw[el]) o g ⟨dx,?_⟩ (k _ _ s2 (by simp[BL.own])) (k _ _ p2 (by simp[BL.own])) ?_ ?_ ?_ ?_ ?_ ?_ ?_ ?_ rk
   ·have:l'.rk=l.rk:=by rw[el]
    rw[this];exact k _ _ h2 (by simp[BL.own])
   ·have:l'.bV=l.bV:=by rw[el]
    rw[this];exact k _ _ (k2 ba.facts (λz=>qV z.symm) (λz=>tR z.symm)) (by simp[BL.own])
   ·have:l'.bV=l.bV:=by rw[el]
    rw[this];have aux:∀{as:List Addr} {fs:List (Nat×Fc)},Paired (λa (p:Nat×Fc)=>H a=some (.tup ((dZ b.ps p.1 p.2).map kV))) as fs->(∀p∈fs,dP xs.length b.ps.length p.2)->Paired (λa (p:Nat×Fc)=>H3 a=some (.tup ((dZ (b.ps++[(n,s)]) p.1 p.2).map kV))) as fs:=by
     intro as fs pr;induction pr with
     |nil=>intro _;exact .nil
     |cons f _ ih=>intro m;exact .cons (by rw[ZdA (m _ Yo)];exact tp o f) (ih λp hp=>m p (Yw _ hp))
    exact aux ba.fact sU
   ·show H3 l.kn=some (.dT (fH (b.ps++[(n,s)]) b.fs));rw[ZdB sU];exact k _ _ (k2 ba.known (λz=>tU z.symm) (λz=>tS z.symm)) (by simp[BL.own])
   ·show H3 l.pr=some (.dT (cj (b.ps++[(n,s)]) b.fs));rw[Pg sU];exact k _ _ (k2 ba.parents (λz=>tV z.symm) (λz=>tT z.symm)) (by simp[BL.own])
   ·have:l'.iC=l.iC:=by rw[el]
    rw[this];exact k _ _ (k2 ba.done (λz=>vW z.symm) (λz=>vU z.symm)) (by simp[BL.own])
   ·have:l'.iC=l.iC:=by rw[el]
    rw[this];exact L2.Paired.bq ba.lE λ_ _ e=>e.out o λa us e=>ba.tup e
   ·have:l'.kK=l.kK:=by rw[el]
    rw[this];exact k _ _ (k2 ba.iN (λz=>vX z.symm) (λz=>vV z.symm)) (by simp[BL.own])
   ·have:l'.kK=l.kK:=by rw[el]
    rw[this];exact L2.Paired.bq ba.nE λ_ _ e=>e.out o λa us e=>ba.tup e
  cases hj:ba.sA with
  |no j1 j2=>
   rw[j1] at h2;refine⟨_,rfl,l.h,C,dx,_,_,rfl,h2,hc.cls,hc.iF,rfl,rfl,_,rfl,bW (aY ?_)⟩;exact mk l H2 rfl (rV o2) (eC.refl _ _) (λ_ _ e _=>e) (.no j1 j2)
  |at_ jl st j1 j2 ja me len fX=>
   have lN:=h2;rw[j1] at lN;have Cw:=ja.ie o2 fX (ba.G9 ja me) λa us e z=>ba.tup e (Yt _ z);obtain⟨dj,ej⟩:=Cw.obj;have wf:=me.wf;have ml:=wf.QJ;have yL:=wf.AR;have n8:xs.length<=8:=ok.gd.2.2.2.2;refine⟨_,rfl,l.h,C,dx,_,_,rfl,lN,hc.cls,hc.iF,rfl,rfl,_,rfl,cY ?_⟩;refine⟨_,rfl,l.h,C,dx,_,_,rfl,lN,hc.cls,hc.iF,rfl,jl.J,dj,_,rfl,ej,rfl,jl,st,xs.length,rfl,Cw,by omega,by omega,by omega,by omega,wf.ll,λz=>Wc _ (wf.lm _ z),λz=>Wc _ (wf.lf _ z),λhZ H3 k1 o3 gr Lb=>?_⟩;refine mk {l with eF:=hZ.fp} H3 rfl (RO j2 o2 o3) (QR j2 o2 gr) (λa u e m=>o3 _ _ e (fX a m)) ?_;refine .at_ hZ _ (by rw[k1];exact j1) rfl Lb (me.more (by have:=ok.gd.2.2.2.1;omega)) ?_ λa m z=>?_;·rw[jg,len,Yi];rfl
   ·rcases gr a z with y|y;·exact fX a m y
    ·have:=ba.there (a:=a) (Yt _ m);have:H2 a≠none:=by
      have m':a∈l.own:=m;unfold BL.own at m';simp only[Yp,Y3,or_false] at m';rcases m' with rfl|rfl|rfl|rfl|rfl|rfl|rfl|rfl;·rw[h2];exact λz=>nomatch z
      ·rw[s2];exact λz=>nomatch z
      ·rw[p2];exact λz=>nomatch z
      ·rw[k2 ba.facts (λz=>qV z.symm) (λz=>tR z.symm)];exact λz=>nomatch z
      ·rw[k2 ba.known (λz=>tU z.symm) (λz=>tS z.symm)];exact λz=>nomatch z
      ·rw[k2 ba.parents (λz=>tV z.symm) (λz=>tT z.symm)];exact λz=>nomatch z
      ·rw[k2 ba.done (λz=>vW z.symm) (λz=>vU z.symm)];exact λz=>nomatch z
      ·rw[k2 ba.iN (λz=>vX z.symm) (λz=>vV z.symm)];exact λz=>nomatch z
     exact this y
 |fin z c hR fg nz nk np lv lim=>
  refine⟨_,rfl,r,_,rfl,aB.of hR,_,rfl,bW ?_⟩;refine⟨_,rfl,l.h,dx,_,rfl,h1,rfl,_,rfl,l,b,xs,ys,r,z,c,rfl,ba,hR,nz,nk,np,by omega,λH1 o1 f1 k1 p1=>?_⟩;have k2:∀{a:Addr} {o:HO},H a=some o->a≠l.fc->a≠l.kn->a≠l.pr->H1 a=some o:=λ{a o} e n1 n2 n3=>o1 _ _ e (by simp[n1,n2,n3]);have o2:Out l.own H H1:=λa u e na=>k2 e (λz=>na (by rw[z];simp[BL.own])) (λz=>na (by rw[z];simp[BL.own])) (λz=>na (by rw[z];simp[BL.own]));have h2:=k2 h1 i8 mV pO;have UL:=nd;simp only[Yz,Yp,Y3,or_false,not_or] at UL;obtain⟨_,_,_,⟨yQ,yR,vY,ko⟩,⟨Cy,yS,yT⟩,⟨yU,yV⟩,_⟩:=UL;have s2:=k2 ba.c8 tR tS tT;have p2:=k2 ba.places qV tU tV;have d2:=k2 ba.done (λz=>vY z.symm) (λz=>yS z.symm) (λz=>yU z.symm);have u2:=k2 ba.iN (λz=>ko z.symm) (λz=>yT z.symm) (λz=>yV z.symm);have tp:∀{a:Addr} {us:List V} {H3:Hp},Out l.fp H H3->H a=some (.tup us)->H3 a=some (.tup us):=λo e=>o _ _ e (ba.tup e);have mk:∀(jf:List Addr) (H3:Hp),Out l.fp H H3->eC l.fp ({l with bV:=l.bV++[r],eF:=jf}:BL).fp H->(∀a u,H1 a=some u->a∈l.own->H3 a=some u)->sR H3 CJ xs.length {l with bV:=l.bV++[r],eF:=jf} {b with fs:=b.fs++[(z,c)]}->Q .az H3:=λjf H3 o g k rk=>by
   refine q {l with bV:=l.bV++[r],eF:=jf} H3 ⟨rfl,o,g⟩ ?_;refine ba.build (l':={l with bV:=l.bV++[r],eF:=jf}) (b':={b with fs:=b.fs++[(z,c)]}) rfl rfl rfl rfl rfl rfl rfl rfl rfl o g ⟨dx,k _ _ h2 (by simp[BL.own])⟩ (k _ _ s2 (by simp[BL.own])) (k _ _ p2 (by simp[BL.own])) (k _ _ f1 (by simp[BL.own])) ?_ (k _ _ k1 (by simp[BL.own])) (k _ _ p1 (by simp[BL.own])) (k _ _ d2 (by simp[BL.own])) (L2.Paired.bq ba.lE λ_ _ e=>e.out o λa us e=>ba.tup e) (k _ _ u2 (by simp[BL.own])) (L2.Paired.bq ba.nE λ_ _ e=>e.out o λa us e=>ba.tup e) rk;exact jD (F:=λa (p:Nat×Fc)=>H3 a=some (.tup ((dZ b.ps p.1 p.2).map kV))) (tp o hR) (L2.Paired.bq ba.fact λ_ _ e=>tp o e)
  cases hj:ba.sA with
  |no j1 j2=>
   rw[j1] at h2;refine⟨_,rfl,l.h,C,dx,_,_,rfl,h2,hc.cls,hc.iF,rfl,rfl,_,rfl,bW (aY ?_)⟩;exact mk l.eF H1 (rV o2) (eC.refl _ _) (λ_ _ e _=>e) (.no j1 j2)
  |at_ jl st j1 j2 ja me len fX=>
   have lN:=h2;rw[j1] at lN;have Cw:=ja.ie o2 fX (ba.G9 ja me) λa us e z=>ba.tup e (Yt _ z);have la2:iM H1 CL l.L xs ys:=ba.land H1 (rV o2);refine⟨_,rfl,l.h,C,dx,_,_,rfl,lN,hc.cls,hc.iF,rfl,rfl,_,rfl,cY ?_⟩;refine⟨_,rfl,l.h,C,dx,_,_,rfl,lN,hc.cls,hc.iF,rfl,_,rfl,l.h,C,dx,_,_,rfl,lN,hc.cls,hc.uV,rfl,_,rfl,l.h,C,dx,_,_,rfl,lN,hc.cls,hc.qg,rfl,_,rfl,jl,st,l.L,l.pl,r,xs,ys,b.ps,b.F,z,c,rfl,Cw,me,la2,ok.gd,p2,ok.nm,len,by have:=ok.m;omega,tp (rV o2) hR,fg,?_,λv hZ aJ H3 e1 sub o3 Lb me3 Zg6=>?_⟩
   ·obtain⟨f0,i0,s0⟩:=lv;exact⟨f0,(me.iff f0).mpr ⟨by rw[len];exact i0,λc' m'=>s0 c' (Yt _ m')⟩,s0 c (Yr _ Yo)⟩
   have gr:eC jl.fp hZ.fp H1:=λa z=>.inl (sub a z);refine mk hZ.fp H3 (RO j2 o2 o3) (QR j2 o2 gr) (λa u e m=>o3 _ _ e (fX a m)) ?_;refine .at_ hZ aJ (by rw[e1];exact j1) rfl Lb ?_ (by rw[Zg6];exact len) λa m z=>fX a m (sub a z);show du xs.length aJ ((b.fs++[(z,c)]).map (·.2));rw[Ym];exact me3
end
section
variable {K:ah}{mg:aQ}{dD:Addr}
def N_{l l':BL}{H:Hp}(e1:l'.own=l.own)(e2:l'.eF=[]):eC l.fp l'.fp H:=λa z=>.inl (by
 unfold BL.fp at z;rw[e1,e2,Wd] at z;exact Yt _ z)
def wx:aP ["self","row","number","kind","one","other"] ve (aF Dc):=.aX
theorem Za(F:aN K "take_out" "Hearth.take_out" Dc f fd)(hc:fO K C)(jd:mg "PARENTS"=some (.ref dD))(qP:∀H,aB K H dD (iU.map V.str))(uq:HasFn P w K mg base 1 "is_person" jz (Fj K))(oA:HasFn P w K mg base 1 "fact_key" vc AS):aE P w K mg base aM 2 f fd ve (Nk C CL CJ):=by
 refine F.o wx @λbC A outer vs Q E s H hr h=>?_;obtain⟨l,b,b',xs,ys,r,rfl,ba,ok,mv,q⟩:=h;refine⟨_,(aq (aV (eY (aW uq hr (aa (pv 1) ae))) gc (aq (nv (pv 1) (jj (K:=K) (n:=4) rfl rfl (bR (bF 2 wx.nd) (bR (bF 3 wx.nd) (bR (bF 4 wx.nd) (bR (bF 5 wx.nd) ji)))))) (aq (Zb4 (pF K 0) (pv 2)) (aq (NP (bw hr) (pF K 0) (aW oA hr (aa (pv 3) (aa (pv 4) (aa (pv 5) ae))))) (av (aV (iG (mP (K:=K) rfl) (pv 3) (dv (v:=.ref dD) rfl jd rfl) (by with_unfolding_all rfl)) (av (NP (bw hr) (pF K 0) (c6 (aa (pv 3) (aa (pv 4) ae))))) aZ)))))) (av (gS (K:=K) rfl (pv 0) lZ))),?_⟩;obtain⟨dx,h1⟩:=ba.obj;have sz:(10000:Nat)<=sizeLine:=by rw[sizeLine_eq];omega
 have nd:=ba.nd;unfold BL.own at nd;simp only[Yz,Yp,Y3,or_false,not_or] at nd;obtain⟨⟨mU,bQ,i8,mV,pO,n5,pP⟩,⟨yP,tR,tS,tT,vU,vV⟩,⟨qV,tU,tV,vW,vX⟩,⟨yQ,yR,vY,ko⟩,⟨Cy,yS,yT⟩,⟨yU,yV⟩,_⟩:=nd;cases mv with
 |vd z c hR m=>
  have al:(b.fs.map (·.1)).length=l.bV.length:=by rw[Ya];exact(cU ba.fact).symm
  obtain⟨fa,Cz,_⟩:=Pd (H:=H) (ps:=b.ps) ba.fact ok.zs m;have Zgd:(fH b.ps b.fs).map (·.1)=b.keys:=by unfold fH BS.keys;rw[Wi];rfl
  refine⟨_,rfl,r,_,rfl,aB.of hR,_,rfl,bW ?_⟩;refine⟨_,rfl,r,_,rfl,aB.of hR,rfl,_,_,rfl,bg ⟨_,_,rfl,bg ⟨_,_,rfl,bg ⟨_,_,rfl,bg ⟨rfl,?_⟩⟩⟩⟩⟩;refine⟨_,rfl,l.h,C,dx,_,_,rfl,h1,hc.cls,hc.uR,rfl,_,rfl,l.fc,_,.inl (z:Int),rfl,ba.facts,rfl,by rw[Cz];rfl,λH1 b1 e1=>?_⟩;rw[zD z al,←oG] at e1;refine⟨_,rfl,l.h,C,dx,_,_,rfl,b1 _ _ h1 i8,hc.cls,hc.An,rfl,_,rfl,_,rfl,_,rfl,c.k,au b.ps c.one,bo b.ps c,rfl,λe=>Pl e,λp H2 tM g2 dh=>?_⟩;refine⟨l.kn,p,_,fG b.ps c,rfl,g2 _ _ (b1 _ _ ba.known (λz=>yQ z.symm)),rfl,dh,(z7 _ _).mpr (by rw[Zgd];exact Yh.mpr ⟨_,m,rfl⟩),λH3 b3 e3=>?_⟩;rw[Zcq ok.zs ok.ky m] at e3;have k3:∀{a:Addr} {o:HO},H a=some o->a≠l.fc->a≠l.kn->H3 a=some o:=λ{a o} e n1 n2=>b3 _ _ (g2 _ _ (b1 _ _ e n1)) n2;have ef3:=b3 _ _ (g2 _ _ e1) yQ;have yN:=k3 ba.parents (λz=>yR z.symm) (λz=>Cy z.symm);have last:∀H5,(∀{a:Addr} {o:HO},H3 a=some o->a≠l.pr->H5 a=some o)->H5 l.pr=some (.dT (cj b.ps (cZ z b.fs)))->∀H6,aA l.h H5 H6->H6 l.h=some (.ins C dx (HF l.L l.sd l.pl l.fc l.kn l.pr (b.co:Int) l.dn l.un .az))->Q .az H6:=λH5 k5 e5 H6 b6 e6=>by
   have k6:∀{a:Addr} {o:HO},H a=some o->a≠l.fc->a≠l.kn->a≠l.pr->a≠l.h->H6 a=some o:=λ{a o} e n1 n2 n3 n4=>b6 _ _ (k5 (k3 e n1 n2) n3) n4;have o6:Out l.own H H6:=λa u e na=>k6 e (λz=>na (by rw[z];simp[BL.own])) (λz=>na (by rw[z];simp[BL.own])) (λz=>na (by rw[z];simp[BL.own])) (λz=>na (by rw[z];simp[BL.own]));have of:=rV o6;have tp:∀{a:Addr} {us:List V},H a=some (.tup us)->H6 a=some (.tup us):=λe=>of _ _ e (ba.tup e);refine q {l with rk:=.az,eF:=[],bV:=dN (b.fs.map (·.1)) l.bV z} H6 ⟨rfl,of,N_ rfl rfl⟩ ?_;exact ba.build (l':={l with rk:=.az,eF:=[],bV:=dN (b.fs.map (·.1)) l.bV z}) (b':={b with fs:=cZ z b.fs}) rfl rfl rfl rfl rfl rfl rfl rfl rfl of (N_ rfl rfl) ⟨dx,e6⟩ (k6 ba.c8 tR tS tT (λz=>mU z.symm)) (k6 ba.places qV tU tV (λz=>bQ z.symm)) (b6 _ _ (k5 ef3 yR) (λz=>i8 z.symm)) (Fh ba.fact λa p e _ _=>tp e) (b6 _ _ (k5 e3 Cy) (λz=>mV z.symm)) (b6 _ _ e5 (λz=>pO z.symm)) (k6 ba.done (λz=>vY z.symm) (λz=>yS z.symm) (λz=>yU z.symm) (λz=>n5 z.symm)) (L2.Paired.bq ba.lE λ_ _ e=>e.out of λa us e=>ba.tup e) (k6 ba.iN (λz=>ko z.symm) (λz=>yT z.symm) (λz=>yV z.symm) (λz=>pP z.symm)) (L2.Paired.bq ba.nE λ_ _ e=>e.out of λa us e=>ba.tup e) (.no rfl rfl)
  refine⟨_,rfl,dD,_,rfl,.inr (qP _),rfl,rfl,_,rfl,?_⟩;dsimp only;rw[if_neg Yj,show fq (kV (Sum.inr c.k)) (iU.map V.str)=cO c.k from Aq c.k];refine bJ (λcc=>?_) (λcc=>aY ?_)
  ·refine⟨_,rfl,l.h,C,dx,_,_,rfl,k3 h1 i8 mV,hc.cls,hc.uH,rfl,_,rfl,_,rfl,by show 2<=sizeLine;decide,λp4 H4 La g4 yO=>?_⟩;refine⟨l.pr,p4,_,[.inr c.k,.inr (au b.ps c.one)],rfl,g4 _ _ yN,rfl,yO,(z7 _ _).mpr ?_,λH5 b5 e5=>?_⟩
   ·unfold cj;rw[Wi];exact Yh.mpr ⟨(z,c),Y5.mpr ⟨m,cc⟩,rfl⟩
   rw[Zcr ok.zs ok.pr m cc] at e5;have k5:∀{a:Addr} {o:HO},H3 a=some o->a≠l.pr->H5 a=some o:=λ{a o} e n=>b5 _ _ (g4 _ _ e) n;refine⟨_,rfl,l.h,C,dx,_,rfl,k5 (k3 h1 i8 mV) pO,hc.cls,hc.iF,by show 10<1000;decide,λH6 b6 e6=>?_⟩;exact last H5 k5 e5 H6 b6 e6
  ·have ef:cO c.k=false:=by
    cases e:cO c.k with
    |true=>exact absurd e cc
    |false=>rfl
   refine⟨_,rfl,l.h,C,dx,_,rfl,k3 h1 i8 mV,hc.cls,hc.iF,by show 10<1000;decide,λH6 b6 e6=>?_⟩;exact last H3 (λe _=>e) (by rw[←Za9 ok.zs m ef];exact yN) H6 b6 e6
abbrev nK:List Str:=["self","way","row","coming"]
def WH:aP nK nK (aF DJ):=.aX
def Zcs(F:aN K "shift" "Hearth.shift" DJ f fd)(hc:fO K C)(oH:mg "PUT_IN"=some (.int 1 t1))(Dy:cE P w K mg base 8 "put_in" C ve (Pj C CL CJ))(De:cE P w K mg base 2 "take_out" C ve (Nk C CL CJ)):aE P w K mg base aM 9 f fd nK (Pk C CL CJ):=by
 refine F.o WH @λbC A outer vs Q E s H hr h=>?_;obtain⟨l,b,b',xs,ys,r,w',c2,rfl,ba,ok,mv,q⟩:=h;refine⟨_,(aq (aV (bG cv (pv 1) (dv (v:=.int (1)) rfl oH ⟨_,rfl⟩)) (av (b_ (cT Dy hr (by omega) (pv 0) (aa (pv 2) ae)))) (av (b_ (cT De hr (by omega) (pv 0) (aa (pv 2) ae))))) (av (gS (K:=K) rfl (pv 0) (pv 3)))),?_⟩;obtain⟨dx,h1⟩:=ba.obj;have last:∀(l':BL) (H1:Hp),bM H H1 l l'->bh H1 C CL CJ l' xs ys b'->∀(jA:Addr) (H2:Hp),H1 l'.h=some (.ins C jA (HF l'.L l'.sd l'.pl l'.fc l'.kn l'.pr (b'.co:Int) l'.dn l'.un l'.rk))->aA l'.h H1 H2->H2 l'.h=some (.ins C jA (HF l'.L l'.sd l'.pl l'.fc l'.kn l'.pr (c2:Int) l'.dn l'.un l'.rk))->Q .az H2:=λl' H1 wt bX jA H2 e1 b2 e2=>by
  have nd:=bX.nd;unfold BL.own at nd;simp only[Yz,Yp,Y3,or_false,not_or] at nd;obtain⟨⟨mU,bQ,i8,mV,pO,n5,pP⟩,_⟩:=nd;have o2:Out l'.own H1 H2:=λa u e na=>b2 _ _ e (λz=>na (by rw[z];simp[BL.own]));have of:=rV o2;have qW:=(bX.owned (l':=l') (b':={b' with co:=c2}) rfl rfl rfl rfl rfl rfl rfl rfl rfl (.inl ⟨rfl,rfl,rfl,rfl⟩) o2 ⟨jA,e2⟩ (b2 _ _ bX.c8 (λz=>mU z.symm)) (b2 _ _ bX.places (λz=>bQ z.symm)) (b2 _ _ bX.facts (λz=>i8 z.symm)) (L2.Paired.bq bX.fact λ_ _ e=>(λe=>of _ _ e (bX.tup e)) e) (b2 _ _ bX.known (λz=>mV z.symm)) (b2 _ _ bX.parents (λz=>pO z.symm)) (b2 _ _ bX.done (λz=>n5 z.symm)) (L2.Paired.bq bX.lE λ_ _ e=>e.out of λa us e=>bX.tup e) (b2 _ _ bX.iN (λz=>pP z.symm)) (L2.Paired.bq bX.nE λ_ _ e=>e.out of λa us e=>bX.tup e)).1;exact q l' H2 (wt.trans ⟨rfl,of,eC.refl _ _⟩) qW
 have go:∀(l':BL) (H1:Hp),bM H H1 l l'->bh H1 C CL CJ l' xs ys b'->∃jA,H1 l.h=some (.ins C jA (HF l'.L l'.sd l'.pl l'.fc l'.kn l'.pr (b'.co:Int) l'.dn l'.un l'.rk))/\∀H2,aA l.h H1 H2->H2 l.h=some (.ins C jA (HF l'.L l'.sd l'.pl l'.fc l'.kn l'.pr (c2:Int) l'.dn l'.un l'.rk))->Q .az H2:=λl' H1 wt bX=>by
  obtain⟨jA,e1⟩:=bX.obj;have eh:=wt.h
  grind
 have w12:w'=1\/w'=-1:=by cases mv<;>first|exact .inl rfl|exact .inr rfl
 rcases w12 with rfl|rfl
 ·refine⟨_,rfl,rfl,_,rfl,cY ?_⟩;refine⟨_,rfl,l.h,dx,_,rfl,h1,rfl,_,rfl,l,b,b',xs,ys,r,rfl,ba,ok,mv,λl' H1 wt bX=>?_⟩;obtain⟨jA,e1,k⟩:=go l' H1 wt bX;exact⟨_,rfl,_,rfl,l.h,C,jA,_,rfl,e1,hc.cls,hc.qh,by show 10<1000;decide,λH2 b2 e2=>k H2 b2 e2⟩
 ·refine⟨_,rfl,rfl,_,rfl,bW ?_⟩;refine⟨_,rfl,l.h,dx,_,rfl,h1,rfl,_,rfl,l,b,b',xs,ys,r,rfl,ba,ok,mv,λl' H1 wt bX=>?_⟩;obtain⟨jA,e1,k⟩:=go l' H1 wt bX;exact⟨_,rfl,_,rfl,l.h,C,jA,_,rfl,e1,hc.cls,hc.qh,by show 10<1000;decide,λH2 b2 e2=>k H2 b2 e2⟩
def V0:aP nK nK (aF Dh):=.aX
def Z6(F:aN K "do_deed" "Hearth.do_deed" Dh f fd)(hc:fO K C)(DL:cE P w K mg base 9 "shift" C nK (Pk C CL CJ)):aE P w K mg base aM 10 f fd nK (z8 C CL CJ):=by
 refine F.o V0 λs H hr h=>?_;obtain⟨l,b,b',xs,ys,r,w',c2,row,rfl,ba,ok,dl,hR,mv,q⟩:=h;refine⟨_,(aq (b_ (nA (K:=K) rfl (ka plainAttrs_list PySem.F.slot_list_append PySem.F.type_list_append oz (pF K 0) (aa (c6 (aa (pv 1) (aa (pv 2) (aa (pF K 0) (aa (pv 3) ae))))) ae)))) (aq (b_ (Zdf (K:=K) rfl (Zec plainAttrs_list PySem.F.slot_list_clear PySem.F.type_list_clear ZaR (pF K 0)))) (av (b_ (cT DL hr (by omega) (pv 0) (aa (pv 1) (aa (pv 2) (aa (pv 3) ae)))))))),?_⟩;obtain⟨dx,h1⟩:=ba.obj;have sz:(10000:Nat)<=sizeLine:=by rw[sizeLine_eq];omega
 have nd:=ba.nd;unfold BL.own at nd;simp only[Yz,Yp,Y3,or_false,not_or] at nd;obtain⟨⟨mU,bQ,i8,mV,pO,n5,pP⟩,⟨yP,tR,tS,tT,vU,vV⟩,⟨qV,tU,tV,vW,vX⟩,⟨yQ,yR,vY,ko⟩,⟨Cy,yS,yT⟩,⟨yU,yV⟩,UM,_⟩:=nd;have dal:=cU ba.lE;refine⟨_,rfl,l.h,C,dx,_,_,rfl,h1,hc.cls,hc.QO,rfl,.inl ⟨rfl,_,ak.of ba.done⟩,?_⟩;refine⟨_,rfl,_,rfl,_,rfl,l.h,C,dx,_,_,rfl,h1,hc.cls,hc.qh,rfl,_,rfl,by show 4<=sizeLine;omega,λp H1 np g1 e1=>?_⟩;refine⟨l.dn,_,_,rfl,rfl,g1 _ _ ba.done,by rw[Ya];omega,λH2 b2 e2=>?_⟩;have a1:=b2 _ _ (g1 _ _ h1) n5;have a7:=b2 _ _ (g1 _ _ ba.iN) (λz=>UM z.symm);refine⟨_,rfl,l.h,C,dx,_,_,rfl,a1,hc.cls,hc.N4,rfl,.inl ⟨rfl,_,ak.of a7⟩,l.un,_,rfl,rfl,a7,λH3 b3 e3=>?_⟩;have k3:∀{a:Addr} {o:HO},H a=some o->a≠l.dn->a≠l.un->H3 a=some o:=λ{a o} e n1 n2=>b3 _ _ (b2 _ _ (g1 _ _ e) n1) n2;have o3:Out l.own H H3:=λa u e na=>k3 e (λz=>na (by rw[z];simp[BL.own])) (λz=>na (by rw[z];simp[BL.own]));have of:=rV o3;have tp:∀{a:Addr} {us:List V},H a=some (.tup us)->H3 a=some (.tup us):=λe=>of _ _ e (ba.tup e);have pu:p≠l.un:=λz=>by rw[z,ba.iN] at np;cases np
 have ed:H3 l.dn=some (.lst ((l.iC++[p]).map V.ref)):=by rw[Ym];exact b3 _ _ e2 UM
 have lR:=(ba.owned (l':={l with iC:=l.iC++[p],kK:=[]}) (b':={b with dn:=b.dn++[⟨w',row,b.co,c2⟩],un:=[]}) rfl rfl rfl rfl rfl rfl rfl rfl rfl (.inl ⟨rfl,rfl,rfl,rfl⟩) o3 ⟨dx,k3 h1 n5 pP⟩ (k3 ba.c8 vU vV) (k3 ba.places vW vX) (k3 ba.facts vY ko) (L2.Paired.bq ba.fact λ_ _ e=>tp e) (k3 ba.known yS yT) (k3 ba.parents yU yV) ed (jD (F:=nC H3) ⟨r,b3 _ _ (b2 _ _ e1 (λz=>by rw[z,ba.done] at np;cases np)) pu,tp hR⟩ (L2.Paired.bq ba.lE λ_ _ e=>e.out of λa us e=>ba.tup e)) e3 .nil);have h3:=k3 h1 n5 pP;refine⟨_,rfl,l.h,dx,_,rfl,h3,rfl,_,rfl,_,rfl,_,rfl,{l with iC:=l.iC++[p],kK:=[]},_,_,xs,ys,r,w',c2,rfl,lR.1,⟨ok.gd,ok.nm,ok.m,ok.fl,ok.fg,ok.zs,ok.lt,ok.ky,ok.pr,ok.lv,by show(b.dn++[_]).length<=200;rw[Yi];show b.dn.length+1<=200;omega,Yx _⟩,((mv.Zgb _ _).out λus e=>tp e),λl' H4 wt ba4=>?_⟩;exact q l' H4 (bM.trans (l1:={l with iC:=l.iC++[p],kK:=[]}) ⟨rfl,of,lR.2⟩ wt) ba4
end
def cL.Zg7(j:cL H C n l st)(h:a∈l.bV):∃us,H a=some (.lst us):=by
 obtain⟨p,e⟩:=wO j.free h
 grind
def cL.tX(j:cL H C n l st)(e:H a=some o)(nl:∀us,o≠.lst us)(nt:∀us,o≠.tup us)(na:a∉l.fp)(br:aA a H H'):cL H' C n l st:=by
 refine j.ie (fp:=[a]) (λb u eb nb=>br _ _ eb λz=>nb (by rw[z];exact Yo)) (λb hb=>?_) (λb hb z=>?_) λb us eb z=>?_;·grind
 ·rw[Yk.mp hb] at z;obtain⟨us,q⟩:=j.Zg7 z
  grind
 ·grind
inductive oY(H:Hp)(C CJ dx d:Addr)(l:BL)(b:BS)(n:Nat)(J:Addr)(F:List Fc)(m:Nat)(H6:Hp):Prop
 |mk (jl:JL) (st:JS) (eJ:jl.J=J) (keep:∀a u,H a=some u->a≠l.h->a≠d->H6 a=some u) (obj:H6 l.h=some (.ins C dx (HF l.L l.sd l.pl l.fc l.kn l.pr (b.co:Int) l.dn l.un (.ref J)))) (ja:cL H6 CJ n jl st) (me:du n st F) (len:st.hd.length=m) (new:∀a∈jl.fp,H a=none):oY H C CJ dx d l b n J F m H6
def oY.tX(j:oY H C CJ dx d l b n J F m H6)(hd:H d'≠none)(e:H6 d'=some o)(nl:∀us,o≠.lst us)(nt:∀us,o≠.tup us)(nh:d'≠l.h)(br:aA d' H6 H7)(kd:∀u,H d=some u->d≠d'->d≠l.h->H7 d=some u):oY H C CJ dx d' l b n J F m H7:=by
 obtain⟨jl,st,eJ,keep,obj,ja,me,len,new⟩:=j;refine⟨jl,st,eJ,λa u ea n1 n2=>?_,br _ _ obj (λz=>nh z.symm),ja.tX e nl nt (λz=>hd (new _ z)) br,me,len,new⟩;by_cases z:a=d;·grind
 ·exact br _ _ (keep a u ea n1 z) n2
theorem Nl:∀{ks:List Nat} {as:List Addr} {i:Nat} {k:Key} {y:V},(bB ks as)[i]?=some (k,y)->∃a,as[i]?=some a/\y=.ref a
 |[],as,i,k,y,h=>by
  unfold bB at h;simp at h
 |_::_,[],i,k,y,h=>by
  unfold bB at h;simp at h
 |q::ks,a::as,0,k,y,h=>by
  injection(Yn h) with _ e2
  grind
 |q::ks,a::as,i+1,k,y,h=>by
  have e0:bB (q::ks) (a::as)=(Sum.inl (q:Int),V.ref a)::bB ks as:=rfl;rw[e0] at h;have h':(bB ks as)[i]?=some (k,y):=by simpa using h
  obtain⟨b,e1,e2⟩:=Nl h'
  grind
inductive GD(C CL CJ:Addr)(vs:List V)(H:Hp)(Q:VK)(E:XK):Prop
 |mk (l:BL) (b:BS) (xs ys:List Int) (aC:vs=[.ref l.h]) (ba:bh H C CL CJ l xs ys b) (ok:cM xs ys b) (q:∀(l':BL) (jl:JL) (st:JS) (H':Hp),bM H H' l l'->bh H' C CL CJ l' xs ys b->l'.rk=.ref jl.J->l'.eF=jl.fp->cL H' CJ xs.length jl st->du xs.length st b.F->st.hd.length=b.ps.length->(∀a∈l'.own,a∉jl.fp)->(l.rk≠.az->H'=H/\l'=l)->Q (.ref jl.J) H')
section
variable {K:ah}{mg:aQ}
def Dz:aP ["self","name","fact"] lC (aF DI):=.aX
theorem Zct(F:aN K "joins" "Hearth.joins" DI f fd)(hc:fO K C)(lc:u3 K CL)(GF:uY P w K mg base 1 "Joins" CJ Bb (O3 CJ))(ur:cE P w K mg base 2 "add" CJ lC (HS CJ))(uu:HasFn P w K mg base 6 "keep_fact" sS (GC CL CJ)):aE P w K mg base aM 8 f fd lC (GD C CL CJ):=by
 refine F.o Dz λs H hr h=>?_;obtain⟨l,b,xs,ys,rfl,ba,ok,q⟩:=h;refine⟨_,(aq (aV (bG GN (pF K 0) lZ) (aq (gS (K:=K) rfl (pv 0) (Hw GF hr (by omega) rfl (aa (w8 (K:=K) rfl (pF K 0) rfl) ae))) (aq (ZM (H0:=H) rfl PassesOwn.never rfl (Zdg (H0:=H) rfl (pF K 0)) (bF 1 Dz.nd) (av (b_ (xy ur hr (by omega) (pF K 0))))) (av (ZN (H0:=H) rfl PassesOwn.never rfl (Zdj (H0:=H) rfl (pF K 0)) (bF 2 Dz.nd) (av (b_ (aW uu hr (aa (pF K 0) (aa (pF K 0) (aa (pF K 0) (aa (pv 2) ae))))))))))) aZ) (av (aG (pF K 0)))),?_⟩;obtain⟨dx,h1⟩:=ba.obj;have n8:xs.length<=8:=ok.gd.2.2.2.2;have n0:0<xs.length:=by have:=ok.gd.2.2.2.1;omega
 have nd:=ba.nd;unfold BL.own at nd;simp only[Yz,Yp,Y3,or_false,not_or] at nd;obtain⟨⟨mU,bQ,i8,mV,pO,n5,pP⟩,⟨yP,tR,tS,tT,vU,vV⟩,⟨qV,tU,tV,vW,vX⟩,⟨yQ,yR,vY,ko⟩,_⟩:=nd;cases hj:ba.sA with
 |at_ jl st j1 j2 ja me len fX=>
  have lM:=h1;rw[j1] at lM;refine⟨_,rfl,l.h,C,dx,_,_,rfl,lM,hc.cls,hc.iF,rfl,rfl,_,rfl,bW (aY ?_)⟩;exact⟨_,rfl,l.h,C,dx,_,_,rfl,lM,hc.cls,hc.iF,rfl,q l jl st H (bM.of (aj.refl _)) ba j1 j2 ja me len fX λ_=>⟨rfl,rfl⟩⟩
 |no j1 j2=>
  have lM:=h1;rw[j1] at lM;refine qp (λσ H6=>∃(J:Addr) (o1 o2:Option V),σ=[some (.ref l.h),o1,o2]/\oY H C CJ dx l.h l b xs.length J b.F b.ps.length H6) (λnx hn=>?_) ?_
  ·refine⟨_,rfl,l.h,C,dx,_,_,rfl,lM,hc.cls,hc.iF,rfl,rfl,_,rfl,cY ?_⟩;obtain⟨dL,dS,mo,fY,wi,im,jf,iw,Kp,hL,_⟩:=ba.landAt;refine⟨_,rfl,l.h,C,dx,_,_,rfl,lM,hc.cls,hc.uV,rfl,l.L,CL,dL,_,_,rfl,hL,lc.cls,lc.r8,rfl,λx CA pQ yD nd2=>?_⟩;have yE:upd H CA (.own x) x=none:=by rw[aK (λz=>nd2 z.symm)];exact pQ
   have UN:aj H (upd (upd H CA (.own x)) x (.ins CJ CA [])):=(cq yD _).trans (cq yE _);refine⟨x,CA,xs.length,rfl,aR,λLc H2 eJ1 em1 fr1 b2 ja1=>⟨rfl,?_⟩⟩;have f1:∀a∈Lc.fp,H a=none:=λa ha=>by
    by_cases z:a=x;·rw[z];exact pQ
    ·exact UN.free (fr1 a ha z)
   have g2:aj H H2:=λa o e=>b2 _ _ (UN _ _ e) (bY e pQ);refine⟨_,rfl,l.h,C,dx,_,rfl,g2 _ _ lM,hc.cls,hc.iF,by show 10<1000;decide,λH3 b3 e3=>?_⟩;have UO:H3 l.h=some (.ins C dx (HF l.L l.sd l.pl l.fc l.kn l.pr (b.co:Int) l.dn l.un (.ref x))):=e3;have Cv:l.h∉Lc.fp:=λz=>by have:=f1 _ z;rw[h1] at this;cases this
   have jm3:oY H C CJ dx l.h l b xs.length x [] 0 H3:=⟨Lc,_,eJ1,λa u e n1 _=>b3 _ _ (g2 _ _ e) n1,UO,ja1.tX (g2 _ _ lM) (λus z=>nomatch z) (λus z=>nomatch z) Cv b3,Zga,rfl,f1⟩;have s3:H3 l.sd=some (.dK (gw b.ps)):=b3 _ _ (g2 _ _ ba.c8) (λz=>mU z.symm);dsimp only;refine gI (λσ H6=>∃o1 o2:Option V,σ=[some (.ref l.h),o1,o2]/\oY H C CJ dx l.h l b xs.length x [] b.ps.length H6) (λCB n_=>?_) ?_
   ·refine Zb2 (d:=l.sd) (kvs:=gw b.ps) (H1:=H3) (λR r=>⟨_,rfl,l.h,C,dx,_,_,rfl,UO,hc.cls,hc.rR,rfl,r⟩) s3 (λi σ H6=>∃o1 o2:Option V,σ=[some (.ref l.h),o1,o2]/\oY H C CJ dx l.sd l b xs.length x [] i H6) (λod=>⟨none,none,rfl,jm3.tX (by rw[ba.c8];exact λz=>nomatch z) s3 (λus z=>nomatch z) (λus z=>nomatch z) (λz=>mU z.symm) (aA.put (aA.of (aj.refl _))) (λu _ _ z=>absurd rfl z)⟩) ?_ ?_
    ·rintro od i k y aH H6 N rt bk hk ⟨o1,o2,rfl,jm⟩ fz hN;obtain⟨jl,st,eJ,keep,obj,ja,me,len,new⟩:=jm;have il:i<b.ps.length:=by
      have:=(Yl.mp hk).1
      rwa [Ya] at this
     have im:=ok.m;obtain⟨dj,ej⟩:=ja.obj;have wf:=me.wf;have ml:=wf.QJ;have yL:=wf.AR;refine bg ?_;refine⟨_,rfl,l.h,C,dx,_,_,rfl,obj,hc.cls,hc.iF,rfl,jl.J,dj,_,by rw[eJ],ej,rfl,jl,st,xs.length,by rw[eJ];rfl,ja,by omega,by omega,by omega,by omega,wf.ll,λz=>Wc _ (wf.lm _ z),λz=>Wc _ (wf.lf _ z),λhZ H7 k1 o7 gr ja7=>?_⟩;have jO:∀{a:Addr} {u:HO},H a=some u->a∉jl.fp:=λ{a u} e z=>by rw[new _ z] at e;cases e
     refine hN _ _ ⟨_,_,rfl,hZ,_,k1.trans eJ,λa u e n1 n2=>o7 _ _ (keep a u e n1 n2) (jO e),o7 _ _ obj (jO h1),ja7,me.more n0,by rw[jg,len],λa z=>?_⟩ (o7 _ _ fz (jO ba.c8));rcases gr a z with y|y;·exact new a y
     ·cases e:H a with
      |none=>rfl
      |some u=>
       by_cases z1:a=l.h;·rw[z1,obj] at y;cases y
       ·by_cases z2:a=l.sd;·rw[z2,fz] at y;cases y
        ·rw[keep a u e z1 z2] at y;cases y
    ·rintro od aH H6 ⟨o1,o2,rfl,jm⟩ fz;rw[Ya] at jm;refine n_ _ _ ⟨o1,o2,rfl,?_⟩;obtain⟨jl,st,eJ,keep,obj,ja,me,len,new⟩:=jm;have jO:l.sd∉jl.fp:=λz=>by have:=new _ z;rw[ba.c8] at this;cases this
     refine⟨jl,st,eJ,λa u e n1 _=>?_,by rw[aK mU];exact obj,ja.tX fz (λus z=>nomatch z) (λus z=>nomatch z) jO (aA.put (aA.of (aj.refl _))),me,len,new⟩;by_cases z:a=l.sd
     ·subst z;rw[aR];rw[ba.c8] at e;exact e
     ·rw[aK z];exact keep a u e n1 z
   ·rintro σ H6 ⟨o1,o2,rfl,jm⟩;obtain⟨jl0,ZiX,eJ0,Zge,Zg8,ja0,me0,len0,ZiY⟩:=id jm;have f6:H6 l.fc=some (.dK (bB (b.fs.map (·.1)) l.bV)):=Zge _ _ ba.facts (λz=>i8 z.symm) (λz=>i8 z.symm);have al:=cU ba.fact;refine Zb3 (d:=l.fc) (kvs:=bB (b.fs.map (·.1)) l.bV) (H1:=H6) (λR r=>⟨_,rfl,l.h,C,dx,_,_,rfl,Zg8,hc.cls,hc.uR,rfl,r⟩) f6 (λi σ H6=>∃o1 o2:Option V,σ=[some (.ref l.h),o1,o2]/\oY H C CJ dx l.fc l b xs.length x (b.F.take i) b.ps.length H6) (λod=>⟨o1,o2,rfl,jm.tX (by rw[ba.facts];exact λz=>nomatch z) f6 (λus z=>nomatch z) (λus z=>nomatch z) (λz=>i8 z.symm) (aA.put (aA.of (aj.refl _))) (λu _ _ z=>absurd rfl z)⟩) ?_ ?_
    ·rintro od i k y aH H7 N rt bk hk ⟨o1,o2,rfl,jm⟩ fz hN;obtain⟨fa,efa,rfl⟩:=Nl hk;obtain⟨⟨z,c⟩,UP,di⟩:=gH ba.fact efa;have mzc:=Yg UP;obtain⟨jl,st,eJ,keep,obj,ja,me,len,new⟩:=jm;have jO:∀{a:Addr} {u:HO},H a=some u->a∉jl.fp:=λ{a u} e z=>by rw[new _ z] at e;cases e
     have of:Out l.fp H H7:=λa u e n=>keep a u e (λz=>n (by rw[z];simp[BL.fp,BL.own])) (λz=>n (by rw[z];simp[BL.fp,BL.own]));have fg:=ok.fg _ mzc;have im:=ok.m;have ec:b.F[i]?=some c:=by unfold BS.F;rw[Ye,UP];rfl
     have tk:b.F.take (i+1)=b.F.take i++[c]:=by rw[Y1,ec];rfl
     refine bg ?_;refine⟨_,rfl,l.h,C,dx,_,_,rfl,obj,hc.cls,hc.iF,rfl,_,rfl,l.h,C,dx,_,_,rfl,obj,hc.cls,hc.uV,rfl,_,rfl,l.h,C,dx,_,_,rfl,obj,hc.cls,hc.qg,rfl,_,rfl,jl,st,l.L,l.pl,fa,xs,ys,b.ps,b.F.take i,z,c,by rw[eJ];rfl,ja,me,ba.land H7 of,ok.gd,keep _ _ ba.places (λz=>bQ z.symm) qV,ok.nm,len,by omega,of _ _ di (ba.tup di),fg,?_,λv hZ aJ H8 e1 sub o8 ja8 me8 Zg9=>?_⟩
     ·obtain⟨f0,i0,s0⟩:=ok.lv;exact⟨f0,(me.iff f0).mpr ⟨by rw[len];exact i0,λc' m'=>s0 c' (List.mem_of_mem_take m')⟩,s0 c (Yg ec)⟩
     ·refine hN _ _ ⟨_,_,rfl,hZ,aJ,e1.trans eJ,λa u e n1 n2=>o8 _ _ (keep a u e n1 n2) (jO e),o8 _ _ obj (jO h1),ja8,by rw[tk];exact me8,Zg9.trans len,λa z=>new a (sub a z)⟩ (o8 _ _ fz (jO ba.facts))
    ·rintro od aH H7 ⟨o1,o2,rfl,jm⟩ fz;have dl:(bB (b.fs.map (·.1)) l.bV).length=b.F.length:=by
      unfold bB BS.F;rw[Ya,Jd,Ya,Ya];omega
     rw[dl,Wb] at jm;refine hn _ _ ⟨x,o1,o2,rfl,?_⟩;obtain⟨jl,st,eJ,keep,obj,ja,me,len,new⟩:=jm;have jO:l.fc∉jl.fp:=λz=>by have:=new _ z;rw[ba.facts] at this;cases this
     refine⟨jl,st,eJ,λa u e n1 _=>?_,by rw[aK i8];exact obj,ja.tX fz (λus z=>nomatch z) (λus z=>nomatch z) jO (aA.put (aA.of (aj.refl _))),me,len,new⟩;by_cases z:a=l.fc
     ·subst z;rw[aR];rw[ba.facts] at e;exact e
     ·rw[aK z];exact keep a u e n1 z
  ·rintro σ H6 ⟨J,o1,o2,rfl,jm⟩;obtain⟨jl,st,eJ,keep,obj,ja,me,len,new⟩:=jm;refine⟨_,rfl,l.h,C,dx,_,_,rfl,obj,hc.cls,hc.iF,rfl,?_⟩;have k6:∀{a:Addr} {u:HO},H a=some u->a≠l.h->H6 a=some u:=λ{a u} e n=>keep a u e n n;have of:Out l.fp H H6:=λa u e n=>k6 e (λz=>n (by rw[z];simp[BL.fp,BL.own]));have tp:∀{a:Addr} {us:List V},H a=some (.tup us)->H6 a=some (.tup us):=λe=>of _ _ e (ba.tup e);have gr:eC l.fp ({l with rk:=.ref jl.J,eF:=jl.fp}:BL).fp H:=λa z=>by
    rcases Yq.mp (show a∈l.own++jl.fp from z) with y|y;·exact .inl (Yt _ y)
    ·exact .inr (new a y)
   have fX:∀a∈l.own,a∉jl.fp:=λa m z=>ba.there (Yt _ m) (new a z);subst eJ;refine q {l with rk:=.ref jl.J,eF:=jl.fp} jl st H6 ⟨rfl,of,gr⟩ ?_ rfl rfl ja me len fX λz=>absurd j1 z;exact ba.build (l':={l with rk:=.ref jl.J,eF:=jl.fp}) (b':=b) rfl rfl rfl rfl rfl rfl rfl rfl rfl of gr ⟨dx,obj⟩ (k6 ba.c8 (λz=>mU z.symm)) (k6 ba.places (λz=>bQ z.symm)) (k6 ba.facts (λz=>i8 z.symm)) (L2.Paired.bq ba.fact λ_ _ e=>tp e) (k6 ba.known (λz=>mV z.symm)) (k6 ba.parents (λz=>pO z.symm)) (k6 ba.done (λz=>n5 z.symm)) (L2.Paired.bq ba.lE λ_ _ e=>e.out of λa us e=>ba.tup e) (k6 ba.iN (λz=>pP z.symm)) (L2.Paired.bq ba.nE λ_ _ e=>e.out of λa us e=>ba.tup e) (.at_ jl st rfl rfl ja me len fX)
end
def fZ(z:Str)(c:Nat):Bool:=!(Builtin.Str.occurrences z ⟨#[c]⟩ 0 z.length 1).isEmpty
abbrev oI:Str:="abcdefghijklmnopqrstuvwxyz"
abbrev l9:Str:="abcdefghijklmnopqrstuvwxyz0123456789"
def sC(z:Str):Bool:=match z.cps.toList with
 |[]=>false
 |c::r=>decide (z.length<=12)&&(fZ oI c&&(c::r).all (fZ l9))
def Zg_(v:Str):v.cps.toList.length=v.length:=by simp[Str.length]
def ZdF{z:Str}(h:z.cps.toList=[]):z="":=by
 cases z with|mk a=>cases a with|mk l=>cases h;rfl
def Zcu(h:z.cps.toList=[]):sC z=false:=by unfold sC;rw[h]
def Nm(h:z.cps.toList=c::r):sC z=(decide (z.length<=12)&&(fZ oI c&&(c::r).all (fZ l9))):=by unfold sC;rw[h]
def Oa:Sp:=λvs H Q _=>∃z:Str,vs=[.str z]/\z.length<=1000/\∀H',aj H H'->Q (.bl (sC z)) H'
section
variable {K:ah}{mg:aQ}
def Z7:aP ["text"] ["text"] (aF FJ):=.aX
theorem Z8(F:aN K "is_name" "is_name" FJ f fd){t1 t2 t3:Tok}(DM:mg "LONGEST_NAME"=some (.int 12 t1))(C9:mg "LETTERS_OF_NAMES"=some (.str "abcdefghijklmnopqrstuvwxyz" t2))(Dk:mg "SIGNS_OF_NAMES"=some (.str "abcdefghijklmnopqrstuvwxyz0123456789" t3))(bl:Bl mg):
  aE P w K mg base aM 1 f fd ["text"] Oa:=by
 refine F.o Z7 λs H hr h=>?_;obtain⟨z,rfl,lz,q⟩:=h;refine⟨_,(aq (aV (PW.pt (pw_or (bG cv (pv 0) bc) (pw_or (bG AI (h_ (XE) rfl bl.AN Aw (aa (pv 0) ae)) (dv (v:=.int (12)) rfl DM ⟨_,rfl⟩)) (pw_or1 (iG Xz (bj xl (pv 0) aO) (dv (v:=.str "abcdefghijklmnopqrstuvwxyz") rfl C9 ⟨_,rfl⟩) (by with_unfolding_all rfl)))))) (av (aG jF)) aZ) (av (aG (h_ (So (K:=K) rfl rfl) rfl bl.Ry Qg (aa (iJ (x:="sign") (fr:=[]) (cl:=[]) rfl (.gu trivial trivial) (ZeR (pv 0)) (λ_ _ _ _=>kY) (λ_ _ _ _=>(Ac Zau (pv 0) (dv (v:=.str "abcdefghijklmnopqrstuvwxyz0123456789") rfl Dk ⟨_,rfl⟩) (by with_unfolding_all rfl)))) ae))))),?_⟩;have sz:(10000:Nat)<=sizeLine:=by rw[sizeLine_eq];omega
 cases ez:z.cps.toList with
 |nil=>
  have e:=ZdF ez;rw[Zcu ez] at q;refine⟨_,rfl,rfl,_,rfl,bJ (λ_=>?_) (λc=>absurd (decide_eq_true (by rw[e])) c)⟩;exact q H (aj.refl H)
 |cons c r=>
  have zl:=Zg_ z;rw[ez,Y7] at zl;rw[Nm ez] at q;refine⟨_,rfl,rfl,_,rfl,bJ (λcc=>?_) (λ_=>?_)⟩
  ·have e:z="":=V.str.inj (of_decide_eq_true cc);have e0:(Str.ofString "").cps.toList=[]:=by decide+kernel
   rw[e,e0] at ez;cases ez
  refine⟨_,rfl,z,rfl,by omega,_,_,rfl,rfl,_,rfl,bJ (λcc=>?_) (λcc=>?_)⟩
  ·have UQ:(12:Int)<(z.length:Int):=of_decide_eq_true cc;rw[decide_eq_false (by omega:¬z.length<=12)] at q;exact q H (aj.refl H)
  have CC:z.length<=12:=by
   grind
  rw[decide_eq_true CC,J1] at q;refine⟨_,rfl,_,_,_,rfl,rfl,by omega,iH (j:=0) (by rw[ez];rfl),_,_,rfl,rfl,_,rfl,bJ (λcc=>?_) (λcc=>aY ?_)⟩
  ·have UQ:fZ oI c=false:=by
    have z:(!fZ oI c)=true:=cc;cases e:fZ oI c;·rfl
    ·rw[e] at z;cases z
   rw[UQ,Bool.false_and] at q;exact q H (aj.refl H)
  have cl:fZ oI c=true:=by
   cases e:fZ oI c;·exact absurd (show(!fZ oI c)=true by rw[e];rfl) cc
   ·rfl
  rw[cl,J1,←ez] at q;refine⟨_,rfl,z,rfl,λD hD=>ZaS (by omega) hD (λc=>V.bl (fZ l9 c)) (λi c hi H1 g1 Kt k=>?_) λH1 g1 h1=>?_⟩;·exact⟨_,rfl,_,_,rfl,rfl,k H1 (aj.refl _)⟩
  ·refine⟨D,z.cps.toList.map (fZ l9),rfl,ak.of (by rw[h1,Wi];rfl),?_⟩;rw[Kw];exact q H1 g1
end
def dP.more(h:dP n m c)(l:m<=m'):dP n m' c:=⟨by have:=h.one;omega,λns=>by obtain⟨⟨a,b⟩,d⟩:=h.hU ns;exact⟨⟨a,by omega⟩,d⟩⟩
def dQ.more(h:dQ xs ys m c)(l:m<=m'):dQ xs ys m' c:=⟨h.ok.more l,h.kind,h.IH⟩
def Zfi{f g:Nat->Int}(ok:dP n m c)(e:∀i,i<m->g i=f i)(s:eU f c):eU g c:=⟨λh=>by rw[e _ ok.one];exact s.1 h,λh=>by rw[e _ ok.one,e _ (ok.hU h).1.2];exact s.2 h⟩
section
variable {xs ys:List Int}{b:BS}
def cM.Zha(ok:cM xs ys b)(new:n∉b.ps.map (·.1))(lim:b.ps.length<64)(hc:b.co<=co)(dl:dn.length<=200)(ul:un.length<=200):cM xs ys {b with ps:=b.ps++[(n,s)],co:=co,dn:=dn,un:=un}:=by
 have sU:=λp hp=>(ok.fg p hp).ok;have len:(b.ps++[(n,s)]).length=b.ps.length+1:=by rw[Yi];rfl
 refine⟨ok.gd,?_,by show(b.ps++[(n,s)]).length<=64;omega,ok.fl,λp hp=>?_,ok.zs,λp hp=>Y2 (ok.lt p hp) hc,?_,?_,?_,dl,ul⟩
 ·show((b.ps++[(n,s)]).map (·.1)).Nodup;rw[Ym];refine Wv.mpr ⟨ok.nm,by simp,λu hu v hv z=>?_⟩
  grind
 ·show dQ xs ys (b.ps++[(n,s)]).length p.2;rw[len];exact(ok.fg p hp).more (J7 _)
 ·show(b.fs.map λp=>fG (b.ps++[(n,s)]) p.2).Nodup;rw[(W7 λp hp=>by rw[Pf (sU p hp)])];exact ok.ky
 ·show((cj (b.ps++[(n,s)]) b.fs).map (·.1)).Nodup;rw[Pg sU];exact ok.pr
 ·obtain⟨f,i0,s0⟩:=ok.lv;refine⟨λi=>if i<b.ps.length then f i else 0,λi hi=>?_,λc m=>?_⟩
  ·show 0<=(if i<b.ps.length then f i else 0)/\(if i<b.ps.length then f i else 0)<(xs.length:Int);by_cases h:i<b.ps.length;·rw[if_pos h];exact i0 i h
   ·rw[if_neg h];have:=ok.gd.2.2.2.1
    grind
  ·obtain⟨p,hp,rfl⟩:=Yh.mp m;exact Zfi (sU p hp) (λi hi=>if_pos hi) (s0 _ m)
theorem cM.Zhb(ok:cM xs ys b)(fg:dQ xs ys b.ps.length c)(nz:z∉b.fs.map (·.1))(nk:fG b.ps c∉b.keys)(np:cO c.k=true->[.inr c.k,.inr (au b.ps c.one)]∉(cj b.ps b.fs).map (·.1))(lv:∃f,lQ xs.length b.ps.length f/\∀c'∈b.F++[c],eU f c')(lim:b.fs.length<63)(hc:b.co<=co)(hz:z<co)(dl:dn.length<=200)(ul:un.length<=200):cM xs ys {b with fs:=b.fs++[(z,c)],co:=co,dn:=dn,un:=un}:=by
 have snoc:∀{α:Type} {l:List α} {x:α},l.Nodup->x∉l->(l++[x]).Nodup:=λ{α l x} h1 h2=>Wv.mpr ⟨h1,by simp,λu hu v hv e=>by
  have:v=x:=by simpa using hv
  exact h2 (by rw[←this,←e];exact hu)⟩
 refine⟨ok.gd,ok.nm,ok.m,by show(b.fs++[(z,c)]).length<=63;rw[Yi];exact lim,λp hp=>?_,?_,λp hp=>?_,?_,?_,?_,dl,ul⟩
 ·rcases Yq.mp hp with hp|hp;·exact ok.fg p hp
  ·rw[Yk.mp hp];exact fg
 ·show((b.fs++[(z,c)]).map (·.1)).Nodup;rw[Ym];exact snoc ok.zs nz
 ·rcases Yq.mp hp with hp|hp;·exact Y2 (ok.lt p hp) hc
  ·rw[Yk.mp hp];exact hz
 ·show((b.fs++[(z,c)]).map λp=>fG b.ps p.2).Nodup;rw[Ym];exact snoc ok.ky nk
 ·show((cj b.ps (b.fs++[(z,c)])).map (·.1)).Nodup;cases e:cO c.k with
  |true=>rw[N8 e,Ym];exact snoc ok.pr (np e)
  |false=>rw[N9 e];exact ok.pr
 ·obtain⟨f,i0,s0⟩:=lv;refine⟨f,i0,λc' m=>s0 c' ?_⟩;have m':c'∈(b.fs++[(z,c)]).map (·.2):=m;rw[Ym] at m';exact m'
def cM.drop(ok:cM xs ys b)(z:Nat)(hc:b.co<=co)(dl:dn.length<=200)(ul:un.length<=200):cM xs ys {b with fs:=cZ z b.fs,co:=co,dn:=dn,un:=un}:=by
 have sub:(cZ z b.fs).Sublist b.fs:=List.filter_sublist;refine⟨ok.gd,ok.nm,ok.m,Y0 sub.length_le ok.fl,λp hp=>ok.fg p (sub.subset hp),ok.zs.sublist (sub.map _),λp hp=>Y2 (ok.lt p (sub.subset hp)) hc,ok.ky.sublist (sub.map _),?_,?_,dl,ul⟩
 ·show((cj b.ps (cZ z b.fs)).map (·.1)).Nodup;refine ok.pr.sublist ?_;unfold cj
  grind
 ·obtain⟨f,i0,s0⟩:=ok.lv;exact⟨f,i0,λc m=>s0 c ((sub.map _).subset m)⟩
end
def BS.HW(b:BS)(n s:Str):BS:={b with ps:=b.ps++[(n,s)],co:=b.co,dn:=b.dn++[⟨1,[.inr n,.inr s],b.co,b.co⟩],un:=[]}
def BS.xM(b:BS)(c:Fc):BS:={b with fs:=b.fs++[(b.co,c)],co:=b.co+1,dn:=b.dn++[⟨1,dZ b.ps b.co c,b.co,b.co+1⟩],un:=[]}
def BS.without(b:BS)(z:Nat)(c:Fc):BS:={b with fs:=cZ z b.fs,co:=b.co,dn:=b.dn++[⟨-1,dZ b.ps z c,b.co,b.co⟩],un:=[]}
def G_(s:Str):Bool:=fq (.str s) [.str "man",.str "woman"]
structure II(b:BS)(n s:Str):Prop where
 Zhc:sC n=true
 side:G_ s=true
 new:n∉b.ps.map (·.1)
 lim:b.ps.length<64
 nl:n.length<=1000
structure Bh(xs ys:List Int)(b:BS)(c:Fc):Prop where
 fg:dQ xs ys b.ps.length c
 nk:fG b.ps c∉b.keys
 np:cO c.k=true->[.inr c.k,.inr (au b.ps c.one)]∉(cj b.ps b.fs).map (·.1)
 lv:∃f,lQ xs.length b.ps.length f/\∀c'∈b.F++[c],eU f c'
 lim:b.fs.length<63
inductive Ob(C CL CJ:Addr)(vs:List V)(H:Hp)(Q:VK)(E:XK):Prop
 |mk (l:BL) (b:BS) (xs ys:List Int) (n s:Str) (aC:vs=[.ref l.h,.str n,.str s]) (ba:bh H C CL CJ l xs ys b) (np:II b n s) (q:∀H',aj H H'->Q .az H')
inductive Oc(C CL CJ:Addr)(vs:List V)(H:Hp)(Q:VK)(E:XK):Prop
 |mk (l:BL) (b:BS) (xs ys:List Int) (n s:Str) (aC:vs=[.ref l.h,.str n,.str s]) (ba:bh H C CL CJ l xs ys b) (ok:cM xs ys b) (np:II b n s) (dl:b.dn.length<200) (q:∀(l':BL) (H':Hp),bM H H' l l'->bh H' C CL CJ l' xs ys (b.HW n s)->Q .az H')
inductive Hd(C CL CJ:Addr)(vs:List V)(H:Hp)(Q:VK)(E:XK):Prop
 |mk (l:BL) (b:BS) (xs ys:List Int) (fa:Addr) (c:Fc) (aC:vs=[.ref l.h,.ref fa]) (ba:bh H C CL CJ l xs ys b) (ok:cM xs ys b) (hf:eK H b.ps fa (b.co,c)) (nf:Bh xs ys b c) (dl:b.dn.length<200) (q:∀(l':BL) (H':Hp),bM H H' l l'->bh H' C CL CJ l' xs ys (b.xM c)->Q (.int (b.co:Int)) H')
inductive QS(C CL CJ:Addr)(vs:List V)(H:Hp)(Q:VK)(E:XK):Prop
 |mk (l:BL) (b:BS) (xs ys:List Int) (z:Nat) (c:Fc) (aC:vs=[.ref l.h,.int (z:Int)]) (ba:bh H C CL CJ l xs ys b) (ok:cM xs ys b) (m:(z,c)∈b.fs) (dl:b.dn.length<200) (q:∀(l':BL) (H':Hp),bM H H' l l'->bh H' C CL CJ l' xs ys (b.without z c)->Q .az H')
inductive Pm(C CL CJ:Addr)(vs:List V)(H:Hp)(Q:VK)(E:XK):Prop
 |mk (x dx L:Addr) (xs ys:List Int) (aC:vs=[.ref x,.ref L]) (hx:H x=some (.ins C dx [])) (la:iM H CL L xs ys) (q:∀(l:BL) (H':Hp),l.h=x->(∀a∈l.fp,a≠x->H a=none)->aA x H H'->bh H' C CL CJ l xs ys ⟨[],[],0,[],[]⟩->Q .az H')
def iM.free(la:iM H CL L xs ys)(hf:∀a∈fp,H a=none\/∃C dx,H a=some (.ins C dx []))(o:Out fp H H'):iM H' CL L xs ys:=by
 obtain⟨dx,d,m,f,w,im,jf,iw,st,h1,h2,h3,h4,h5,h6,h7,h8,h9⟩:=la;have k:∀{a:Addr} {u:HO},H a=some u->(∀C dx,u≠.ins C dx [])->H' a=some u:=λ{a u} e n=>o _ _ e λz=>by
  grind
 exact⟨dx,d,m,f,w,im,jf,iw,st,k h1 (λ_ _ z=>by cases z),k h2 (λ_ _ z=>by cases z),k h3 (λ_ _ z=>by cases z),k h4 (λ_ _ z=>by cases z),k h5 (λ_ _ z=>by cases z),k h6 (λ_ _ z=>by cases z),k h7 (λ_ _ z=>by cases z),k h8 (λ_ _ z=>by cases z),k h9 (λ_ _ z=>by cases z)⟩
section
variable {K:ah}{mg:aQ}
abbrev Bi:List Str:=["hearth","name","side"]
def WI:aP Bi Bi (aF DD):=.aX
def WJ(F:aN K "check_person" "check_person" DD f fd)(FV:HasFn P w K mg base 1 "is_name" ["text"] Oa)(sD:mg "MAN"=some (.str "man" t1))(rW:mg "WOMAN"=some (.str "woman" t2))(DA:cE P w K mg base 1 "people" C lC (N6 C CL CJ)):aE P w K mg base aM 2 f fd Bi (Ob C CL CJ):=by
 refine F.o WI λs H hr h=>?_;obtain⟨l,b,xs,ys,n,s,rfl,ba,np,q⟩:=h;refine⟨_,(aq (aV (PW.pt (pw_or (j_ (eY (aW FV hr (aa (pv 1) ae)))) (pw_or1 (iG (GV (K:=K) rfl) (pv 2) (c6 (aa (dv (v:=.str "man") rfl sD ⟨_,rfl⟩) (aa (dv (v:=.str "woman") rfl rW ⟨_,rfl⟩) ae))) (by with_unfolding_all rfl))))) gc aZ) (av (aV (iG (mP (K:=K) rfl) (pv 1) (xy DA hr (by omega) (pv 0)) (by with_unfolding_all rfl)) gc aZ))),?_⟩;have sz:(10000:Nat)<=sizeLine:=by rw[sizeLine_eq];omega
 refine⟨_,rfl,n,rfl,np.nl,λH1 g1=>⟨_,rfl,?_⟩⟩;rw[np.Zhc];refine bW ?_;refine⟨_,rfl,by show 2<=sizeLine;omega,λp H2 tM g2 hp=>⟨p,_,rfl,.inr (aB.of hp),rfl,rfl,_,rfl,?_⟩⟩;have so:fq (.str s) [.str "man",.str "woman"]=true:=np.side;dsimp only;rw[if_pos rfl,so];refine bW (aY ?_);have g:=g1.trans g2;have qW:=ba.same g;obtain⟨dx,h1⟩:=qW.obj;refine⟨_,rfl,_,rfl,l.h,dx,_,rfl,h1,rfl,l,b,xs,ys,rfl,qW,λp2 H3 K_ g3 dh=>?_⟩;have fl:(b.ps.map λp=>V.str p.1).all jn=true:=by
  rw[Kw,Wm];intro p _;rfl
 refine⟨p2,_,rfl,.inl (ak.of dh),rfl,fl,_,rfl,?_⟩;try dsimp only
 have no:fq (.str n) (b.ps.map λp=>V.str p.1)=false:=by
  unfold fq;rw[List.any_map,Tp];intro p hp z;have z':(p.1==n)=true:=z;exact np.new (by rw[←eq_of_beq z'];exact Yh.mpr ⟨p,hp,rfl⟩)
 rw[if_neg Yj,no];exact bW (aY (q H3 (g.trans g3)))
abbrev Bj:List Str:=["self","name","side"]
def V9:aP Bj Bj (aF Dp):=.aX
def Zba(F:aN K "person" "Hearth.person" Dp f fd)(hc:fO K C)(oH:mg "PUT_IN"=some (.int 1 t1))(DN:HasFn P w K mg base 2 "check_person" Bi (Ob C CL CJ))(ot:cE P w K mg base 10 "do_deed" C nK (z8 C CL CJ)):aE P w K mg base aM 11 f fd Bj (Oc C CL CJ):=by
 refine F.o V9 λs H hr h=>?_;obtain⟨l,b,xs,ys,n,s,rfl,ba,ok,np,dl,q⟩:=h;refine⟨_,(aq (b_ (aW DN hr (aa (pv 0) (aa (pv 1) (aa (pv 2) ae))))) (av (b_ (cT ot hr (by omega) (pv 0) (aa (dv (v:=.int (1)) rfl oH ⟨_,rfl⟩) (aa (c6 (aa (pv 1) (aa (pv 2) ae))) (aa (pF K 0) ae))))))),?_⟩;refine⟨_,rfl,_,rfl,_,rfl,l,b,xs,ys,n,s,rfl,ba,np,λH1 g1=>?_⟩;have bX:=ba.same g1;obtain⟨dx,h1⟩:=bX.obj;refine⟨_,rfl,l.h,dx,_,rfl,h1,rfl,_,rfl,_,rfl,by show 2<=sizeLine;decide,λr H2 nr g2 hR=>?_⟩;refine⟨_,rfl,l.h,C,dx,_,_,rfl,g2 _ _ h1,hc.cls,hc.qh,rfl,l,b,_,xs,ys,r,1,b.co,[.inr n,.inr s],rfl,bX.same g2,ok,dl,hR,.pin n s hR np.new np.lim,λl' H3 wt lR=>?_⟩;exact q l' H3 (bM.after (g1.trans g2) wt) lR
def wy:aP SK sT (aF DY):=.aX
def ZdG(F:aN K "keep" "Hearth.keep" DY f fd)(hc:fO K C)(oH:mg "PUT_IN"=some (.int 1 t1))(EM:HasFn P w K mg base 5 "fact_fits" sS (QP CL CJ))(uc:cE P w K mg base 8 "joins" C lC (GD C CL CJ))(ot:cE P w K mg base 10 "do_deed" C nK (z8 C CL CJ)):aE P w K mg base aM 11 f fd sT (Hd C CL CJ):=by
 refine F.o wy λs H hr h=>?_;obtain⟨l,b,xs,ys,fa,c,rfl,ba,ok,hf,nf,dl,q⟩:=h;refine⟨_,(aq (nv (pv 1) (jj (K:=K) (n:=4) rfl rfl (bR (bF 2 wy.nd) (bR (bF 3 wy.nd) (bR (bF 4 wy.nd) (bR (bF 5 wy.nd) ji)))))) (aq (aV (j_ (eY (aW EM hr (aa (xy uc hr (by omega) (pv 0)) (aa (pF K 0) (aa (pF K 0) (aa (pv 1) ae))))))) gc aZ) (aq (b_ (cT ot hr (by omega) (pv 0) (aa (dv (v:=.int (1)) rfl oH ⟨_,rfl⟩) (aa (pv 1) (aa (a_ iK (pv 2) aO) ae))))) (av (aG (pv 2)))))),?_⟩;obtain⟨dx,h1⟩:=ba.obj;refine⟨_,rfl,fa,_,rfl,aB.of hf,rfl,_,_,rfl,bg ⟨_,_,rfl,bg ⟨_,_,rfl,bg ⟨_,_,rfl,bg ⟨rfl,?_⟩⟩⟩⟩⟩;refine⟨_,rfl,l.h,dx,_,rfl,h1,rfl,l,b,xs,ys,rfl,ba,ok,λl1 jl st H1 wt bX r1 r2 ja me len fX _=>?_⟩;obtain⟨pN,e1⟩:=bX.obj;have tE:H1 l.h=some (.ins C pN (HF l1.L l1.sd l1.pl l1.fc l1.kn l1.pr (b.co:Int) l1.dn l1.un l1.rk)):=by rw[←wt.h];exact e1
 have UR:eK H1 b.ps fa (b.co,c):=wt.out _ _ hf (ba.tup hf);have im:=ok.m;refine⟨_,rfl,l.h,C,pN,_,_,rfl,tE,hc.cls,hc.uV,rfl,_,rfl,l.h,C,pN,_,_,rfl,tE,hc.cls,hc.qg,rfl,_,rfl,jl,st,l1.L,l1.pl,fa,xs,ys,b.ps,b.F,b.co,c,rfl,ja,me,bX.landAt,ok.gd,bX.places,ok.nm,len,by omega,UR,nf.fg,λ_ H2 g2=>?_,λno=>?_⟩
 ·refine⟨_,rfl,bW (aY ?_)⟩;have qW:=bX.same g2;have US:=g2 _ _ UR;have nz:b.co∉b.fs.map (·.1):=λz=>by
   obtain⟨p,hp,e⟩:=Yh.mp z;have:=ok.lt p hp;omega
  refine⟨_,rfl,l.h,pN,_,rfl,g2 _ _ tE,rfl,_,rfl,_,rfl,_,_,rfl,rfl,l1,b,_,xs,ys,fa,1,b.co+1,dZ b.ps b.co c,?_,qW,ok,dl,US,.fin b.co c US nf.fg nz nf.nk nf.np nf.lv nf.lim,λl' H3 wt3 lR=>?_⟩;·rw[wt.h];rfl
  ·exact⟨_,rfl,q l' H3 ((wt.same g2).trans wt3) lR⟩
 ·obtain⟨f0,i0,s0⟩:=nf.lv;exact absurd (s0 c (Yr _ Yo)) (no f0 ((me.iff f0).mpr ⟨by rw[len];exact i0,λc' m'=>s0 c' (Yt _ m')⟩))
def W_:aP xX xX (aF DZ):=.aX
def ZdH(F:aN K "take" "Hearth.take" DZ f fd)(hc:fO K C)(EN:mg "TAKEN_OUT"=some (.int (-1) t1))(ot:cE P w K mg base 10 "do_deed" C nK (z8 C CL CJ)):aE P w K mg base aM 11 f fd xX (QS C CL CJ):=by
 refine F.o W_ λs H hr h=>?_;obtain⟨l,b,xs,ys,z,c,rfl,ba,ok,m,dl,q⟩:=h;refine⟨_,(aq (aV (jE (m5 (bw hr) (pv 1) (pF K 0)) (by with_unfolding_all rfl)) gc aZ) (av (b_ (cT ot hr (by omega) (pv 0) (aa (dv (v:=.int (-1)) rfl EN ⟨_,rfl⟩) (aa (dk (bw hr) (pF K 0) (pv 1) (λ_ _=>rfl)) (aa (pF K 0) ae))))))),?_⟩;obtain⟨dx,h1⟩:=ba.obj;obtain⟨fa,Cz,di⟩:=Pd (H:=H) (ps:=b.ps) ba.fact ok.zs m;refine⟨_,rfl,_,rfl,l.h,C,dx,_,_,rfl,h1,hc.cls,hc.uR,rfl,l.fc,some (.ref fa),rfl,qt ba.facts Cz,_,rfl,bW (aY ?_)⟩;refine⟨_,rfl,l.h,dx,_,rfl,h1,rfl,_,rfl,l.h,C,dx,_,_,rfl,h1,hc.cls,hc.uR,rfl,_,rfl,l.fc,.ref fa,rfl,qt ba.facts Cz,_,rfl,l.h,C,dx,_,_,rfl,h1,hc.cls,hc.qh,rfl,l,b,_,xs,ys,fa,-1,b.co,dZ b.ps z c,rfl,ba,ok,dl,di,.vd z c di m,λl' H3 wt lR=>?_⟩;exact q l' H3 wt lR
abbrev Bk:List Str:=["self","land"]
def Xa:aP Bk Bk (aF DX):=.aX
theorem Zcv(F:aN K "__init__" "Hearth.__init__" DX f fd)(hc:fO K C):aE P w K mg base aM 1 f fd Bk (Pm C CL CJ):=by
 refine F.o Xa λs H hr h=>?_;obtain⟨x,dx,L,xs,ys,rfl,hx,la,q⟩:=h;refine⟨_,(aq (gS (K:=K) rfl (pv 0) (pv 1)) (aq (gS (K:=K) rfl (pv 0) rL) (aq (gS (K:=K) rfl (pv 0) rL) (aq (gS (K:=K) rfl (pv 0) rL) (aq (gS (K:=K) rfl (pv 0) M0) (aq (gS (K:=K) rfl (pv 0) M0) (aq (gS (K:=K) rfl (pv 0) aO) (aq (gS (K:=K) rfl (pv 0) (dw ae)) (aq (gS (K:=K) rfl (pv 0) (dw ae)) (av (gS (K:=K) rfl (pv 0) lZ))))))))))),?_⟩;refine⟨_,rfl,_,rfl,x,C,dx,[],rfl,hx,hc.cls,hc.uV,by show 0<1000;omega,λH1 b1 h1=>?_⟩;refine λsd H2 n2 g2 e2=>⟨_,rfl,x,C,dx,_,rfl,g2 _ _ h1,hc.cls,hc.rR,by show 1<1000;omega,λH3 b3 h3=>?_⟩;refine λpl H4 n4 g4 e4=>⟨_,rfl,x,C,dx,_,rfl,g4 _ _ h3,hc.cls,hc.qg,by show 2<1000;omega,λH5 b5 h5=>?_⟩;refine λfc H6 n6 g6 e6=>⟨_,rfl,x,C,dx,_,rfl,g6 _ _ h5,hc.cls,hc.uR,by show 3<1000;omega,λH7 b7 h7=>?_⟩;refine λkn H8 n8 g8 e8=>⟨_,rfl,x,C,dx,_,rfl,g8 _ _ h7,hc.cls,hc.An,by show 4<1000;omega,λH9 b9 h9=>?_⟩;refine λpr lH pJ lS pL=>⟨_,rfl,x,C,dx,_,rfl,lS _ _ h9,hc.cls,hc.uH,by show 5<1000;omega,λyo tY h11=>?_⟩;refine⟨_,rfl,x,C,dx,_,rfl,h11,hc.cls,hc.qh,by show 6<1000;omega,λvZ tZ B4=>?_⟩;refine⟨by show 0<=sizeLine;exact Yx _,λdn B5 qX fF UT=>⟨_,rfl,x,C,dx,_,rfl,fF _ _ B4,hc.cls,hc.QO,by show 7<1000;omega,λqQ qY UU=>?_⟩⟩;refine⟨by show 0<=sizeLine;exact Yx _,λun Kk mS UW e15=>⟨_,rfl,x,C,dx,_,rfl,UW _ _ UU,hc.cls,hc.N4,by show 8<1000;omega,λT6 b16 h16=>?_⟩⟩;refine⟨_,rfl,x,C,dx,_,rfl,h16,hc.cls,hc.iF,by show 9<1000;omega,λpR b17 UX=>?_⟩;rw[Zg3] at UX;have UY:aA x Kk pR:=b16.trans b17;have UZ:aA x B5 pR:=qY.trans ((aA.of UW).trans UY);have U0:aA x lH pR:=tY.trans (tZ.trans ((aA.of fF).trans UZ));have j8:aA x H8 pR:=b9.trans ((aA.of lS).trans U0);have j6:aA x H6 pR:=b7.trans ((aA.of g8).trans j8);have j4:aA x H4 pR:=b5.trans ((aA.of g6).trans j6);have j2:aA x H2 pR:=b3.trans ((aA.of g4).trans j4);have j0:aA x H pR:=b1.trans ((aA.of g2).trans j2);have i3:aA x H H3:=b1.trans ((aA.of g2).trans b3);have i5:aA x H H5:=i3.trans ((aA.of g4).trans b5);have i7:aA x H H7:=i5.trans ((aA.of g6).trans b7);have i9:aA x H H9:=i7.trans ((aA.of g8).trans b9);have i12:aA x H vZ:=i9.trans ((aA.of lS).trans (tY.trans tZ));have i14:aA x H qQ:=i12.trans ((aA.of fF).trans qY);have fr:∀{a:Addr} {H':Hp},aA x H H'->a≠x->H' a=none->H a=none:=λ{a H'} k d n=>by
  cases e:H a with
  |none=>rfl
  |some o=>rw[k a o e d] at n;cases n
 have d2:sd≠x:=λz=>by rw[z,h1] at n2;cases n2
 have d4:pl≠x:=λz=>by rw[z,h3] at n4;cases n4
 have d6:fc≠x:=λz=>by rw[z,h5] at n6;cases n6
 have d8:kn≠x:=λz=>by rw[z,h7] at n8;cases n8
 have CD:pr≠x:=λz=>by rw[z,h9] at pJ;cases pJ
 have Le:dn≠x:=λz=>by rw[z,B4] at qX;cases qX
 have U1:un≠x:=λz=>by rw[z,UU] at mS;cases mS
 have ne:∀{a c:Addr} {Ha Hc:Hp} {o:HO},Ha a=some o->aA x Ha Hc->a≠x->Hc c=none->a≠c:=λ{a c Ha Hc o} e k d n z=>by rw[←z,k a o e d] at n;cases n
 have k24:aA x H2 H3:=b3;have U2:aA x H2 H5:=b3.trans ((aA.of g4).trans b5);have U3:aA x H2 H7:=U2.trans ((aA.of g6).trans b7);have SN:aA x H2 H9:=U3.trans ((aA.of g8).trans b9);have SO:aA x H2 vZ:=SN.trans ((aA.of lS).trans (tY.trans tZ));have Zhd:aA x H2 qQ:=SO.trans ((aA.of fF).trans qY);have U4:aA x H4 H7:=b5.trans ((aA.of g6).trans b7);have SQ:aA x H4 H9:=U4.trans ((aA.of g8).trans b9);have SR:aA x H4 vZ:=SQ.trans ((aA.of lS).trans (tY.trans tZ));have Zhe:aA x H4 qQ:=SR.trans ((aA.of fF).trans qY);have SS:aA x H6 H9:=b7.trans ((aA.of g8).trans b9);have SU:aA x H6 vZ:=SS.trans ((aA.of lS).trans (tY.trans tZ));have Zhf:aA x H6 qQ:=SU.trans ((aA.of fF).trans qY);have SV:aA x H8 vZ:=b9.trans ((aA.of lS).trans (tY.trans tZ));have Zhg:aA x H8 qQ:=SV.trans ((aA.of fF).trans qY);have RP:aA x lH vZ:=tY.trans tZ;have Zgf:aA x lH qQ:=RP.trans ((aA.of fF).trans qY);let l:BL:=⟨x,L,sd,pl,fc,kn,pr,dn,un,.az,[],[],[],[]⟩;have CF:∀a∈l.fp,a≠x->H a=none:=λa ha na=>by
  have qU:a∈[x,sd,pl,fc,kn,pr,dn,un]:=by
   have:l.fp=[x,sd,pl,fc,kn,pr,dn,un]:=rfl;rw[this] at ha;exact ha
  simp only[Yp,Y3,or_false] at qU;rcases qU with rfl|rfl|rfl|rfl|rfl|rfl|rfl|rfl;·exact absurd rfl na
  ·exact fr b1 na n2
  ·exact fr i3 na n4
  ·exact fr i5 na n6
  ·exact fr i7 na n8
  ·exact fr i9 na pJ
  ·exact fr i12 na qX
  ·exact fr i14 na mS
 refine q l pR rfl CF j0 ⟨⟨dx,UX⟩,λH' o=>?_,j2 _ _ e2 d2,j4 _ _ e4 d4,j6 _ _ e6 d6,.nil,j8 _ _ e8 d8,U0 _ _ pL CD,UZ _ _ UT Le,.nil,UY _ _ e15 U1,.nil,.no rfl rfl,?_⟩
 ·refine la.free (fp:=l.fp) (λa ha=>?_) λa u e na=>o _ _ (j0 _ _ e λz=>na (by rw[z];exact Yo)) na;by_cases z:a=x;·rw[z];exact .inr ⟨C,dx,hx⟩
  ·exact .inl (CF a ha z)
 ·show[x,sd,pl,fc,kn,pr,dn,un].Nodup;simp only[Yz,Yp,Y3,or_false,not_or,not_false_eq_true,Ja,and_true];exact⟨⟨d2.symm,d4.symm,d6.symm,d8.symm,CD.symm,Le.symm,U1.symm⟩,⟨ne e2 k24 d2 n4,ne e2 U2 d2 n6,ne e2 U3 d2 n8,ne e2 SN d2 pJ,ne e2 SO d2 qX,ne e2 Zhd d2 mS⟩,⟨ne e4 b5 d4 n6,ne e4 U4 d4 n8,ne e4 SQ d4 pJ,ne e4 SR d4 qX,ne e4 Zhe d4 mS⟩,⟨ne e6 b7 d6 n8,ne e6 SS d6 pJ,ne e6 SU d6 qX,ne e6 Zhf d6 mS⟩,⟨ne e8 b9 d8 pJ,ne e8 SV d8 qX,ne e8 Zhg d8 mS⟩,⟨ne pL RP CD qX,ne pL Zgf CD mS⟩,ne UT qY Le mS⟩
end
def strOf:V->Str
 |.str s=>s
 |_=>""
def gm(b:BS)(a:Str):List Str:=(oQ b a).map strOf
inductive f_(b:BS)(a:Str):Str->Prop
 |refl:f_ b a a
 |step {x y:Str}:f_ b a x->y∈gm b x->f_ b a y
theorem Pn(ok:cM xs ys b)(h:aT (cj b.ps b.fs) [.inr k,.inr a]=some v):∃p∈b.fs,cO p.2.k=true/\p.2.k=k/\au b.ps p.2.one=a/\v=.str (au b.ps p.2.aI.toNat)/\p.2.aI.toNat<b.ps.length:=by
 have m:([.inr k,.inr a],v)∈cj b.ps b.fs:=by
  unfold aT at h;cases ef:(cj b.ps b.fs).find? λkv=>decide (kv.1=[.inr k,.inr a]) with
  |none=>grind
  |some q=>grind
 obtain⟨p,hp,e⟩:=Yh.mp m;obtain⟨lK,dh⟩:=Y5.mp hp;injection e with e1 e2;injection e1 with e3 e4;injection e4 with e5 _;have ns:p.2.k≠bH:=λz=>by
  rw[z] at dh;exact absurd dh (by decide+kernel)
 refine⟨p,lK,dh,Wf e3,Wf e5,?_,((ok.fg p lK).ok.hU ns).1.2⟩;rw[←e2,jh ns];rfl
def MH(ok:cM xs ys b)(a:Str):oQ b a=(gm b a).map V.str/\(∀s∈gm b a,s∈b.ps.map (·.1))/\(gm b a).length<=2:=by
 have all:∀v∈oQ b a,∃s,v=.str s/\s∈b.ps.map (·.1):=λv hv=>by
  obtain⟨k,_,e⟩:=Ji.mp hv;obtain⟨p,_,_,_,_,e2,l⟩:=Pn ok e;exact⟨_,e2,rT l⟩
 refine⟨?_,λs hs=>?_,?_⟩
 ·unfold gm;rw[Wi];refine(List.map_id _).symm.trans (W7 λv hv=>?_);obtain⟨s,rfl,_⟩:=all v hv;rfl
 ·obtain⟨v,hv,rfl⟩:=Yh.mp hs;obtain⟨s,rfl,m⟩:=all v hv;exact m
 ·unfold gm oQ
  grind
def iD(ks:List Str)(as:List Addr):List (Key×V):=(ks.zip as).map λp=>(.inr p.1,.ref p.2)
theorem Od:∀{ks:List Str} {as:List Addr},ks.length=as.length->(iD ks as).map (·.1)=ks.map Sum.inr
 |[],[],_=>rfl
 |k::ks,a::as,h=>by
  have e0:iD (k::ks) (a::as)=(Sum.inr k,V.ref a)::iD ks as:=rfl;rw[e0,Wp,Od (by simpa using h)];rfl
 |[],_::_,h=>rfl
 |_::_,[],h=>by simp at h
theorem Oe:∀{ks:List Str} {as:List Addr} (k:Str) (a:Addr),ks.length=as.length->iD ks as++[(.inr k,.ref a)]=iD (ks++[k]) (as++[a])
 |[],[],_,_,_=>rfl
 |q::ks,c::as,k,a,h=>by
  have e0:iD (q::ks) (c::as)=(Sum.inr q,V.ref c)::iD ks as:=rfl;rw[e0,T4,Oe k a (by simpa using h)];rfl
 |[],_::_,_,_,h=>by simp at h
 |_::_,[],_,_,h=>by simp at h
theorem GG:∀{ks:List Str} {as:List Addr} {k:Str},ks.length=as.length->k∈ks->∃a∈as,aT (iD ks as) (.inr k)=some (.ref a)
 |[],_,_,_,h=>by cases h
 |q::ks,c::as,k,hl,h=>by
  have e0:iD (q::ks) (c::as)=(Sum.inr q,V.ref c)::iD ks as:=rfl;rw[e0];by_cases e:q=k;·exact⟨c,Yo,fN (by rw[e])⟩
  ·rcases Yp.mp h with h|h;·grind
   ·obtain⟨a,m,v⟩:=GG (by simpa using hl) h;exact⟨a,Yw _ m,by rw[eX (λz=>e (Wf z))];exact v⟩
 |_::_,[],_,h,_=>by simp at h
def Gj(hl:ks.length=as.length)(h:k∉ks):aT (iD ks as) (.inr k)=none:=pV (by
 rw[Od hl];intro z;obtain⟨q,hq,e⟩:=Yh.mp z;exact h (by rw[←Wf e];exact hq))
structure qF(H H6:Hp)(ln:Addr)(ks:List Str)(as:List Addr):Prop where
 same:aj H H6
 at_:H6 ln=some (.dK (iD ks as))
 len:ks.length=as.length
 lst:∀a∈as,∃us:List V,H6 a=some (.lst us)/\us.length<=ks.length/\a≠ln
 nd:ks.Nodup
def FW{xs ys:List Int}{b:BS}(ok:cM xs ys b){ks:List Str}(nd:ks.Nodup)(sub:∀k∈ks,k∈b.ps.map (·.1)):ks.length<=b.ps.length:=by
 have:=nd.length_le_of_subset sub
 grind
theorem z9(ok:cM xs ys b)(ma:a∈b.ps.map (·.1))(h:f_ b a z):z∈b.ps.map (·.1):=by
 cases h with
 |refl=>exact ma
 |step _ m=>exact(MH ok _).2.1 _ m
inductive Po(C CL CJ:Addr)(vs:List V)(H:Hp)(Q:VK)(E:XK):Prop
 |mk (l:BL) (b:BS) (xs ys:List Int) (a:Str) (aC:vs=[.ref l.h,.str a]) (ba:bh H C CL CJ l xs ys b) (ok:cM xs ys b) (ma:a∈b.ps.map (·.1)) (q:∀(p:Addr) (ks:List Str) (as:List Addr) (H':Hp),qF H H' p ks as->(∀z,z∈ks↔f_ b a z)->Q (.ref p) H')
def x6(ln:Addr)(N:Nat):St->Hp->Nat:=λσ H=>(match H ln with|some (.dK kvs)=>2*(N-kvs.length)|_=>0)+(match List.getD (α:=Option V) σ 3 none with|some (V.ref nw)=>(match H nw with|some (.lst (_::_))=>1|_=>0)|_=>0)
inductive U5(H:Hp)(b:BS)(a:Str)(h ln:Addr)(σ:St)(H6:Hp):Prop
 |mk (ks ns:List Str) (as:List Addr) (nw:Addr) (o4 o5 o6:Option V) (la:qF H H6 ln ks as) (hn:H6 nw=some (.lst (ns.map V.str))) (nn:nw≠ln) (sub:∀k∈ns,k∈ks) (cl:∀k∈ks,k∉ns->∀p∈gm b k,p∈ks) (sd:∀k∈ks,f_ b a k) (ma:a∈ks) (tL:ns.length<=64) (e:σ=[some (.ref h),some (.str a),some (.ref ln),some (.ref nw),o4,o5,o6]):U5 H b a h ln σ H6
inductive Lf(H:Hp)(b:BS)(a:Str)(h ln nw fu:Addr)(qZ ns:List Str)(j:Nat)(σ:St)(H6:Hp):Prop
 |mk (ks fs:List Str) (as:List Addr) (o5 o6:Option V) (la:qF H H6 ln ks as) (hn:H6 nw=some (.lst (ns.map V.str))) (hf:H6 fu=some (.lst (fs.map V.str))) (nn:nw≠ln/\fu≠ln/\fu≠nw) (af:fu∉as) (ek:ks=qZ++fs) (cl:∀k∈ns.take j,∀p∈gm b k,p∈ks) (sd:∀k∈ks,f_ b a k) (e:σ=[some (.ref h),some (.str a),some (.ref ln),some (.ref nw),some (.ref fu),o5,o6]):Lf H b a h ln nw fu qZ ns j σ H6
inductive U6(H:Hp)(b:BS)(a:Str)(h ln nw fu:Addr)(qZ ns:List Str)(j:Nat)(one:Str)(pl:Addr)(i:Nat)(σ:St)(H6:Hp):Prop
 |mk (ks fs:List Str) (as:List Addr) (o6:Option V) (la:qF H H6 ln ks as) (hn:H6 nw=some (.lst (ns.map V.str))) (hf:H6 fu=some (.lst (fs.map V.str))) (hp:H6 pl=some (.lst ((gm b one).map V.str))) (nn:nw≠ln/\fu≠ln/\fu≠nw/\pl≠ln/\pl≠fu) (af:fu∉as) (ek:ks=qZ++fs) (cl:∀k∈ns.take j,∀p∈gm b k,p∈ks) (cp:∀p∈(gm b one).take i,p∈ks) (sd:∀k∈ks,f_ b a k) (e:σ=[some (.ref h),some (.str a),some (.ref ln),some (.ref nw),some (.ref fu),some (.str one),o6]):U6 H b a h ln nw fu qZ ns j one pl i σ H6
section
variable {K:ah}{mg:aQ}
abbrev IJ:List Str:=["hearth","name"]
def rF:aP ["hearth","name","lines","newest","further","one","parent"] IJ (aF E1):=.aX
theorem Zb(F:aN K "lines_up" "lines_up" E1 f fd)(C5:cE P w K mg base 1 "parents_of" C kr (Me C CL CJ)):aE P w K mg base aM 2 f fd IJ (Po C CL CJ):=by
 refine F.o rF λs H hr h=>?_;obtain⟨l,b,xs,ys,a,rfl,ba,ok,ma,q⟩:=h;refine⟨_,(aq (bU 2 rF.nd (Aj (jW (pv 1) (dw (aa (pv 1) ae)) Ai) rfl rfl (λz=>nomatch z) (Jl rfl))) (aq (bU 3 rF.nd (dw (aa (pv 1) ae))) (aq (F2 PassesOwn.never (FG (K:=K) rfl (F4 (pv 3) (λ_=>rfl))) (aq (bU 4 rF.nd (dw ae)) (aq (fP PassesOwn.never rfl (eI (K:=K) rfl (pv 3)) (bF 5 rF.nd) (av (fP PassesOwn.never rfl (eI (K:=K) rfl (cT C5 hr (by omega) (pv 0) (aa (pv 5) ae))) (bF 6 rF.nd) (av (aV (jE (m5 (bw hr) (pv 6) (pv 2)) (by with_unfolding_all rfl)) (aq (oF (bw hr) (pv 2) (pv 6) (a_ rQ (dk (bw hr) (pv 2) (pv 5) (λ_ _=>rfl)) (dw (aa (pv 6) ae)))) (av (b_ (nA (K:=K) rfl (ka plainAttrs_list PySem.F.slot_list_append PySem.F.type_list_append oz (pv 4) (aa (pv 6) ae)))))) aZ))))) (av (bU 3 rF.nd (pv 4)))))) (av (aG (pv 2)))))),?_⟩;have sz:(10000:Nat)<=sizeLine:=by rw[sizeLine_eq];omega
 have im:=ok.m;refine cz ?_;refine λln U7=>⟨_,rfl,_,rfl,by show 1<=sizeLine;omega,λll H0 U8 g0 hll=>?_⟩;refine⟨g0 _ _ aR,[(.inr a,.ref ll)],rfl,(by show 1<=15;omega),?_⟩;obtain⟨H1,q5⟩:∃H1,H1=upd H0 ln (.dK (oP [] [(.inr a,.ref ll)])):=⟨_,rfl⟩;rw[←q5];have U9:ll≠ln:=λz=>by rw[z,aR] at U8;cases U8
 have g1:aj H H1:=λc o e=>by
  have nc:=bY e U7;rw[q5,aK nc];exact g0 _ _ (by rw[aK nc];exact e)
 have U_:qF H H1 ln [a] [ll]:=⟨g1,by rw[q5,aR];rfl,rfl,λc hc=>by
  rw[Yk.mp hc];exact⟨[.str a],by rw[q5,aK U9];exact hll,Yd _,U9⟩,by simp⟩
 refine cz ?_;refine⟨_,rfl,by show 1<=sizeLine;omega,λnw H2 Va g2 hnw=>?_⟩;have Vb:nw≠ln:=λz=>by rw[z,U_.at_] at Va;cases Va
 have HX:∀{Ha Hb:Hp} {ks:List Str} {as:List Addr},qF H Ha ln ks as->aj Ha Hb->qF H Hb ln ks as:=λla g=>⟨la.same.trans g,g _ _ la.at_,la.len,λc hc=>by obtain⟨us,e,z,n⟩:=la.lst c hc;exact⟨us,g _ _ e,z,n⟩,la.nd⟩;refine gI (λσ H6=>∃ks as,qF H H6 ln ks as/\(∀z,z∈ks↔f_ b a z)/\∃o3 o4 o5 o6:Option V,σ=[some (.ref l.h),some (.str a),some (.ref ln),o3,o4,o5,o6]) (λnW eV=>?_) ?_
 ·refine F3 (U5 H b a l.h ln) (x6 ln 100) ⟨[a],[a],[ll],nw,none,none,none,HX U_ g2,hnw,Vb,λ_ h=>h,λk hk no=>absurd hk no,λk hk=>by rw[Yk.mp hk];exact .refl,Yo,by show 1<=64;omega,rfl⟩ ?_ ?_
  ·rintro σ H6 ⟨ks,ns,as,nw,o4,o5,o6,la,hn,nn,sub,cl,sd,Vc,tL,rfl⟩;have kf:ks.length<=64:=Y0 (FW ok la.nd λk hk=>z9 ok ma (sd k hk)) im;refine⟨_,rfl,_,.inl ⟨_,ak.of hn,rfl⟩,?_⟩;refine bJ (λc=>?_) (λc=>?_)
   ·have Zhh:ns≠[]:=λz=>by rw[z] at c;cases c
    have mu0:x6 ln 100 [some (.ref l.h),some (.str a),some (.ref ln),some (.ref nw),o4,o5,o6] H6=2*(100-ks.length)+1:=by
     unfold x6;have kl:(iD ks as).length=ks.length:=by unfold iD;rw[Ya,Jd];have:=la.len;omega
     have g3:List.getD (α:=Option V) [some (.ref l.h),some (.str a),some (.ref ln),some (.ref nw),o4,o5,o6] 3 none=some (.ref nw):=rfl;rw[la.at_,g3];dsimp only;rw[hn,kl];cases ns with
     |nil=>exact absurd rfl Zhh
     |cons x r=>rfl
    refine cz ?_;refine⟨by show 0<=sizeLine;exact Yx _,λfu H7 v8 g7 hfu=>?_⟩;have yG:=HX la g7;have fln:fu≠ln:=λz=>by rw[z,la.at_] at v8;cases v8
    have fnw:fu≠nw:=λz=>by rw[z,hn] at v8;cases v8
    refine gI (Lf H b a l.h ln nw fu ks ns ns.length) (λCB n_=>?_) ?_
    ·refine⟨_,rfl,nw,rfl,⟨_,ak.of (g7 _ _ hn)⟩,je (K:=K) (a:=nw) (xs:=ns.map V.str) (Lf H b a l.h ln nw fu ks ns) ⟨ks,[],as,o5,o6,yG,g7 _ _ hn,hfu,⟨nn,fln,fnw⟩,(λz=>by obtain⟨us,e,_⟩:=la.lst _ z;rw[v8] at e;cases e),by rw[Wd],λk hk=>(by rw[List.take_zero] at hk;cases hk),sd,rfl⟩ (λj σ H8 _ ⟨_,_,_,_,_,_,h,_,_,_,_,_,_,_⟩=>ak.of h) ?_ ?_⟩
     ·rintro j v σ H8 hj ⟨eQ,fs,CG,p5,p6,q_,Vd,jP,yW,Ve,ek,i_,CH,rfl⟩;rw[Ye] at hj;obtain⟨one,e1,rfl⟩:∃one,ns[j]?=some one/\V.str one=v:=by
       cases z:ns[j]? with
       |none=>rw[z] at hj;cases hj
       |some o=>rw[z] at hj;exact⟨o,rfl,Yn hj⟩
      have Lg:ns.take (j+1)=ns.take j++[one]:=by rw[Y1,e1];rfl
      have Ziz:one∈eQ:=by rw[ek];exact Yt _ (sub _ (Yg e1))
      have Vf:=ba.same q_.same;obtain⟨dx8,h8⟩:=Vf.obj;obtain⟨pe,pin,KR⟩:=MH ok one;refine bg ?_;refine⟨_,rfl,l.h,dx8,_,rfl,h8,rfl,_,rfl,l,b,xs,ys,one,rfl,Vf,λpl H9 t4 g9 bQ=>?_⟩;rw[pe] at bQ;have pln:pl≠ln:=λz=>by rw[z,q_.at_] at t4;cases t4
      have plf:pl≠fu:=λz=>by rw[z,jP] at t4;cases t4
      refine⟨pl,rfl,⟨_,ak.of bQ⟩,je (K:=K) (a:=pl) (xs:=(gm b one).map V.str) (U6 H b a l.h ln nw fu ks ns j one pl) ⟨eQ,fs,CG,p6,HX q_ g9,g9 _ _ Vd,g9 _ _ jP,bQ,⟨yW.1,yW.2.1,yW.2.2,pln,plf⟩,Ve,ek,i_,λp hp=>(by rw[List.take_zero] at hp;cases hp),CH,rfl⟩ (λi σ HA _ ⟨_,_,_,_,_,_,_,h,_,_,_,_,_,_,_⟩=>ak.of h) ?_ ?_⟩
      ·rintro i v σ HA hi ⟨jQ,yX,CI,q6,gG,CK,oa,Lh,kL,yY,v9,CM,yZ,v_,rfl⟩;rw[Ye] at hi;obtain⟨par,e2,rfl⟩:∃par,(gm b one)[i]?=some par/\V.str par=v:=by
        cases z:(gm b one)[i]? with
        |none=>rw[z] at hi;cases hi
        |some o=>rw[z] at hi;exact⟨o,rfl,Yn hi⟩
       have mp:=Yg e2;have Vg:(gm b one).take (i+1)=(gm b one).take i++[par]:=by rw[Y1,e2];rfl
       have SW:one∈jQ:=by rw[v9];exact Yt _ (sub _ (Yg e1))
       have kf9:jQ.length<=64:=Y0 (FW ok gG.nd λk hk=>z9 ok ma (v_ k hk)) im;refine bg ?_;by_cases s_:par∈jQ
       ·obtain⟨ap,_,vp⟩:=GG gG.len s_;refine⟨_,rfl,_,rfl,ln,some (.ref ap),rfl,cV gG.at_ vp,_,rfl,bW (aY ?_)⟩;refine⟨jQ,yX,CI,_,gG,CK,oa,Lh,kL,yY,v9,CM,λp hp=>?_,v_,rfl⟩;rw[Vg] at hp;rcases Yq.mp hp with hp|hp;·exact yZ p hp
        ·rw[Yk.mp hp];exact s_
       ·obtain⟨ao,mao,vo⟩:=GG gG.len SW;obtain⟨us,Li,ul,aon⟩:=gG.lst ao mao;refine⟨_,rfl,_,rfl,ln,none,rfl,cV gG.at_ (Gj gG.len s_),_,rfl,cY ?_⟩;refine⟨_,rfl,_,rfl,ln,.ref ao,rfl,cV gG.at_ vo,_,rfl,by show 1<=sizeLine;omega,λe1l HB neb gB heB=>?_⟩;refine⟨ao,e1l,us,_,rfl,rfl,gB _ _ Li,heB,by show us.length+1<=sizeLine;omega,λnl HC Lj gC hnl=>?_⟩;have Vh:=gB.trans gC;refine⟨_,rfl,_,rfl,ln,_,.inr par,rfl,Vh _ _ gG.at_,rfl,?_,λHD bD eD=>?_⟩;·unfold iD;rw[Ya,Jd];omega
        rw[kU _ (Gj gG.len s_),Oe par nl gG.len] at eD;have SX:nl≠ln:=λz=>by rw[z,gB _ _ gG.at_] at Lj;cases Lj
        have kD:∀{c:Addr} {o:HO},HA c=some o->c≠ln->HD c=some o:=λ{c o} e n=>bD _ _ (Vh _ _ e) n;have Vi:HA nl=none:=gB.free Lj;refine⟨_,rfl,.inl ⟨rfl,_,ak.of (kD oa kL.2.1)⟩,_,rfl,fu,_,_,rfl,rfl,kD oa kL.2.1,?_,λHE bE eE=>?_⟩
        ·rw[Ya];have:yX.length<=jQ.length:=by rw[v9,Yi];omega
         omega
        have kE:∀{c:Addr} {o:HO},HA c=some o->c≠ln->c≠fu->HE c=some o:=λ{c o} e n1 n2=>bE _ _ (kD e n1) n2;have SY:nl≠fu:=λz=>by rw[z,oa] at Vi;cases Vi
        refine⟨jQ++[par],yX++[par],CI++[nl],_,⟨λc o e=>?_,bE _ _ eD (λz=>kL.2.1 z.symm),by rw[Yi,Yi,gG.len];rfl,λc hc=>?_,?_⟩,kE CK kL.1 (λz=>kL.2.2.1 z.symm),?_,kE Lh kL.2.2.2.1 kL.2.2.2.2,kL,(λz=>by rcases Yq.mp z with z|z;exact yY z;exact SY (Yk.mp z).symm),by rw[v9,Jo],λk hk p hp=>Yt _ (CM k hk p hp),λp hp=>?_,λk hk=>?_,rfl⟩
        ·have nc:=bY e U7;have ncf:c≠fu:=bY e ((la.same.free v8));exact kE (gG.same _ _ e) nc ncf
        ·rcases Yq.mp hc with hc|hc
         ·obtain⟨us',e',z',n'⟩:=gG.lst c hc;have cf:c≠fu:=λz=>yY (by rw[←z];exact hc);exact⟨us',kE e' n' cf,by rw[Yi];omega,n'⟩
         ·rw[Yk.mp hc];exact⟨us++[.str par],bE _ _ (bD _ _ hnl SX) SY,by rw[Yi,Yi];show us.length+1<=jQ.length+1;omega,SX⟩
        ·refine Wv.mpr ⟨gG.nd,by simp,λu hu v hv z=>?_⟩;have:v=par:=by simpa using hv
         exact s_ (by rw[←this,←z];exact hu)
        ·rw[eE,Ym];rfl
        ·rw[Vg] at hp;rcases Yq.mp hp with hp|hp;·exact Yt _ (yZ p hp)
         ·rw[Yk.mp hp];exact Yr _ Yo
        ·rcases Yq.mp hk with hk|hk;·exact v_ k hk
         ·rw[Yk.mp hk];exact .step (v_ one SW) mp
      ·rintro σ HA ⟨jQ,yX,CI,q6,gG,CK,oa,Lh,kL,yY,v9,CM,yZ,v_,rfl⟩;rw[Ya,Wb] at yZ;refine⟨jQ,yX,CI,_,_,gG,CK,oa,⟨kL.1,kL.2.1,kL.2.2.1⟩,yY,v9,λk hk=>?_,v_,rfl⟩;rw[Lg] at hk;rcases Yq.mp hk with hk|hk;·exact CM k hk
       ·rw[Yk.mp hk];exact yZ
     ·rintro σ H8 h8;rw[Ya] at h8;exact n_ _ _ h8
    ·rintro σ H8 ⟨eQ,fs,CG,p5,p6,q_,Vd,jP,yW,Ve,ek,i_,CH,rfl⟩;rw[Wb] at i_;refine⟨_,rfl,?_⟩;have kf8:eQ.length<=64:=Y0 (FW ok q_.nd λk hk=>z9 ok ma (CH k hk)) im;have Vj:eQ.length=ks.length+fs.length:=by rw[ek,Yi]
     refine⟨⟨eQ,fs,CG,fu,_,_,_,q_,jP,yW.2.1,λk hk=>by rw[ek];exact Yr _ hk,λk hk no p hp=>?_,CH,by rw[ek];exact Yt _ Vc,by omega,rfl⟩,?_⟩
     ·rw[ek] at hk;rcases Yq.mp hk with hk|hk
      ·by_cases z:k∈ns;·exact i_ k z p hp
       ·rw[ek];exact Yt _ (cl k hk z p hp)
      ·exact absurd hk no
     ·rw[mu0];show x6 ln 100 [some (.ref l.h),some (.str a),some (.ref ln),some (.ref fu),some (.ref fu),p5,p6] H8<_;unfold x6;have kl:(iD eQ CG).length=eQ.length:=by unfold iD;rw[Ya,Jd];have:=q_.len;omega
      have g3:List.getD (α:=Option V) [some (.ref l.h),some (.str a),some (.ref ln),some (.ref fu),some (.ref fu),p5,p6] 3 none=some (.ref fu):=rfl;rw[q_.at_,g3];dsimp only;rw[jP,kl];cases fs with
      |nil=>
       show 2*(100-eQ.length)+0<_;have:eQ.length=ks.length+0:=Vj;omega
      |cons x r=>
       show 2*(100-eQ.length)+1<_;have:eQ.length=ks.length+(r.length+1):=Vj;omega
   ·have nse:ns=[]:=by
     cases ns with
     |nil=>rfl
     |cons x r=>exact absurd rfl c
    subst nse;refine eV _ _ ⟨ks,as,la,λz=>⟨λh=>sd z h,λh=>?_⟩,_,_,_,_,rfl⟩;induction h with
    |refl=>exact Vc
    |step _ m ih=>exact cl _ ih (λz=>nomatch z) _ m
  ·rintro σ H6 Q1 Q2 mo ⟨v1,w1,v2,w2,h⟩;exact⟨v1,w1,v2,w2,mo _ _ h⟩
 ·rintro σ H6 ⟨ks,as,la,iff,o3,o4,o5,o6,rfl⟩;exact⟨_,rfl,q ln ks as H6 la iff⟩
end
def fJ(ps:bA)(i:Nat):Str:=(ps.getD i ("","")).2
def oK(nd:(ps.map (·.1)).Nodup)(hi:i<ps.length):aT (gw ps) (.inr (au ps i))=some (.str (fJ ps i)):=by
 have kn:((gw ps).map (·.1)).Nodup:=by
  grind
 refine Pc kn (Yh.mpr ⟨ps[i],Ju hi,?_⟩);unfold au fJ
 grind
def k9(k h t:Str):Bool:=if k="mother" then decide (t="woman") else if k="father" then decide (t="man") else decide (k="sibling")||(decide (h="man")&&decide (t="woman"))
inductive Pp(vs:List V)(H:Hp)(Q:VK)(E:XK):Prop
 |mk (k h t:Str) (aC:vs=[.str k,.str h,.str t]) (q:Q (.bl (k9 k h t)) H)
structure QT(b:BS)(k a:Str)(o:Str):Prop where
 par:cO k=true->[.inr k,.inr a]∉(cj b.ps b.fs).map (·.1)
 aI:cO k=false->keyOf k a (.inr o)∉b.keys/\¬(k="sibling"/\a=o)
inductive QU(C CL CJ:Addr)(vs:List V)(H:Hp)(Q:VK)(E:XK):Prop
 |mk (l:BL) (b:BS) (xs ys:List Int) (k a o:Str) (aC:vs=[.ref l.h,.str k,.str a,.str o]) (ba:bh H C CL CJ l xs ys b) (un:QT b k a o) (q:∀H',aj H H'->Q (.bl false) H')
inductive Of(C CL CJ:Addr)(vs:List V)(H:Hp)(Q:VK)(E:XK):Prop
 |mk (l:BL) (b:BS) (xs ys:List Int) (ch pa:Str) (aC:vs=[.ref l.h,.str ch,.str pa]) (ba:bh H C CL CJ l xs ys b) (ok:cM xs ys b) (mp:pa∈b.ps.map (·.1)) (no:¬f_ b pa ch) (q:∀H',aj H H'->Q .az H')
structure HY(xs ys:List Int)(b:BS)(c:Fc):Prop where
 nf:Bh xs ys b c
 ns:c.k≠bH
 c8:k9 c.k (fJ b.ps c.one) (fJ b.ps c.aI.toNat)=true
 un:QT b c.k (au b.ps c.one) (au b.ps c.aI.toNat)
 el:cO c.k=true->¬f_ b (au b.ps c.aI.toNat) (au b.ps c.one)
inductive Og(C CL CJ:Addr)(vs:List V)(H:Hp)(Q:VK)(E:XK):Prop
 |mk (l:BL) (b:BS) (xs ys:List Int) (c:Fc) (aC:vs=[.ref l.h,.str c.k,.str (au b.ps c.one),.str (au b.ps c.aI.toNat)]) (ba:bh H C CL CJ l xs ys b) (ok:cM xs ys b) (to:HY xs ys b c) (q:∀H',aj H H'->Q .az H')
inductive QV(C CL CJ:Addr)(vs:List V)(H:Hp)(Q:VK)(E:XK):Prop
 |mk (l:BL) (b:BS) (xs ys:List Int) (c:Fc) (aC:vs=[.ref l.h,.str c.k,.str (au b.ps c.one),.str (au b.ps c.aI.toNat)]) (ba:bh H C CL CJ l xs ys b) (ok:cM xs ys b) (to:HY xs ys b c) (dl:b.dn.length<200) (q:∀(l':BL) (H':Hp),bM H H' l l'->bh H' C CL CJ l' xs ys (b.xM c)->Q (.int (b.co:Int)) H')
structure RQ(xs ys:List Int)(b:BS)(c:Fc):Prop where
 nf:Bh xs ys b c
 sk:c.k=bH
inductive Oh(C CL CJ:Addr)(vs:List V)(H:Hp)(Q:VK)(E:XK):Prop
 |mk (l:BL) (b:BS) (xs ys:List Int) (c:Fc) (aC:vs=[.ref l.h,.str (au b.ps c.one),.int c.aI]) (ba:bh H C CL CJ l xs ys b) (ok:cM xs ys b) (so:RQ xs ys b c) (q:∀H',aj H H'->Q .az H')
inductive Nn(C CL CJ:Addr)(vs:List V)(H:Hp)(Q:VK)(E:XK):Prop
 |mk (l:BL) (b:BS) (xs ys:List Int) (i:Int) (aC:vs=[.ref l.h,.int i]) (ba:bh H C CL CJ l xs ys b) (hi:0<=i/\i<(xs.length:Int)) (q:∀H',aj H H'->Q .az H')
inductive QW(C CL CJ:Addr)(vs:List V)(H:Hp)(Q:VK)(E:XK):Prop
 |mk (l:BL) (b:BS) (xs ys:List Int) (c:Fc) (aC:vs=[.ref l.h,.str (au b.ps c.one),.int c.aI]) (ba:bh H C CL CJ l xs ys b) (ok:cM xs ys b) (so:RQ xs ys b c) (dl:b.dn.length<200) (q:∀(l':BL) (H':Hp),bM H H' l l'->bh H' C CL CJ l' xs ys (b.xM c)->Q (.int (b.co:Int)) H')
def dU(x y:Str):decide (V.str x=V.str y)=decide (x=y):=by
 grind
section
variable {K:ah}{mg:aQ}{dD:Addr}
abbrev Bm:List Str:=["kind","here","there"]
def XX:aP Bm Bm (aF Et):=.aX
theorem XY(F:aN K "sides_fit" "sides_fit" Et f fd)(sD:mg "MAN"=some (.str "man" t1))(rW:mg "WOMAN"=some (.str "woman" t2))(oE:mg "SIBLING"=some (.str "sibling" t3)):aE P w K mg base aM 1 f fd Bm Pp:=by
 refine F.o XX λs H hr h=>?_;obtain⟨k,h,t,rfl,q⟩:=h;refine⟨_,(aq (aV (bG cv (pv 0) bc) (av (aG (eO cv (pv 2) (dv (v:=.str "woman") rfl rW ⟨_,rfl⟩)))) aZ) (aq (aV (bG cv (pv 0) bc) (av (aG (eO cv (pv 2) (dv (v:=.str "man") rfl sD ⟨_,rfl⟩)))) aZ) (av (aG (Hm (eO cv (pv 0) (dv (v:=.str "sibling") rfl oE ⟨_,rfl⟩)) (nj (ql (eO cv (pv 1) (dv (v:=.str "man") rfl sD ⟨_,rfl⟩)) (nj (eO cv (pv 2) (dv (v:=.str "woman") rfl rW ⟨_,rfl⟩)))))))))),?_⟩;unfold k9 at q;refine⟨_,rfl,rfl,_,rfl,?_⟩;rw[dU];refine bJ (λcc=>?_) (λcc=>aY ?_)
 ·rw[if_pos (of_decide_eq_true cc)] at q;refine⟨_,rfl,rfl,?_⟩;rw[dU];exact q
 ·rw[if_neg (λz=>cc (decide_eq_true z))] at q;refine⟨_,rfl,rfl,_,rfl,?_⟩;rw[dU];refine bJ (λc2=>?_) (λc2=>aY ?_)
  ·rw[if_pos (of_decide_eq_true c2)] at q;refine⟨_,rfl,rfl,?_⟩;rw[dU];exact q
  ·rw[if_neg (λz=>c2 (decide_eq_true z))] at q;refine⟨_,rfl,rfl,_,rfl,?_⟩;rw[dU];refine bJ (λc3=>?_) (λc3=>?_);·grind
   ·have e3:decide (k="sibling")=false:=by
     cases e:decide (k="sibling") with
     |true=>grind
     |false=>rfl
    rw[e3,BZ] at q;refine⟨_,rfl,rfl,_,rfl,?_⟩;rw[dU];refine bJ (λc4=>?_) (λc4=>?_)
    ·rw[c4,J1] at q;refine⟨_,rfl,rfl,?_⟩;rw[dU];exact q
    ·grind
abbrev qG:List Str:=["hearth","kind","one","other"]
def WK:aP qG qG (aF DE):=.aX
theorem ZdI(F:aN K "told_already" "told_already" DE f fd)(oE:mg "SIBLING"=some (.str "sibling" t1))(jd:mg "PARENTS"=some (.ref dD))(qP:∀H,aB K H dD (iU.map V.str))(C_:cE P w K mg base 1 "parent_of" C Bg (MG C CL CJ))(uk:cE P w K mg base 2 "has" C pk (HV C CL CJ)):aE P w K mg base aM 3 f fd qG (QU C CL CJ):=by
 refine F.o WK λs H hr h=>?_;obtain⟨l,b,xs,ys,k,a,o,rfl,ba,un,q⟩:=h;refine⟨_,(aq (aV (iG (mP (K:=K) rfl) (pv 1) (dv (v:=.ref dD) rfl jd rfl) (by with_unfolding_all rfl)) (av (aG (eO Ab (cT C_ hr (by omega) (pv 0) (aa (pv 1) (aa (pv 2) ae))) lZ))) aZ) (av (aG (Hm (cT uk hr (by omega) (pv 0) (aa (pv 1) (aa (pv 2) (aa (pv 3) ae)))) (nj (ql (eO cv (pv 1) (dv (v:=.str "sibling") rfl oE ⟨_,rfl⟩)) (nj (eO cv (pv 2) (pv 3))))))))),?_⟩;obtain⟨dx,h1⟩:=ba.obj;refine⟨_,rfl,dD,_,rfl,.inr (qP _),rfl,rfl,_,rfl,?_⟩;try dsimp only
 rw[if_neg Yj,show fq (.str k) (iU.map V.str)=cO k from Aq k];refine bJ (λcc=>?_) (λcc=>aY ?_)
 ·refine⟨_,rfl,l.h,dx,_,rfl,h1,rfl,_,rfl,_,rfl,l,b,xs,ys,k,a,rfl,ba,λH1 g1=>?_⟩;rw[pV (un.par cc)];exact⟨rfl,q H1 g1⟩
 ·have np:cO k=false:=by
   cases e:cO k with
   |true=>exact absurd e cc
   |false=>rfl
  obtain⟨u1,u2⟩:=un.aI np;refine⟨_,rfl,l.h,dx,_,rfl,h1,rfl,_,rfl,_,rfl,_,rfl,l,b,xs,ys,k,a,.inr o,rfl,ba,λ_=>⟨o,rfl⟩,λH1 g1=>⟨_,rfl,?_⟩⟩;have e:b.told (keyOf k a (.inr o))=false:=by
   cases e:b.told (keyOf k a (.inr o)) with
   |true=>exact absurd ((N7 _ _).mp e) u1
   |false=>rfl
  rw[e];refine bW ?_;refine⟨_,rfl,rfl,_,rfl,?_⟩;rw[dU];refine bJ (λc3=>?_) (λc3=>?_)
  ·refine⟨_,rfl,_,rfl,rfl,?_⟩;rw[dU,decide_eq_false (λz=>u2 ⟨of_decide_eq_true c3,z⟩)];exact q H1 g1
  ·exact q H1 g1
abbrev IK:List Str:=["hearth","child","parent"]
def LS:aP ["hearth","child","parent","lines"] IK (aF DF):=.aX
def WL(F:aN K "check_elders" "check_elders" DF f fd)(Fm:HasFn P w K mg base 2 "lines_up" IJ (Po C CL CJ)):aE P w K mg base aM 4 f fd IK (Of C CL CJ):=by
 refine F.o LS λs H hr h=>?_;obtain⟨l,b,xs,ys,ch,pa,rfl,ba,ok,mp,no,q⟩:=h;refine⟨_,(aq (bU 3 LS.nd (aW Fm hr (aa (pv 0) (aa (pv 2) ae)))) (av (aV (jE (xw (bw hr) (pv 1) (pv 3)) (by with_unfolding_all rfl)) gc aZ))),?_⟩;refine⟨_,rfl,_,rfl,l,b,xs,ys,pa,rfl,ba,ok,mp,λp ks as H1 la iff=>bg ?_⟩;have nk:ch∉ks:=λz=>no ((iff ch).mp z);exact⟨_,rfl,_,rfl,p,none,rfl,cV la.at_ (Gj la.len nk),_,rfl,bW (aY (q H1 la.same))⟩
def XZ:aP qG qG (aF Es):=.aX
def X0(F:aN K "check_tie" "check_tie" Es f fd)(jd:mg "PARENTS"=some (.ref dD))(qP:∀H,aB K H dD (iU.map V.str))(uN:HasFn P w K mg base 1 "is_tie" ["kind"] GB)(EO:HasFn P w K mg base 1 "sides_fit" Bm Pp)(rA:cE P w K mg base 1 "side_of" C kr (Gh C CL CJ))(DO:HasFn P w K mg base 3 "told_already" qG (QU C CL CJ))(DP:HasFn P w K mg base 4 "check_elders" IK (Of C CL CJ)):aE P w K mg base aM 6 f fd qG (Og C CL CJ):=by
 refine F.o XZ λs H hr h=>?_;obtain⟨l,b,xs,ys,c,rfl,ba,ok,to,q⟩:=h;refine⟨_,(aq (aV (j_ (eY (aW uN hr (aa (pv 1) ae)))) gc aZ) (aq (aV (j_ (eY (aW EO hr (aa (pv 1) (aa (cT rA hr (by omega) (pv 0) (aa (pv 2) ae)) (aa (cT rA hr (by omega) (pv 0) (aa (pv 3) ae)) ae)))))) gc aZ) (aq (aV (eY (aW DO hr (aa (pv 0) (aa (pv 1) (aa (pv 2) (aa (pv 3) ae)))))) gc aZ) (av (aV (iG (mP (K:=K) rfl) (pv 1) (dv (v:=.ref dD) rfl jd rfl) (by with_unfolding_all rfl)) (av (b_ (aW DP hr (aa (pv 0) (aa (pv 2) (aa (pv 3) ae)))))) aZ))))),?_⟩;obtain⟨dx,h1⟩:=ba.obj;obtain⟨r,dr,hs⟩:=Ef (to.nf.fg.u4 to.ns);have ht:nJ qE c.k=true:=by unfold nJ;rw[dr];rfl
 have om:=(to.nf.fg.ok.hU to.ns).1.2;refine⟨_,rfl,c.k,rfl,_,rfl,?_⟩;rw[ht];refine⟨_,rfl,_,rfl,l.h,dx,_,rfl,h1,rfl,_,rfl,l,b,xs,ys,_,_,rfl,ba,oK ok.nm to.nf.fg.ok.one,⟨_,rfl,l.h,dx,_,rfl,h1,rfl,_,rfl,l,b,xs,ys,_,_,rfl,ba,oK ok.nm om,⟨c.k,_,_,rfl,_,rfl,?_⟩⟩⟩;rw[to.c8];refine⟨_,rfl,_,rfl,_,rfl,_,rfl,l,b,xs,ys,c.k,_,_,rfl,ba,to.un,λH1 g1=>⟨_,rfl,bW (aY ⟨_,rfl,dD,_,rfl,.inr (qP _),rfl,rfl,_,rfl,?_⟩)⟩⟩;rw[if_neg Yj,show fq (.str c.k) (iU.map V.str)=cO c.k from Aq c.k];refine bJ (λcc=>⟨_,rfl,_,rfl,_,rfl,l,b,xs,ys,_,_,rfl,ba.same g1,ok,rT om,to.el cc,λH2 g2=>q H2 (g1.trans g2)⟩) (λcc=>aY (q H1 g1))
abbrev Bn:List Str:=["hearth","section"]
def V_:aP Bn Bn (aF Dm):=.aX
def WA(F:aN K "check_section" "check_section" Dm f fd)(hc:fO K C)(lc:u3 K CL)(bl:Bl mg):aE P w K mg base aM 1 f fd Bn (Nn C CL CJ):=by
 refine F.o V_ λs H hr h=>?_;obtain⟨l,b,xs,ys,i,rfl,ba,hi,q⟩:=h;refine⟨_,(av (aV (iG XH (pv 1) (eS D5 rfl bl.jZ uJ (aa (w8 (K:=K) rfl (pF K 0) rfl) ae)) (by with_unfolding_all rfl)) gc aZ)),?_⟩;obtain⟨dx,h1⟩:=ba.obj;obtain⟨dL,dS,mo,fY,wi,im,jf,iw,Kp,hL,_⟩:=ba.landAt;refine⟨_,rfl,_,rfl,l.h,C,dx,_,_,rfl,h1,hc.cls,hc.uV,rfl,l.L,CL,dL,_,_,rfl,hL,lc.cls,lc.r8,rfl,_,rfl,λp H1 np g1 hp=>?_⟩;refine⟨_,_,_,p,rfl,rfl,hp,_,rfl,?_⟩;rw[if_pos rfl,decide_eq_true hi];exact bW (aY (q H1 g1))
abbrev Bo:List Str:=["hearth","name","section"]
def WM:aP Bo Bo (aF DG):=.aX
theorem WN(F:aN K "check_saying" "check_saying" DG f fd)(kZ:mg "SAID"=some (.str "said" t1))(rA:cE P w K mg base 1 "side_of" C kr (Gh C CL CJ))(DB:HasFn P w K mg base 1 "check_section" Bn (Nn C CL CJ))(uk:cE P w K mg base 2 "has" C pk (HV C CL CJ)):aE P w K mg base aM 3 f fd Bo (Oh C CL CJ):=by
 refine F.o WM λs H hr h=>?_;obtain⟨l,b,xs,ys,c,rfl,ba,ok,so,q⟩:=h;refine⟨_,(aq (b_ (cT rA hr (by omega) (pv 0) (aa (pv 1) ae))) (aq (b_ (aW DB hr (aa (pv 0) (aa (pv 2) ae)))) (av (aV (eY (cT uk hr (by omega) (pv 0) (aa (dv (v:=.str "said") rfl kZ ⟨_,rfl⟩) (aa (pv 1) (aa (pv 2) ae))))) gc aZ)))),?_⟩;obtain⟨dx,h1⟩:=ba.obj;refine⟨_,rfl,l.h,dx,_,rfl,h1,rfl,_,rfl,l,b,xs,ys,_,_,rfl,ba,oK ok.nm so.nf.fg.ok.one,⟨_,rfl,_,rfl,l,b,xs,ys,c.aI,rfl,ba,so.nf.fg.IH so.sk,λH1 g1=>⟨_,rfl,l.h,dx,_,rfl,g1 _ _ h1,rfl,_,rfl,_,rfl,l,b,xs,ys,"said",au b.ps c.one,.inl c.aI,rfl,ba.same g1,(λz=>absurd z (by decide+kernel)),λH2 g2=>⟨_,rfl,?_⟩⟩⟩⟩;have ek:keyOf "said" (au b.ps c.one) (.inl c.aI)=fG b.ps c:=by
  unfold fG;rw[m6 so.sk,so.sk]
 have e:b.told (keyOf "said" (au b.ps c.one) (.inl c.aI))=false:=by
  cases e:b.told (keyOf "said" (au b.ps c.one) (.inl c.aI)) with
  |true=>exact absurd ((N7 _ _).mp e) (by rw[ek];exact so.nf.nk)
  |false=>rfl
 rw[e];exact bW (aY (q H2 (g1.trans g2)))
def Xs:aP pk pk (aF Ea):=.aX
def ZdJ(F:aN K "tie" "Hearth.tie" Ea f fd)(hc:fO K C)(ER:HasFn P w K mg base 6 "check_tie" qG (Og C CL CJ))(ug:cE P w K mg base 11 "keep" C sT (Hd C CL CJ)):aE P w K mg base aM 12 f fd pk (QV C CL CJ):=by
 refine F.o Xs λs H hr h=>?_;obtain⟨l,b,xs,ys,c,rfl,ba,ok,to,dl,q⟩:=h;refine⟨_,(aq (b_ (aW ER hr (aa (pv 0) (aa (pv 1) (aa (pv 2) (aa (pv 3) ae)))))) (av (aG (cT ug hr (by omega) (pv 0) (aa (c6 (aa (pF K 0) (aa (pv 1) (aa (pv 2) (aa (pv 3) ae))))) ae))))),?_⟩;refine⟨_,rfl,_,rfl,_,rfl,_,rfl,l,b,xs,ys,c,rfl,ba,ok,to,λH1 g1=>?_⟩;have bX:=ba.same g1;obtain⟨dx,h1⟩:=bX.obj;refine⟨_,rfl,l.h,dx,_,rfl,h1,rfl,_,rfl,l.h,C,dx,_,_,rfl,h1,hc.cls,hc.qh,rfl,_,rfl,_,rfl,_,rfl,by show 4<=sizeLine;decide,λr H2 nr g2 hR=>?_⟩;have hf:eK H2 b.ps r (b.co,c):=by
  show H2 r=some (.tup ((dZ b.ps b.co c).map kV));unfold dZ;rw[jh to.ns];exact hR
 refine⟨l,b,xs,ys,r,c,rfl,bX.same g2,ok,hf,to.nf,dl,λl' H3 wt lR=>q l' H3 (bM.after (g1.trans g2) wt) lR⟩
abbrev Bp:List Str:=["self","name","section"]
def Xt:aP Bp Bp (aF Eb):=.aX
def ZdK(F:aN K "say" "Hearth.say" Eb f fd)(hc:fO K C)(kZ:mg "SAID"=some (.str "said" t1))(DQ:HasFn P w K mg base 3 "check_saying" Bo (Oh C CL CJ))(ug:cE P w K mg base 11 "keep" C sT (Hd C CL CJ)):aE P w K mg base aM 12 f fd Bp (QW C CL CJ):=by
 refine F.o Xt λs H hr h=>?_;obtain⟨l,b,xs,ys,c,rfl,ba,ok,so,dl,q⟩:=h;refine⟨_,(aq (b_ (aW DQ hr (aa (pv 0) (aa (pv 1) (aa (pv 2) ae))))) (av (aG (cT ug hr (by omega) (pv 0) (aa (c6 (aa (pF K 0) (aa (dv (v:=.str "said") rfl kZ ⟨_,rfl⟩) (aa (pv 1) (aa (pv 2) ae))))) ae))))),?_⟩;refine⟨_,rfl,_,rfl,_,rfl,l,b,xs,ys,c,rfl,ba,ok,so,λH1 g1=>?_⟩;have bX:=ba.same g1;obtain⟨dx,h1⟩:=bX.obj;refine⟨_,rfl,l.h,dx,_,rfl,h1,rfl,_,rfl,l.h,C,dx,_,_,rfl,h1,hc.cls,hc.qh,rfl,_,rfl,_,rfl,by show 4<=sizeLine;decide,λr H2 nr g2 hR=>?_⟩;have hf:eK H2 b.ps r (b.co,c):=by
  show H2 r=some (.tup ((dZ b.ps b.co c).map kV));unfold dZ;rw[m6 so.sk,so.sk];exact hR
 refine⟨l,b,xs,ys,r,c,rfl,bX.same g2,ok,hf,so.nf,dl,λl' H3 wt lR=>q l' H3 (bM.after (g1.trans g2) wt) lR⟩
end
def og(n:Nat)(d:Int):List Int:=(List.range n).map λi:Nat=>((i:Int)+d) % (n:Int)
def rot_length(n:Nat)(d:Int):(og n d).length=n:=by simp[og]
def Zcw(hn:0<n)(d:Int):(og n d).Perm (bp n):=by
 have vw:(0:Int)<(n:Int):=by omega
 have r0:=W5 d (J_ vw);have r1:=Wq d vw;obtain⟨r,er⟩:∃r:Nat,d % (n:Int)=(r:Int):=⟨(d % (n:Int)).toNat,by omega⟩;have rn:r<n:=by omega
 have e:og n d=(bp n).drop r++(bp n).take r:=by
  refine Wo λi=>?_;have ul:=eG n;by_cases hi:i<n
  ·have lhs:(og n d)[i]?=some (((i:Int)+d) % (n:Int)):=by
    unfold og;rw[Ye,Jx hi];rfl
   have em:((i:Int)+d) % (n:Int)=((r:Int)+(i:Int)) % (n:Int):=by
    rw[Int.add_comm,←Int.emod_add_emod,er]
   rw[lhs,em];by_cases h:r+i<n;·rw[We (by rw[Jv,ul];omega),List.getElem?_drop,lY (by omega),Int.emod_eq_of_lt (by omega) (by omega),Int.natCast_add]
   ·rw[Jp (by rw[Jv,ul];omega),Jv,ul,List.getElem?_take_of_lt (by omega),lY (by omega)];have e3:(r:Int)+(i:Int)=((i-(n-r):Nat):Int)+(n:Int)*1:=by omega
    rw[e3,Int.add_mul_emod_self_left,Int.emod_eq_of_lt (by omega) (by omega)]
  ·rw[Y4 (by rw[rot_length];omega),Y4 (by rw[Yi,Jv,Y8,ul];omega)]
 rw[e];exact List.perm_append_comm.trans (by rw[List.take_append_drop])
inductive Pq(vs:List V)(H:Hp)(Q:VK):Prop
 |mk (c:Int) (n:Nat) (aC:vs=[.int c,.int (n:Int)]) (aS:0<n) (bb:n<=60) (bL:∀(t:Addr) (ts:List Int) (H':Hp),H t=none->aj H H'->bN H' t ts->ts.Perm (bp n)->Q (.ref t) H'):Pq vs H Q
def RS:Sp:=λvs H Q _=>Pq vs H Q
inductive Pr(K:ah)(vs:List V)(H:Hp)(Q:VK):Prop
 |mk (a b:Addr) (xs ys:List Int) (aC:vs=[.ref a,.ref b]) (aS:aB K H a (xs.map V.int)) (bb:aB K H b (ys.map V.int)) (bL:(∀x∈xs,0<=x/\x<ys.length)) (cD:xs.length<=60) (dB:∀(l:Addr) (H':Hp),H l=none->aj H H'->bN H' l (bK ys xs)->Q (.ref l) H'):Pr K vs H Q
def RT(K:ah):Sp:=λvs H Q _=>Pr K vs H Q
def ZdL(h:Paired Bd ds [a,b]):∃v w,ds=[v,w]/\Bd v a/\Bd w b:=by
 cases h with|cons h1 h=>cases h with|cons h2 h=>
  cases h;exact⟨_,_,rfl,h1,h2⟩
section
variable {K:ah}{mg:aQ}
abbrev IL:List Str:=["_law_cell_here","_law_size"]
def MI:aP ["_law_cell_here","_law_size","_law_drawn"] IL (aF FN):=.aX
def Z9(F:aN K "_law_row" "_law_row" FN f fd)(oy:HasFn P w K mg base 1 "_law_draws" yA (Ah K))(Fn:HasFn P w K mg base 1 "_law_turn" Ky Qj)(bl:Bl mg):
  aE P w K mg base aM 2 f fd IL RS:=by
 refine F.o MI λs H hr h=>?_;obtain⟨c,n,rfl,n0,n60,q⟩:=h;refine⟨_,(aq (gT (i:=2) MI.nd rfl (Or.inr rfl) (aW oy hr (aa (pv 0) (aa (xk (aa aO (aa aO ae))) ae)))) (aq (aV (bG cv (bj (iL K) (pv 2) aO) aO) (av (aG (eS (ud) rfl bl.m9 m7 (aa (iJ (x:="_law_at") (fr:=[("_law_size",1),("_law_drawn",2)]) (cl:=[("_law_size",s.heap.objs.size+1),("_law_drawn",s.heap.objs.size+1+1)]) rfl (.gu ⟨rfl,⟨rfl,trivial⟩⟩ ⟨⟨rfl,.inl rfl,.inl rfl,rfl⟩,⟨⟨rfl,.inl rfl,.inl rfl,rfl⟩,trivial⟩⟩) (p_ rfl bl.jZ (aa (pv 1) ae)) (λ_ _ _ _=>kY) (λ_ _ _ _=>(a_ d5 (a_ iK (pv 0) (bj (iL K) (pv 2) aO)) (pv 1)))) ae)))) aZ) (av (aG (aW Fn hr (aa (bj (iL K) (pv 2) aO) (aa (pv 1) ae))))))),?_⟩;refine⟨_,rfl,by show 2<=sizeLine;decide,λp np=>?_⟩;refine⟨c,p,[3,40320],rfl,ak.of aR,by decide,by decide,λdl ds H1 nd g1 h1 bd=>?_⟩;obtain⟨d0,d1,rfl,⟨a0,a0'⟩,⟨a1,a1'⟩⟩:=ZdL bd;have g:=(cq np _).trans g1;have pos:(0:Int)<(n:Int):=by omega
 refine⟨_,rfl,dl,_,0,.int d0,rfl,rfl,ak.of h1,rfl,rfl,_,rfl,bJ (λ_=>?_) (λ_=>aY ?_)⟩
 ·refine⟨_,rfl,(n:Int),rfl,by omega,by omega,λD hD=>wL (lo:=0) (n:=(n:Int).toNat) (λi zs H2=>aj H1 H2/\H2 D=some (.lst zs)/\zs=((og n d1).take i).map V.int) ⟨cq hD _,aR,rfl⟩ ?_ ?_⟩
  ·rintro i zs H2 hi ⟨g2,h2,e2⟩;rw[Y6] at hi;rw[Ca];refine kj (cY ⟨_,rfl,_,rfl,dl,_,1,.int d1,rfl,rfl,ak.of (g2 _ _ h1),rfl,_,_,rfl,rfl,_,rfl,_,_,rfl,rfl,pos,h2,?_,λd o qd=>?_,aR,?_⟩)
   ·rw[e2,Ya,Y8,rot_length];exact jV (by omega)
   ·rw[aK (bY qd hD)];exact g2 d o qd
   ·have ge:(og n d1)[i]?=some (((i:Int)+d1) % (n:Int)):=by
     unfold og;rw[Ye,Jx hi];rfl
    rw[e2,Y1,FC,ge];rfl
  ·rintro zs H2 ⟨g2,h2,e2⟩;rw[Y6,Wt (by rw[rot_length];omega)] at e2;refine⟨D,_,rfl,.inl ⟨ak.of h2,λt ht=>q t (og n d1) _ (g.free (g2.free ht)) ((g.trans g2).trans (cq ht _)) ?_ (Zcw n0 d1)⟩⟩;show upd H2 t (.tup zs) t=_;rw[aR,e2]
 ·exact⟨_,rfl,dl,_,1,.int d1,rfl,rfl,ak.of h1,rfl,_,rfl,d1,n,rfl,n60,λt ts H2 nt g2 ht pm=>q t ts H2 (g.free nt) (g.trans g2) ht pm⟩
abbrev Bq:List Str:=["_law_first","_law_then"]
def X1:aP Bq Bq (aF Ew):=.aX
def X2(F:aN K "_law_after" "_law_after" Ew f fd)(bl:Bl mg):aE P w K mg base aM 1 f fd Bq (RT K):=by
 refine F.o X1 λs H hr h=>?_;obtain⟨a,b,xs,ys,rfl,hA,hB,qT,hl,q⟩:=h;refine⟨_,(av (aG (eS (ud) rfl bl.m9 m7 (aa (iJ (x:="_law_one") (fr:=[("_law_then",1)]) (cl:=[("_law_then",s.heap.objs.size+1)]) rfl (.gu ⟨rfl,trivial⟩ ⟨⟨rfl,.inl rfl,.inl rfl,rfl⟩,trivial⟩) (GL (pv 0)) (λ_ _ _ _=>kY) (λ_ _ _ _=>(bj (iT K) (pv 1) (pv 0)))) ae)))),?_⟩;refine⟨_,rfl,a,rfl,⟨_,hA⟩,λD hD=>zV (xs:=xs.map V.int) (λi zs H3=>aj H H3/\H3 D=some (.lst zs)/\zs=((bK ys xs).take i).map V.int) ⟨cq hD _,aR,rfl⟩ (λi zs H3 _ ⟨g3,_,_⟩=>g3.jx hA) ?_ ?_⟩
 ·rintro i v zs H3 hi ⟨g3,h3,e3⟩;obtain⟨z,rfl,hz⟩:=jY hi;have dG:i<xs.length:=(Yl.mp hz).1;have bz:=qT z (Yg hz);refine kj (cY ⟨_,rfl,_,rfl,b,_,_,_,rfl,rfl,g3.jx hB,ny bz.1 bz.2,h3,?_,λd o qd=>?_,aR,?_⟩)
  ·rw[e3,Ya,Y8,rG];exact jV (by omega)
  ·rw[aK (bY qd hD)];exact g3 d o qd
  ·rw[e3,Y1,FC];unfold bK;rw[Ye,hz];rfl
 ·rintro zs H3 ⟨g3,h3,e3⟩;refine⟨D,_,rfl,.inl ⟨ak.of h3,λt ht=>q t _ (g3.free ht) (g3.trans (cq ht _)) ?_⟩⟩;show upd H3 t (.tup zs) t=_;rw[aR,e3,Ya,Wt (by rw[rG];omega)]
end
inductive Pt(vs:List V)(H:Hp)(Q:VK):Prop
 |mk (a:Addr) (xs:List Int) (aC:vs=[.ref a]) (aS:bN H a xs) (bb:xs.length<64) (bL:full xs=true) (cD:∀(t:Addr) (H':Hp),H t=none->aj H H'->bN H' t (inv xs)->Q (.ref t) H'):Pt vs H Q
def HZ:Sp:=λvs H Q _=>Pt vs H Q
section
variable {K:ah}{mg:aQ}
abbrev x8:List Str:=["_law_turn_here"]
def Xb:aP x8 x8 (aF DU):=.aX
def Z_(F:aN K "_law_inverse" "_law_inverse" DU f fd)(bl:Bl mg):aE P w K mg base aM 1 f fd x8 HZ:=by
 refine F.o Xb λs H hr h=>?_;obtain⟨a,xs,rfl,hA,lx,fx,q⟩:=h;refine⟨_,(av (aG (eS (ud) rfl bl.m9 m7 (aa (iJ (x:="_law_at") (fr:=[("_law_turn_here",0)]) (cl:=[("_law_turn_here",s.heap.objs.size+1)]) rfl (.gu ⟨rfl,trivial⟩ ⟨⟨rfl,.inl rfl,.inl rfl,rfl⟩,trivial⟩) (p_ rfl bl.jZ (aa (dq K bl (pv 0)) ae)) (λ_ _ _ _=>kY) (λ_ _ _ _=>(L_ (pv 1) (aa (pv 0) ae)))) ae)))),?_⟩;have el:(xs.map V.int).length=xs.length:=Ya _;refine⟨_,rfl,a,_,rfl,.inr (aB.of hA),_,rfl,by rw[el];omega,by rw[el];omega,λD hD=>wL (lo:=0) (n:=(((xs.map V.int).length:Nat):Int).toNat)
   (λi zs H2=>aj H H2/\H2 D=some (.lst zs)/\zs=((inv xs).take i).map V.int) ⟨cq hD _,aR,rfl⟩ ?_ ?_⟩
 ·rintro i zs H2 hi ⟨g2,h2,e2⟩;rw[Y6,el] at hi;rw[Ca];have hx:=zZ (NS fx hi);have yC:=g2 _ _ hA;refine kj (cY ⟨_,rfl,a,xs,rfl,yC,_,rfl,(i:Int),kq (i:Int) xs,rfl,yC,hx.1,hx.2,h2,?_,λd o qd=>?_,aR,?_⟩)
  ·rw[e2,Ya,Y8,fM];exact jV (by omega)
  ·rw[aK (bY qd hD)];exact g2 d o qd
  ·rw[e2,NT hi,Ym];rfl
 ·rintro zs H2 ⟨g2,h2,e2⟩;refine⟨D,_,rfl,.inl ⟨ak.of h2,λt ht=>q t _ (g2.free ht) (g2.trans (cq ht _)) ?_⟩⟩;show upd H2 t (.tup zs) t=_;rw[aR,e2,Y6,el,Wt (by rw[fM];omega)]
end
structure ju(H0 H:Hp)(ps:bA)(d:Addr)(b:Nat)(kvs:List (Key×V))(L:Nat->List (Nat×List Int)):Prop where
 dict:H d=some (.dK kvs)
 len:kvs.length<=b
 new:H0 d=none
 at_:∀x:Nat,x<ps.length->(aT kvs (.inr (au ps x))=none/\L x=[])\/∃(a:Addr) (es:List Addr),aT kvs (.inr (au ps x))=some (.ref a)/\H0 a=none/\H a=some (.lst (es.map V.ref))/\(L x).length<=b/\Paired (λe (p:Nat×List Int)=>∃u,H e=some (.tup [.str (au ps p.1),.ref u])/\bN H u p.2) es (L x)
 inj:∀(x y:Nat) (a:Addr),x<ps.length->y<ps.length->aT kvs (.inr (au ps x))=some (.ref a)->aT kvs (.inr (au ps y))=some (.ref a)->x=y
def rX(nd:(ps.map (·.1)).Nodup)(hi:i<ps.length)(hj:j<ps.length)(e:au ps i=au ps j):i=j:=by
 have h1:=rS nd hi;rw[e,rS nd hj] at h1
 grind
def ju.same(g:aj H H')(h:ju H0 H ps d b kvs L):ju H0 H' ps d b kvs L:=by
 refine⟨g _ _ h.dict,h.len,h.new,λx hx=>?_,h.inj⟩;rcases h.at_ x hx with z|⟨a,es,h1,h2,h3,h4,h5⟩;·exact .inl z
 ·exact .inr ⟨a,es,h1,h2,g _ _ h3,h4,L2.Paired.bq h5 λ_ _ ⟨u,e1,e2⟩=>⟨u,g _ _ e1,g _ _ e2⟩⟩
def ju.app(h:ju H0 H ps d b kvs L)(hx:x<ps.length)(hv:aT kvs (.inr (au ps x))=some (.ref a))(ha:H a=some (.lst ys))(he:H e=some (.tup [.str (au ps y),.ref u]))(hu:bN H u t)(br:aA a H H')(qU:H' a=some (.lst (ys++[.ref e]))):ju H0 H' ps d (b+1) kvs (sQ L x (y,t)):=by
 have nt:∀{c:Addr} {xs:List V},H c=some (.tup xs)->c≠a:=λ{c xs} hc=>dI hc ha (λz=>by cases z);refine⟨br _ _ h.dict (dI h.dict ha (λz=>by cases z)),by have:=h.len;omega,h.new,λz hz=>?_,h.inj⟩;have en:∀{es:List Addr} {qs:List (Nat×List Int)},Paired (λe (p:Nat×List Int)=>∃u,H e=some (.tup [.str (au ps p.1),.ref u])/\bN H u p.2) es qs->Paired (λe (p:Nat×List Int)=>∃u,H' e=some (.tup [.str (au ps p.1),.ref u])/\bN H' u p.2) es qs:=λ{es qs} hp=>L2.Paired.bq hp λ_ _ ⟨u,e1,e2⟩=>⟨u,br _ _ e1 (nt e1),br _ _ e2 (nt e2)⟩;by_cases ez:z=x
 ·subst ez;rcases h.at_ z hz with⟨z1,_⟩|⟨a1,es,h1,h2,h3,h4,h5⟩;·grind
  ·obtain rfl:a1=a:=V.ref.inj (Yn (h1.symm.trans hv));rw[h3] at ha;obtain rfl:es.map V.ref=ys:=by injection ha with ha;injection ha
   refine .inr ⟨a1,es++[e],h1,h2,by rw[qU,Ym];rfl,?_,?_⟩;·unfold sQ;rw[if_pos rfl,Yi];show(L z).length+1<=b+1;omega
   ·unfold sQ;rw[if_pos rfl];exact jD (F:=λe (p:Nat×List Int)=>∃u,H' e=some (.tup [.str (au ps p.1),.ref u])/\bN H' u p.2) ⟨u,br _ _ he (nt he),br _ _ (show H u=some (.tup (t.map V.int)) from hu) (nt (show H u=some (.tup (t.map V.int)) from hu))⟩ (en h5)
 ·unfold sQ;rw[if_neg ez];rcases h.at_ z hz with z1|⟨a1,es,h1,h2,h3,h4,h5⟩;·exact .inl z1
  ·refine .inr ⟨a1,es,h1,h2,br _ _ h3 (λq=>ez (h.inj z x a hz hx (by rw[←q];exact h1) hv)),by omega,en h5⟩
def ju.neu(hb:ju H0 Hb ps d b kvs L)(nd:(ps.map (·.1)).Nodup)(hx:x<ps.length)(g:aj Hb H)(np:Hb p=none)(CN:H0 p=none)(hv:aT kvs (.inr (au ps x))=none)(hp:H p=some (.lst []))(br:aA d H H')(BG:H' d=some (.dK (kvs++[(.inr (au ps x),.ref p)]))):ju H0 H' ps d (b+1) (kvs++[(.inr (au ps x),.ref p)]) L:=by
 have h:=hb.same g;have nt:∀{c:Addr} {xs:List V},H c=some (.tup xs)->c≠d:=λ{c xs} hc=>dI hc h.dict (λz=>by cases z);have nl:∀{c:Addr} {xs:List V},H c=some (.lst xs)->c≠d:=λ{c xs} hc=>dI hc h.dict (λz=>by cases z);refine⟨BG,by rw[Yi];have:=h.len;show kvs.length+1<=b+1;omega,h.new,λz hz=>?_,λz1 z2 a l1 l2 e1 e2=>?_⟩
 ·rw[uC hv];by_cases ez:z=x
  ·rw[if_pos (by rw[ez])];rcases h.at_ z hz with⟨_,z2⟩|⟨a1,es,h1,_⟩;·exact .inr ⟨p,[],rfl,CN,br _ _ hp (nl hp),by rw[z2];exact Yx _,by rw[z2];exact .nil⟩
   ·rw[ez,hv] at h1;cases h1
  ·rw[if_neg (λq=>ez (rX nd hz hx (Wf q)))];rcases h.at_ z hz with z1|⟨a1,es,h1,h2,h3,h4,h5⟩;·exact .inl z1
   ·exact .inr ⟨a1,es,h1,h2,br _ _ h3 (nl h3),by omega,L2.Paired.bq h5 λ_ _ ⟨u,e1,e2⟩=>⟨u,br _ _ e1 (nt e1),br _ _ e2 (nt e2)⟩⟩
 ·have old:∀{z:Nat},z<ps.length->aT kvs (.inr (au ps z))=some (.ref p)->False:=λ{z} hz e=>by
   rcases hb.at_ z hz with⟨z1,_⟩|⟨a1,es,h1,h2,h3,_⟩;·rw[z1] at e;cases e
   ·rw[e] at h1;obtain rfl:p=a1:=V.ref.inj (Yn h1);rw[np] at h3;cases h3
  rw[uC hv] at e1 e2;by_cases q1:z1=x
  ·by_cases q2:z2=x;·rw[q1,q2]
   ·rw[if_pos (by rw[q1])] at e1;rw[if_neg (λq=>q2 (rX nd l2 hx (Wf q))),←e1] at e2;exact absurd e2 (old l2)
  ·rw[if_neg (λq=>q1 (rX nd l1 hx (Wf q)))] at e1;by_cases q2:z2=x
   ·rw[if_pos (by rw[q2])] at e2;rw[←e2] at e1;exact absurd e1 (old l1)
   ·rw[if_neg (λq=>q2 (rX nd l2 hx (Wf q)))] at e2;exact h.inj _ _ a l1 l2 e1 e2
def Np{K:ah}(h2:∀H Q,Q (.ref d) H->fQ 2 σ H Q)(nd:(ps.map (·.1)).Nodup)(CO:x<ps.length)(hi:∀H Q,Q (.str (au ps x)) H->fQ i σ H Q)(hk:∀H Q,Q (.str (au ps y)) H->fQ k σ H Q)(h:ju H0 H ps d b kvs L)(g:aj H0 H)(lb:b<1000)
  (hx:∀(H1:Hp) (Q1:VK),aj H0 H1->(∀(u:Addr) (H2:Hp),aj H1 H2->bN H2 u t->Q1 (.ref u) H2)->tx σ H1 Q1)(q:∀(v:V) (Zhi:List (Key×V)) (H':Hp),aj H0 H'->ju H0 H' ps d (b+2) Zhi (sQ L x (y,t))->Q v H'):yi K "list" NI (F5 (fQ 2) (fQ i) (RF js)) (gW (xI (gW (fQ k) (gW tx js))) js) σ H Q:=by
 have sz:(10000:Nat)<=sizeLine:=by rw[sizeLine_eq];omega
 have ln:=h.len;unfold yi F5;refine h2 _ _ ⟨d,rfl,.inl ⟨_,.inl h.dict⟩,hi _ _ ⟨by show 0<=sizeLine;exact Yx _,λp H1 np g1 hp=>⟨kvs,.inr (au ps x),g1 _ _ h.dict,rfl,by omega,λv hv=>?_,λhv H2 b2 e2=>?_⟩⟩⟩
 ·rcases h.at_ x CO with⟨z1,_⟩|⟨a,es,h3,h4,h5,h6,h7⟩;·grind
  obtain rfl:v=.ref a:=Yn (hv.symm.trans h3);have pl:=cU h7;refine⟨.inl ⟨rfl,_,ak.of (g1 _ _ h5)⟩,?_⟩;unfold gW xI;refine hk _ _ (hx _ _ (g.trans g1) λu H2 g2 hu=>⟨by show 2<=sizeLine;omega,λe H3 ne g3 he=>?_⟩);have fF:=(g1.trans g2).trans g3;refine⟨a,_,_,rfl,rfl,fF _ _ h5,by rw[Ya];omega,λH4 b4 e4=>?_⟩;have nn:=(h.same fF).app CO h3 (fF _ _ h5) he (g3 _ _ hu) b4 e4;exact q _ _ H4 (λc o e=>b4 _ _ (fF _ _ (g _ _ e)) (bY e h4)) ⟨nn.dict,by have:=nn.len;omega,nn.new,λz hz=>by
   rcases nn.at_ z hz with w|⟨a,es,w1,w2,w3,w4,w5⟩;·exact .inl w
   ·exact .inr ⟨a,es,w1,w2,w3,by omega,w5⟩,nn.inj⟩
 ·have CN:=g.free np;have dh:=b2 _ _ hp (dI hp (g1 _ _ h.dict) (λz=>by cases z));have gg:aj H0 H2:=λc o e=>b2 _ _ (g1 _ _ (g _ _ e)) (bY e h.new);refine⟨.inl ⟨rfl,_,ak.of dh⟩,?_⟩;unfold gW xI;refine hk _ _ (hx _ _ gg λu H3 g3 hu=>⟨by show 2<=sizeLine;omega,λe H4 ne g4 he=>?_⟩);have CP:=g3.trans g4;refine⟨p,_,_,rfl,rfl,CP _ _ dh,by show 0<sizeLine;omega,λH5 b5 e5=>?_⟩;have vx:aT (kvs++[(Sum.inr (au ps x),V.ref p)]) (.inr (au ps x))=some (.ref p):=by rw[uC hv,if_pos rfl]
  exact q _ _ H5 (λc o e=>b5 _ _ (CP _ _ (gg _ _ e)) (bY e CN)) (((h.neu nd CO g1 np CN hv hp b2 e2).same CP).app CO vx (CP _ _ dh) he (g4 _ _ hu) b5 e5)
def Lk(H:Hp)(ps:bA)(a:Addr)(c:Fc):Prop:=∃z:Int,H a=some (.tup [.int z,.str c.k,.str (au ps c.one),kV (bo ps c)])
def FL(H:Hp)(ps:bA)(fa:Addr)(F:List Fc):Prop:=∃as:List Addr,H fa=some (.lst (as.map V.ref))/\Paired (Lk H ps) as F
abbrev uW(m f w s:Addr):List (Key×V):=[(.inr "mother",.ref m),(.inr "father",.ref f),(.inr "wed",.ref w),(.inr "sibling",.ref s)]
def fK(H:Hp)(td:Addr)(xs ys:List Int):Prop:=∃m f w s:Addr,H td=some (.dK (uW m f w s))/\bN H m (inv xs)/\bN H f (inv (bK xs ys))/\bN H w ys/\bN H s (bp xs.length)
def FL.same(g:aj H H')(h:FL H ps fa F):FL H' ps fa F:=by
 obtain⟨as,h1,h2⟩:=h;exact⟨as,g _ _ h1,L2.Paired.bq h2 λ_ _ ⟨z,e⟩=>⟨z,g _ _ e⟩⟩
def fK.same(g:aj H H')(h:fK H td xs ys):fK H' td xs ys:=by
 obtain⟨m,f,w,s,h1,h2,h3,h4,h5⟩:=h;exact⟨m,f,w,s,g _ _ h1,g _ _ h2,g _ _ h3,g _ _ h4,g _ _ h5⟩
def fK.get(h:fK H td xs ys)(m:(k,tn)∈qx xs ys):∃kvs u,H td=some (.dK kvs)/\aT kvs (.inr k)=some (.ref u)/\bN H u tn:=by
 obtain⟨a,b,c,d,h1,h2,h3,h4,h5⟩:=h;simp only[Yp,Y3,or_false] at m;rcases m with⟨rfl,rfl⟩|⟨rfl,rfl⟩|⟨rfl,rfl⟩|⟨rfl,rfl⟩;·exact⟨_,a,h1,rfl,h2⟩
 ·exact⟨_,b,h1,rfl,h3⟩
 ·exact⟨_,c,h1,rfl,h4⟩
 ·exact⟨_,d,h1,rfl,h5⟩
inductive Hf(vs:List V)(H:Hp)(Q:VK)(E:XK):Prop
 |mk (fa td:Addr) (ps:bA) (xs ys:List Int) (F:List Fc) (aC:vs=[.ref fa,.ref td]) (aS:FL H ps fa F) (ht:fK H td xs ys) (nd:(ps.map (·.1)).Nodup) (bb:∀c∈F,dQ xs ys ps.length c) (bL:xs.length<=8) (cD:F.length<=64) (dB:∀(d:Addr) (kvs:List (Key×V)) (L:Nat->List (Nat×List Int)) (H':Hp),aj H H'->ju H H' ps d 300 kvs L->(∀x y t,(y,t)∈L x↔fR F x y t)->Q (.ref d) H')
section
variable {K:ah}{mg:aQ}
abbrev Br:List Str:=["_law_facts","_law_turns_here"]
def uv:aP ["_law_facts","_law_turns_here","_law_found","_law_number","_law_kind","_law_one","_law_other"] Br (aF E4):=.aX
theorem ZdM(F:aN K "_law_nets" "_law_nets" E4 f fd)(rC:HasFn P w K mg base 1 "_law_inverse" x8 HZ)(bl:Bl mg):aE P w K mg base aM 2 f fd Br Hf:=by
 refine F.o uv λs H hr h=>?_;obtain⟨fa,td,ps,xs,ys,F,rfl,fY,ht,fL,fgA,n8,jR,q⟩:=h;refine⟨_,(aq (bU 2 uv.nd rL) (aq (fP PassesOwn.never rfl (eI (K:=K) rfl (pv 0)) (jj (K:=K) (n:=4) rfl rfl (bR (bF 3 uv.nd) (bR (bF 4 uv.nd) (bR (bF 5 uv.nd) (bR (bF 6 uv.nd) ji))))) (av (aV (bG l_ (pv 4) bc) (aq (b_ (nA (K:=K) rfl (ka plainAttrs_list PySem.F.slot_list_append PySem.F.type_list_append oz (Mx (pv 2) (pv 5) (dw ae) ⟨rfl,rfl,rfl,rfl⟩) (aa (c6 (aa (pv 6) (aa (dk (bw hr) (pv 1) (pv 4) (λ_ _=>rfl)) ae))) ae)))) (av (b_ (nA (K:=K) rfl (ka plainAttrs_list PySem.F.slot_list_append PySem.F.type_list_append oz (Mx (pv 2) (pv 6) (dw ae) ⟨rfl,rfl,rfl,rfl⟩) (aa (c6 (aa (pv 5) (aa (aW rC hr (aa (dk (bw hr) (pv 1) (pv 4) (λ_ _=>rfl)) ae)) ae))) ae)))))) aZ))) (av (aG (pv 2))))),?_⟩;refine cz ?_;refine λd H1 nd g1 hd=>?_;obtain⟨as,di,dY⟩:=id fY;have al:=cU dY;have sz:(10000:Nat)<=sizeLine:=by rw[sizeLine_eq];omega
 refine gI (λσ H6=>∃(kvs:List (Key×V)) (L:Nat->List (Nat×List Int)) (o1 o2 o3 o4:Option V),aj H H6/\ju H H6 ps d 300 kvs L/\(∀x y t,(y,t)∈L x↔fR F x y t)/\σ=[some (.ref fa),some (.ref td),some (.ref d),o1,o2,o3,o4]) (λnW eV=>?_) ?_
 ·refine⟨_,rfl,fa,rfl,⟨_,ak.of (g1 _ _ di)⟩,je (K:=K) (a:=fa) (xs:=as.map V.ref) (λj σ H6=>∃(kvs:List (Key×V)) (L:Nat->List (Nat×List Int)) (o1 o2 o3 o4:Option V),aj H H6/\ju H H6 ps d (4*j) kvs L/\(∀x y t,(y,t)∈L x↔fR (F.take j) x y t)/\σ=[some (.ref fa),some (.ref td),some (.ref d),o1,o2,o3,o4])
   ⟨[],λ_=>[],none,none,none,none,g1,⟨hd,Yd _,nd,λx _=>.inl ⟨rfl,rfl⟩,λ_ _ _ _ _ e=>(nomatch e)⟩,λx y t=>⟨λz=>(nomatch z),λz=>absurd z Zcj⟩,rfl⟩
   (λj σ H6 _ ⟨_,_,_,_,_,_,g,_⟩=>ak.of (g _ _ di)) ?_ ?_⟩
  ·rintro j v σ H6 hj ⟨kvs,L,o1,o2,o3,o4,g,ne,ed,rfl⟩;rw[Ye] at hj;obtain⟨c0,ec,rfl⟩:∃c0,as[j]?=some c0/\V.ref c0=v:=by
    cases e:as[j]? with
    |none=>rw[e] at hj;cases hj
    |some c=>rw[e] at hj;exact⟨c,rfl,Yn hj⟩
   obtain⟨c,i6,z,hc⟩:=gH dY ec;have mc:=Yg i6;have fg:=fgA c mc;have ok:=fg.ok;have jl:j<F.length:=(Yl.mp i6).1;have rb:F.take (j+1)=F.take j++[c]:=by rw[Y1,i6];rfl
   refine⟨c0,_,rfl,aB.of (g _ _ hc),rfl,_,_,rfl,bg ⟨_,_,rfl,bg ⟨_,_,rfl,bg ⟨_,_,rfl,bg ⟨rfl,?_⟩⟩⟩⟩⟩;have ev:∀b:Bool,decide (V.str c.k=V.str bH)=b->(b=true↔c.k=bH):=λb e=>by
    rw[←e,decide_eq_true_iff];exact⟨V.str.inj,λz=>by rw[z]⟩
   refine⟨_,rfl,rfl,_,rfl,?_⟩;refine bJ (λcc=>?_) (λcc=>aY ?_)
   ·have ns:c.k≠bH:=λz=>by
     rw[(ev _ rfl).mpr z] at cc;cases cc
    obtain⟨tk,u,fE,vu,hu⟩:=ht.get (fg.u4 ns);obtain⟨⟨o0,om⟩,ft,tl⟩:=ok.hU ns;have eo:kV (bo ps c)=.str (au ps c.aI.toNat):=by rw[jh ns];rfl
    refine Np (ps:=ps) (x:=c.one) (y:=c.aI.toNat) (t:=c.tn) (λ_ _ h=>⟨_,rfl,h⟩) fL ok.one (λ_ _ h=>⟨_,rfl,h⟩) (λ_ _ h=>⟨_,rfl,by rw[eo];exact h⟩) ne g (by omega) (λH2 Q2 g2 k2=>⟨_,rfl,_,rfl,td,.ref u,rfl,cV (g2 _ _ fE) vu,k2 u H2 (aj.refl _) (g2 _ _ hu)⟩) λv2 ZiZ H2 g2 n2=>?_;refine Np (ps:=ps) (x:=c.aI.toNat) (y:=c.one) (t:=inv c.tn) (λ_ _ h=>⟨_,rfl,h⟩) fL om (λ_ _ h=>⟨_,rfl,by rw[eo];exact h⟩) (λ_ _ h=>⟨_,rfl,h⟩) n2 g2 (by omega) (λH3 Q3 g3 k3=>⟨_,rfl,_,rfl,td,.ref u,rfl,cV (g3 _ _ fE) vu,u,c.tn,rfl,g3 _ _ hu,by omega,ft,λw H4 _ g4 hw=>k3 w H4 g4 hw⟩) λv3 Zhj H3 g3 n3=>?_;refine⟨Zhj,_,_,_,_,_,g3,n3,λx y t=>?_,rfl⟩;rw[rb,qf,N1,N1,ed]
    grind
   ·have sd:c.k=bH:=by
     by_cases z:c.k=bH;·exact z
     ·cases e:decide (V.str c.k=V.str bH) with
      |true=>exact absurd ((ev _ e).mp rfl) z
      |false=>rw[e] at cc;exact absurd rfl cc
    refine⟨kvs,L,_,_,_,_,g,⟨ne.dict,by have:=ne.len;omega,ne.new,λz hz=>?_,ne.inj⟩,λx y t=>?_,rfl⟩
    ·rcases ne.at_ z hz with w|⟨a,es,w1,w2,w3,w4,w5⟩;·exact .inl w
     ·exact .inr ⟨a,es,w1,w2,w3,by omega,w5⟩
    ·rw[rb,qf,ed];exact⟨.inl,λh=>h.elim id λz=>absurd sd z.1⟩
  ·rintro σ H6 ⟨kvs,L,o1,o2,o3,o4,g,ne,ed,rfl⟩;rw[Ya,al] at ne;rw[Ya,al,Wb] at ed;refine eV _ _ ⟨kvs,L,o1,o2,o3,o4,g,⟨ne.dict,by have:=ne.len;omega,ne.new,λz hz=>?_,ne.inj⟩,ed,rfl⟩;rcases ne.at_ z hz with w|⟨a,es,w1,w2,w3,w4,w5⟩;·exact .inl w
   ·exact .inr ⟨a,es,w1,w2,w3,by omega,w5⟩
 rintro σ H6 ⟨kvs,L,o1,o2,o3,o4,g,ne,ed,rfl⟩;exact⟨_,rfl,q d kvs L H6 g ne ed⟩
end
def QX{t:List Int}{z:Int}(h0:0<=z)(h:z<t.length):dO (t.map V.int) z=some (.int (ap t z)):=ny h0 h
def gN(ps:bA)(g:List (Nat×Int)):List (Key×V):=g.map λp=>(.inr (au ps p.1),.int p.2)
def pS(ps:bA)(g:List (Nat×Int)):List V:=g.map λp=>.str (au ps p.1)
def Zfj(ps:bA)(g:List (Nat×Int)):(gN ps g).length=g.length:=Ya _
def Pu(ps:bA)(g:List (Nat×Int)):(pS ps g).length=g.length:=Ya _
theorem oR(nd:(ps.map (·.1)).Nodup)(hk:k<ps.length):∀{g:List (Nat×Int)},(∀p∈g,p.1<ps.length)->aT (gN ps g) (.inr (au ps k))=(g.lookup k).map V.int
 |[],_=>rfl
 |p::g,lt=>by
  have e0:gN ps (p::g)=(Sum.inr (au ps p.1),V.int p.2)::gN ps g:=rfl;rw[e0,Wz];by_cases e:k=p.1
  ·rw[beq_iff_eq.mpr e,fN (p:=((Sum.inr (au ps p.1):Key),V.int p.2)) (by rw[e])];rfl
  ·rw[beq_eq_false_iff_ne.mpr e,eX (p:=((Sum.inr (au ps p.1):Key),V.int p.2)) (λz=>e (rX nd hk (lt p Yo) (Wf (show(Sum.inr (au ps p.1):Key)=Sum.inr (au ps k) from z)).symm))];exact oR nd hk λq hq=>lt q (Yw _ hq)
def ZdN{ps:bA}{g:List (Nat×Int)}{r k:Nat}{v:Int}(h:g[r]?=some (k,v)):dO (pS ps g) (r:Int)=some (.str (au ps k)):=iH (by unfold pS;rw[Ye,h];rfl)
def wa(ps:bA)(d fa fn bu:Addr)(x:Nat)(a:Int)(r:Nat)(o7 o8 o9 rf oh iE jS:Option V):St:=[some (.ref d),some (.ref fa),some (.str (au ps x)),some (.int a),some (.ref fn),some (.ref bu),some (.int (r:Int)),o7,o8,o9,rf,oh,iE,jS]
def muC(m:Nat):St->Hp->Nat:=λσ _=>match List.getD (α:=Option V) σ 6 none with|some (V.int z)=>m+1-z.toNat|_=>0
inductive RU(H:Hp)(F:List Fc)(L:Nat->List (Nat×List Int))(n:Nat)(ps:bA)(d fa fn bu:Addr)(x:Nat)(a:Int)(σ:St)(H6:Hp):Prop
 |mk (g:List (Nat×Int)) (r:Nat) (o7 o8 o9:Option V) (aC:aj H H6) (aS:H6 fn=some (.dK (gN ps g))) (bb:H6 bu=some (.lst (pS ps g))) (bL:BF F n ps.length x a g) (cD:r<=g.length) (dB:(∀r',r'<r->Cl L g r')) (fD:σ=wa ps d fa fn bu x a r o7 o8 o9 none none none none):RU H F L n ps d fa fn bu x a σ H6
def Zhk(H:Hp)(F:List Fc)(L:Nat->List (Nat×List Int))(n:Nat)(ps:bA)(d fa fn bu:Addr)(x:Nat)(a:Int)(σ:St)(H6:Hp):Prop:=RU H F L n ps d fa fn bu x a σ H6
inductive RV(H:Hp)(F:List Fc)(L:Nat->List (Nat×List Int))(n:Nat)(ps:bA)(d fa fn bu:Addr)(x:Nat)(a:Int)(σ:St)(H6:Hp):Prop
 |mk (g:List (Nat×Int)) (r:Nat) (o7 o8 o9:Option V) (aC:aj H H6) (aS:H6 fn=some (.dK (gN ps g))) (bb:BF F n ps.length x a g) (bL:(∀r',r'<g.length->Cl L g r')) (cD:σ=wa ps d fa fn bu x a r o7 o8 o9 none none none none):RV H F L n ps d fa fn bu x a σ H6
def Zhl(H:Hp)(F:List Fc)(L:Nat->List (Nat×List Int))(n:Nat)(ps:bA)(d fa fn bu:Addr)(x:Nat)(a:Int)(σ:St)(H6:Hp):Prop:=RV H F L n ps d fa fn bu x a σ H6
inductive S0(H:Hp)(F:List Fc)(L:Nat->List (Nat×List Int))(n:Nat)(ps:bA)(d fa fn bu:Addr)(x:Nat)(a:Int)(r k:Nat)(v:Int)(g:List (Nat×Int))(al:Addr)(es:List Addr)(j:Nat)(σ:St)(H8:Hp):Prop
 |mk (g' tl:List (Nat×Int)) (o8 o9:Option V) (aC:aj H H8) (aS:H8 al=some (.lst (es.map V.ref))) (bb:H8 fn=some (.dK (gN ps g'))) (bL:H8 bu=some (.lst (pS ps g'))) (cD:BF F n ps.length x a g') (dB:g'=g++tl) (fD:(∀q∈(L k).take j,g'.lookup q.1=some (ap q.2 v))) (ir:σ=wa ps d fa fn bu x a r (some (.str (au ps k))) o8 o9 none none none none):S0 H F L n ps d fa fn bu x a r k v g al es j σ H8
def CIn(H:Hp)(F:List Fc)(L:Nat->List (Nat×List Int))(n:Nat)(ps:bA)(d fa fn bu:Addr)(x:Nat)(a:Int)(r k:Nat)(v:Int)(g:List (Nat×Int))(al:Addr)(es:List Addr)(j:Nat)(σ:St)(H8:Hp):Prop:=S0 H F L n ps d fa fn bu x a r k v g al es j σ H8
inductive RW(H:Hp)(F:List Fc)(L:Nat->List (Nat×List Int))(n:Nat)(ps:bA)(d fa fn bu:Addr)(x:Nat)(a:Int)(r k:Nat)(v:Int)(g:List (Nat×Int))(σ:St)(H8:Hp):Prop
 |mk (g' tl:List (Nat×Int)) (o8 o9:Option V) (aC:aj H H8) (aS:H8 fn=some (.dK (gN ps g'))) (bb:H8 bu=some (.lst (pS ps g'))) (bL:BF F n ps.length x a g') (cD:g'=g++tl) (dB:(∀q∈L k,g'.lookup q.1=some (ap q.2 v))) (fD:σ=wa ps d fa fn bu x a r (some (.str (au ps k))) o8 o9 none none none none):RW H F L n ps d fa fn bu x a r k v g σ H8
def Zhm(H:Hp)(F:List Fc)(L:Nat->List (Nat×List Int))(n:Nat)(ps:bA)(d fa fn bu:Addr)(x:Nat)(a:Int)(r k:Nat)(v:Int)(g:List (Nat×Int))(σ:St)(H8:Hp):Prop:=RW H F L n ps d fa fn bu x a r k v g σ H8
inductive RX(H:Hp)(F:List Fc)(n:Nat)(ps:bA)(d fa fn bu:Addr)(x:Nat)(a:Int)(r k y:Nat)(u:Addr)(g':List (Nat×Int))(al:Addr)(es:List Addr)(σ:St)(H9:Hp):Prop
 |mk (rh Ll:List (Nat×Int)) (v':Int) (aC:aj H H9) (aS:H9 al=some (.lst (es.map V.ref))) (bb:H9 fn=some (.dK (gN ps rh))) (bL:H9 bu=some (.lst (pS ps rh))) (cD:BF F n ps.length x a rh) (dB:rh=g'++Ll) (fD:rh.lookup y=some v') (ir:σ=wa ps d fa fn bu x a r (some (.str (au ps k))) (some (.str (au ps y))) (some (.ref u)) none none none none):RX H F n ps d fa fn bu x a r k y u g' al es σ H9
def Zhn(H:Hp)(F:List Fc)(n:Nat)(ps:bA)(d fa fn bu:Addr)(x:Nat)(a:Int)(r k y:Nat)(u:Addr)(g':List (Nat×Int))(al:Addr)(es:List Addr)(σ:St)(H9:Hp):Prop:=RX H F n ps d fa fn bu x a r k y u g' al es σ H9
def RY(ps:bA)(F:List Fc)(H6:Hp)(d fa fn bu:Addr)(x:Nat)(a:Int)(r:Nat)(g:List (Nat×Int))(o7 o8 o9:Option V)(σ:St)(H8:Hp):Prop:=H8=H6/\(∀c∈F,c.k=bH->∀u,g.lookup c.one=some u->u=c.aI)/\∃rf oh iE jS:Option V,σ=wa ps d fa fn bu x a r o7 o8 o9 rf oh iE jS
inductive FX(vs:List V)(H:Hp)(Q:VK)(E:XK):Prop
 |mk (H0:Hp) (d fa:Addr) (kvs:List (Key×V)) (L:Nat->List (Nat×List Int)) (n:Nat) (ps:bA) (F:List Fc) (x:Nat) (a:Int) (aC:vs=[.ref d,.ref fa,.str (au ps x),.int a]) (nd:(ps.map (·.1)).Nodup) (aS:ju H0 H ps d 300 kvs L) (bb:(∀x y t,(y,t)∈L x↔fR F x y t)) (bL:FL H ps fa F) (cD:(∀c∈F,dP n ps.length c)) (dB:n<=8) (fD:ps.length<=100) (ir:F.length<=64) (nP:x<ps.length) (vI:(0<=a/\a<(n:Int))) (ID:((¬∃g,gf n F g/\g x=some a)->∀H',aj H H'->Q .az H')) (Sz:∀(p:Addr) (g:List (Nat×Int)) (H':Hp),aj H H'->H' p=some (.dK (gN ps g))->BF F n ps.length x a g->gf n F (λk=>g.lookup k)->Q (.ref p) H')
section
variable {K:ah}{mg:aQ}
abbrev Bs:List Str:=["_law_nets_here","_law_facts","_law_name_here","_law_section"]
def kR:aP ["_law_nets_here","_law_facts","_law_name_here","_law_section","_law_found","_law_row_here","_law_at","_law_here","_law_that","_law_turn_here","_law_number","_law_kind","_law_one","_law_said"] Bs (aF DV):=.aX
theorem Zaa(F:aN K "_law_carried" "_law_carried" DV f fd)(bl:Bl mg):aE P w K mg base aM 1 f fd Bs FX:=by
 refine F.o kR λs H hr h=>?_;obtain⟨H0,d,fa,kvs,L,n,ps,F,x,a,rfl,fL,vg,ed,fY,hV,n8,qH,jR,hx,Zho,q1,q2⟩:=h;refine⟨_,(aq (bU 4 kR.nd (Aj (jW (pv 2) (pv 3) Ai) rfl rfl (λz=>nomatch z) (Jl rfl))) (aq (bU 5 kR.nd (dw (aa (pv 2) ae))) (aq (bU 6 kR.nd aO) (aq (F2 PassesOwn.never (bG nF (pv 6) (dq K bl (pv 5))) (aq (bU 7 kR.nd (bj (iL K) (pv 5) (pv 6))) (aq (fP PassesOwn.never rfl (eI (K:=K) rfl (ZbO (bw hr) (pv 0) (pv 7) (dw ae) ⟨rfl,rfl,rfl,rfl⟩)) (jj (K:=K) (n:=2) rfl rfl (bR (bF 8 kR.nd) (bR (bF 9 kR.nd) ji))) (aq (aV (jE (m5 (bw hr) (pv 8) (pv 4)) (by with_unfolding_all rfl)) (aq (oF (bw hr) (pv 4) (pv 8) (bj (iT K) (pv 9) (dk (bw hr) (pv 4) (pv 7) (λ_ _=>rfl)))) (av (b_ (nA (K:=K) rfl (ka plainAttrs_list PySem.F.slot_list_append PySem.F.type_list_append oz (pv 5) (aa (pv 8) ae)))))) aZ) (av (aV (bG l_ (dk (bw hr) (pv 4) (pv 8) (λ_ _=>rfl)) (bj (iT K) (pv 9) (dk (bw hr) (pv 4) (pv 7) (λ_ _=>rfl)))) (av (aG lZ)) aZ)))) (av (PX (i:=6) kR.nd rfl (Or.inl rfl) aO PY))))) (aq (fP PassesOwn.never rfl (eI (K:=K) rfl (pv 1)) (jj (K:=K) (n:=4) rfl rfl (bR (bF 10 kR.nd) (bR (bF 11 kR.nd) (bR (bF 12 kR.nd) (bR (bF 13 kR.nd) ji))))) (av (aV (PW.pt (pw_and (bG cv (pv 11) bc) (pw_and (jE (xw (bw hr) (pv 12) (pv 4)) (by with_unfolding_all rfl)) (pw_and1 (bG l_ (dk (bw hr) (pv 4) (pv 12) (λ_ _=>rfl)) (pv 13)))))) (av (aG lZ)) aZ))) (av (aG (pv 4)))))))),?_⟩;refine cz ?_;refine λfn CQ=>⟨_,rfl,_,rfl,aR,[(.inr (au ps x),.int a)],rfl,(by show 1<=15;omega),?_⟩;obtain⟨H1,q5⟩:∃H1,H1=upd (upd H fn (.dK [])) fn (.dK (oP [] [(.inr (au ps x),.int a)])):=⟨_,rfl⟩;have g1:aj H H1:=λb o e=>by rw[q5,aK (bY e CQ),aK (bY e CQ)];exact e
 have h1:H1 fn=some (.dK (gN ps [(x,a)])):=by rw[q5,aR];rfl
 rw[←q5];refine cz ?_;refine⟨_,rfl,by show 1<=sizeLine;rw[sizeLine_eq];omega,λbu H2 y6 g2 Lm=>?_⟩;refine setC ?_;have S1:=g1.free y6;have fr_ne:fn≠bu:=λz=>by rw[←z,h1] at y6;cases y6
 have sz:(10000:Nat)<=sizeLine:=by rw[sizeLine_eq];omega
 have hdH:=vg.dict;obtain⟨as,di,dY⟩:=id fY;have al:=cU dY;refine gI (Zhl H F L n ps d fa fn bu x a) (λnW eV=>?_) ?_
 ·refine F3 (Zhk H F L n ps d fa fn bu x a) (muC ps.length)
   ⟨[(x,a)],0,none,none,none,g1.trans g2,g2 _ _ h1,Lm,bf0 hx Zho,Yx _,λ_ z=>absurd z (Wk _),rfl⟩ ?_ ?_
  ·rintro σ H6 ⟨g,r,o7,o8,o9,g6,t6,oi,bf,rl,cl,rfl⟩;have kl:=Pu ps g;have gl:=bf.len;refine⟨_,rfl,_,rfl,bu,_,rfl,.inl (ak.of oi),_,_,rfl,rfl,_,rfl,?_⟩;rw[kl];refine bJ (λc=>?_) (λc=>?_)
   ·have wb:r<g.length:=by have:=of_decide_eq_true c;omega
    obtain⟨k,v,Ln⟩:∃(k:Nat) (v:Int),g[r]?=some (k,v):=⟨g[r].1,g[r].2,Yc wb⟩;have Vk:(k,v)∈g:=Yg Ln;have lkv:g.lookup k=some v:=mem_lookup bf.nd Vk;obtain⟨km,v0,vn⟩:=bf.lt _ Vk;have Vl:=g6 _ _ hdH;refine cz ?_;refine⟨_,rfl,_,rfl,bu,_,_,_,rfl,rfl,ak.of oi,ZdN Ln,?_⟩;refine gI (Zhm H F L n ps d fa fn bu x a r k v g) (λCB n_=>?_) ?_
    ·refine⟨_,rfl,d,rfl,.inl ⟨_,.inl Vl⟩,_,rfl,by show 0<=sizeLine;exact Yx _,λe0 H7 y8 g7 yM=>?_⟩;have fn7:=g7 _ _ t6;have rw7:=g7 _ _ oi;have nf0:e0≠fn:=λz=>by rw[z,t6] at y8;cases y8
     have nr0:e0≠bu:=λz=>by rw[z,oi] at y8;cases y8
     obtain⟨al,es,eal,Vm,Zhp,Zhq,Vn⟩:∃(al:Addr) (es:List Addr),(aT kvs (.inr (au ps k))).getD (.ref e0)=.ref al/\H7 al=some (.lst (es.map V.ref))/\al≠fn/\al≠bu/\Paired (λe (p:Nat×List Int)=>∃u,H e=some (.tup [.str (au ps p.1),.ref u])/\bN H u p.2) es (L k):=by
      rcases vg.at_ k km with⟨z1,z2⟩|⟨a1,es,w1,w2,w3,w4,w5⟩;·exact⟨e0,[],by rw[z1];rfl,yM,nf0,nr0,by rw[z2];exact .nil⟩
      ·exact⟨a1,es,by rw[w1];rfl,g7 _ _ (g6 _ _ w3),bY w3 CQ,bY w3 S1,w5⟩
     have esl:=cU Vn;refine⟨_,cV (g7 _ _ Vl) rfl,al,eal,⟨_,ak.of Vm⟩,je (K:=K) (a:=al) (xs:=es.map V.ref) (CIn H F L n ps d fa fn bu x a r k v g al es)
      ⟨g,[],o8,o9,g6.trans g7,Vm,fn7,rw7,bf,by rw[Wd],λq hq=>(nomatch hq),rfl⟩ (λj σ H8 _ ⟨_,_,_,_,_,h,_,_,_,_,_,_⟩=>ak.of h) ?_ ?_⟩
     ·rintro j w σ H8 hj ⟨g',tl,p8,p9,g8,IM,jP,kM,oj,eg,i_,rfl⟩;rw[Ye] at hj;obtain⟨e,ee,rfl⟩:∃e,es[j]?=some e/\V.ref e=w:=by
       cases z:es[j]? with
       |none=>rw[z] at hj;cases hj
       |some c=>rw[z] at hj;exact⟨c,rfl,Yn hj⟩
      obtain⟨⟨y,t⟩,Vo,u,he,hu⟩:=gH Vn ee;have IP:fR F k y t:=(ed _ _ _).mp (Yg Vo);obtain⟨_,ym,ft,tl8⟩:=xf hV IP;have Lo:g'.lookup k=some v:=by rw[eg];exact zt lkv
      have vb:v<(t.length:Int):=by rw[tl8];exact vn
      have gl8:=oj.len;have he8:H8 e=some (.tup [.str (au ps y),.ref u]):=g8 _ _ he;have Lg:(L k).take (j+1)=(L k).take j++[(y,t)]:=by rw[Y1,Vo];rfl
      refine⟨e,_,rfl,aB.of he8,rfl,_,_,rfl,bg ⟨_,_,rfl,bg ⟨rfl,?_⟩⟩⟩;refine qp (Zhn H F n ps d fa fn bu x a r k y u g' al es) (λpQ fS=>?_) ?_
      ·refine⟨_,rfl,_,rfl,fn,_,rfl,cV jP (oR fL ym λp hp=>(oj.lt p hp).1),_,rfl,?_⟩;cases ly:g'.lookup y with
       |none=>
        refine cY ?_;refine⟨_,rfl,_,rfl,_,rfl,fn,.int v,rfl,cV jP (by rw[oR fL km λp hp=>(oj.lt p hp).1,Lo];rfl),u,_,_,_,rfl,rfl,aB.of (g8 _ _ hu),QX v0 vb,_,rfl,_,rfl,fn,_,.inr (au ps y),rfl,jP,rfl,by rw[Zfj];omega,λH9 b9 e9=>?_⟩;have vn0:aT (gN ps g') (.inr (au ps y))=none:=by rw[oR fL ym λp hp=>(oj.lt p hp).1,ly];rfl
        rw[kU _ vn0] at e9;have t8:=b9 _ _ kM (λz=>fr_ne z.symm);refine⟨_,rfl,.inl ⟨rfl,_,ak.of t8⟩,_,rfl,bu,_,_,rfl,rfl,t8,by rw[Pu];omega,λlH y9 pL=>?_⟩;refine fS _ _ ⟨g'++[(y,ap t v)],[(y,ap t v)],ap t v,λc o z=>y9 _ _ (b9 _ _ (g8 _ _ z) (bY z CQ)) (bY z S1),y9 _ _ (b9 _ _ IM Zhp) Zhq,?_,?_,oj.add hV IP Lo ly,rfl,MF ly,rfl⟩;·rw[y9 _ _ e9 fr_ne,gN,gN,Ym];rfl
        ·rw[pL,pS,pS,Ym];rfl
       |some v'=>
        refine bW (aY ?_);exact fS _ _ ⟨g',[],v',g8,IM,jP,kM,oj,by rw[Wd],ly,rfl⟩
      ·rintro σ H9 ⟨rh,Ll,v',g9,Zhr,oa,t8,CS,Lp,lv,rfl⟩;have Vp:rh.lookup k=some v:=by rw[Lp];exact zt Lo
       refine⟨_,rfl,_,rfl,fn,.int v',rfl,cV oa (by rw[oR fL ym λp hp=>(CS.lt p hp).1,lv];rfl),_,rfl,_,rfl,_,rfl,fn,.int v,rfl,cV oa (by rw[oR fL km λp hp=>(CS.lt p hp).1,Vp];rfl),u,_,_,_,rfl,rfl,aB.of (g9 _ _ hu),QX v0 vb,rfl,_,rfl,?_⟩;refine bJ (λc=>?_) (λc=>aY ?_)
       ·refine q1 (CS.Zf_ IP Vp lv λz=>?_) H9 g9;rw[z] at c;simp at c
       ·have ev:v'=ap t v:=by
         by_cases z:v'=ap t v;·exact z
         ·exact absurd (by simp[z]) c
        refine⟨rh,tl++Ll,_,_,g9,Zhr,oa,t8,CS,by rw[Lp,eg,Jo],λq hq=>?_,rfl⟩;rw[Lg] at hq;rcases Yq.mp hq with hq|hq;·rw[Lp];exact zt (i_ q hq)
        ·rw[Yk] at hq;rw[hq,lv,ev]
     ·rintro σ H8 ⟨g',tl,p8,p9,g8,IM,jP,kM,oj,eg,i_,rfl⟩;rw[Ya,esl,Wb] at i_;exact n_ _ _ ⟨g',tl,p8,p9,g8,jP,kM,oj,eg,i_,rfl⟩
    ·rintro σ H8 ⟨g',tl,p8,p9,g8,jP,kM,oj,eg,i_,rfl⟩;have rr:r<(g++tl).length:=by rw[Yi];omega
     have ge:(g++tl)[r]?=some (k,v):=by rw[We wb];exact Ln
     have lM:((r:Int)+1)=((r+1:Nat):Int):=by omega
     refine⟨_,rfl,_,_,rfl,rfl,?_⟩;refine⟨⟨g',r+1,some (.str (au ps k)),p8,p9,g8,jP,kM,oj,by rw[eg];exact rr,λr' h'=>?_,rfl⟩,?_⟩
     ·rw[eg];by_cases z:r'=r
      ·subst z;intro p hp qq hq;rw[ge] at hp;cases hp;rw[←eg];exact i_ qq hq
      ·exact(cl r' (by omega)).app (by omega)
     ·show ps.length+1-((r:Int)+1).toNat<ps.length+1-((r:Int)).toNat;omega
   ·have re:¬((r:Int)<(g.length:Int)):=λz=>c (decide_eq_true z);exact eV _ _ ⟨g,r,o7,o8,o9,g6,t6,bf,λr' h'=>cl r' (by omega),rfl⟩
  ·rintro σ H6 Q1 Q2 mo ⟨v1,w1,v2,w2,v3,v4,w3,w4,v5,v6,w5,w6,v7,w7,h⟩;exact⟨v1,w1,v2,w2,v3,v4,w3,w4,v5,v6,w5,w6,v7,w7,mo _ _ h⟩
 rintro σ H6 ⟨g,r,o7,o8,o9,g6,t6,bf,cl,rfl⟩;refine gI (RY ps F H6 d fa fn bu x a r g o7 o8 o9) (λnW eV=>?_) ?_
 ·refine⟨_,rfl,fa,rfl,⟨_,ak.of (g6 _ _ di)⟩,je (K:=K) (a:=fa) (xs:=as.map V.ref) (λj=>RY ps (F.take j) H6 d fa fn bu x a r g o7 o8 o9)
   ⟨rfl,λc hc=>(nomatch hc),none,none,none,none,rfl⟩ (λj σ H8 _ ⟨e,_⟩=>by rw[e];exact ak.of (g6 _ _ di)) ?_ ?_⟩
  ·rintro j v σ H8 hj ⟨rfl,sd,rf,oh,iE,jS,rfl⟩;rw[Ye] at hj;obtain⟨c0,ec,rfl⟩:∃c0,as[j]?=some c0/\V.ref c0=v:=by
    cases e:as[j]? with
    |none=>rw[e] at hj;cases hj
    |some c=>rw[e] at hj;exact⟨c,rfl,Yn hj⟩
   obtain⟨c,i6,z,hc⟩:=gH dY ec;have mc:=Yg i6;have rb:F.take (j+1)=F.take j++[c]:=by rw[Y1,i6];rfl
   refine⟨c0,_,rfl,aB.of (g6 _ _ hc),rfl,_,_,rfl,bg ⟨_,_,rfl,bg ⟨_,_,rfl,bg ⟨_,_,rfl,bg ⟨rfl,?_⟩⟩⟩⟩⟩;have ev:∀b:Bool,decide (V.str c.k=V.str bH)=b->(b=true↔c.k=bH):=λb e=>by
    rw[←e,decide_eq_true_iff];exact⟨V.str.inj,λz=>by rw[z]⟩
   have wc:(c.k=bH->∀u,g.lookup c.one=some u->u=c.aI)->∃rf oh iE jS:Option V,(H8=H8/\∀c∈F.take (j+1),c.k=bH->∀u,g.lookup c.one=some u->u=c.aI)/\True:=λh=>⟨none,none,none,none,⟨rfl,λc' m'=>by
    rw[rb] at m';rcases Yq.mp m' with m'|m';·exact sd c' m'
    ·rw[Yk] at m';rw[m'];exact h⟩,trivial⟩
   refine⟨_,rfl,rfl,_,rfl,bJ (λcc=>?_) (λcc=>?_)⟩
   ·have sk:=(ev _ rfl).mp cc;have eo:kV (bo ps c)=.int c.aI:=by rw[m6 sk];rfl
    refine⟨_,rfl,_,rfl,fn,_,rfl,cV t6 (oR fL (hV c mc).one λp hp=>(bf.lt p hp).1),_,rfl,?_⟩;cases lk:g.lookup c.one with
    |none=>
     refine bW (bW (aY ?_));obtain⟨_,_,_,_,⟨_,h⟩,_⟩:=wc λ_ u e=>by rw[lk] at e;cases e
     exact⟨rfl,h,_,_,_,_,rfl⟩
    |some u=>
     refine cY ?_;refine⟨_,rfl,_,rfl,fn,.int u,rfl,cV t6 (by rw[oR fL (hV c mc).one λp hp=>(bf.lt p hp).1,lk];rfl),_,rfl,by rw[eo];rfl,_,rfl,bJ (λc2=>?_) (λc2=>aY ?_)⟩
     ·refine q1 (bf.Zff mc sk lk λz=>?_) H8 g6;rw[z,eo] at c2;simp at c2
     ·have eu:u=c.aI:=by
       by_cases z:u=c.aI;·exact z
       ·exact absurd (by rw[eo];simp[z]) c2
      obtain⟨_,_,_,_,⟨_,h⟩,_⟩:=wc λ_ u' e=>by rw[lk] at e;rw[←Yn e];exact eu
      exact⟨rfl,h,_,_,_,_,rfl⟩
   ·refine bW (aY ?_);obtain⟨_,_,_,_,⟨_,h⟩,_⟩:=wc λz=>absurd ((ev _ rfl).mpr z) cc;exact⟨rfl,h,_,_,_,_,rfl⟩
  ·rintro σ H8 ⟨rfl,sd,rf,oh,iE,jS,rfl⟩;rw[Ya,al,Wb] at sd;exact eV _ _ ⟨rfl,sd,rf,oh,iE,jS,rfl⟩
 rintro σ H8 ⟨rfl,sd,rf,oh,iE,jS,rfl⟩;exact⟨_,rfl,q2 fn g H8 g6 t6 bf (bf.done ed cl sd)⟩
end
inductive Hg(vs:List V)(H:Hp)(Q:VK)(E:XK):Prop
 |mk (fa td:Addr) (ps:bA) (xs ys:List Int) (F:List Fc) (x:Nat) (aC:vs=[.ref fa,.ref td,.str (au ps x)]) (aS:FL H ps fa F) (ht:fK H td xs ys) (nd:(ps.map (·.1)).Nodup) (bb:∀c∈F,dQ xs ys ps.length c) (bL:xs.length<=8) (cD:ps.length<=100) (dB:F.length<=64) (fD:x<ps.length) (ir:∀(p:Addr) (H':Hp),H p=none->aj H H'->H' p=some (.lst ((ic F xs.length x).map V.int))->Q (.ref p) H')
inductive Px(vs:List V)(H:Hp)(Q:VK)(E:XK):Prop
 |mk (a b:Addr) (xs ys:List Int) (aC:vs=[.ref a,.ref b]) (aS:bN H a xs) (bb:bN H b ys) (bL:nG xs ys) (cD:∀(p:Addr) (H':Hp),H p=none->aj H H'->fK H' p xs ys->Q (.ref p) H')
section
variable {K:ah}{mg:aQ}
abbrev Bu:List Str:=["_law_facts","_law_turns_here","_law_name_here"]
def Mg:aP ["_law_facts","_law_turns_here","_law_name_here","_law_nets_here"] Bu (aF E5):=.aX
open Classical in
def ZdO(F:aN K "_law_room" "_law_room" E5 f fd)(uB:HasFn P w K mg base 2 "_law_nets" Br Hf)(uh:HasFn P w K mg base 1 "_law_carried" Bs FX)(bl:Bl mg):aE P w K mg base aM 3 f fd Bu Hg:=by
 refine F.o Mg λs H hr h=>?_;obtain⟨fa,td,ps,xs,ys,F,x,rfl,fY,ht,fL,fg,n8,qH,jR,hx,q⟩:=h;refine⟨_,(aq (gT (i:=3) Mg.nd rfl (Or.inr rfl) (aW uB hr (aa (pv 0) (aa (pv 1) ae)))) (av (aG (iJ (x:="_law_at") (fr:=[("_law_nets_here",3),("_law_name_here",2),("_law_facts",0)]) (cl:=[("_law_nets_here",s.heap.objs.size+1+1+1),("_law_name_here",s.heap.objs.size+1+1),("_law_facts",s.heap.objs.size+1)]) rfl (.gu ⟨rfl,⟨rfl,⟨rfl,trivial⟩⟩⟩ ⟨⟨rfl,.inl rfl,.inl rfl,rfl⟩,⟨⟨rfl,.inl rfl,.inl rfl,rfl⟩,⟨⟨rfl,.inl rfl,.inl rfl,rfl⟩,trivial⟩⟩⟩) (p_ rfl bl.jZ (aa (dq K bl (dk (bw hr) (pv 1) bc (λ_ _=>rfl))) ae)) (λ_ _ _ _=>wY (bG Ab (Hq uh hr (by omega) rfl (aa (pv 1) (aa (pv 3) (aa (pv 2) (aa (pv 0) ae))))) lZ)) (λ_ _ _ _=>(pv 0)))))),?_⟩;refine cz ?_;refine⟨_,rfl,_,rfl,fa,td,ps,xs,ys,F,rfl,fY,ht,fL,fg,n8,jR,λd kvs L H1 g1 vg ed=>?_⟩;obtain⟨_,_,_,u0,fE,_,_,_,we⟩:=id ht;obtain⟨n,en⟩:∃n,n=xs.length:=⟨_,rfl⟩;have hV:∀c∈F,dP n ps.length c:=λc hc=>by rw[en];exact(fg c hc).ok
 rw[←en] at we n8 q;have ul:((bp n).map V.int).length=n:=by rw[Ya,eG]
 refine⟨_,rfl,td,.ref u0,rfl,cV (g1 _ _ fE) rfl,u0,_,rfl,.inr (aB.of (g1 _ _ we)),?_⟩;rw[ul];refine⟨(n:Int),rfl,by omega,by omega,λD hD=>?_⟩;refine YN (lo:=0) (by omega) hD (λi=>decide (∃g,gf n F g/\g x=some (i:Int))) (λi=>V.int (i:Int)) (λi hi H2 g2 _ Kt Kf kt kf=>?_) λH2 g2 h2=>?_
 ·rw[Ca];have qT:(i:Nat)<n:=by omega
  refine⟨_,rfl,_,rfl,_,rfl,_,rfl,H,d,fa,kvs,L,n,ps,F,x,(i:Int),rfl,fL,vg.same g2,ed,(fY.same g1).same g2,hV,n8,qH,jR,hx,⟨by omega,by omega⟩,λno H3 g3=>?_,λp gg H3 g3 vT bf cl=>?_⟩
  ·refine⟨rfl,_,rfl,?_⟩;rw[decide_eq_true (show V.az=V.az from rfl)];exact bW (kf H3 (decide_eq_false no) g3)
  ·refine⟨rfl,_,rfl,?_⟩;rw[decide_eq_false (show ¬V.ref p=V.az from λz=>nomatch z)];exact cY ⟨_,rfl,kt _ H3 (decide_eq_true ⟨_,cl,bf.hd⟩) g3 rfl⟩
 ·refine q D H2 (g1.free hD) (g1.trans g2) ?_;rw[h2,Y6];have e:ic F n x=((List.range n).filter λi:Nat=>decide (∃g,gf n F g/\g x=some (i:Int))).map λi:Nat=>(i:Int):=by
   unfold ic bp;rw[J0];rfl
  rw[e,Wi];rfl
abbrev IQ:List Str:=["_law_mother","_law_wife"]
def Eg:aP ["_law_mother","_law_wife","_law_father","_law_alone"] IQ (aF Ex):=.aX
def Zcx(F:aN K "_law_turns" "_law_turns" Ex f fd)(rC:HasFn P w K mg base 1 "_law_inverse" x8 HZ)(ES:HasFn P w K mg base 1 "_law_after" Bq (RT K))(bl:Bl mg):aE P w K mg base aM 2 f fd IQ Px:=by
 refine F.o Eg λs H hr h=>?_;obtain⟨a,b,xs,ys,rfl,ha,hb,gl,q⟩:=h;obtain⟨fx,fy,le,l2,l8⟩:=id gl;refine⟨_,(aq (bU 2 Eg.nd (aW ES hr (aa (pv 1) (aa (pv 0) ae)))) (aq (bU 3 Eg.nd (eS (WG rfl) rfl bl.m9 m7 (aa (eS D5 rfl bl.jZ uJ (aa (dq K bl (pv 0)) ae)) ae))) (av (aG (Aj (jW bc (aW rC hr (aa (pv 0) ae)) (jW bc (aW rC hr (aa (pv 2) ae)) (jW bc (pv 1) (jW bc (pv 3) Ai)))) rfl rfl (λz=>nomatch z) (Jl rfl)))))),?_⟩;refine cz ?_;have lv:∀x∈ys,0<=x/\x<(xs.length:Int):=λx hx=>by rw[le];exact qk fy hx
 refine⟨_,rfl,_,rfl,b,a,ys,xs,rfl,aB.of hb,aB.of ha,lv,by omega,λl H1 nl g1 hl=>?_⟩;refine cz ?_;have el:(xs.map V.int).length=xs.length:=Ya _;refine⟨_,rfl,a,_,rfl,.inr (aB.of (g1 _ _ ha)),_,rfl,λrg H2 nrg g2 hrg=>⟨rg,xs.length,rfl,by rw[hrg,el],by omega,λst H3 Ce g3 df=>?_⟩⟩;have fF:=g2.trans g3;intro d nd;have g4:=cq nd (.dK []);have Lq:upd H3 d (.dK []) d=some (.dK []):=aR;generalize upd H3 d (.dK [])=H4 at g4 Lq⊢;have Vq:=fF.trans g4;have rm:=g1.trans Vq;refine⟨_,rfl,a,xs,rfl,rm _ _ ha,by omega,fx,λim H5 nim g5 KN=>?_⟩;refine⟨_,rfl,l,bK xs ys,rfl,g5 _ _ (Vq _ _ hl),by rw[rG];omega,F_ fx fy (by omega),λjf H6 njf g6 KO=>?_⟩;have y_:=g5.trans g6;refine⟨_,rfl,_,rfl,y_ _ _ Lq,[(.inr "mother",.ref im),(.inr "father",.ref jf),(.inr "wed",.ref b),(.inr "sibling",.ref st)],rfl,by show 4<=15;decide,?_⟩;have b7:aA d H6 (upd H6 d (.dK (uW im jf b st))):=aA.put (aA.of (aj.refl _));have Vr:upd H6 d (.dK (uW im jf b st)) d=some (.dK (uW im jf b st)):=aR;have em:oP [] [((.inr "mother":Key),V.ref im),(.inr "father",.ref jf),(.inr "wed",.ref b),(.inr "sibling",.ref st)]=uW im jf b st:=rfl;rw[em];generalize upd H6 d (.dK (uW im jf b st))=H7 at b7 Vr⊢;have tne:∀{c:Addr} {zs:List Int},bN H6 c zs->c≠d:=λh1 z=>by rw[bN,z,y_ _ _ Lq] at h1;cases h1
 have k7:∀{c:Addr} {zs:List Int},bN H6 c zs->bN H7 c zs:=λh=>b7 _ _ h (tne h);refine q d H7 (g1.free (fF.free nd)) (λc o e=>b7 _ _ (y_ _ _ (rm _ _ e)) (bY e (g1.free (fF.free nd)))) ⟨im,jf,b,st,Vr,k7 (g6 _ _ KN),k7 KO,k7 (y_ _ _ (rm _ _ hb)),k7 (y_ _ _ (g4 _ _ df))⟩
end
theorem FL.get(h:FL H ps fa F):∃as:List Addr,H fa=some (.lst (as.map V.ref))/\as.length=F.length/\∀(H':Hp) (j:Nat) (v:V),aj H H'->(as.map V.ref)[j]?=some v->∃(c0:Addr) (c:Fc) (z:Int),v=.ref c0/\F[j]?=some c/\F.take (j+1)=F.take j++[c]/\H' c0=some (.tup [.int z,.str c.k,.str (au ps c.one),kV (bo ps c)]):=by
 obtain⟨as,di,dY⟩:=h;refine⟨as,di,cU dY,λH' j v g hj=>?_⟩;rw[Ye] at hj;obtain⟨c0,ec,rfl⟩:∃c0,as[j]?=some c0/\V.ref c0=v:=by
  cases e:as[j]? with
  |none=>grind
  |some c=>grind
 obtain⟨c,i6,z,hc⟩:=gH dY ec;exact⟨c0,c,z,rfl,i6,by rw[Y1,i6];rfl,g _ _ hc⟩
def mH(ps:bA)(k a:Str)(o:V)(c:Fc):Bool:=decide (c.k=k)&&((decide (au ps c.one=a)&&(decide (kV (bo ps c)=o)||cO k))||(decide (k="sibling")&&(decide (kV (bo ps c)=.str a)&&decide (V.str (au ps c.one)=o))))
def oZ(ps:bA)(F:List Fc)(k a:Str)(o:V):Bool:=F.any (mH ps k a o)||(decide (k="sibling")&&decide (V.str a=o))
def Bt(t:TT)(σ:St)(H:Hp)(b:Bool):Prop:=∀k:Bool->Hp->Prop,(∀H',aj H H'->k b H')->t σ H k
def Vt(t:TE)(σ:St)(H:Hp)(v:V):Prop:=∀k:VK,(∀H',aj H H'->k v H')->t σ H k
section
variable {t u:TT}{e1 e2:TE}{σ:St}{H:Hp}{a b:Bool}{x y:V}
theorem Bt.and(h1:Bt t σ H a)(h2:∀H',a=true->aj H H'->Bt u σ H' b):Bt (R8 t u) σ H (a&&b):=λk hk=>h1 _ λH1 g1=>by
 cases a with
 |true=>exact cY (h2 H1 rfl g1 _ λH2 g2=>hk H2 (g1.trans g2))
 |false=>grind
theorem Bt.or(h1:Bt t σ H a)(h2:∀H',a=false->aj H H'->Bt u σ H' b):Bt (Tg t u) σ H (a||b):=λk hk=>h1 _ λH1 g1=>by
 cases a with
 |true=>grind
 |false=>exact bW (h2 H1 rfl g1 _ λH2 g2=>hk H2 (g1.trans g2))
def Vt.var(h:σ[i]?=some (some x)):Vt (fQ i) σ H x:=λ_ hk=>⟨x,h,hk H (aj.refl _)⟩
def Vt.c:Vt (tC x) σ H x:=λ_ hk=>hk H (aj.refl _)
def Vt.test(h:Vt e1 σ H (.bl b)):Bt (Hn e1) σ H b:=λk hk=>h _ λH1 g1=>⟨b,rfl,hk H1 g1⟩
def Vt.eq(h1:Vt e1 σ H x)(h2:∀H',aj H H'->Vt e2 σ H' y)(sc:xP x y=true):Vt (jv Tn e1 e2) σ H (.bl (decide (x=y))):=λk hk=>h1 _ λH1 g1=>h2 H1 g1 _ λH2 g2=>⟨sc,hk H2 (g1.trans g2)⟩
def Vt.ne(h1:Vt e1 σ H x)(h2:∀H',aj H H'->Vt e2 σ H' y)(sc:xP x y=true):Vt (jv To e1 e2) σ H (.bl (!decide (x=y))):=λk hk=>h1 _ λH1 g1=>h2 H1 g1 _ λH2 g2=>⟨sc,hk H2 (g1.trans g2)⟩
theorem Vt.S2(h1:Vt e1 σ H (.bl a))(h2:∀H',a=true->aj H H'->Vt e2 σ H' (.bl b)):Vt (Rg e1 e2) σ H (.bl (a&&b)):=λk hk=>h1 _ λH1 g1=>⟨a,rfl,by
 cases a with
 |true=>exact cY (h2 H1 rfl g1 _ λH2 g2=>hk H2 (g1.trans g2))
 |false=>exact bW (hk H1 g1)⟩
theorem Vt.orV(h1:Vt e1 σ H (.bl a))(h2:∀H',a=false->aj H H'->Vt e2 σ H' (.bl b)):Vt (R9 e1 e2) σ H (.bl (a||b)):=λk hk=>h1 _ λH1 g1=>⟨a,rfl,by
 cases a with
 |true=>grind
 |false=>exact bW (h2 H1 rfl g1 _ λH2 g2=>hk H2 (g1.trans g2))⟩
def Vt.H_{K:ah}(h1:Vt e1 σ H (.str k)):Vt (jv (yh K false) e1 (xI (gW (tC (V.str "mother")) (gW (tC (V.str "father")) js)))) σ H (.bl (cO k)):=λq hk=>h1 _ λH1 g1=>by
 refine⟨by show 2<=sizeLine;rw[sizeLine_eq];omega,λp H2 np g2 hp=>⟨p,_,rfl,.inr (aB.of hp),rfl,rfl,?_⟩⟩;have e:fq (V.str k) [V.str "mother",V.str "father"]=cO k:=by
  rw[Wj];unfold fq cO;rw[Jm,Jm,List.any_nil,Bool.or_false,Lr,Lr,decide_eq_true_iff,decide_eq_true_iff];show((("mother":Str)==k)=true\/(("father":Str)==k)=true)↔_
  grind
 rw[e];exact hk H2 (g1.trans g2)
end
def Flat(o:V):Prop:=(∃z,o=.int z)\/∃z,o=.str z
theorem Ar(k:Key):Flat (kV k):=by
 cases k with
 |inl z=>exact .inl ⟨z,rfl⟩
 |inr z=>exact .inr ⟨z,rfl⟩
def zP(h1:Flat u)(h2:Flat v):xP u v=true:=by
 rcases h1 with⟨_,rfl⟩|⟨_,rfl⟩<;>rcases h2 with⟨_,rfl⟩|⟨_,rfl⟩<;>rfl
inductive Oi(vs:List V)(H:Hp)(Q:VK):Prop
 |mk (fa:Addr) (ps:bA) (F:List Fc) (k a:Str) (o:V) (aC:vs=[.ref fa,.str k,.str a,o]) (aS:FL H ps fa F) (fo:Flat o) (q:∀H',aj H H'->Q (.bl (oZ ps F k a o)) H'):Oi vs H Q
def Py:Sp:=λvs H Q _=>Oi vs H Q
inductive Pz(vs:List V)(H:Hp)(Q:VK)(E:XK):Prop
 |mk (sd:Addr) (ps:bA) (k:Str) (i j:Nat) (aC:vs=[.ref sd,.str k,.str (au ps i),.str (au ps j)]) (hs:H sd=some (.dK (gw ps))) (nd:(ps.map (·.1)).Nodup) (hi:i<ps.length) (hj:j<ps.length) (hk:k="mother"\/k="father"\/k="wed"\/k="sibling") (q:∀H',aj H H'->Q (.bl (k9 k (fJ ps i) (fJ ps j))) H')
def Oj(ok:cM xs ys b):y∈gm b a↔∃c∈b.F,cO c.k=true/\au b.ps c.one=a/\kV (bo b.ps c)=.str y:=by
 constructor
 ·intro h;obtain⟨v,hv,rfl⟩:=Yh.mp (show y∈(oQ b a).map strOf from h);unfold oQ at hv;obtain⟨k,_,e⟩:=Ji.mp hv;obtain⟨p,hp,h1,h2,h3,rfl,h5⟩:=Pn ok e;have ns:p.2.k≠bH:=λz=>by
   rw[z] at h1;exact absurd h1 (by decide+kernel)
  exact⟨p.2,Yh.mpr ⟨p,hp,rfl⟩,h1,h3,by rw[jh ns];rfl⟩
 ·rintro⟨c,hc,h1,rfl,h3⟩;obtain⟨p,hp,rfl⟩:=Yh.mp (show c∈b.fs.map (·.2) from hc);have mm:(([.inr p.2.k,.inr (au b.ps p.2.one)]:List Key),kV (bo b.ps p.2))∈cj b.ps b.fs:=Yh.mpr ⟨p,Y5.mpr ⟨hp,h1⟩,rfl⟩;have e:=Pc ok.pr mm;refine Yh.mpr ⟨.str y,?_,rfl⟩;unfold oQ;refine Ji.mpr ⟨p.2.k,?_,by rw[e,h3]⟩;unfold cO at h1;rw[Lr,decide_eq_true_iff,decide_eq_true_iff] at h1;rcases h1 with z|z<;>rw[z];·exact Yo
  ·exact Yw _ Yo
structure wg(b:BS)(a:Str)(ks:List Str):Prop where
 nd:ks.Nodup
 sd:∀k∈ks,f_ b a k
 ma:a∈ks
def wg.len(u:wg b a ks)(ok:cM xs ys b)(ma:a∈b.ps.map (·.1)):ks.length<=b.ps.length:=by
 have:=u.nd.length_le_of_subset (l₂:=b.ps.map (·.1)) λk hk=>z9 ok ma (u.sd k hk)
 grind
theorem wg.all(u:wg b a ks)(cl:∀r,r<ks.length->∀k,ks[r]?=some k->∀p∈gm b k,p∈ks)(z:Str):z∈ks↔f_ b a z:=by
 refine⟨u.sd z,λh=>?_⟩;induction h with
 |refl=>exact u.ma
 |step _ hy ih=>
  obtain⟨r,hr,er⟩:=Ws.mp ih;exact cl r hr _ (by rw[Yc hr,er]) _ hy
inductive S3(vs:List V)(H:Hp)(Q:VK)(E:XK):Prop
 |mk (fa:Addr) (xs ys:List Int) (b:BS) (a:Str) (aC:vs=[.ref fa,.str a]) (aS:FL H b.ps fa b.F) (ok:cM xs ys b) (ma:a∈b.ps.map (·.1)) (q:∀(p:Addr) (ks:List Str) (H':Hp),aj H H'->H' p=some (.lst (ks.map V.str))->(∀z,z∈ks↔f_ b a z)->Q (.ref p) H')
def muU(m:Nat):St->Hp->Nat:=λσ _=>match List.getD (α:=Option V) σ 3 none with|some (V.int z)=>m+1-z.toNat|_=>0
inductive Vs(H:Hp)(b:BS)(a:Str)(fa bu:Addr)(σ:St)(H6:Hp):Prop
 |mk (ks:List Str) (r:Nat) (o4 o5 o6 o7:Option V) (g:aj H H6) (hr:H6 bu=some (.lst (ks.map V.str))) (up:wg b a ks) (rl:r<=ks.length) (cl:∀r',r'<r->∀k,ks[r']?=some k->∀p∈gm b k,p∈ks) (e:σ=[some (.ref fa),some (.str a),some (.ref bu),some (.int (r:Int)),o4,o5,o6,o7]):Vs H b a fa bu σ H6
inductive Ls(H:Hp)(b:BS)(a:Str)(fa bu:Addr)(r:Nat)(qZ:List Str)(k:Str)(j:Nat)(σ:St)(H6:Hp):Prop
 |mk (ks tl:List Str) (o4 o5 o6 o7:Option V) (g:aj H H6) (hr:H6 bu=some (.lst (ks.map V.str))) (up:wg b a ks) (ek:ks=qZ++tl) (cl:∀c∈b.F.take j,cO c.k=true->au b.ps c.one=k->∀y,kV (bo b.ps c)=.str y->y∈ks) (e:σ=[some (.ref fa),some (.str a),some (.ref bu),some (.int (r:Int)),o4,o5,o6,o7]):Ls H b a fa bu r qZ k j σ H6
def Zab(h:Flat o):jn o=true:=by
 rcases h with⟨_,rfl⟩|⟨_,rfl⟩<;>rfl
def Nq(ks:List Str):(ks.map V.str).all jn=true:=by
 rw[Wm];intro v hv;obtain⟨k,_,rfl⟩:=Yh.mp hv;rfl
def IS(y:Str)(ks:List Str):fq (.str y) (ks.map V.str)=true↔y∈ks:=by
 unfold fq;rw[JY];constructor
 ·rintro⟨v,hv,e⟩;obtain⟨k,hk,rfl⟩:=Yh.mp hv;have:(k==y)=true:=e
  grind
 ·intro h;exact⟨.str y,Yh.mpr ⟨y,h,rfl⟩,by show(y==y)=true;rw[beq_iff_eq]⟩
section
variable {K:ah}{mg:aQ}
abbrev IT:List Str:=["_law_facts","_law_kind","_law_one","_law_other"]
def wG:aP ["_law_facts","_law_kind","_law_one","_law_other","_law_number","_law_had","_law_here","_law_there"] IT (aF E7):=.aX
def Zc(F:aN K "_law_told" "_law_told" E7 f fd):aE P w K mg base aM 1 f fd IT Py:=by
 refine F.o wG λs H hr h=>?_;obtain⟨fa,ps,F,k,a,o,rfl,fY,fo,q⟩:=h;refine⟨_,(aq (fP PassesOwn.never rfl (eI (K:=K) rfl (pv 0)) (jj (K:=K) (n:=4) rfl rfl (bR (bF 4 wG.nd) (bR (bF 5 wG.nd) (bR (bF 6 wG.nd) (bR (bF 7 wG.nd) ji))))) (aq (aV (PW.pt (pw_and (bG cv (pv 5) (pv 1)) (pw_and (bG cv (pv 6) (pv 2)) (pw_and1 (PW.pt (pw_or (bG cv (pv 7) (pv 3)) (pw_or1 (iG (mP (K:=K) rfl) (pv 1) (c6 (aa bc (aa bc ae))) (by with_unfolding_all rfl))))))))) (av (aG jF)) aZ) (av (aV (PW.pt (pw_and (bG cv (pv 5) (pv 1)) (pw_and (bG cv (pv 1) bc) (pw_and (bG cv (pv 7) (pv 2)) (pw_and1 (bG cv (pv 6) (pv 3))))))) (av (aG jF)) aZ)))) (av (aG (ql (eO cv (pv 1) bc) (nj (eO cv (pv 2) (pv 3))))))),?_⟩;obtain⟨as,di,al,gt⟩:=fY.get;refine gI (λσ H6=>aj H H6/\F.any (mH ps k a o)=false/\∃o4 o5 o6 o7:Option V,σ=[some (.ref fa),some (.str k),some (.str a),some o,o4,o5,o6,o7]) (λnW eV=>?_) ?_
 ·refine⟨_,rfl,fa,rfl,⟨_,ak.of di⟩,je (K:=K) (a:=fa) (xs:=as.map V.ref) (λj σ H6=>aj H H6/\(F.take j).any (mH ps k a o)=false/\∃o4 o5 o6 o7:Option V,σ=[some (.ref fa),some (.str k),some (.str a),some o,o4,o5,o6,o7])
   ⟨aj.refl _,rfl,none,none,none,none,rfl⟩ (λj σ H6 _ ⟨g,_⟩=>ak.of (g _ _ di)) ?_ ?_⟩
  ·rintro j v σ H6 hj ⟨g,no,o4,o5,o6,o7,rfl⟩;obtain⟨c0,c,z,rfl,i6,rb,hc⟩:=gt H6 j v g hj;have hit:mH ps k a o c=true->oZ ps F k a o=true:=λh=>by
    unfold oZ;rw[JY.mpr ⟨c,Yg i6,h⟩];rfl
   refine⟨c0,_,rfl,aB.of hc,rfl,_,_,rfl,bg ⟨_,_,rfl,bg ⟨_,_,rfl,bg ⟨_,_,rfl,bg ⟨rfl,?_⟩⟩⟩⟩⟩;refine qp (λσ H7=>aj H H7/\(decide (c.k=k)&&(decide (au ps c.one=a)&&(decide (kV (bo ps c)=o)||cO k)))=false/\σ=[some (.ref fa),some (.str k),some (.str a),some o,some (.int z),some (.str c.k),some (.str (au ps c.one)),some (kV (bo ps c))]) (λpQ fS=>?_) ?_
   ·refine(Bt.and (Vt.test (Vt.eq (x:=.str c.k) (y:=.str k) (Vt.var rfl) (λ_ _=>Vt.var rfl) rfl)) λ_ _ _=>Bt.and (Vt.test (Vt.eq (x:=.str (au ps c.one)) (y:=.str a) (Vt.var rfl) (λ_ _=>Vt.var rfl) rfl)) λ_ _ _=>Bt.or (Vt.test (Vt.eq (x:=kV (bo ps c)) (y:=o) (Vt.var rfl) (λ_ _=>Vt.var rfl) (zP (Ar _) fo))) λ_ _ _=>Vt.test (Vt.H_ (k:=k) (Vt.var rfl))) _ λH7 g7=>?_;rw[dU,dU];refine bJ (λcc=>?_) (λcc=>?_)
    ·have:=hit (by unfold mH;rw[Wl] at cc⊢;exact⟨cc.1,by rw[cc.2];rfl⟩);rw[this] at q;exact q H7 (g.trans g7)
    ·exact aY (fS _ _ ⟨g.trans g7,Jn.mpr cc,rfl⟩)
   ·rintro σ H7 ⟨g7,no1,rfl⟩;refine(Bt.and (Vt.test (Vt.eq (x:=.str c.k) (y:=.str k) (Vt.var rfl) (λ_ _=>Vt.var rfl) rfl)) λ_ _ _=>Bt.and (Vt.test (Vt.eq (x:=.str k) (y:=.str "sibling") (Vt.var rfl) (λ_ _=>Vt.c) rfl)) λ_ _ _=>Bt.and (Vt.test (Vt.eq (x:=kV (bo ps c)) (y:=.str a) (Vt.var rfl) (λ_ _=>Vt.var rfl) (zP (Ar _) (.inr ⟨_,rfl⟩)))) λ_ _ _=>Vt.test (Vt.eq (x:=.str (au ps c.one)) (y:=o) (Vt.var rfl) (λ_ _=>Vt.var rfl) (zP (.inr ⟨_,rfl⟩) fo))) _ λH8 g8=>?_;rw[dU,dU];refine bJ (λcc=>?_) (λcc=>aY ?_)
    ·have:=hit (by unfold mH;rw[Wl] at cc⊢;exact⟨cc.1,by rw[cc.2,Bool.or_true]⟩);rw[this] at q;exact q H8 (g7.trans g8)
    ·refine⟨g7.trans g8,?_,_,_,_,_,rfl⟩;rw[rb,List.any_append,no,BZ,Jm,List.any_nil,Bool.or_false];unfold mH;rw[Bool.and_or_distrib_left,no1,BZ];exact Jn.mpr cc
  ·rintro σ H6 ⟨g,no,o4,o5,o6,o7,rfl⟩;rw[Ya,al,Wb] at no;exact eV _ _ ⟨g,no,o4,o5,o6,o7,rfl⟩
 rintro σ H6 ⟨g,no,o4,o5,o6,o7,rfl⟩;refine(Vt.S2 (Vt.eq (x:=.str k) (y:=.str "sibling") (Vt.var rfl) (λ_ _=>Vt.c) rfl) λ_ _ _=>Vt.eq (x:=.str a) (y:=o) (Vt.var rfl) (λ_ _=>Vt.var rfl) (zP (.inr ⟨_,rfl⟩) fo)) _ λH7 g7=>?_;have e:=q H7 (g.trans g7);unfold oZ at e;rw[no,BZ] at e;rw[dU];exact e
abbrev Bv:List Str:=["_law_sides","_law_kind","_law_one","_law_other"]
def X3:aP Bv Bv (aF Ey):=.aX
def X4(F:aN K "_law_sided" "_law_sided" Ey f fd):aE P w K mg base aM 1 f fd Bv Pz:=by
 refine F.o X3 λs H hr h=>?_;obtain⟨sd,ps,k,i,j,rfl,hs,nd,hi,hj,hk,q⟩:=h;refine⟨_,(aq (aV (bG cv (pv 1) bc) (av (aG (eO cv (dk (bw hr) (pv 0) (pv 3) (λ_ _=>rfl)) bc))) aZ) (aq (aV (bG cv (pv 1) bc) (av (aG (eO cv (dk (bw hr) (pv 0) (pv 3) (λ_ _=>rfl)) bc))) aZ) (av (aG (Hm (eO l_ (pv 1) bc) (nj (ql (eO cv (dk (bw hr) (pv 0) (pv 2) (λ_ _=>rfl)) bc) (nj (eO cv (dk (bw hr) (pv 0) (pv 3) (λ_ _=>rfl)) bc))))))))),?_⟩;have gj:=cV hs (oK nd hj);refine⟨_,rfl,rfl,_,rfl,?_⟩;rw[dU];refine bJ (λcc=>?_) (λcc=>aY ?_)
 ·have e:k="mother":=of_decide_eq_true cc;refine⟨_,rfl,_,rfl,sd,_,rfl,gj,rfl,?_⟩;rw[dU];unfold k9 at q;rw[if_pos e] at q;exact q H (aj.refl _)
 have n1:k≠"mother":=λz=>cc (decide_eq_true z);refine⟨_,rfl,rfl,_,rfl,?_⟩;rw[dU];refine bJ (λcc=>?_) (λcc=>aY ?_)
 ·have e:k="father":=of_decide_eq_true cc;refine⟨_,rfl,_,rfl,sd,_,rfl,gj,rfl,?_⟩;rw[dU];unfold k9 at q;rw[if_neg n1,if_pos e] at q;exact q H (aj.refl _)
 have n2:k≠"father":=λz=>cc (decide_eq_true z);have e3:(!decide (k="wed"))=decide (k="sibling"):=by
  rcases hk with z|z|z|z;·exact absurd z n1
  ·exact absurd z n2
  ·rw[z];decide+kernel
  ·rw[z];decide+kernel
 refine(Vt.orV (a:=decide (k="sibling")) (b:=decide (fJ ps i="man")&&decide (fJ ps j="woman")) ?_ λH1 _ g1=>Vt.S2 (a:=decide (fJ ps i="man")) ?_ λH2 _ g2=>?_) _ λH' g'=>?_
 ·rw[←e3,←dU];exact Vt.ne (Vt.var rfl) (λ_ _=>Vt.c) rfl
 ·rw[←dU];exact Vt.eq (λk hk=>⟨_,rfl,_,rfl,sd,_,rfl,cV (g1 _ _ hs) (oK nd hi),hk _ (aj.refl _)⟩) (λ_ _=>Vt.c) rfl
 ·rw[←dU];exact Vt.eq (λk hk=>⟨_,rfl,_,rfl,sd,_,rfl,cV (g2 _ _ (g1 _ _ hs)) (oK nd hj),hk _ (aj.refl _)⟩) (λ_ _=>Vt.c) rfl
 ·unfold k9 at q;rw[if_neg n1,if_neg n2] at q;exact q H' g'
abbrev IU:List Str:=["_law_facts","_law_name_here"]
def qb:aP ["_law_facts","_law_name_here","_law_row_here","_law_at","_law_number","_law_kind","_law_one","_law_other"] IU (aF F9):=.aX
def Zbb(F:aN K "_law_up" "_law_up" F9 f fd)(bl:Bl mg):aE P w K mg base aM 1 f fd IU S3:=by
 refine F.o qb λs H hr h=>?_;obtain⟨fa,xs,ys,b,a,rfl,fY,ok,ma,q⟩:=h;refine⟨_,(aq (bU 2 qb.nd (dw (aa (pv 1) ae))) (aq (bU 3 qb.nd aO) (aq (F2 PassesOwn.never (bG nF (pv 3) (dq K bl (pv 2))) (aq (fP PassesOwn.never rfl (eI (K:=K) rfl (pv 0)) (jj (K:=K) (n:=4) rfl rfl (bR (bF 4 qb.nd) (bR (bF 5 qb.nd) (bR (bF 6 qb.nd) (bR (bF 7 qb.nd) ji))))) (av (aV (PW.pt (pw_and (iG (mP (K:=K) rfl) (pv 5) (c6 (aa bc (aa bc ae))) (by with_unfolding_all rfl)) (pw_and (bG cv (pv 6) (bj (iL K) (pv 2) (pv 3))) (pw_and1 (iG (GV (K:=K) rfl) (pv 7) (pv 2) (by with_unfolding_all rfl)))))) (av (b_ (nA (K:=K) rfl (ka plainAttrs_list PySem.F.slot_list_append PySem.F.type_list_append oz (pv 2) (aa (pv 7) ae))))) aZ))) (av (PX (i:=3) qb.nd rfl (Or.inl rfl) aO PY)))) (av (aG (pv 2)))))),?_⟩;have sz:(10000:Nat)<=sizeLine:=by rw[sizeLine_eq];omega
 obtain⟨as,di,al,gt⟩:=fY.get;have Vu:=ok.m;refine cz ?_;refine⟨_,rfl,by show 1<=sizeLine;omega,λbu H1 y6 g1 Lm=>?_⟩;refine setC ?_;refine gI (λσ H6=>∃ks:List Str,aj H H6/\H6 bu=some (.lst (ks.map V.str))/\(∀z,z∈ks↔f_ b a z)/\∃o3 o4 o5 o6 o7:Option V,σ=[some (.ref fa),some (.str a),some (.ref bu),o3,o4,o5,o6,o7]) (λnW eV=>?_) ?_
 ·refine F3 (Vs H b a fa bu) (muU b.ps.length) ⟨[a],0,none,none,none,none,g1,Lm,⟨Yz.mpr ⟨(λz=>nomatch z),Ja⟩,λk hk=>by rw[Yk.mp hk];exact .refl,Yo⟩,Yx _,λr hr=>absurd hr (Wk _),rfl⟩ ?_ ?_
  ·rintro σ H6 ⟨ks,r,o4,o5,o6,o7,g6,oi,up,rl,cl,rfl⟩;have kl:(ks.map V.str).length=ks.length:=Ya _;have gl:=up.len ok ma;refine⟨_,rfl,_,rfl,bu,_,rfl,.inl (ak.of oi),_,_,rfl,rfl,_,rfl,?_⟩;rw[kl];refine bJ (λc=>?_) (λc=>?_)
   ·have wb:r<ks.length:=by have:=of_decide_eq_true c;omega
    obtain⟨k,ek⟩:∃k,ks[r]?=some k:=⟨_,Yc wb⟩;have mk:k∈ks:=Yg ek;refine gI (Ls H b a fa bu r ks k b.F.length) (λCB n_=>?_) ?_
    ·refine⟨_,rfl,fa,rfl,⟨_,ak.of (g6 _ _ di)⟩,je (K:=K) (a:=fa) (xs:=as.map V.ref) (Ls H b a fa bu r ks k) ⟨ks,[],o4,o5,o6,o7,g6,oi,up,by rw[Wd],λc hc=>(nomatch hc),rfl⟩ (λj σ H8 _ ⟨_,_,_,_,_,_,g,_,_,_,_,_⟩=>ak.of (g _ _ di)) ?_ ?_⟩
     ·rintro j v σ H8 hj ⟨eQ,tl,p4,p5,p6,p7,g8,kM,rp,e8,i_,rfl⟩;obtain⟨c0,c,z,rfl,i6,rb,hc⟩:=gt H8 j v g8 hj;have mc:c∈b.F:=Yg i6;have CT:eQ[r]?=some k:=by rw[e8,We wb];exact ek
      have gl8:=rp.len ok ma;refine⟨c0,_,rfl,aB.of hc,rfl,_,_,rfl,bg ⟨_,_,rfl,bg ⟨_,_,rfl,bg ⟨_,_,rfl,bg ⟨rfl,?_⟩⟩⟩⟩⟩;refine(Bt.and (Vt.test (Vt.H_ (k:=c.k) (Vt.var rfl))) λHA _ gA=>Bt.and (Vt.test (Vt.eq (x:=.str (au b.ps c.one)) (y:=.str k) (Vt.var rfl) (λHB gB kk hk=>⟨_,rfl,_,rfl,bu,_,_,_,rfl,rfl,ak.of (gB _ _ (gA _ _ kM)),iH (by rw[Ye,CT];rfl),hk _ (aj.refl _)⟩) rfl)) λHB _ gB=>Vt.test (b:=!fq (kV (bo b.ps c)) (eQ.map V.str)) λkk hk=>⟨_,rfl,_,rfl,bu,_,rfl,.inl (ak.of (gB _ _ (gA _ _ kM))),Zab (Ar _),Nq _,hk _ (aj.refl _)⟩) _ λH9 g9=>?_;rw[dU];have wc:∀jQ:List Str,(∀x∈eQ,x∈jQ)->(cO c.k=true->au b.ps c.one=k->∀y,kV (bo b.ps c)=.str y->y∈jQ)->∀c'∈b.F.take (j+1),cO c'.k=true->au b.ps c'.one=k->∀y,kV (bo b.ps c')=.str y->y∈jQ:=λjQ sub hh c' m' h1 h2 y h3=>by
       rw[rb] at m';rcases Yq.mp m' with m'|m';·exact sub _ (i_ c' m' h1 h2 y h3)
       ·rw[Yk.mp m'] at h1 h2 h3;exact hh h1 h2 y h3
      refine bJ (λcc=>?_) (λcc=>aY ?_)
      ·rw[Wl,Wl,decide_eq_true_iff] at cc;obtain⟨c1,c2,c3⟩:=cc;have ns:c.k≠bH:=λz=>by rw[z] at c1;exact absurd c1 (by decide+kernel)
       have eo:kV (bo b.ps c)=.str (au b.ps c.aI.toNat):=by rw[jh ns];rfl
       have t8:=g9 _ _ kM;refine⟨_,rfl,.inl ⟨rfl,_,ak.of t8⟩,_,rfl,bu,_,_,rfl,rfl,t8,by rw[Ya];omega,λlH y9 pL=>?_⟩;have no:au b.ps c.aI.toNat∉eQ:=λz=>by
        rw[eo,(IS _ _).mpr z] at c3;cases c3
       refine⟨eQ++[au b.ps c.aI.toNat],tl++[au b.ps c.aI.toNat],_,_,_,_,λd o e=>y9 _ _ (g9 _ _ (g8 _ _ e)) (bY e y6),by rw[pL,Ym,eo];rfl,⟨?_,λx hx=>?_,Yt _ rp.ma⟩,by rw[e8,Jo],wc _ (λx hx=>Yt _ hx) λ_ _ y hy=>?_,rfl⟩
       ·refine Wv.mpr ⟨rp.nd,by simp,λu hu w hw z=>?_⟩;rw[Yk] at hw;rw[z,hw] at hu;exact no hu
       ·rcases Yq.mp hx with hx|hx;·exact rp.sd x hx
        ·rw[Yk.mp hx];exact .step (rp.sd k (Yg CT)) ((Oj ok).mpr ⟨c,mc,c1,c2,eo⟩)
       ·rw[eo] at hy;rw[←V.str.inj hy];exact Yr _ Yo
      ·refine⟨eQ,tl,_,_,_,_,g8.trans g9,g9 _ _ kM,rp,e8,wc _ (λ_ h=>h) λh1 h2 y h3=>?_,rfl⟩;rw[h1,J1,decide_eq_true h2,J1,h3] at cc;by_cases z:y∈eQ;·exact z
       ·exact absurd (by rw[Jn.mpr (λw=>z ((IS _ _).mp w))];rfl) cc
     ·grind
    ·rintro σ H8 ⟨eQ,tl,p4,p5,p6,p7,g8,kM,rp,e8,i_,rfl⟩;rw[Wb] at i_;have CT:eQ[r]?=some k:=by rw[e8,We wb];exact ek
     refine⟨_,rfl,_,_,rfl,rfl,?_⟩;refine⟨⟨eQ,r+1,p4,p5,p6,p7,g8,kM,rp,by rw[e8,Yi];omega,λr' h' x hx p hp=>?_,rfl⟩,?_⟩
     ·by_cases z:r'=r
      ·rw[z,CT] at hx;cases hx;obtain⟨c,mc,h1,h2,h3⟩:=(Oj ok).mp hp;exact i_ c mc h1 h2 p h3
      ·rw[e8,We (by omega)] at hx;rw[e8];exact Yt _ (cl r' (by omega) x hx p hp)
     ·show b.ps.length+1-((r:Int)+1).toNat<b.ps.length+1-((r:Int)).toNat;omega
   ·have re:¬((r:Int)<(ks.length:Int)):=λz=>c (decide_eq_true z);exact eV _ _ ⟨ks,g6,oi,up.all (λr' h'=>cl r' (by omega)),_,_,_,_,_,rfl⟩
  ·rintro σ H6 Q1 Q2 mo ⟨v1,w1,v2,w2,v3,v4,w3,w4,v5,v6,w5,w6,v7,w7,h⟩;exact⟨v1,w1,v2,w2,v3,v4,w3,w4,v5,v6,w5,w6,v7,w7,mo _ _ h⟩
 rintro σ H6 ⟨ks,g6,oi,al,o3,o4,o5,o6,o7,rfl⟩;exact⟨_,rfl,q bu ks H6 g6 oi al⟩
end
open Classical in
noncomputable def nH (n:Nat) (b:BS) (c:Fc):Str:=if c.k≠bH/\k9 c.k (fJ b.ps c.one) (fJ b.ps c.aI.toNat)=false then"wrong side" else if oZ b.ps b.F c.k (au b.ps c.one) (kV (bo b.ps c))=true then"told twice" else if cO c.k=true/\f_ b (au b.ps c.aI.toNat) (au b.ps c.one) then"own elder" else if ic (b.F++[c]) n c.one=[] then"barred" else""
inductive QY(vs:List V)(H:Hp)(Q:VK)(E:XK):Prop
 |mk (sd fa td ff:Addr) (xs ys:List Int) (b:BS) (c:Fc) (aC:vs=[.ref sd,.ref fa,.ref td,.ref ff]) (hs:H sd=some (.dK (gw b.ps))) (hf:FL H b.ps fa b.F) (ht:fK H td xs ys) (hc:H ff=some (.tup [.str c.k,.str (au b.ps c.one),kV (bo b.ps c)])) (ok:cM xs ys b) (fg:dQ xs ys b.ps.length c) (q:∀H',aj H H'->Q (.str (nH xs.length b c)) H')
def Zfk(fg:dQ xs ys m c)(ns:c.k≠bH):c.k="mother"\/c.k="father"\/c.k="wed"\/c.k="sibling":=by
 have h:=fg.u4 ns
 grind
section
variable {K:ah}{mg:aQ}
abbrev IV:List Str:=["_law_sides","_law_facts","_law_turns_here","_law_fact_here"]
def zu:aP ["_law_sides","_law_facts","_law_turns_here","_law_fact_here","_law_kind","_law_one","_law_other"] IV (aF E8):=.aX
open Classical in
theorem Zd(F:aN K "_law_word" "_law_word" E8 f fd)(ET:HasFn P w K mg base 1 "_law_sided" Bv Pz)(Fo:HasFn P w K mg base 1 "_law_told" IT Py)(Gk:HasFn P w K mg base 1 "_law_up" IU S3)(rH:HasFn P w K mg base 3 "_law_room" Bu Hg)(bl:Bl mg):aE P w K mg base aM 4 f fd IV QY:=by
 refine F.o zu λs H hr h=>?_;obtain⟨sd,fa,td,ff,xs,ys,b,c,rfl,hs,hf,ht,hc,ok,fg,q⟩:=h;have hu:=hr.uT;refine⟨_,(aq (nv (pv 3) (jj (K:=K) (n:=3) rfl rfl (bR (bF 4 zu.nd) (bR (bF 5 zu.nd) (bR (bF 6 zu.nd) ji))))) (aq (aV (bG cv (pv 4) bc) (aq (aV (jE (m5 (bw hr) (pv 5) (pv 0)) (by with_unfolding_all rfl)) (av (aG bc)) aZ) (av (aV (PW.pt (pw_or (bG nF (pv 6) aO) (pw_or1 (bG ZfA (pv 6) (dq K bl (dk (bw hr) (pv 2) bc (λ_ _=>rfl))))))) (av (aG bc)) aZ))) (aq (aV (jE (m5 (bw hr) (pv 4) (pv 2)) (by with_unfolding_all rfl)) (av (aG bc)) aZ) (aq (aV (PW.pt (pw_or (jE (m5 (bw hr) (pv 5) (pv 0)) (by with_unfolding_all rfl)) (pw_or1 (jE (m5 (bw hr) (pv 6) (pv 0)) (by with_unfolding_all rfl))))) (av (aG bc)) aZ) (av (aV (j_ (eY (aW ET hr (aa (pv 0) (aa (pv 4) (aa (pv 5) (aa (pv 6) ae))))))) (av (aG bc)) aZ))))) (aq (aV (eY (aW Fo hr (aa (pv 1) (aa (pv 4) (aa (pv 5) (aa (pv 6) ae)))))) (av (aG bc)) aZ) (aq (aV (PW.pt (pw_and (iG (mP (K:=K) rfl) (pv 4) (c6 (aa bc (aa bc ae))) (by with_unfolding_all rfl)) (pw_and1 (iG (mP (K:=K) rfl) (pv 5) (aW Gk hr (aa (pv 1) (aa (pv 6) ae))) (by with_unfolding_all rfl))))) (av (aG bc)) aZ) (aq (aV (bG (Qe hu) (aW rH hr (aa (a_ rQ (pv 1) (dw (aa (c6 (aa (a_ As aO aO) (aa (pv 4) (aa (pv 5) (aa (pv 6) ae))))) ae))) (aa (pv 2) (aa (pv 5) ae)))) (dw ae)) (av (aG bc)) aZ) (av (aG bc))))))),?_⟩;have sz:(10000:Nat)<=sizeLine:=by rw[sizeLine_eq];omega
 have one:=fg.ok.one;have g1:=oK ok.nm one;refine⟨_,rfl,ff,_,rfl,aB.of hc,rfl,_,_,rfl,bg ⟨_,_,rfl,bg ⟨_,_,rfl,bg ⟨rfl,?_⟩⟩⟩⟩;dsimp only;refine qp (λσ H7=>aj H H7/\¬(c.k≠bH/\k9 c.k (fJ b.ps c.one) (fJ b.ps c.aI.toNat)=false)/\σ=[some (.ref sd),some (.ref fa),some (.ref td),some (.ref ff),some (.str c.k),some (.str (au b.ps c.one)),some (kV (bo b.ps c))]) (λpQ fS=>?_) ?_
 ·refine⟨_,rfl,rfl,_,rfl,?_⟩;rw[dU];refine bJ (λcc=>?_) (λcc=>?_)
  ·have sk:c.k=bH:=of_decide_eq_true cc;have eo:kV (bo b.ps c)=.int c.aI:=by rw[m6 sk];rfl
   refine⟨_,rfl,_,rfl,sd,_,rfl,cV hs g1,_,rfl,bW (aY ?_)⟩;obtain⟨s0,s1⟩:=fg.IH sk;obtain⟨_,_,_,u0,fE,_,_,_,we⟩:=id ht;refine(Bt.or (a:=decide (c.aI<0)) (b:=decide ((((bp xs.length).map V.int).length:Int)<=c.aI)) (λk hk=>⟨_,rfl,c.aI,0,eo,rfl,_,rfl,hk _ (aj.refl _)⟩) λH1 _ g1 k hk=>⟨_,rfl,_,rfl,td,.ref u0,rfl,cV (g1 _ _ fE) rfl,u0,_,rfl,.inr (aB.of (g1 _ _ we)),c.aI,_,eo,rfl,_,rfl,hk _ (aj.refl _)⟩) _ λH2 g2=>?_;rw[decide_eq_false (by omega),decide_eq_false (by rw[Ya,eG];omega)];exact bW (aY (fS _ _ ⟨g2,λz=>z.1 sk,rfl⟩))
  ·have ns:c.k≠bH:=λz=>cc (decide_eq_true z);have eo:kV (bo b.ps c)=.str (au b.ps c.aI.toNat):=by rw[jh ns];rfl
   obtain⟨tk,u,fE,vu,_⟩:=ht.get (fg.u4 ns);have g2:=oK ok.nm (fg.ok.hU ns).1.2;refine⟨_,rfl,_,rfl,td,_,rfl,cV fE vu,_,rfl,bW (aY ?_)⟩;refine(Bt.or (a:=false) (b:=false) (λk hk=>⟨_,rfl,_,rfl,sd,_,rfl,cV hs g1,_,rfl,hk _ (aj.refl _)⟩) λH1 _ g1 k hk=>⟨_,rfl,_,rfl,sd,some (.str (fJ b.ps c.aI.toNat)),rfl,(by rw[eo];exact cV (g1 _ _ hs) g2),_,rfl,hk _ (aj.refl _)⟩) _ λH2 g2=>bW (aY ?_);refine⟨_,rfl,_,rfl,_,rfl,_,rfl,sd,b.ps,c.k,c.one,c.aI.toNat,by rw[eo];rfl,g2 _ _ hs,ok.nm,one,(fg.ok.hU ns).1.2,Zfk fg ns,λH3 g3=>⟨_,rfl,?_⟩⟩;cases es:k9 c.k (fJ b.ps c.one) (fJ b.ps c.aI.toNat) with
   |true=>exact bW (aY (fS _ _ ⟨g2.trans g3,λz=>by rw[es] at z;exact absurd z.2 (by decide),rfl⟩))
   |false=>
    refine cY ?_;have e:nH xs.length b c="wrong side":=if_pos ⟨ns,es⟩;rw[e] at q;exact q _ (g2.trans g3)
 rintro σ H7 ⟨g7,nw,rfl⟩;refine⟨_,rfl,_,rfl,_,rfl,_,rfl,fa,b.ps,b.F,c.k,au b.ps c.one,kV (bo b.ps c),rfl,hf.same g7,Ar _,λH8 g8=>⟨_,rfl,?_⟩⟩;have Lu:=g7.trans g8;unfold nH at q;rw[if_neg nw] at q;refine bJ (λct=>?_) (λct=>aY ?_)
 ·rw[if_pos ct] at q;exact q _ Lu
 rw[if_neg ct] at q;refine(Bt.and (b:=decide (f_ b (au b.ps c.aI.toNat) (au b.ps c.one))) (Vt.test (Vt.H_ (k:=c.k) (Vt.var rfl))) λH9 ip g9 k hk=>?_) _ λH9 g9=>?_
 ·have ns:c.k≠bH:=λz=>by rw[z] at ip;exact absurd ip (by decide+kernel)
  have eo:kV (bo b.ps c)=.str (au b.ps c.aI.toNat):=by rw[jh ns];rfl
  refine⟨_,rfl,_,rfl,_,rfl,fa,xs,ys,b,au b.ps c.aI.toNat,by rw[eo];rfl,hf.same (Lu.trans g9),ok,rT (fg.ok.hU ns).1.2,λp ks H' g' hp al=>⟨p,_,rfl,.inl (ak.of hp),rfl,Nq _,_,rfl,?_⟩⟩;have e:fq (V.str (au b.ps c.one)) (ks.map V.str)=decide (f_ b (au b.ps c.aI.toNat) (au b.ps c.one)):=by
   rw[Wj,decide_eq_true_iff,IS,al]
  rw[e];exact hk _ g'
 have CU:=Lu.trans g9;refine bJ (λcu=>?_) (λcu=>aY ?_)
 ·rw[Wl,decide_eq_true_iff] at cu;rw[if_pos cu] at q;exact q _ CU
 rw[Wl,decide_eq_true_iff] at cu;rw[if_neg cu] at q;obtain⟨as,di,dY⟩:=hf.same CU;have al:=cU dY;have fl:=ok.fl;have Fl:b.F.length=b.fs.length:=Ya _;refine⟨_,rfl,_,_,rfl,rfl,_,rfl,_,rfl,_,rfl,by show 4<=sizeLine;omega,λt Ht nt gt Lv=>⟨by show 1<=sizeLine;omega,λl Hl nl gl hl=>⟨fa,l,_,_,rfl,rfl,gl _ _ (gt _ _ di),hl,by rw[Ya];show _+1<=_;omega,λp Hp np gp hp=>⟨_,rfl,_,rfl,?_⟩⟩⟩⟩;have Lw:=(gt.trans gl).trans gp;refine⟨p,td,b.ps,xs,ys,b.F++[c],c.one,rfl,⟨as++[t],by rw[hp,Ym];rfl,jD (F:=Lk Hp b.ps) ⟨-1,gp _ _ (gl _ _ Lv)⟩ (L2.Paired.bq dY λ_ _ ⟨z,e⟩=>⟨z,Lw _ _ e⟩)⟩,ht.same (CU.trans Lw),ok.nm,λc' qK=>?_,ok.gd.2.2.2.2,by have:=ok.m;omega,by rw[Yi];show _+1<=64;omega,one,λpr Hr npr gr hr2=>⟨by show 0<=sizeLine;omega,λe He ne ge he=>⟨pr,e,_,[],rfl,rfl,ak.of (ge _ _ hr2),ak.of he,_,rfl,?_⟩⟩⟩
 ·rcases Yq.mp qK with h|h
  ·obtain⟨pp,Lx,rfl⟩:=Yh.mp (show c'∈b.fs.map (·.2) from h);exact ok.fg pp Lx
  ·rw[Yk.mp h];exact fg
 have gE:=(CU.trans Lw).trans (gr.trans ge);refine bJ (λcr=>?_) (λcr=>aY ?_)
 ·rw[if_pos (of_decide_eq_true cr)] at q;exact q _ gE
 ·rw[if_neg (λz=>cr (decide_eq_true z))] at q;exact q _ gE
end
def PB(a b:Str):(L2.qA a b=a/\L2.qB a b=b)\/(L2.qA a b=b/\L2.qB a b=a):=by
 unfold L2.qA L2.qB;by_cases h1:b.cps.toList<a.cps.toList;·grind
 ·rw[if_neg h1];by_cases h2:a.cps.toList<b.cps.toList;·grind
  ·rw[if_neg h2];have e2:a=b:=by
    cases a with|mk ca=>cases b with|mk cb=>
     grind
   grind
theorem Ol{b:BS}{c:Fc}(h:oZ b.ps b.F c.k (au b.ps c.one) (kV (bo b.ps c))=false):fG b.ps c∉b.keys/\(cO c.k=true->[.inr c.k,.inr (au b.ps c.one)]∉(cj b.ps b.fs).map (·.1))/\¬(c.k="sibling"/\V.str (au b.ps c.one)=kV (bo b.ps c)):=by
 unfold oZ at h;rw[Bool.or_eq_false_iff] at h;obtain⟨h1,h2⟩:=h;have no:∀p∈b.fs,mH b.ps c.k (au b.ps c.one) (kV (bo b.ps c)) p.2=false:=λp hp=>by
  have:=Tp.mp h1 p.2 (Yh.mpr ⟨p,hp,rfl⟩);exact Jn.mpr this
 have Zhs:∀{u v:Key},u=v->kV u=kV v:=λe=>by rw[e]
 refine⟨λhk=>?_,λip hp=>?_,λ⟨e1,e2⟩=>?_⟩
 ·obtain⟨p,hp,e⟩:=Yh.mp hk;have n:=no p hp;have hit:p.2.k=c.k->((au b.ps p.2.one=au b.ps c.one/\bo b.ps p.2=bo b.ps c)\/(c.k="sibling"/\bo b.ps p.2=.inr (au b.ps c.one)/\Sum.inr (au b.ps p.2.one)=bo b.ps c))->False:=λe1 e2=>by
   have:mH b.ps c.k (au b.ps c.one) (kV (bo b.ps c)) p.2=true:=by
    unfold mH;rw[decide_eq_true e1,J1];rcases e2 with⟨e2,e3⟩|⟨e2,e3,e4⟩;·rw[decide_eq_true e2,decide_eq_true (Zhs e3)];rfl
    ·rw[decide_eq_true e2,decide_eq_true (show kV (bo b.ps p.2)=.str (au b.ps c.one) by rw[e3];rfl),decide_eq_true (show V.str (au b.ps p.2.one)=kV (bo b.ps c) by rw[←e4];rfl)];simp
   rw[this] at n;cases n
  unfold fG at e;cases oo:bo b.ps p.2 with
  |inl z1=>
   cases mW:bo b.ps c with
   |inl z2=>
    rw[oo,mW] at e;injection e with e1 e;injection e with e2 e;injection e with e3 _;exact hit (Wf e1) (.inl ⟨Wf e2,by rw[oo,mW,e3]⟩)
   |inr z2=>
    rw[oo,mW] at e;unfold keyOf at e;dsimp only at e;split at e
    ·injection e with e1 e;injection e with e2 e;injection e with e3 _;cases e3
    ·injection e with e1 e;injection e with e2 e;injection e with e3 _;cases e3
  |inr z1=>
   cases mW:bo b.ps c with
   |inl z2=>
    rw[oo,mW] at e;unfold keyOf at e;dsimp only at e;split at e
    ·injection e with e1 e;injection e with e2 e;injection e with e3 _;cases e3
    ·injection e with e1 e;injection e with e2 e;injection e with e3 _;cases e3
   |inr z2=>
    rw[oo,mW] at e;have ek:p.2.k=c.k:=by
     unfold keyOf at e;dsimp only at e;split at e<;>split at e<;>(injection e with e1 _;exact Wf e1)
    unfold keyOf at e;dsimp only at e;rw[ek] at e;by_cases sb:c.k="sibling"
    ·rw[if_pos sb,if_pos sb] at e;injection e with _ e;injection e with e2 e;injection e with e3 _;have e2:=Wf e2;have e3:=Wf e3;refine hit ek ?_;rcases PB (au b.ps p.2.one) z1 with⟨m1,m2⟩|⟨m1,m2⟩<;>rcases PB (au b.ps c.one) z2 with⟨m3,m4⟩|⟨m3,m4⟩<;>rw[m1,m3] at e2<;>rw[m2,m4] at e3;·exact .inl ⟨e2,by rw[oo,mW,e3]⟩
     ·exact .inr ⟨sb,by rw[oo,e3],by rw[mW,e2]⟩
     ·exact .inr ⟨sb,by rw[oo,e2],by rw[mW,e3]⟩
     ·exact .inl ⟨e3,by rw[oo,mW,e2]⟩
    ·rw[if_neg sb,if_neg sb] at e;injection e with _ e;injection e with e2 e;injection e with e3 _;exact hit ek (.inl ⟨Wf e2,by rw[oo,mW,e3]⟩)
 ·obtain⟨q,hq,e⟩:=Yh.mp hp;unfold cj at hq;obtain⟨p,hp,rfl⟩:=Yh.mp hq;obtain⟨lK,dh⟩:=Y5.mp hp;have n:=no p lK;injection e with e1 e;injection e with e2 _;unfold mH at n;rw[decide_eq_true (Wf e1),decide_eq_true (Wf e2),ip] at n;simp at n
 ·rw[decide_eq_true e1,decide_eq_true e2] at h2;cases h2
def Zbc(ok:cM xs ys b)(fg:dQ xs ys b.ps.length c)(h:ic (b.F++[c]) xs.length c.one≠[]):∃f,lQ xs.length b.ps.length f/\∀c'∈b.F++[c],eU f c':=by
 obtain⟨a,ha⟩:=List.exists_mem_of_ne_nil _ h;obtain⟨_,g,cl,hg⟩:=FT.mp ha;obtain⟨f0,inr,sat⟩:=ok.lv;have hV:∀c'∈b.F++[c],dP xs.length b.ps.length c':=λc' qK=>by
  rcases Yq.mp qK with h|h
  ·obtain⟨pp,Lx,rfl⟩:=Yh.mp (show c'∈b.fs.map (·.2) from h);exact(ok.fg pp Lx).ok
  ·rw[Yk.mp h];exact fg.ok
 obtain⟨f,h1,h2,_⟩:=L6 hV inr (λc' qK=>by
  rcases Yq.mp qK with h|h;·grind
  ·rw[Yk.mp h];exact .inl rfl) cl hg
 grind
def PD{xs:List Int}{b:BS}{c:Fc}(h:nH xs.length b c=""):¬(c.k≠bH/\k9 c.k (fJ b.ps c.one) (fJ b.ps c.aI.toNat)=false)/\oZ b.ps b.F c.k (au b.ps c.one) (kV (bo b.ps c))=false/\¬(cO c.k=true/\f_ b (au b.ps c.aI.toNat) (au b.ps c.one))/\ic (b.F++[c]) xs.length c.one≠[]:=by
 unfold nH at h;by_cases h1:c.k≠bH/\k9 c.k (fJ b.ps c.one) (fJ b.ps c.aI.toNat)=false;·rw[if_pos h1] at h;exact absurd h (by decide+kernel)
 rw[if_neg h1] at h;by_cases h2:oZ b.ps b.F c.k (au b.ps c.one) (kV (bo b.ps c))=true;·rw[if_pos h2] at h;exact absurd h (by decide+kernel)
 rw[if_neg h2] at h;by_cases h3:cO c.k=true/\f_ b (au b.ps c.aI.toNat) (au b.ps c.one);·rw[if_pos h3] at h;exact absurd h (by decide+kernel)
 rw[if_neg h3] at h;by_cases h4:ic (b.F++[c]) xs.length c.one=[];·rw[if_pos h4] at h;exact absurd h (by decide+kernel)
 grind
def Gm{xs ys:List Int}{b:BS}{c:Fc}(ok:cM xs ys b)(fg:dQ xs ys b.ps.length c)(lim:b.fs.length<63)(h:nH xs.length b c=""):Bh xs ys b c:=by
 obtain⟨_,h2,_,h4⟩:=PD h;obtain⟨k1,k2,_⟩:=Ol h2;exact⟨fg,k1,k2,Zbc ok fg h4,lim⟩
def Zcy{xs ys:List Int}{b:BS}{c:Fc}(ok:cM xs ys b)(fg:dQ xs ys b.ps.length c)(lim:b.fs.length<63)(h:nH xs.length b c="")(ns:c.k≠bH):HY xs ys b c:=by
 obtain⟨h1,h2,h3,_⟩:=PD h;obtain⟨k1,k2,k3⟩:=Ol h2;have eo:=jh (ps:=b.ps) ns;refine⟨Gm ok fg lim h,ns,?_,⟨k2,λ_=>⟨?_,λ⟨e1,e2⟩=>k3 ⟨e1,by rw[eo,e2];rfl⟩⟩⟩,λip an=>h3 ⟨ip,an⟩⟩;·grind
 ·rw[←eo];exact k1
def jT(ps:bA):List V:=ps.map λp=>.str p.1
def rY(ps:bA):(jT ps).length=ps.length:=Ya _
def QZ{ps:bA}{z:Int}(h0:0<=z)(h:z<(ps.length:Int)):dO (jT ps) z=some (.str (au ps z.toNat)):=by
 obtain⟨k,rfl⟩:∃k:Nat,z=(k:Int):=⟨z.toNat,by omega⟩;refine iH ?_;unfold jT au
 grind
def xE{z:Int}{n:Nat}(h:0<n):0<=z % (n:Int)/\z % (n:Int)<(n:Int):=⟨W5 _ (by omega),Wq _ (by omega)⟩
def Vt.GH{K:ah}{e:TE}{σ:St}{H:Hp}{nl:Addr}{ps:bA}{z:Int}{i:Nat}(hi:σ[i]?=some (some (.ref nl)))(hn:H nl=some (.lst (jT ps)))(p0:0<ps.length)(he:Vt e σ H (.int z)):Vt (jv (u6 K) (fQ i) (jv (rI (λ_ j=>0<j) λi j=>V.int (i % j)) e (mO (xT K) (gW (fQ i) js)))) σ H (.str (au ps (z % (ps.length:Int)).toNat)):=λk hk=>⟨_,hi,he _ λH1 g1=>by
 have l:=rY ps;have m:=xE (z:=z) p0;exact⟨_,hi,nl,_,rfl,.inl (ak.of (g1 _ _ hn)),_,_,rfl,rfl,by omega,nl,_,_,_,rfl,rfl,ak.of (g1 _ _ hn),by rw[l];exact QZ m.1 m.2,hk H1 g1⟩⟩
inductive Q0(vs:List V)(H:Hp)(Q:VK)(E:XK):Prop
 |mk (nl sd:Addr) (ps:bA) (z:Int) (s:Str) (aC:vs=[.ref nl,.ref sd,.int z,.str s]) (hn:H nl=some (.lst (jT ps))) (hs:H sd=some (.dK (gw ps))) (nd:(ps.map (·.1)).Nodup) (p0:0<ps.length) (pm:ps.length<=100) (q:∀i,i<ps.length->∀H',aj H H'->Q (.str (au ps i)) H')
def Zcz(xs ys:List Int){d:Int}(h:0<=d/\d<4):∃(k:Str) (tn:List Int) (w:Str),dO [V.str "mother",V.str "father",V.str "wed",V.str "sibling"] d=some (.str k)/\(k,tn)∈qx xs ys/\dO [V.str "woman",V.str "man",V.str "woman",V.str ""] d=some (.str w):=by
 have:d=0\/d=1\/d=2\/d=3:=by omega
 rcases this with rfl|rfl|rfl|rfl;·exact⟨_,inv xs,_,rfl,by simp,rfl⟩
 ·exact⟨_,inv (bK xs ys),_,rfl,by simp,rfl⟩
 ·exact⟨_,ys,_,rfl,by simp,rfl⟩
 ·exact⟨_,bp xs.length,_,rfl,by simp,rfl⟩
inductive Q4(vs:List V)(H:Hp)(Q:VK)(E:XK):Prop
 |mk (nl sd dr:Addr) (ps:bA) (xs ys:List Int) (d0 d1 d2 d3 d4:Int) (aC:vs=[.ref nl,.ref sd,.ref dr,.int (xs.length:Int)]) (hn:H nl=some (.lst (jT ps))) (hs:H sd=some (.dK (gw ps))) (nd:(ps.map (·.1)).Nodup) (p0:0<ps.length) (pm:ps.length<=100) (hd:H dr=some (.lst ([d0,d1,d2,d3,d4].map V.int))) (b4:0<=d4/\d4<4) (gd:nG xs ys) (q:∀c,dQ xs ys ps.length c->∀(ff:Addr) (H':Hp),H ff=none->aj H H'->H' ff=some (.tup [.str c.k,.str (au ps c.one),kV (bo ps c)])->Q (.ref ff) H')
section
variable {K:ah}{mg:aQ}
abbrev IW:List Str:=["_law_names","_law_sides","_law_at","_law_side"]
def Mh:aP ["_law_names","_law_sides","_law_at","_law_side","_law_k"] IW (aF E9):=.aX
def Ze(F:aN K "_law_pick" "_law_pick" E9 f fd)(bl:Bl mg):aE P w K mg base aM 1 f fd IW Q0:=by
 refine F.o Mh λs H hr h=>?_;obtain⟨nl,sd,ps,z,sx,rfl,hn,hs,nd,p0,pm,q⟩:=h;refine⟨_,(aq (fP PassesOwn.never rfl (p_ rfl bl.jZ (aa (dq K bl (pv 0)) ae)) (bF 4 Mh.nd) (av (aV (PW.pt (pw_or (bG cv (pv 3) bc) (pw_or1 (bG cv (dk (bw hr) (pv 1) (bj (iL K) (pv 0) (a_ d5 (a_ iK (pv 2) (pv 4)) (dq K bl (pv 0)))) (λ_ _=>rfl)) (pv 3))))) (av (aG (bj (iL K) (pv 0) (a_ d5 (a_ iK (pv 2) (pv 4)) (dq K bl (pv 0)))))) aZ))) (av (aG (bj (iL K) (pv 0) (a_ d5 (pv 2) (dq K bl (pv 0))))))),?_⟩;have CV:=rY ps;have at_:∀z:Int,(z % (ps.length:Int)).toNat<ps.length:=λz=>by have:=xE (z:=z) p0;omega
 refine gI (λσ H6=>aj H H6/\∃o4:Option V,σ=[some (.ref nl),some (.ref sd),some (.int z),some (.str sx),o4]) (λnW eV=>?_) ?_
 ·refine⟨_,rfl,nl,_,rfl,.inl (ak.of hn),_,rfl,by omega,by omega,Fy (lo:=0) (n:=(((jT ps).length:Nat):Int).toNat) (λ_ σ H6=>aj H H6/\∃o4:Option V,σ=[some (.ref nl),some (.ref sd),some (.int z),some (.str sx),o4]) ⟨aj.refl _,none,rfl⟩ ?_ (λσ H6 h=>eV _ _ h)⟩;rintro j σ H6 hj ⟨g6,o4,rfl⟩;rw[Ca];have vt:∀H7,aj H6 H7->Vt _ _ H7 _:=λH7 g7=>Vt.GH (K:=K) (i:=0) (σ:=[some (.ref nl),some (.ref sd),some (.int z),some (.str sx),some (.int (j:Int))]) (z:=z+(j:Int)) (e:=jv (qM λi j=>V.int (i+j)) (fQ 2) (fQ 4)) rfl (g7 _ _ (g6 _ _ hn)) p0 (λk hk=>⟨_,rfl,_,rfl,_,_,rfl,rfl,hk _ (aj.refl _)⟩);refine(Bt.or (Vt.test (Vt.eq (Vt.var rfl) (λ_ _=>Vt.c) rfl)) λH7 _ g7=>Vt.test (Vt.eq (x:=.str (fJ ps ((z+(j:Int)) % (ps.length:Int)).toNat)) (y:=.str sx) (λk hk=>⟨_,rfl,vt H7 g7 _ λH8 g8=>⟨sd,_,rfl,cV (g8 _ _ (g7 _ _ (g6 _ _ hs))) (oK nd (at_ _)),hk H8 g8⟩⟩) (λ_ _=>Vt.var rfl) rfl)) _ λH9 g9=>?_;refine bJ (λ_=>?_) (λ_=>aY ⟨g6.trans g9,_,rfl⟩);exact vt H9 g9 _ λHA gA=>q _ (at_ _) HA ((g6.trans g9).trans gA)
 rintro σ H6 ⟨g6,o4,rfl⟩;exact Vt.GH (K:=K) (i:=0) (z:=z) rfl (g6 _ _ hn) p0 (Vt.var rfl) _ λHA gA=>q _ (at_ _) HA (g6.trans gA)
abbrev IX:List Str:=["_law_names","_law_sides","_law_drawn","_law_size"]
def wH:aP ["_law_names","_law_sides","_law_drawn","_law_size","_law_kind","_law_one","_law_want"] IX (aF E_):=.aX
def Zf(F:aN K "_law_fact" "_law_fact" E_ f fd)(zF:HasFn P w K mg base 1 "_law_pick" IW Q0)(bl:Bl mg):aE P w K mg base aM 2 f fd IX Q4:=by
 refine F.o wH λs H hr h=>?_;obtain⟨nl,sd,dr,ps,xs,ys,d0,d1,d2,d3,d4,rfl,hn,hs,nd,p0,pm,hd,b4,gd,q⟩:=h;refine⟨_,(aq (bU 4 wH.nd (bj (iL K) (dw (aa bc (aa bc (aa bc (aa bc ae))))) (bj (iL K) (pv 2) aO))) (aq (bU 5 wH.nd (bj (iL K) (pv 0) (a_ d5 (bj (iL K) (pv 2) aO) (dq K bl (pv 0))))) (aq (aV (bG AI (bj (iL K) (pv 2) aO) aO) (av (aG (c6 (aa bc (aa (pv 5) (aa (a_ d5 (bj (iL K) (pv 2) aO) (pv 3)) ae)))))) aZ) (aq (aV (bG cv (pv 4) bc) (av (bU 5 wH.nd (aW zF hr (aa (pv 0) (aa (pv 1) (aa (bj (iL K) (pv 2) aO) (aa bc ae))))))) aZ) (aq (bU 6 wH.nd (bj (iL K) (dw (aa bc (aa bc (aa bc (aa bc ae))))) (bj (iL K) (pv 2) aO))) (av (aG (c6 (aa (pv 4) (aa (pv 5) (aa (aW zF hr (aa (pv 0) (aa (pv 1) (aa (bj (iL K) (pv 2) aO) (aa (pv 6) ae))))) ae))))))))))),?_⟩;have sz:(10000:Nat)<=sizeLine:=by rw[sizeLine_eq];omega
 obtain⟨k,tn,wt,ek,hk,ew⟩:=Zcz xs ys b4;have at_:∀z:Int,(z % (ps.length:Int)).toNat<ps.length:=λz=>by have:=xE (z:=z) p0;omega
 obtain⟨_,_,_,l2,l8⟩:=id gd;have Zht:(0:Int)<(xs.length:Int):=by omega
 refine cz ?_;refine⟨by show 4<=sizeLine;omega,λkl H1 nkl g1 B6=>⟨_,rfl,dr,_,_,_,rfl,rfl,ak.of (g1 _ _ hd),rfl,kl,_,_,_,rfl,rfl,ak.of B6,ek,?_⟩⟩;refine cz ?_;have n_:=g1 _ _ hn;refine Vt.GH (K:=K) (i:=0) (z:=d1) rfl n_ p0 (λkk hk=>⟨_,rfl,dr,_,_,_,rfl,rfl,ak.of (g1 _ _ hd),rfl,hk _ (aj.refl _)⟩) _ λH2 g2=>?_;have lU:=g1.trans g2;refine⟨_,rfl,dr,_,_,_,rfl,rfl,ak.of (lU _ _ hd),rfl,_,_,rfl,rfl,_,rfl,bJ (λ_=>?_) (λ_=>aY ?_)⟩
 ·refine⟨_,rfl,_,rfl,dr,_,_,_,rfl,rfl,ak.of (lU _ _ hd),rfl,_,rfl,_,_,rfl,rfl,Zht,by show 3<=sizeLine;omega,λff H3 CW g3 t9=>?_⟩;have mm:=xE (z:=d3) (n:=xs.length) (by omega);exact q ⟨bH,(d1 % (ps.length:Int)).toNat,d3 % (xs.length:Int),[]⟩ ⟨⟨at_ _,λz=>absurd rfl z⟩,.inl rfl,λ_=>mm⟩ ff H3 (lU.free CW) (lU.trans g3) (by rw[t9,m6 rfl];rfl)
 have nk:k≠bH:=λz=>Z4 (z▸hk);refine qp (λσ H6=>aj H H6/\∃i:Nat,i<ps.length/\σ=[some (.ref nl),some (.ref sd),some (.ref dr),some (.int (xs.length:Int)),some (.str k),some (.str (au ps i)),none]) (λpQ fS=>?_) ?_
 ·refine⟨_,rfl,rfl,_,rfl,bJ (λ_=>?_) (λ_=>aY (fS _ _ ⟨lU,_,at_ _,rfl⟩))⟩;refine⟨_,rfl,_,rfl,_,rfl,dr,_,_,_,rfl,rfl,ak.of (lU _ _ hd),rfl,nl,sd,ps,d1,"man",rfl,lU _ _ hn,lU _ _ hs,nd,p0,pm,λi hi H3 g3=>bg (fS _ _ ⟨lU.trans g3,i,hi,rfl⟩)⟩
 rintro σ H6 ⟨g6,i,hi,rfl⟩;refine cz ?_;refine⟨by show 4<=sizeLine;omega,λwl H7 Vb g7 yj=>⟨_,rfl,dr,_,_,_,rfl,rfl,ak.of (g7 _ _ (g6 _ _ hd)),rfl,wl,_,_,_,rfl,rfl,ak.of yj,ew,?_⟩⟩;have zb:=g6.trans g7;refine⟨_,rfl,_,rfl,_,rfl,_,rfl,_,rfl,dr,_,_,_,rfl,rfl,ak.of (zb _ _ hd),rfl,_,rfl,nl,sd,ps,d2,wt,rfl,zb _ _ hn,zb _ _ hs,nd,p0,pm,λj hj H8 g8=>⟨by show 3<=sizeLine;omega,λff H9 CW g9 t9=>?_⟩⟩;obtain⟨ft,tl⟩:=Zcn gd hk;exact q ⟨k,i,(j:Int),tn⟩ ⟨⟨hi,λ_=>⟨⟨by show(0:Int)<=(j:Int);omega,hj⟩,ft,tl⟩⟩,.inr hk,λz=>absurd z nk⟩ ff H9 (zb.free (g8.free CW)) ((zb.trans g8).trans g9) (by rw[t9,jh nk];rfl)
end
def jB(n:Nat):List Nat:=if n<10 then[48+n] else[48+n/10,48+n % 10]
def kN(n:Nat):Str:=.ofString (toString (n:Int))
def GI:∀n<61,(kN n).cps.toList=jB n:=by decide+kernel
def eW(k z:Nat):Nat:=if z/3 % 3=1 then 9 else(k*z+z) % 5
def kO(m:Nat):Str:=Txt.mul "q" (m:Int)
def ZdP:∀m<10,(kO m).cps.toList=List.replicate m 113:=by decide+kernel
def t_:Str:="abcdefghijklmnopqrstuvwxyz"
def Hh:∀i<26,dO t_.cps.toList ((i:Nat):Int)=some (97+i):=by decide+kernel
def pT(i:Nat):Str:=⟨#[97+i]⟩
def c9(z k:Nat):Str:=if z % 3=0 then(pT ((k*7+z) % 26)++kN (k/26))++kO (eW k z) else if z % 3=1 then(pT (z % 26)++kO (eW k z))++kN ((k*17+z) % 61) else(pT (z % 26)++kN ((k*17+z) % 61))++kO (eW k z)
def Hi(k z:Nat):eW k z<10:=by
 unfold eW;split<;>omega
def uS(a b:Str):(a++b).cps.toList=a.cps.toList++b.cps.toList:=Array.toList_append
def zQ(z k:Nat)(hk:k<60):(c9 z k).cps.toList=if z % 3=0 then[97+(k*7+z) % 26,48+k/26]++List.replicate (eW k z) 113 else if z % 3=1 then(97+z % 26)::(List.replicate (eW k z) 113++jB ((k*17+z) % 61)) else(97+z % 26)::(jB ((k*17+z) % 61)++List.replicate (eW k z) 113):=by
 have f:=ZdP _ (Hi k z);unfold c9;split
 ·rw[uS,uS,f,GI _ (by omega)];unfold jB;rw[if_pos (by omega)];rfl
 split
 ·rw[uS,uS,f,GI _ (by omega)];rfl
 ·rw[uS,uS,f,GI _ (by omega)];rfl
def Ly(l:List Nat):Nat:=l.foldl (λa c=>10*a+(c-48)) 0
def AU:Ly (jB n)=n:=by
 unfold jB;split
 ·show 10*0+(48+n-48)=n;omega
 ·show 10*(10*0+(48+n/10-48))+(48+n % 10-48)=n;omega
def Q5(h:n<61):∀c∈jB n,48<=c/\c<58:=by
 unfold jB
 grind
def zG(h:n<61):(jB n).filter (λc=>decide (c<58))=jB n:=List.filter_eq_self.mpr λc hc=>decide_eq_true (Q5 h c hc).2
def zH(m:Nat):(List.replicate m 113).filter (λc=>decide (c<58))=[]:=by
 grind
def Zbd(hk:k<60)(Cu:k'<60)(e:c9 z k=c9 z k'):k=k':=by
 have e:(c9 z k).cps.toList=(c9 z k').cps.toList:=by rw[e]
 rw[zQ z k hk,zQ z k' Cu] at e;by_cases h0:z % 3=0
 ·rw[if_pos h0,if_pos h0] at e;injection e with e1 e;injection e with e2 _;omega
 rw[if_neg h0,if_neg h0] at e;have key:(k*17+z) % 61=(k'*17+z) % 61->k=k':=λh=>by omega
 by_cases h1:z % 3=1
 ·rw[if_pos h1,if_pos h1] at e;injection e with _ e;have e2:=congrArg (List.filter λc=>decide (c<58)) e;rw[Wr,Wr,zH,zH,zG (by omega),zG (by omega),Ue,Ue] at e2;have e3:=congrArg Ly e2;rw[AU,AU] at e3;exact key e3
 ·rw[if_neg h1,if_neg h1] at e;injection e with _ e;have e2:=congrArg (List.filter λc=>decide (c<58)) e;rw[Wr,Wr,zH,zH,zG (by omega),zG (by omega),Wd,Wd] at e2;have e3:=congrArg Ly e2;rw[AU,AU] at e3;exact key e3
def Q6:∀i<26,fZ oI (97+i)=true/\fZ l9 (97+i)=true:=by decide+kernel
def Q7:∀i<10,fZ l9 (48+i)=true:=by decide+kernel
def Zhu:fZ l9 113=true:=by decide+kernel
def MJ(hk:k<60):sC (c9 z k)=true/\(c9 z k).length<=12:=by
 have fl:=Hi k z;have rep:(List.replicate (eW k z) 113).all (fZ l9)=true:=Wm.mpr λc hc=>by rw[List.eq_of_mem_replicate hc];exact Zhu
 have dg:∀n,n<61->(jB n).all (fZ l9)=true/\(jB n).length<=2:=λn hn=>by
  refine⟨Wm.mpr λc hc=>?_,?_⟩
  ·have:=Q5 hn c hc;have e:=Q7 (c-48) (by omega)
   grind
  ·unfold jB;split<;>simp
 have len:(c9 z k).length=(c9 z k).cps.toList.length:=rfl;have c:=zQ z k hk;have main:∃(i:Nat) (r:List Nat),i<26/\(c9 z k).cps.toList=(97+i)::r/\r.length<=11/\r.all (fZ l9)=true:=by
  by_cases h0:z % 3=0
  ·rw[if_pos h0] at c;refine⟨_,_,by omega,c,?_,?_⟩
   ·show((48+k/26)::List.replicate (eW k z) 113).length<=11
    grind
   ·show((48+k/26)::List.replicate (eW k z) 113).all (fZ l9)=true;rw[Jg,rep,Q7 _ (by omega)];rfl
  grind
 obtain⟨i,r,hi,e,lr,ar⟩:=main;have CC:(c9 z k).length<=12:=by
  grind
 refine⟨?_,CC⟩;rw[Nm e,decide_eq_true CC,(Q6 i hi).1,Jg,(Q6 i hi).2,ar];rfl
def ZdQ:∀m<10,(kO m).length<=9:=by decide+kernel
def PF:∀n<61,(kN n).length<=2:=by decide+kernel
def GJ(a b:Str):(a++b).length=a.length+b.length:=Array.size_append
inductive Q8(vs:List V)(H:Hp)(Q:VK)(E:XK):Prop
 |mk (k z:Nat) (aC:vs=[.int (k:Int),.int (z:Int)]) (hk:k<60) (hz:z<97) (q:Q (.str (c9 z k)) H)
section
variable {K:ah}{mg:aQ}
abbrev IY:List Str:=["_law_k","_law_salt"]
def wI:aP ["_law_k","_law_salt","_law_letters","_law_fill","_law_number"] IY (aF E6):=.aX
def Zg(F:aN K "_law_name" "_law_name" E6 f fd)(bl:Bl mg):aE P w K mg base aM 1 f fd IY Q8:=by
 refine F.o wI λs H hr h=>?_;obtain⟨k,z,rfl,hk,hz,q⟩:=h;refine⟨_,(aq (bU 2 wI.nd bc) (aq (bU 3 wI.nd (a_ OW bc (a_ d5 (a_ iK (a_ oO (pv 0) (pv 1)) (pv 1)) aO))) (aq (bU 4 wI.nd (a_ d5 (a_ iK (a_ oO (pv 0) aO) (pv 1)) aO)) (aq (aV (bG cv (a_ d5 (a_ Aa (pv 1) aO) aO) aO) (av (bU 3 wI.nd (a_ OW bc aO))) aZ) (aq (aV (bG cv (a_ d5 (pv 1) aO) aO) (av (aG (a_ uw (a_ uw (bj xl (pv 2) (a_ d5 (a_ iK (a_ oO (pv 0) aO) (pv 1)) aO)) (eS D3 rfl bl.xG xt (aa (a_ Aa (pv 0) aO) ae))) (pv 3)))) aZ) (aq (aV (bG cv (a_ d5 (pv 1) aO) aO) (av (aG (a_ uw (a_ uw (bj xl (pv 2) (a_ d5 (pv 1) aO)) (pv 3)) (eS D3 rfl bl.xG xt (aa (pv 4) ae))))) aZ) (av (aG (a_ uw (a_ uw (bj xl (pv 2) (a_ d5 (pv 1) aO)) (eS D3 rfl bl.xG xt (aa (pv 4) ae))) (pv 3)))))))))),?_⟩;have cm:xO (k:Int) (z:Int):=.inl ⟨by omega,by omega⟩;have Vv:∀j:Int,xO (k:Int) j:=λj=>.inl ⟨by omega,by omega⟩;have c3:Ii (z:Int) 3:=⟨by omega,by omega⟩;have c26:Ii (k:Int) 26:=⟨by omega,by omega⟩;have sz:(10000:Nat)<=sizeLine:=by rw[sizeLine_eq];omega
 have Vw:((k:Int)*17+(z:Int)) % 61=(((k*17+z) % 61:Nat):Int):=by omega
 have m26:((k:Int)*7+(z:Int)) % 26=(((k*7+z) % 26:Nat):Int):=by omega
 have Vx:(z:Int) % 26=((z % 26:Nat):Int):=by omega
 have d26:(k:Int)/26=((k/26:Nat):Int):=by omega
 have e5:((k:Int)*(z:Int)+(z:Int)) % 5=(((k*z+z) % 5:Nat):Int):=by rw[Int.natCast_emod,Int.natCast_add,Int.natCast_mul];rfl
 refine setC ?_;refine cz ?_;refine⟨_,rfl,_,rfl,_,_,rfl,rfl,cm,_,rfl,_,_,rfl,rfl,_,_,rfl,rfl,by omega,"q",(k*z+z) % 5,rfl,congrArg V.int e5,by decide+kernel,by omega,?_⟩;refine cz ?_;refine⟨_,rfl,_,_,rfl,rfl,Vv _,_,rfl,_,_,rfl,rfl,_,_,rfl,rfl,by omega,?_⟩;refine qp (λσ H6=>H6=H/\σ=[some (.int (k:Int)),some (.int (z:Int)),some (.str t_),some (.str (kO (eW k z))),some (.int (((k*17+z) % 61:Nat):Int))]) (λpQ fS=>?_) ?_
 ·refine⟨_,rfl,_,_,rfl,rfl,c3,_,_,rfl,rfl,by omega,rfl,_,rfl,bJ (λc=>?_) (λc=>aY ?_)⟩
  ·have c:=V.int.inj (of_decide_eq_true c);have c1:z/3 % 3=1:=by omega
   have fe:eW k z=9:=if_pos c1;refine⟨"q",9,rfl,rfl,by decide+kernel,by omega,bg (fS _ _ ⟨rfl,?_⟩)⟩;rw[fe,←Vw];rfl
  ·have c1:¬z/3 % 3=1:=λw=>c (decide_eq_true (congrArg V.int (by omega)));have fe:eW k z=(k*z+z) % 5:=if_neg c1;refine fS _ _ ⟨rfl,?_⟩;rw[fe,←Vw];rfl
 rintro σ H6 ⟨rfl,rfl⟩;have ls:=ZdQ _ (Hi k z);have ll:t_.length<=sizeLine:=Y0 (show t_.length<=100 by decide+kernel) (by omega);have lg:∀n:Nat,n<61->(n:Int).natAbs.log2<1920:=λn hn=>W9 (Nat.log2_le_self _) (by omega);refine⟨_,rfl,_,_,rfl,rfl,by omega,rfl,_,rfl,bJ (λc=>?_) (λc=>aY ?_)⟩
 ·have h0:z % 3=0:=by have:=V.int.inj (of_decide_eq_true c);omega
  have ld:=PF (k/26) (by omega);refine⟨_,rfl,_,rfl,_,_,rfl,rfl,Vv _,_,rfl,_,_,rfl,rfl,_,_,rfl,rfl,by omega,t_,_,_,rfl,congrArg V.int m26,ll,Hh _ (by omega),_,rfl,_,_,rfl,rfl,c26,((k/26:Nat):Int),congrArg (λi=>[V.int i]) d26,lg _ (by omega),_,_,rfl,rfl,?_,_,rfl,_,_,rfl,rfl,?_,?_⟩
  ·show 1+(kN (k/26)).length<=sizeLine;omega
  ·show(pT ((k*7+z) % 26)++kN (k/26)).length+(kO (eW k z)).length<=sizeLine;rw[GJ];show 1+_+_<=_;omega
  ·have e:c9 z k=(pT ((k*7+z) % 26)++kN (k/26))++kO (eW k z):=if_pos h0;rw[e] at q;exact q
 have h0:¬z % 3=0:=λw=>c (decide_eq_true (congrArg V.int (by omega)));have ld:=PF ((k*17+z) % 61) (by omega);refine⟨_,rfl,_,_,rfl,rfl,by omega,rfl,_,rfl,bJ (λc=>?_) (λc=>aY ?_)⟩
 ·have h1:z % 3=1:=by have:=V.int.inj (of_decide_eq_true c);omega
  refine⟨_,rfl,_,rfl,_,_,rfl,rfl,by omega,t_,_,_,rfl,congrArg V.int Vx,ll,Hh _ (by omega),_,rfl,_,_,rfl,rfl,?_,_,rfl,_,rfl,lg _ (by omega),_,_,rfl,rfl,?_,?_⟩
  ·show 1+(kO (eW k z)).length<=sizeLine;omega
  ·show(pT (z % 26)++kO (eW k z)).length+(kN ((k*17+z) % 61)).length<=sizeLine;rw[GJ];show 1+_+_<=_;omega
  ·have e:c9 z k=(pT (z % 26)++kO (eW k z))++kN ((k*17+z) % 61):=(if_neg h0).trans (if_pos h1);rw[e] at q;exact q
 have h1:¬z % 3=1:=λw=>c (decide_eq_true (congrArg V.int (by omega)));refine⟨_,rfl,_,rfl,_,_,rfl,rfl,by omega,t_,_,_,rfl,congrArg V.int Vx,ll,Hh _ (by omega),_,rfl,_,rfl,lg _ (by omega),_,_,rfl,rfl,?_,_,rfl,_,_,rfl,rfl,?_,?_⟩
 ·show 1+(kN ((k*17+z) % 61)).length<=sizeLine;omega
 ·show(pT (z % 26)++kN ((k*17+z) % 61)).length+(kO (eW k z)).length<=sizeLine;rw[GJ];show 1+_+_<=_;omega
 ·have e:c9 z k=(pT (z % 26)++kN ((k*17+z) % 61))++kO (eW k z):=(if_neg h0).trans (if_neg h1);rw[e] at q;exact q
end
inductive RZ(C CL CJ:Addr)(vs:List V)(H:Hp)(Q:VK)(E:XK):Prop
 |mk (l:BL) (b:BS) (xs ys:List Int) (c:Fc) (ff:Addr) (aC:vs=[.ref l.h,.ref ff]) (ba:bh H C CL CJ l xs ys b) (ok:cM xs ys b) (hf:H ff=some (.tup [.str c.k,.str (au b.ps c.one),kV (bo b.ps c)])) (fg:dQ xs ys b.ps.length c) (lim:b.fs.length<63) (hw:nH xs.length b c="") (dl:b.dn.length<200) (q:∀(l':BL) (H':Hp),bM H H' l l'->bh H' C CL CJ l' xs ys (b.xM c)->Q (.int (b.co:Int)) H')
structure dA(C CL CJ:Addr)(H:Hp)(xs ys:List Int)(z j:Nat)(td:Addr)(l:BL)(b:BS)(nl sd fl st:Addr):Prop where
 ba:bh H C CL CJ l xs ys b
 ok:cM xs ys b
 names:H nl=some (.lst (jT b.ps))
 n1:nl∉l.fp
 c8:H sd=some (.dK (gw b.ps))
 n2:sd∉l.fp
 facts:∃as:List Addr,H fl=some (.lst (as.map V.ref))/\Paired (eK H b.ps) as b.fs
 n3:fl∉l.fp
 tup:H st=some (.tup [.ref nl,.ref sd,.ref fl,.int (b.co:Int)])
 turns:fK H td xs ys
 n4:td∉l.fp
 nm:b.ps.map (·.1)=(List.range b.ps.length).map (c9 z)
 so:(b.fs.map (·.1)).Pairwise (·<·)
 cp:b.ps.length<=j
 cf:b.ps.length+b.fs.length<=j
 cd:b.dn.length<=j
section
variable {H H':Hp}{xs ys:List Int}{z j:Nat}{td:Addr}{l l':BL}{b b':BS}{nl sd fl st:Addr}
def dA.same(g:aj H H')(s:dA C CL CJ H xs ys z j td l b nl sd fl st):dA C CL CJ H' xs ys z j td l b nl sd fl st:=
 ⟨s.ba.same g,s.ok,g _ _ s.names,s.n1,g _ _ s.c8,s.n2,let⟨as,h1,h2⟩:=s.facts;⟨as,g _ _ h1,L2.Paired.bq h2 λ_ _ e=>g _ _ e⟩,s.n3,g _ _ s.tup,s.turns.same g,s.n4,s.nm,s.so,s.cp,s.cf,s.cd⟩
def dA.more(s:dA C CL CJ H xs ys z j td l b nl sd fl st):dA C CL CJ H xs ys z (j+1) td l b nl sd fl st:=
 ⟨s.ba,s.ok,s.names,s.n1,s.c8,s.n2,s.facts,s.n3,s.tup,s.turns,s.n4,s.nm,s.so,W3 s.cp,W3 s.cf,W3 s.cd⟩
theorem dA.FL(s:dA C CL CJ H xs ys z j td l b nl sd fl st):FL H b.ps fl b.F:=by
 obtain⟨as,h1,h2⟩:=s.facts;refine⟨as,h1,?_⟩;have:∀{as:List Addr} {fs:List (Nat×Fc)},Paired (eK H b.ps) as fs->Paired (Lk H b.ps) as (fs.map (·.2)):=λh=>by
  induction h with
  |nil=>exact .nil
  |cons e _ ih=>exact .cons ⟨_,e⟩ ih
 exact this h2
def bM.off(w:bM H H' l l')(h:H a=some o)(n:a∉l.fp):H' a=some o/\a∉l'.fp:=
 ⟨w.out _ _ h n,λz=>(w.grow a z).elim n λq=>by rw[h] at q;cases q⟩
def bM.bN(w:bM H H' l l')(ba:bh H C CL CJ l xs ys b)(h:H a=some (.tup us)):H' a=some (.tup us):=w.out _ _ h (ba.tup h)
def bM.fK(w:bM H H' l l')(ba:bh H C CL CJ l xs ys b)(h:fK H td xs ys)(n:td∉l.fp):fK H' td xs ys:=by
 obtain⟨m,f,w1,s,h1,h2,h3,h4,h5⟩:=h;exact⟨m,f,w1,s,w.out _ _ h1 n,w.bN ba h2,w.bN ba h3,w.bN ba h4,w.bN ba h5⟩
def zR(w:bM H H' l l')(ba:bh H C CL CJ l xs ys b)(h:Paired (eK H ps) as fs):Paired (eK H' ps) as fs:=L2.Paired.bq h λ_ _ e=>w.bN ba e
def bh.fresh(ba:bh H C CL CJ l xs ys b)(h:H a=none):a∉l.fp:=λz=>ba.there z h
def eK.ext(fg:dQ xs ys ps.length p.2)(h:eK H ps a p):eK H (ps++[(n,s)]) a p:=by
 have e1:∀i,i<ps.length->au (ps++[(n,s)]) i=au ps i:=λi hi=>by
  unfold au
  grind
 unfold eK dZ at h⊢;have e2:bo (ps++[(n,s)]) p.2=bo ps p.2:=by
  by_cases k:p.2.k=bH;·rw[m6 k,m6 k]
  ·rw[jh k,jh k,e1 _ (fg.ok.hU k).1.2]
 rw[e1 _ fg.ok.one,e2];exact h
def dA.fresh(s:dA C CL CJ H xs ys z j td l b nl sd fl st)(h60:j<60)(jb:Str)(hs:G_ jb=true):II b (c9 z b.ps.length) jb:=by
 have c:=s.cp;obtain⟨f1,f2⟩:=MJ (k:=b.ps.length) (by omega);refine⟨f1,hs,λm=>?_,by omega,by omega⟩;rw[s.nm] at m;obtain⟨i,hi,e⟩:=Yh.mp m;have hi:=Wg.mp hi;have:=Zbd (by omega) (by omega) e;omega
def nm_more(h:b.ps.map (·.1)=(List.range b.ps.length).map (c9 z))(s:Str):(b.ps++[(c9 z b.ps.length,s)]).map (·.1)=(List.range (b.ps++[(c9 z b.ps.length,s)]).length).map (c9 z):=by
 rw[Ym,h,Yi];show _++[c9 z b.ps.length]=(List.range (b.ps.length+1)).map (c9 z);rw[List.range_succ,Ym];rfl
end
inductive PH(C CL CJ:Addr)(vs:List V)(H:Hp)(Q:VK)(E:XK):Prop
 |mk (xs ys:List Int) (z j:Nat) (cell:Int) (td:Addr) (l:BL) (b:BS) (nl sd fl st:Addr) (aC:vs=[.ref l.h,.ref st,.int cell,.ref td,.int (z:Int)]) (si:dA C CL CJ H xs ys z j td l b nl sd fl st) (hz:z<97) (hj:j<60) (q:∀(l':BL) (b':BS) (kP jb jC aJ:Addr) (H':Hp),bM H H' l l'->dA C CL CJ H' xs ys z (j+1) td l' b' kP jb jC aJ->0<b'.ps.length->Q (.ref aJ) H')
theorem Zh{P Q:α->β->Prop}(h:∀a b,b∈bs->P a b->Q a b)(p:Paired P as bs):Paired Q as bs:=by
 induction p with
 |nil=>exact .nil
 |cons e _ ih=>exact .cons (h _ _ Yo e) (ih λa b hb=>h a b (Yw _ hb))
def Zac(fs:List α)(p:α->Bool):((List.range fs.length).filter λi=>(fs[i]?.map p).getD false).map (λi=>fs[i]?)=(fs.filter p).map some:=by
 have e:(List.range fs.length).map (λi=>fs[i]?)=fs.map some:=Wo λi=>by
  grind
 have h:=J0 (f:=λi=>fs[i]?) (l:=List.range fs.length) (p:=λo:Option α=>(o.map p).getD false);rw[e,J0] at h;exact h.symm
theorem PK:∀{l:List (Nat×α)},(l.map (·.1)).Nodup->∀{p q:Nat×α},p∈l->q∈l->p.1=q.1->p=q
 |[],_,_,_,h,_,_=>nomatch h
 |a::l,nd,p,q,hp,hq,e=>by
  obtain⟨n1,n2⟩:=Yz.mp (show(a.1::l.map (·.1)).Nodup from nd);rcases Yp.mp hp with e1|h1<;>rcases Yp.mp hq with e2|h2;·rw[e1,e2]
  ·grind
  ·grind
  ·exact PK n2 h1 h2 e
def Q9(ks:List Key):(ks.map kV).all nQ=true:=by
 rw[Wm];intro v hv;obtain⟨k,_,rfl⟩:=Yh.mp hv;cases k<;>rfl
def ZdR:∃s:Str,dO [V.str "man",V.str "woman"] (d % 2)=some (.str s)/\G_ s=true:=by
 have:d % 2=0\/d % 2=1:=by omega
 rcases this with e|e<;>rw[e];·exact⟨_,rfl,by decide+kernel⟩
 ·exact⟨_,rfl,by decide+kernel⟩
section
variable {K:ah}{mg:aQ}
abbrev Bw:List Str:=["_law_book","_law_fact_here"]
def Zad:aP Bw Bw (aF FO):=.aX
def Zae(F:aN K "_law_put" "_law_put" FO f fd)(Eh:cE P w K mg base 12 "say" C Bp (QW C CL CJ))(Ei:cE P w K mg base 12 "tie" C pk (QV C CL CJ)):aE P w K mg base aM 13 f fd Bw (RZ C CL CJ):=by
 refine F.o Zad λs H hr h=>?_;obtain⟨l,b,xs,ys,c,ff,rfl,ba,ok,hf,fg,lim,hw,dl,q⟩:=h;refine⟨_,(aq (aV (bG cv (bj (iT K) (pv 1) aO) bc) (av (aG (cT Eh hr (by omega) (pv 0) (aa (bj (iT K) (pv 1) aO) (aa (bj (iT K) (pv 1) aO) ae))))) aZ) (av (aG (cT Ei hr (by omega) (pv 0) (aa (bj (iT K) (pv 1) aO) (aa (bj (iT K) (pv 1) aO) (aa (bj (iT K) (pv 1) aO) ae))))))),?_⟩;obtain⟨dx,ho⟩:=ba.obj;refine⟨_,rfl,ff,_,_,_,rfl,rfl,aB.of hf,rfl,rfl,_,rfl,?_⟩;rw[dU];refine bJ (λcc=>?_) (λcc=>aY ?_)
 ·have sk:c.k=bH:=of_decide_eq_true cc;have eo:kV (bo b.ps c)=.int c.aI:=by rw[m6 sk];rfl
  exact⟨_,rfl,l.h,dx,_,rfl,ho,rfl,_,rfl,ff,_,_,_,rfl,rfl,aB.of hf,rfl,_,rfl,ff,_,_,_,rfl,rfl,aB.of hf,rfl,l,b,xs,ys,c,by rw[eo];rfl,ba,ok,⟨Gm ok fg lim hw,sk⟩,dl,λl' H' wt Lz=>q l' H' wt Lz⟩
 ·have ns:c.k≠bH:=λz=>cc (decide_eq_true z);have eo:kV (bo b.ps c)=.str (au b.ps c.aI.toNat):=by rw[jh ns];rfl
  exact⟨_,rfl,l.h,dx,_,rfl,ho,rfl,_,rfl,ff,_,_,_,rfl,rfl,aB.of hf,rfl,_,rfl,ff,_,_,_,rfl,rfl,aB.of hf,rfl,_,rfl,ff,_,_,_,rfl,rfl,aB.of hf,rfl,l,b,xs,ys,c,by rw[eo];rfl,ba,ok,Zcy ok fg lim hw ns,dl,λl' H' wt Lz=>q l' H' wt Lz⟩
abbrev IZ:List Str:=["_law_book","_law_state","_law_cell_here","_law_turns_here","_law_salt"]
def lX:aP ["_law_book","_law_state","_law_cell_here","_law_turns_here","_law_salt","_law_names","_law_sides","_law_facts","_law_after_here","_law_drawn","_law_name_here","_law_side","_law_fact_here","_law_out"] IZ (aF Fb):=.aX
theorem Zi(F:aN K "_law_step" "_law_step" Fb f fd)(oy:HasFn P w K mg base 1 "_law_draws" yA (Ah K))(Fp:HasFn P w K mg base 1 "_law_name" IY Q8)(Fq:HasFn P w K mg base 2 "_law_fact" IX Q4)(Fs:HasFn P w K mg base 4 "_law_word" IV QY)(FY:HasFn P w K mg base 13 "_law_put" Bw (RZ C CL CJ))(DC:cE P w K mg base 11 "person" C Bj (Oc C CL CJ))(D2:cE P w K mg base 11 "take" C xX (QS C CL CJ))(bl:Bl mg):aE P w K mg base aM 14 f fd IZ (PH C CL CJ):=by
 refine F.o lX λs H hr h=>?_;obtain⟨xs,ys,z,j,cell,td,l,b,nl,sd,fl,st,rfl,si,hz,hj,q⟩:=h;have hu:=hr.uT;refine⟨_,(aq (nv (pv 1) (jj (K:=K) (n:=4) rfl rfl (bR (bF 5 lX.nd) (bR (bF 6 lX.nd) (bR (bF 7 lX.nd) (bR (bF 8 lX.nd) ji)))))) (aq (bU 9 lX.nd (aW oy hr (aa (pv 2) (aa (dw (aa aO (aa aO (aa aO (aa aO (aa aO ae)))))) ae)))) (aq (aV (PW.pt (pw_or (bG nF (dq K bl (pv 5)) aO) (pw_or1 (bG nF (bj (iL K) (pv 9) aO) aO)))) (aq (bU 10 lX.nd (aW Fp hr (aa (dq K bl (pv 5)) (aa (pv 4) ae)))) (aq (bU 11 lX.nd (bj (iL K) (dw (aa bc (aa bc ae))) (a_ d5 (bj (iL K) (pv 9) aO) aO))) (aq (b_ (cT DC hr (by omega) (pv 0) (aa (pv 10) (aa (pv 11) ae)))) (aq (bU 6 lX.nd (eS YQ rfl bl.Zet Zdi (aa (pv 6) ae))) (aq (oF (bw hr) (pv 6) (pv 10) (pv 11)) (av (aG (c6 (aa (a_ rQ (pv 5) (dw (aa (pv 10) ae))) (aa (pv 6) (aa (pv 7) (aa (pv 8) ae)))))))))))) aZ) (aq (aV (bG nF (bj (iL K) (pv 9) aO) aO) (aq (bU 12 lX.nd (aW Fq hr (aa (pv 5) (aa (pv 6) (aa (pv 9) (aa (dq K bl (dk (bw hr) (pv 3) bc (λ_ _=>rfl))) ae)))))) (aq (aV (bG l_ (aW Fs hr (aa (pv 6) (aa (pv 7) (aa (pv 3) (aa (pv 12) ae))))) bc) (av (aG (pv 1))) aZ) (aq (b_ (aW FY hr (aa (pv 0) (aa (pv 12) ae)))) (av (aG (c6 (aa (pv 5) (aa (pv 6) (aa (a_ rQ (pv 7) (dw (aa (a_ ZcP (c6 (aa (pv 8) ae)) (pv 12)) ae))) (aa (a_ iK (pv 8) aO) ae)))))))))) aZ) (aq (aV (bG (OU (K:=K) rfl (ZeW hu)) (pv 7) (dw ae)) (av (aG (pv 1))) aZ) (aq (gT (i:=13) lX.nd rfl (Or.inr rfl) (bj (iL K) (pv 7) (a_ d5 (bj (iL K) (pv 9) aO) (dq K bl (pv 7))))) (aq (b_ (cT D2 hr (by omega) (pv 0) (aa (bj (iT K) (pv 13) aO) ae))) (av (aG (c6 (aa (pv 5) (aa (pv 6) (aa (iJ (x:="_law_one") (fr:=[("_law_out",13)]) (cl:=[("_law_out",s.heap.objs.size+1)]) rfl (.gu ⟨rfl,trivial⟩ ⟨⟨rfl,.inl rfl,.inl rfl,rfl⟩,trivial⟩) (eI (K:=K) rfl (pv 7)) (λ_ _ _ _=>wY (bG (Ze8 (K:=K) rfl hu) (pv 0) (pv 1))) (λ_ _ _ _=>(pv 0))) (aa (pv 8) ae)))))))))))))),?_⟩;have sz:(10000:Nat)<=sizeLine:=by rw[sizeLine_eq];omega
 refine⟨_,rfl,st,_,rfl,aB.of si.tup,rfl,_,_,rfl,bg ⟨_,_,rfl,bg ⟨_,_,rfl,bg ⟨_,_,rfl,bg ⟨rfl,?_⟩⟩⟩⟩⟩;dsimp only;refine cz ?_;refine⟨_,rfl,by show 5<=sizeLine;omega,λpp H1 np g1 hp=>⟨cell,pp,[16,61,59,8,4],rfl,ak.of hp,by decide,by decide,λdr ds H2 nd g2 h2 bd=>?_⟩⟩;obtain⟨d0,d1,d2,d3,d4,rfl,_,_,_,_,b4⟩:=Zdo bd;have lU:=g1.trans g2;have s2:=si.same lU;obtain⟨dx,ho⟩:=s2.ba.obj;have CV:=rY b.ps;have cp:=si.cp;have cf:=si.cf;have cd:=si.cd;have Vu:=si.ok.m;have f63:=si.ok.fl;have ix:∀{i:Int} {v:Int} {H9:Hp},aj H2 H9->dO ([d0,d1,d2,d3,d4].map V.int) i=some (.int v)->∀σ:St,σ[9]?=some (some (.ref dr))->Vt (jv (u6 K) (fQ 9) (tC (V.int i))) σ H9 (.int v):=λg e σ hσ kk hk=>⟨_,hσ,dr,_,_,_,rfl,rfl,ak.of (g _ _ h2),e,hk _ (aj.refl _)⟩;refine(Bt.or (a:=decide (((jT b.ps).length:Int)<2)) (b:=decide (d0<5)) (λkk hk=>⟨_,rfl,nl,_,rfl,.inl (ak.of s2.names),_,_,rfl,rfl,_,rfl,hk _ (aj.refl _)⟩) λH3 _ g3 kk hk=>ix g3 rfl _ rfl _ λH4 g4=>⟨_,_,rfl,rfl,_,rfl,hk _ g4⟩) _ λH3 g3=>?_;have s3:=s2.same g3;have jN:=lU.trans g3;rw[CV];refine bJ (λcc=>?_) (λcc=>aY ?_)
 ·refine cz ?_;refine⟨_,rfl,nl,_,rfl,.inl (ak.of s3.names),_,rfl,b.ps.length,z,by rw[CV];rfl,by omega,hz,?_⟩;refine cz ?_;obtain⟨sx,es,so⟩:=ZdR (d:=d1);refine⟨by show 2<=sizeLine;omega,λsl H4 K2 g4 hsl=>ix (g3.trans g4) rfl _ rfl _ λH5 g5=>⟨_,_,rfl,rfl,by omega,sl,_,_,_,rfl,rfl,ak.of (g5 _ _ hsl),es,?_⟩⟩;have s5:=(s3.same g4).same g5;have CY:=(jN.trans g4).trans g5;obtain⟨LA,LB⟩:=s5.ba.obj;refine⟨_,rfl,l.h,LA,_,rfl,LB,rfl,_,rfl,_,rfl,l,b,xs,ys,c9 z b.ps.length,sx,rfl,s5.ba,s5.ok,s5.fresh hj sx so,by omega,λl' H6 wt pU=>?_⟩;have LC:=s5.fresh hj sx so;dsimp only;refine cz ?_;have off:=λ{a:Addr} {o:HO} (h:H5 a=some o) (n:a∉l.fp)=>wt.off h n;obtain⟨zc,Bx⟩:=off s5.c8 s5.n2;obtain⟨zd,By⟩:=off s5.names s5.n1;obtain⟨as,wj,dY⟩:=s5.facts;obtain⟨wk,I0⟩:=off wj s5.n3;refine⟨_,rfl,sd,_,rfl,zc,λs' H7 dm g7 pK=>?_⟩;have vn:aT (gw b.ps) (.inr (c9 z b.ps.length))=none:=pV λhm=>LC.new (by
   obtain⟨p,hp,e⟩:=Yh.mp hm;obtain⟨p',hp',rfl⟩:=Yh.mp hp;exact Yh.mpr ⟨p',hp',Wf e⟩)
  refine⟨_,rfl,_,rfl,_,rfl,s',_,.inr (c9 z b.ps.length),rfl,pK,rfl,by rw[Ya];omega,λH8 b8 e8=>?_⟩;have kQ:aj H6 H8:=λc o e=>b8 _ _ (g7 _ _ e) (bY e dm);rw[kU _ vn] at e8;refine⟨_,rfl,_,rfl,by show 1<=sizeLine;omega,λt H9 nt g9 ht=>⟨nl,t,_,_,rfl,rfl,g9 _ _ (kQ _ _ zd),ht,by rw[CV];show _+1<=_;omega,λn' HA nn' gA vw=>⟨_,rfl,_,rfl,_,rfl,by show 4<=sizeLine;omega,λaJ HB Ce gB df=>?_⟩⟩⟩;have ze:=(g9.trans gA).trans gB;have lV:=kQ.trans ze;have pe:(b.HW (c9 z b.ps.length) sx).ps=b.ps++[(c9 z b.ps.length,sx)]:=rfl;obtain⟨tm,tf,tw,ts,fE,_⟩:=id s5.turns;refine q l' (b.HW (c9 z b.ps.length) sx) n' s' fl aJ HB ((bM.after CY wt).same lV) ⟨pU.same lV,si.ok.Zha LC.new LC.lim (Yd _) (by rw[Yi];show _+1<=200;omega) (Yx _),?_,((pU.same kQ).same g9).fresh nn',?_,pU.fresh dm,⟨as,lV _ _ wk,?_⟩,I0,df,(wt.fK s5.ba s5.turns s5.n4).same lV,(off fE s5.n4).2,nm_more si.nm sx,si.so,?_,?_,?_⟩ (by rw[pe,Yi];exact Nat.succ_pos _)
  ·rw[gB _ _ vw,pe,jT,jT,Ym];rfl
  ·rw[ze _ _ e8,pe];show _=some (HO.dK ((b.ps++[(c9 z b.ps.length,sx)]).map _));rw[Ym];rfl
  ·have:=zR wt s5.ba dY;refine Zh (λa p hp e=>?_) this;exact eK.ext (si.ok.fg p hp) (lV _ _ e)
  ·rw[pe,Yi];show _+1<=_;omega
  ·rw[pe,Yi];show _+1+b.fs.length<=_;omega
  ·show(b.dn++[_]).length<=_;rw[Yi];show _+1<=_;omega
 have p0:0<b.ps.length:=by
  rw[Lr,decide_eq_true_iff] at cc;omega
 refine⟨_,rfl,dr,_,_,_,rfl,rfl,ak.of (g3 _ _ h2),rfl,_,_,rfl,rfl,_,rfl,?_⟩;refine bJ (λcc2=>?_) (λcc2=>aY ?_)
 ·refine cz ?_;obtain⟨tm,tf,tw,u0,fE,_,_,_,we⟩:=id s3.turns;refine⟨_,rfl,_,rfl,_,rfl,_,rfl,td,.ref u0,rfl,cV fE rfl,u0,_,rfl,.inr (aB.of we),nl,sd,dr,b.ps,xs,ys,d0,d1,d2,d3,d4,by rw[Ya,eG];rfl,s3.names,s3.c8,si.ok.nm,p0,by omega,g3 _ _ h2,b4,si.ok.gd,λc fg ff H4 CW g4 t9=>?_⟩;have s4:=s3.same g4;refine⟨_,rfl,_,rfl,_,rfl,_,rfl,sd,fl,td,ff,xs,ys,b,c,rfl,s4.c8,s4.FL,s4.turns,t9,si.ok,fg,λH5 g5=>⟨rfl,_,rfl,?_⟩⟩;have s5:=s4.same g5;have CY:=(jN.trans g4).trans g5;rw[dU];refine bJ (λcw=>?_) (λcw=>aY ?_);·exact⟨_,rfl,q l b nl sd fl st H5 (bM.of CY) s5.more p0⟩
  have hw:nH xs.length b c="":=by
   by_cases e:nH xs.length b c="";·exact e
   ·rw[decide_eq_false e] at cw;exact absurd rfl cw
  have nf:=Gm si.ok fg (by omega) hw;refine⟨_,rfl,_,rfl,l,b,xs,ys,c,ff,rfl,s5.ba,si.ok,g5 _ _ t9,fg,by omega,hw,by omega,λl' H6 wt pU=>?_⟩;have off:=λ{a:Addr} {o:HO} (h:H5 a=some o) (n:a∉l.fp)=>wt.off h n;obtain⟨zc,Bx⟩:=off s5.c8 s5.n2;obtain⟨zd,By⟩:=off s5.names s5.n1;obtain⟨as,wj,dY⟩:=s5.facts;obtain⟨wk,I0⟩:=off wj s5.n3;have ff6:=wt.bN s5.ba (g5 _ _ t9);have al:=cU dY;refine⟨_,rfl,_,rfl,_,rfl,_,rfl,by show 1<=sizeLine;omega,λt1 H7 nt1 g7 Lv=>⟨_,rfl,t1,ff,_,_,rfl,rfl,aB.of Lv,aB.of (g7 _ _ ff6),by simp,by show 1+3<=sizeLine;omega,λe=>(by cases e),λ_ t2 LD=>?_⟩⟩;obtain⟨H8,e8⟩:∃H8,H8=upd H7 t2 (.tup ([V.int (b.co:Int)]++[V.str c.k,V.str (au b.ps c.one),kV (bo b.ps c)])):=⟨_,rfl⟩;have g8:aj H7 H8:=by rw[e8];exact cq LD _
  have LF:eK H8 b.ps t2 (b.co,c):=by
   show H8 t2=_;rw[e8,aR];rfl
  rw[←e8];have kQ:=g7.trans g8;refine⟨by show 1<=sizeLine;omega,λl1 H9 nl1 g9 hl1=>⟨fl,l1,_,_,rfl,rfl,g9 _ _ (kQ _ _ wk),hl1,by rw[Ya];show _+1<=_;omega,λjC HA Zhv gA Zhw=>⟨_,rfl,_,_,rfl,rfl,by show 4<=sizeLine;omega,λaJ HB Ce gB df=>?_⟩⟩⟩;have ze:=(g9.trans gA).trans gB;have lV:=kQ.trans ze;obtain⟨tm,tf,tw,ts,I_,_⟩:=id s5.turns;have Vy:=si.ok.lt;refine q l' (b.xM c) nl sd jC aJ HB ((bM.after CY wt).same lV) ⟨pU.same lV,?_,lV _ _ zd,By,lV _ _ zc,Bx,⟨as++[t2],?_,?_⟩,((pU.same kQ).same g9).fresh Zhv,df,(wt.fK s5.ba s5.turns s5.n4).same lV,(off I_ s5.n4).2,si.nm,?_,W3 cp,?_,?_⟩ p0
  ·exact si.ok.Zhb fg (λm=>by
    obtain⟨p,hp,e⟩:=Yh.mp m;have:=Vy p hp;omega) nf.nk nf.np nf.lv (by omega) (co:=b.co+1) (J7 _) (Jh _) (by rw[Yi];show _+1<=200;omega) (Yx _)
  ·rw[gB _ _ Zhw,Ym];rfl
  ·exact jD (F:=eK HB b.ps) (ze _ _ LF) (L2.Paired.bq (zR wt s5.ba dY) λ_ _ e=>lV _ _ e)
  ·show((b.fs++[(b.co,c)]).map (·.1)).Pairwise _;rw[Ym];refine Js.mpr ⟨si.so,by simp,λu hu v hv=>?_⟩;obtain⟨p,hp,rfl⟩:=Yh.mp hu;have:v=b.co:=by simpa using hv
   rw[this];exact Vy p hp
  ·show _+(b.fs++[_]).length<=_;rw[Yi];show b.ps.length+(_+1)<=_;omega
  ·show(b.dn++[_]).length<=_;rw[Yi];show _+1<=_;omega
 obtain⟨as,wj,dY⟩:=s3.facts;have al:=cU dY;refine⟨_,rfl,by show 0<=sizeLine;omega,λe0 H4 y8 g4 yM=>⟨fl,e0,_,rfl,rfl,ak.of (g4 _ _ wj),ak.of yM,_,rfl,bJ (λce=>?_) (λce=>aY ?_)⟩⟩;·exact⟨_,rfl,q l b nl sd fl st H4 (bM.of (jN.trans g4)) (s3.same g4).more p0⟩
 refine cz ?_;have s4:=s3.same g4;have f0:0<as.length:=by
  cases e:as with
  |nil=>rw[e] at ce;exact absurd rfl ce
  |cons _ _=>exact Nat.succ_pos _
 have mi:=xE (z:=d1) f0;refine⟨_,rfl,ix (g3.trans g4) rfl _ rfl _ λH5 g5=>?_⟩;have s5:=s4.same g5;have JA:=g5 _ _ (g4 _ _ wj);obtain⟨i,ei⟩:∃i:Nat,d1 % (as.length:Int)=(i:Int):=⟨(d1 % (as.length:Int)).toNat,by omega⟩;have hi:i<as.length:=by omega
 obtain⟨ao,Vz⟩:∃ao,as[i]?=some ao:=⟨_,Yc hi⟩;obtain⟨⟨z0,c0⟩,VA,Li⟩:=gH dY Vz;have S4:=g5 _ _ (g4 _ _ Li);refine⟨_,rfl,fl,_,rfl,.inl (ak.of JA),_,_,rfl,rfl,by rw[Ya];omega,fl,_,_,.ref ao,rfl,rfl,ak.of JA,?_,?_⟩
 ·rw[Ya,ei];exact iH (by rw[Ye,Vz];rfl)
 obtain⟨LA,LB⟩:=s5.ba.obj;refine⟨_,rfl,l.h,LA,_,rfl,LB,rfl,_,rfl,ao,_,_,_,rfl,rfl,aB.of S4,rfl,l,b,xs,ys,z0,c0,rfl,s5.ba,si.ok,Yg VA,by omega,λl' H6 wt pU=>?_⟩;have off:=λ{a:Addr} {o:HO} (h:H5 a=some o) (n:a∉l.fp)=>wt.off h n;obtain⟨zc,Bx⟩:=off s5.c8 s5.n2;obtain⟨zd,By⟩:=off s5.names s5.n1;obtain⟨wk,I0⟩:=off JA s5.n3;have Zhx:Paired (eK H5 b.ps) as b.fs:=L2.Paired.bq dY λ_ _ e=>g5 _ _ (g4 _ _ e);have S5:=zR wt s5.ba Zhx;have al5:=cU dY;have ao6:=wt.bN s5.ba S4;refine⟨_,rfl,_,rfl,_,rfl,fl,rfl,⟨_,ak.of wk⟩,λD hD=>?_⟩;have qe:∀p∈b.fs,p.1=z0->p=(z0,c0):=λp hp e=>PK si.ok.zs hp (Yg VA) e;refine wM (K:=K) (ak.of wk) (by rw[Ya];omega) hD (λi=>(b.fs[i]?.map λp=>decide (p.1≠z0)).getD false) (λi y _=>∃a,as[i]?=some a/\y=.ref a) (λ_ _ _ _ _ h=>h) (λi v hi H7 g7 _ Kt Kf kt kf=>?_) λus H7 g7 h7 pr=>?_
 ·rw[Ye] at hi;obtain⟨a,ea,rfl⟩:∃a,as[i]?=some a/\V.ref a=v:=by
   cases e:as[i]? with
   |none=>rw[e] at hi;cases hi
   |some c=>rw[e] at hi;exact⟨c,rfl,Yn hi⟩
  obtain⟨p,ep,hp⟩:=gH S5 ea;have mp:=Yg ep;have pb:(b.fs[i]?.map λp=>decide (p.1≠z0)).getD false=decide (p.1≠z0):=by rw[ep];rfl
  rw[pb] at kt kf;refine⟨_,rfl,_,rfl,a,ao,_,_,rfl,rfl,aB.of (g7 _ _ hp),aB.of (g7 _ _ ao6),Q9 _,Q9 _,_,rfl,?_⟩;have ed:(!decide ((dZ b.ps p.1 p.2).map kV=(dZ b.ps z0 c0).map kV))=decide (p.1≠z0):=by
   by_cases e:p.1=z0
   ·rw[qe p mp e];simp
   ·rw[decide_eq_true e,decide_eq_false (λh=>e ?_)];·rfl
    ·injection h with h1 _;have:=V.int.inj h1;omega
  show(if(!decide ((dZ b.ps p.1 p.2).map kV=(dZ b.ps z0 c0).map kV))=true then _ else _);rw[ed];cases e:decide (p.1≠z0) with
  |true=>exact cY ⟨_,rfl,kt _ H7 e (aj.refl _) ⟨a,ea,rfl⟩⟩
  |false=>exact bW (kf H7 e (aj.refl _))
 rw[Ya,al5] at pr;obtain⟨iY,rfl,Zhy⟩:∃iY:List Addr,us=iY.map V.ref/\Paired (eK H7 b.ps) iY (cZ z0 b.fs):=by
  have aux:∀{ys:List V} {is:List Nat} {gs:List (Nat×Fc)},Paired (λy i=>∃a,as[i]?=some a/\y=.ref a) ys is->is.map (λi=>b.fs[i]?)=gs.map some->∃as:List Addr,ys=as.map V.ref/\Paired (eK H7 b.ps) as gs:=by
   intro ys is gs pr;induction pr generalizing gs with
   |nil=>
    intro e;cases gs with
    |nil=>exact⟨[],rfl,.nil⟩
    |cons _ _=>cases e
   |cons f _ ih=>
    intro e;cases gs with
    |nil=>cases e
    |cons g gs=>
     obtain⟨a,e1,e2⟩:=f;obtain⟨p,ep,hp⟩:=gH S5 e1;injection e with e4 e5;obtain⟨as,r1,r2⟩:=ih e5;exact⟨a::as,by rw[e2,r1];rfl,.cons (by rw[←Yn (ep.symm.trans e4)];exact g7 _ _ hp) r2⟩
  exact aux pr (Zac b.fs λp=>decide (p.1≠z0))
 refine⟨_,rfl,by show 4<=sizeLine;omega,λaJ H8 Ce g8 df=>?_⟩;have kQ:=g7.trans g8;obtain⟨tm,tf,tw,ts,I_,_⟩:=id s5.turns;have sub:(cZ z0 b.fs).Sublist b.fs:=List.filter_sublist;refine q l' (b.without z0 c0) nl sd D aJ H8 ((bM.after (((jN.trans g4).trans g5)) wt).same kQ) ⟨pU.same kQ,si.ok.drop z0 (Yd _) (by rw[Yi];show _+1<=200;omega) (Yx _),kQ _ _ zd,By,kQ _ _ zc,Bx,⟨iY,g8 _ _ h7,L2.Paired.bq Zhy λ_ _ e=>g8 _ _ e⟩,pU.fresh hD,df,(wt.fK s5.ba s5.turns s5.n4).same kQ,(off I_ s5.n4).2,si.nm,si.so.sublist (sub.map _),W3 cp,W3 (Y0 (Nat.add_le_add_left sub.length_le _) cf),?_⟩ p0;show(b.dn++[_]).length<=_;rw[Yi];show _+1<=_;omega
end
def cM.nil(gd:nG xs ys):cM xs ys ⟨[],[],0,[],[]⟩:=
 ⟨gd,Ja,Yx _,Yx _,λ_ h=>(nomatch h),Ja,λ_ h=>(nomatch h),Ja,Ja,⟨λ_=>0,λ_ h=>absurd h (Wk _),λ_ h=>(nomatch h)⟩,Yx _,Yx _⟩
inductive Q_(C CL CJ:Addr)(vs:List V)(H:Hp)(Q:VK)(E:XK):Prop
 |mk (xs ys:List Int) (z:Nat) (ca td:Addr) (l:BL) (b:BS) (cs:List Int) (aC:vs=[.ref l.h,.ref ca,.ref td,.int (z:Int)]) (ba:bh H C CL CJ l xs ys b) (eb:b=⟨[],[],0,[],[]⟩) (gd:nG xs ys) (hc:H ca=some (.lst (cs.map V.int))) (nc:ca∉l.fp) (ht:fK H td xs ys) (nt:td∉l.fp) (hz:z<97) (lc:cs.length<=59) (q:∀(l':BL) (b':BS) (kP jb jC aJ:Addr) (H':Hp),bM H H' l l'->dA C CL CJ H' xs ys z 59 td l' b' kP jb jC aJ->Q (.ref aJ) H')
section
variable {K:ah}{mg:aQ}
abbrev JB:List Str:=["_law_book","_law_cells","_law_turns_here","_law_salt"]
def zw:aP ["_law_book","_law_cells","_law_turns_here","_law_salt","_law_state","_law_cell_here"] JB (aF Fd):=.aX
def Zj(F:aN K "_law_grow" "_law_grow" Fd f fd)(Ft:HasFn P w K mg base 14 "_law_step" IZ (PH C CL CJ))(bl:Bl mg):aE P w K mg base aM 15 f fd JB (Q_ C CL CJ):=by
 refine F.o zw λs H hr h=>?_;obtain⟨xs,ys,z,ca,td,l,b,cs,rfl,ba,rfl,gd,hc,nc,ht,nt,hz,lc,q⟩:=h;refine⟨_,(aq (bU 4 zw.nd (c6 (aa (dw ae) (aa rL (aa (dw ae) (aa aO ae)))))) (aq (fP PassesOwn.never rfl (eI (K:=K) rfl (pv 1)) (bF 5 zw.nd) (av (bU 4 zw.nd (aW Ft hr (aa (pv 0) (aa (pv 4) (aa (pv 5) (aa (pv 2) (aa (pv 3) ae))))))))) (av (aG (pv 4))))),?_⟩;have sz:(10000:Nat)<=sizeLine:=by rw[sizeLine_eq];omega
 refine cz ?_;refine⟨by show 0<=sizeLine;omega,λnl H1 n1 g1 h1=>?_⟩;refine λsd H2 n2 g2 h2=>?_;refine⟨by show 0<=sizeLine;omega,λfl H3 n3 g3 h3=>⟨by show 4<=sizeLine;omega,λst H4 n4 g4 h4=>?_⟩⟩;have rm:=((g1.trans g2).trans g3).trans g4;have bX:=ba.same g1;have qW:=bX.same g2;have si:dA C CL CJ H4 xs ys z 0 td l ⟨[],[],0,[],[]⟩ nl sd fl st:=⟨ba.same rm,cM.nil gd,g4 _ _ (g3 _ _ (g2 _ _ h1)),ba.fresh n1,g4 _ _ (g3 _ _ h2),bX.fresh n2,⟨[],g4 _ _ h3,.nil⟩,qW.fresh n3,h4,ht.same rm,nt,rfl,List.Pairwise.nil,Yx _,Yx _,Yx _⟩;refine gI (λσ H6=>∃(l':BL) (b':BS) (kP jb jC aJ:Addr) (o5:Option V),bM H H6 l l'/\dA C CL CJ H6 xs ys z 59 td l' b' kP jb jC aJ/\σ=[some (.ref l.h),some (.ref ca),some (.ref td),some (.int (z:Int)),some (.ref aJ),o5]) (λnW eV=>?_) ?_
 ·refine⟨_,rfl,ca,rfl,⟨_,ak.of (rm _ _ hc)⟩,je (K:=K) (a:=ca) (xs:=cs.map V.int) (λj σ H6=>∃(l':BL) (b':BS) (kP jb jC aJ:Addr) (o5:Option V),bM H H6 l l'/\dA C CL CJ H6 xs ys z j td l' b' kP jb jC aJ/\σ=[some (.ref l.h),some (.ref ca),some (.ref td),some (.int (z:Int)),some (.ref aJ),o5])
   ⟨l,_,nl,sd,fl,st,none,bM.of rm,si,rfl⟩ (λj σ H6 _ ⟨_,_,_,_,_,_,_,wt,_⟩=>ak.of (wt.off hc nc).1) ?_ ?_⟩
  ·rintro j v σ H6 hj ⟨l',b',kP,jb,jC,aJ,o5,wt,s6,rfl⟩;obtain⟨x,rfl,hx⟩:=jY hj;have jl:j<cs.length:=(Yl.mp hx).1;refine bg ?_;rw[←wt.h];refine⟨_,rfl,_,rfl,_,rfl,_,rfl,_,rfl,xs,ys,z,j,x,td,l',b',kP,jb,jC,aJ,rfl,s6,hz,by omega,λl2 b2 K5 Km fl2 eM H7 wt7 s7 _=>bg ⟨l2,b2,K5,Km,fl2,eM,_,wt.trans wt7,s7,rfl⟩⟩
  ·rintro σ H6 ⟨l',b',kP,jb,jC,aJ,o5,wt,s6,rfl⟩;rw[Ya] at s6;exact eV _ _ ⟨l',b',kP,jb,jC,aJ,o5,wt,⟨s6.ba,s6.ok,s6.names,s6.n1,s6.c8,s6.n2,s6.facts,s6.n3,s6.tup,s6.turns,s6.n4,s6.nm,s6.so,Y0 s6.cp lc,Y0 s6.cf lc,Y0 s6.cd lc⟩,rfl⟩
 rintro σ H6 ⟨l',b',kP,jb,jC,aJ,o5,wt,s6,rfl⟩;exact⟨_,rfl,q l' b' kP jb jC aJ H6 wt s6⟩
end
def dA.S6{C CL CJ:Addr}{H H':Hp}{xs ys:List Int}{z j:Nat}{td:Addr}{l l':BL}{b:BS}{nl sd fl st:Addr}(s:dA C CL CJ H xs ys z j td l b nl sd fl st)(w:bM H H' l l')(ba:bh H' C CL CJ l' xs ys b):dA C CL CJ H' xs ys z j td l' b nl sd fl st:=by
 obtain⟨a1,c1⟩:=w.off s.names s.n1;obtain⟨a2,c2⟩:=w.off s.c8 s.n2;obtain⟨as,h1,h2⟩:=s.facts;obtain⟨a3,c3⟩:=w.off h1 s.n3;obtain⟨_,_,_,_,fE,_⟩:=id s.turns;exact⟨ba,s.ok,a1,c1,a2,c2,⟨as,a3,zR w s.ba h2⟩,c3,w.bN s.ba s.tup,w.fK s.ba s.turns s.n4,(w.off fE s.n4).2,s.nm,s.so,s.cp,s.cf,s.cd⟩
def dA.good{C CL CJ:Addr}{H:Hp}{xs ys:List Int}{z j:Nat}{td:Addr}{l:BL}{b:BS}{nl sd fl st:Addr}(s:dA C CL CJ H xs ys z j td l b nl sd fl st):(∀c∈b.F,dQ xs ys b.ps.length c)/\b.F.length<=64:=by
 refine⟨λc hc=>?_,?_⟩
 ·obtain⟨p,hp,rfl⟩:=Yh.mp (show c∈b.fs.map (·.2) from hc);exact s.ok.fg p hp
 ·show(b.fs.map (·.2)).length<=64;rw[Ya];exact W3 s.ok.fl
def ZcA(h:xs.length<=63):(mC xs (some 4) none).length<=59:=by
 unfold mC;have e:HT.fh xs.length 0 (some 4)=min 4 xs.length:=HT.ZcN _ _ 4
 grind
def dA.nam{C CL CJ:Addr}{H:Hp}{xs ys:List Int}{z j:Nat}{td:Addr}{l:BL}{b:BS}{nl sd fl st:Addr}(s:dA C CL CJ H xs ys z j td l b nl sd fl st){i:Nat}(hi:i<b.ps.length):au b.ps i=c9 z i:=by
 have e:(b.ps.map (·.1))[i]?=((List.range b.ps.length).map (c9 z))[i]?:=by rw[s.nm]
 rw[Ye,Ye,Jx hi,Yc hi] at e;rw[au,Yf,Yc hi];exact Yn e
def dA.len{C CL CJ:Addr}{H:Hp}{xs ys:List Int}{z j:Nat}{td:Addr}{l:BL}{b:BS}{nl sd fl st:Addr}(s:dA C CL CJ H xs ys z j td l b nl sd fl st)(h60:j<=60){i:Nat}(hi:i<b.ps.length):(au b.ps i).length<=1000:=by
 rw[s.nam hi];have:=(MJ (z:=z) (k:=i) (by have:=s.cp;omega)).2;omega
def ZdS{ps:bA}{j:Nat}(h:j<ps.length):(jT ps)[j]?=some (.str (au ps j)):=by
 unfold jT au;rw[Ye,Yc h,Yf,Yc h];rfl
inductive Ra(vs:List V)(H:Hp)(Q:VK)(E:XK):Prop
 |mk (fa td:Addr) (ps:bA) (xs ys:List Int) (F:List Fc) (x:Nat) (a:Int) (aC:vs=[.ref fa,.ref td,.str (au ps x),.int a]) (aS:FL H ps fa F) (ht:fK H td xs ys) (nd:(ps.map (·.1)).Nodup) (bb:∀c∈F,dQ xs ys ps.length c) (bL:xs.length<=8) (cD:ps.length<=100) (dB:F.length<=64) (fD:x<ps.length) (ir:0<=a/\a<(xs.length:Int)) (nP:∃g,gf xs.length F g/\g x=some a) (vI:∀(p:Addr) (g:List (Nat×Int)) (H':Hp),aj H H'->H' p=some (.dK (gN ps g))->BF F xs.length ps.length x a g->gf xs.length F (λk=>g.lookup k)->Q (.ref p) H')
section
variable {K:ah}{mg:aQ}
abbrev Bz:List Str:=["_law_facts","_law_turns_here","_law_name_here","_law_section"]
def Zk:aP Bz Bz (aF Fe):=.aX
def ZdT(F:aN K "_law_good" "_law_good" Fe f fd)(uB:HasFn P w K mg base 2 "_law_nets" Br Hf)(uh:HasFn P w K mg base 1 "_law_carried" Bs FX):aE P w K mg base aM 3 f fd Bz Ra:=by
 refine F.o Zk λs H hr h=>?_;obtain⟨fa,td,ps,xs,ys,F,x,a,rfl,fY,ht,fL,fg,n8,qH,jR,hx,ain,yes,q⟩:=h;refine⟨_,(av (aG (aW uh hr (aa (aW uB hr (aa (pv 0) (aa (pv 1) ae))) (aa (pv 0) (aa (pv 2) (aa (pv 3) ae))))))),?_⟩;refine⟨_,rfl,_,rfl,fa,td,ps,xs,ys,F,rfl,fY,ht,fL,fg,n8,jR,λd kvs L H1 g1 vg ed=>?_⟩;exact⟨_,rfl,_,rfl,_,rfl,H,d,fa,kvs,L,xs.length,ps,F,x,a,rfl,fL,vg,ed,fY.same g1,λc hc=>(fg c hc).ok,n8,qH,jR,hx,ain,λno=>absurd yes no,λp g H2 g2 hp bf cl=>q p g H2 (g1.trans g2) hp bf cl⟩
end
section
variable {n x y:Nat}{st:JS}{F:List Fc}{a:Int}{g:List (Nat×Int)}
def du.Zfl(me:du n st F)(hx:x<st.hd.length)(hy:y<st.hd.length)(b:BF F n st.hd.length x a g)(cl:gf n F (λk=>g.lookup k)){v:Int}(hv:g.lookup y=some v)(u:Int):(∃f,cH st f/\f x=a/\f y=u)↔u=v:=by
 constructor
 ·rintro⟨f,d,e1,rfl⟩;obtain⟨i1,s1⟩:=(me.iff f).mp d;obtain⟨g',c',h'⟩:=LZ me.hV i1 s1;have:=b.snd g' c' (by rw[h' x hx,e1]) _ (lookup_mem hv);rw[show((y,v):Nat×Int).1=y from rfl,h' y hy] at this;exact Yn this
 ·rintro rfl;obtain⟨f0,d0⟩:=me.live;obtain⟨i0,s0⟩:=(me.iff f0).mp d0;obtain⟨f,i1,s1,e1,ef⟩:=D1 me.hV i0 (λc mc=>.inr (s0 c mc)) cl b.hd;exact⟨f,(me.iff f).mpr ⟨i1,s1⟩,e1,by rw[ef,hv];rfl⟩
def du.ZdU(me:du n st F)(hx:x<st.hd.length)(b:BF F n st.hd.length x a g)(cl:gf n F (λk=>g.lookup k))(hv:g.lookup y=none)(u:Int):(∃f,cH st f/\f x=a/\f y=u)↔∃f,cH st f/\f y=u:=by
 constructor
 ·rintro⟨f,d,_,e⟩;exact⟨f,d,e⟩
 ·rintro⟨f0,d0,rfl⟩;obtain⟨i0,s0⟩:=(me.iff f0).mp d0;obtain⟨f,i1,s1,e1,ef⟩:=D1 me.hV i0 (λc mc=>.inr (s0 c mc)) cl b.hd;exact⟨f,(me.iff f).mpr ⟨i1,s1⟩,e1,by rw[ef,hv];rfl⟩
end
theorem MK{α β:Type}{F:α->β->Prop}:∀{xs VB:List α} {ys fC:List β},Paired F xs ys->Paired F VB fC->Paired F (xs++VB) (ys++fC)
 |_,_,_,_,.nil,h=>h
 |_,_,_,_,.cons f t,h=>.cons f (MK t h)
inductive Om(vs:List V)(H:Hp)(Q:VK)(E:XK):Prop
 |mk (fa td:Addr) (ps:bA) (xs ys:List Int) (st:JS) (F:List Fc) (x y:Nat) (aC:vs=[.ref fa,.ref td,.str (au ps x),.str (au ps y)]) (aS:FL H ps fa F) (ht:fK H td xs ys) (nd:(ps.map (·.1)).Nodup) (fg:∀c∈F,dQ xs ys ps.length c) (bb:du xs.length st F) (len:st.hd.length=ps.length) (bL:xs.length<=8) (cD:ps.length<=100) (dB:F.length<=64) (fD:x<ps.length) (ir:y<ps.length) (nP:∀(p:Addr) (as:List Addr) (aL:List (Int×Int)) (H':Hp),aj H H'->H' p=some (.lst (as.map V.ref))->qw H' as aL->aL.Pairwise dJ->aL.length<=64->(∀u v,(u,v)∈aL↔∃f,cH st f/\f x=u/\f y=v)->Q (.ref p) H')
section
variable {K:ah}{mg:aQ}
abbrev JC:List Str:=["_law_facts","_law_turns_here","_law_one","_law_other"]
def wD:aP ["_law_facts","_law_turns_here","_law_one","_law_other","_law_found","_law_at","_law_dealt"] JC (aF Ez):=.aX
theorem Zbe(F:aN K "_law_pairs" "_law_pairs" Ez f fd)(rH:HasFn P w K mg base 3 "_law_room" Bu Hg)(Fu:HasFn P w K mg base 3 "_law_good" Bz Ra)(bl:Bl mg):aE P w K mg base aM 4 f fd JC Om:=by
 refine F.o wD λs H hr h=>?_;obtain⟨fa,td,ps,xs,ys,st,F,x,y,rfl,fY,ht,fL,fg,me,len,n8,qH,jR,px,py,q⟩:=h;have hx:x<st.hd.length:=by omega
 have hy:y<st.hd.length:=by omega
 refine⟨_,(aq (bU 4 wD.nd (dw ae)) (aq (fP PassesOwn.never rfl (eI (K:=K) rfl (aW rH hr (aa (pv 0) (aa (pv 1) (aa (pv 2) ae))))) (m8 (i:=5) wD.nd rfl (Or.inr rfl)) (aq (bU 6 wD.nd (aW Fu hr (aa (pv 0) (aa (pv 1) (aa (pv 2) (aa (pv 5) ae)))))) (av (aV (jE (xw (bw hr) (pv 3) (pv 6)) (by with_unfolding_all rfl)) (av (b_ (nA (K:=K) rfl (ka plainAttrs_list PySem.F.slot_list_append PySem.F.type_list_append oz (pv 4) (aa (c6 (aa (pv 5) (aa (dk (bw hr) (pv 6) (pv 3) (λ_ _=>rfl)) ae))) ae))))) (av (bU 4 wD.nd (a_ rQ (pv 4) (iJ (x:="_law_to") (fr:=[("_law_at",5)]) (cl:=[("_law_at",s.heap.objs.size+1)]) rfl (.gu ⟨rfl,trivial⟩ ⟨⟨rfl,.inl rfl,.inl rfl,rfl⟩,trivial⟩) (eI (K:=K) rfl (aW rH hr (aa (pv 0) (aa (pv 1) (aa (pv 3) ae))))) (λ_ _ _ _=>kY) (λ_ _ _ _=>(c6 (aa (pv 1) (aa (pv 0) ae)))))))))))) (av (aG (pv 4))))),?_⟩;have sz:(10000:Nat)<=sizeLine:=by rw[sizeLine_eq];omega
 refine cz ?_;refine⟨by show 0<=sizeLine;exact Yx _,λfo0 H1 Zhz g1 S7=>?_⟩;have S8:∀z,(ic F xs.length z).length<=8:=λz=>by
  unfold ic;have:=Wh (λa=>@decide (∃g,gf xs.length F g/\g z=some a) (Classical.propDecidable _)) (bp xs.length);rw[eG] at this;omega
 obtain⟨R,eR⟩:∃R,R=ic F xs.length x:=⟨_,rfl⟩;have Rpw:R.Pairwise (·<·):=by rw[eR];exact zO (z6 F xs.length x).1 (z6 F xs.length x).2
 have Rl:R.length<=8:=by rw[eR];exact S8 x
 refine gI (λσ H6=>∃(fo:Addr) (as:List Addr) (aL:List (Int×Int)) (o5 o6:Option V),aj H H6/\H6 fo=some (.lst (as.map V.ref))/\qw H6 as aL/\aL.Pairwise dJ/\aL.length<=64/\(∀u v,(u,v)∈aL↔∃f,cH st f/\f x=u/\f y=v)/\σ=[some (.ref fa),some (.ref td),some (.str (au ps x)),some (.str (au ps y)),some (.ref fo),o5,o6]) (λnW eV=>?_) ?_
 ·refine⟨_,rfl,_,rfl,_,rfl,fa,td,ps,xs,ys,F,x,rfl,fY.same g1,ht.same g1,fL,fg,n8,qH,jR,px,λrl H2 VC g2 LG=>?_⟩;rw[←eR] at LG;refine⟨rl,rfl,⟨_,ak.of LG⟩,je (K:=K) (a:=rl) (xs:=R.map V.int) (λj σ H6=>∃(fo:Addr) (as:List Addr) (aL:List (Int×Int)) (o5 o6:Option V),aj H H6/\H6 rl=some (.lst (R.map V.int))/\rl≠fo/\H fo=none/\H6 fo=some (.lst (as.map V.ref))/\qw H6 as aL/\aL.Pairwise dJ/\aL.length<=8*j/\(∀u v,(u,v)∈aL↔u∈R.take j/\∃f,cH st f/\f x=u/\f y=v)/\σ=[some (.ref fa),some (.ref td),some (.str (au ps x)),some (.str (au ps y)),some (.ref fo),o5,o6])
   ⟨fo0,[],[],none,none,g1.trans g2,LG,(λz=>by rw[z,S7] at VC;cases VC),Zhz,g2 _ _ S7,.nil,.nil,Yx _,λu v=>⟨λz=>(nomatch z),λz=>(nomatch z.1)⟩,rfl⟩ (λj σ H6 _ ⟨_,_,_,_,_,_,h,_⟩=>ak.of h) ?_ ?_⟩
  ·rintro j w σ H6 hj ⟨fo,as,aL,o5,o6,g6,BA,LH,LI,x9,pa,pw,pl,mem,rfl⟩;obtain⟨u,rfl,hu⟩:=jY hj;have mu:u∈ic F xs.length x:=by rw[←eR];exact Yg hu
   obtain⟨uin,yes⟩:=FT.mp mu;have jl:j<R.length:=(Yl.mp hu).1;have tk:R.take (j+1)=R.take j++[u]:=by rw[Y1,hu];rfl
   have before:∀p∈aL,p.1<u:=λp hp=>O6 Rpw hu ((mem p.1 p.2).mp hp).1;have al:=cU pa;refine bg ?_;refine cz ?_;refine⟨_,rfl,_,rfl,_,rfl,_,rfl,fa,td,ps,xs,ys,F,x,u,rfl,fY.same g6,ht.same g6,fL,fg,n8,qH,jR,px,uin,yes,λdp g H7 g7 VD bf cl=>?_⟩;have gv:=oR fL py λp hp=>(bf.lt p hp).1;rw[←len] at bf;have BB:=g7 _ _ x9;refine⟨_,rfl,_,rfl,dp,_,rfl,cV VD gv,_,rfl,?_⟩;cases lv:g.lookup y with
   |some v=>
    refine cY ?_;refine⟨_,rfl,.inl ⟨rfl,_,ak.of BB⟩,_,rfl,_,rfl,_,rfl,dp,.int v,rfl,cV VD (by rw[gv,lv];rfl),by show 2<=sizeLine;omega,λe H8 ne g8 he=>⟨fo,_,_,rfl,rfl,g8 _ _ BB,by rw[Ya];omega,λH9 b9 e9=>?_⟩⟩;have nt:∀{c:Addr} {xs:List V},H8 c=some (.tup xs)->c≠fo:=λ{c xs} hc=>dI hc (g8 _ _ BB) (λz=>by cases z);refine⟨fo,as++[e],aL++[(u,v)],_,_,λc o z=>b9 _ _ (g8 _ _ (g7 _ _ (g6 _ _ z))) (bY z LI),b9 _ _ (g8 _ _ (g7 _ _ BA)) LH,LH,LI,by rw[e9,Ym];rfl,?_,?_,by rw[Yi];show aL.length+1<=8*(j+1);omega,λu' v'=>?_,rfl⟩;·exact jD (F:=λa (p:Int×Int)=>H9 a=some (.tup [.int p.1,.int p.2])) (b9 _ _ he (nt he)) (L2.Paired.bq pa λc p hc=>b9 _ _ (g8 _ _ (g7 _ _ hc)) (nt (g8 _ _ (g7 _ _ hc))))
    ·refine Js.mpr ⟨pw,List.pairwise_singleton _ _,λp mp q' mq=>.inl ?_⟩;rw[Yk] at mq;rw[mq];exact before p mp
    ·rw[Yq,mem,tk,Yq,Yk,Yk];have key:=me.Zfl hx hy bf cl lv;constructor
     ·rintro(⟨h1,h2⟩|h);·exact⟨.inl h1,h2⟩
      ·cases h;exact⟨.inr rfl,(key v).mpr rfl⟩
     ·rintro⟨h1|h1,h2⟩;·exact .inl ⟨h1,h2⟩
      ·subst h1;rw[(key v').mp h2];exact .inr rfl
   |none=>
    refine bW ?_;refine⟨_,rfl,_,rfl,_,rfl,_,rfl,fa,td,ps,xs,ys,F,y,rfl,fY.same (g6.trans g7),ht.same (g6.trans g7),fL,fg,n8,qH,jR,py,λrl2 H8 Zi0 g8 JD=>?_⟩;obtain⟨R2,zf⟩:∃R2,R2=ic F xs.length y:=⟨_,rfl⟩;have R2l:R2.length<=8:=by rw[zf];exact S8 y
    have ZhA:R2.Pairwise (·<·):=by rw[zf];exact zO (z6 F xs.length y).1 (z6 F xs.length y).2
    rw[←zf] at JD;refine⟨rl2,rfl,⟨_,ak.of JD⟩,λD hD=>wM (xs:=R2.map V.int) (ak.of JD) (by rw[Ya];omega) hD (λ_=>true) (λk yv H1=>∃a,yv=V.ref a/\a≠D/\H1 a=some (.tup [.int u,.int (R2.getD k 0)])) (λk yv H1 H2 b ⟨a,e1,e2,e3⟩=>⟨a,e1,e2,b _ _ e3 e2⟩) (λk v hk H9 g9 tK Kt Kf kt kf=>?_) λys H9 g9 h9 pr=>?_⟩
    ·obtain⟨z,rfl,hz⟩:=jY hk;have gz:R2.getD k 0=z:=by rw[Yf,hz];rfl
     refine kj (cY ?_);refine⟨_,rfl,_,rfl,by show 2<=sizeLine;omega,λa lH na lS ha=>?_⟩;obtain⟨ys,tK⟩:=tK;exact kt _ lH rfl lS ⟨a,rfl,(λz=>by rw[z,tK] at na;cases na),by rw[gz];exact ha⟩
    ·rw[zy,Ya] at pr;obtain⟨nX,ZhB,JE⟩:=QI (g:=λk=>(u,R2.getD k 0)) (L2.Paired.bq pr λyv k ⟨a,e1,e2,e3⟩=>⟨a,e1,e3⟩);have em:(List.range R2.length).map (λk=>((u,R2.getD k 0):Int×Int))=R2.map λz=>(u,z):=map_range (λz=>(u,z)) R2;rw[em] at JE;have Cs:=cU JE;rw[Ya] at Cs;rw[ZhB] at h9;have CZ:=g8.trans g9;refine⟨fo,D,_,_,rfl,rfl,CZ _ _ BB,h9,by rw[Ya,Ya];omega,λfo2 lH JG lS ZhC=>?_⟩;have gA:=(g7.trans CZ).trans lS;refine⟨fo2,as++nX,aL++R2.map λz=>(u,z),_,_,g6.trans gA,gA _ _ BA,(λz=>by rw[←z,(g7.trans CZ) _ _ BA] at JG;cases JG),(g6.trans (g7.trans CZ)).free JG,by rw[ZhC,Ym],?_,?_,by rw[Yi,Ya];omega,λu' v'=>?_,rfl⟩;·exact MK (L2.Paired.bq pa λc p hc=>gA _ _ hc) (L2.Paired.bq JE λc p hc=>lS _ _ hc)
     ·refine Js.mpr ⟨pw,O5 u ZhA,λp mp q' mq=>.inl ?_⟩;obtain⟨z,_,rfl⟩:=Yh.mp mq;exact before p mp
     ·rw[Yq,mem,tk,Yq,Yk,Yh];have key:=me.ZdU hx bf cl lv;constructor
      ·rintro(⟨h1,h2⟩|⟨z,mz,h⟩);·exact⟨.inl h1,h2⟩
       ·cases h;rw[zf] at mz;exact⟨.inr rfl,(key v').mpr ((me.room hy v').mp mz)⟩
      ·rintro⟨h1|h1,h2⟩;·exact .inl ⟨h1,h2⟩
       ·subst h1;refine .inr ⟨v',?_,rfl⟩;rw[zf];exact(me.room hy v').mpr ((key v').mp h2)
  ·rintro σ H6 ⟨fo,as,aL,o5,o6,g6,BA,LH,LI,x9,pa,pw,pl,mem,rfl⟩;rw[Ya] at pl mem;refine eV _ _ ⟨fo,as,aL,o5,o6,g6,x9,pa,pw,by omega,λu v=>?_,rfl⟩;rw[mem,Wb];refine⟨λh=>h.2,λh=>⟨?_,h⟩⟩;obtain⟨f,d,e1,_⟩:=h;rw[eR];exact(me.room hx u).mpr ⟨f,d,e1⟩
 rintro σ H6 ⟨fo,as,aL,o5,o6,g6,x9,pa,pw,pl,mem,rfl⟩;exact⟨_,rfl,q fo as aL H6 g6 x9 pa pw pl mem⟩
end
inductive ML(C CL CJ cN:Addr)(vs:List V)(H:Hp)(Q:VK)(E:XK):Prop
 |mk (l:BL) (b:BS) (xs ys:List Int) (z:Str) (aC:vs=[.ref l.h,.str z]) (ba:bh H C CL CJ l xs ys b) (nm:(b.ps.map (·.1)).Nodup) (lz:z.length<=1000) (yes:∀i,i<b.ps.length->z=au b.ps i->Q (.int (i:Int)) H) (no:z∉b.ps.map (·.1)->XP H cN "no person" E):ML C CL CJ cN vs H Q E
def Nr(C CL CJ cN:Addr):Sp:=λvs H Q E=>ML C CL CJ cN vs H Q E
def Zfm{ps:bA}{z:Str}(h:z∈ps.map (·.1)):∃i,i<ps.length/\z=au ps i:=by
 obtain⟨i,hi,e⟩:=List.getElem_of_mem h;rw[Ya] at hi;refine⟨i,hi,?_⟩;rw[←e,List.getElem_map,au,Yf,Yc hi];rfl
def ZcB{ps:bA}{z:Str}(h:z∉ps.map (·.1)):aT (i4 ps) (.inr z)=none:=pV λm=>h (by
 obtain⟨p,hp,e⟩:=Yh.mp m;obtain⟨⟨q,i⟩,hq,rfl⟩:=Yh.mp hp;exact Yh.mpr ⟨q,(JN (by rw[List.zipIdx_eq_zip_range'] at hq;exact hq)).1,Wf e⟩)
section
variable {K:ah}{mg:aQ}{cN:Addr}
def VU:aP kr kr (aF Dd):=.aX
def Zl(F:aN K "place_of" "Hearth.place_of" Dd f fd)(hc:fO K C)(Fv:GY P w K mg base "NoPerson" "no person" cN):aE P w K mg base (dW P w) 4 f fd kr (Nr C CL CJ cN):=by
 refine F.Kb VU (λvs H Q E h=>?_) (λbC A outer s H vs Q E hr h=>?_)
 ·obtain⟨l,b,xs,ys,z,rfl,_⟩:=h;rfl
 obtain⟨l,b,xs,ys,z,rfl,ba,nm,lz,yes,no⟩:=h;refine⟨_,(aq (aV (jE (m5 (bw hr) (pv 1) (pF K 0)) (by with_unfolding_all rfl)) (av (ZaJ Fv hr (by omega) rfl rfl Hu (pv 1))) aZ) (av (aG (dk (bw hr) (pF K 0) (pv 1) (λ_ _=>rfl))))),?_⟩;obtain⟨dx,h1⟩:=ba.obj;by_cases m:z∈b.ps.map (·.1)
 ·obtain⟨i,hi,rfl⟩:=Zfm m;have pg:=rS nm hi;exact⟨_,rfl,_,rfl,l.h,C,dx,_,_,rfl,h1,hc.cls,hc.qg,rfl,l.pl,some _,rfl,cV ba.places pg,_,rfl,bW (aY ⟨_,rfl,l.h,C,dx,_,_,rfl,h1,hc.cls,hc.qg,rfl,_,rfl,l.pl,_,rfl,cV ba.places pg,yes i hi rfl⟩)⟩
 ·exact⟨_,rfl,_,rfl,l.h,C,dx,_,_,rfl,h1,hc.cls,hc.qg,rfl,l.pl,none,rfl,cV ba.places (ZcB m),_,rfl,cY ⟨_,rfl,z,rfl,by omega,no m⟩⟩
end
theorem ZcC(z k:Nat)(hk:k<60):c9 z k≠"stranger":=λe=>by
 have e:(c9 z k).cps.toList[1]?=some 116:=by rw[e];decide+kernel
 rw[zQ z k hk] at e;have dg:∀(n:Nat) (r:List Nat),n<61->(jB n++r)[0]?≠some 116:=λn r h=>by
  unfold jB;split;·intro z;injection z with z;omega
  ·intro z;injection z with z;omega
 by_cases h0:z % 3=0
 ·rw[if_pos h0] at e;injection e with e;omega
 ·rw[if_neg h0] at e;by_cases h1:z % 3=1
  ·rw[if_pos h1,Jz] at e;cases f:eW k z with
   |zero=>rw[f] at e;exact dg ((k*17+z) % 61) [] (by omega) (by simpa using e)
   |succ m=>rw[f,List.replicate_succ] at e;injection e with e;omega
  ·rw[if_neg h1,Jz] at e;exact dg ((k*17+z) % 61) _ (by omega) e
inductive MM(C CL CJ cN:Addr)(vs:List V)(H:Hp)(Q:VK)(E:XK):Prop
 |mk (l:BL) (b:BS) (xs ys:List Int) (y z:Str) (aC:vs=[.ref l.h,.str y,.str z]) (ba:bh H C CL CJ l xs ys b) (ok:cM xs ys b) (ly:y.length<=1000) (lz:z.length<=1000)
  (yes:∀i j,i<b.ps.length->j<b.ps.length->y=au b.ps i->z=au b.ps j->∀(l':BL) (st:JS) (H1:Hp) (p:Addr) (as:List Addr) (aL:List (Int×Int)) (H':Hp),bM H H1 l l'->bh H1 C CL CJ l' xs ys b->du xs.length st b.F->st.hd.length=b.ps.length->H1 p=none->aj H1 H'->H' p=some (.lst (as.map V.ref))->qw H' as aL->aL.Pairwise dJ->(∀u v,(u,v)∈aL↔∃f,cH st f/\f i=u/\f j=v)->Q (.ref p) H')
  (no:y∉b.ps.map (·.1)\/z∉b.ps.map (·.1)->∀(l':BL) (H1:Hp),bM H H1 l l'->bh H1 C CL CJ l' xs ys b->XP H1 cN "no person" E):MM C CL CJ cN vs H Q E
def Nt(C CL CJ cN:Addr):Sp:=λvs H Q E=>MM C CL CJ cN vs H Q E
section
variable {K:ah}{mg:aQ}{cN:Addr}
abbrev BC:List Str:=["hearth","one","other"]
def Zaf:aP BC BC (aF FK):=.aX
def Zag(F:aN K "between" "between" FK f fd)(uc:cE P w K mg base 8 "joins" C lC (GD C CL CJ))(zk:Qw P w K mg base 4 "place_of" C kr (Nr C CL CJ cN))(ue:cE P w K mg base 3 "pairs" CJ pj (GA CJ)):aE P w K mg base (dW P w) 9 f fd BC (Nt C CL CJ cN):=by
 refine F.Kb Zaf (λvs H Q E h=>?_) (λbC A outer s H vs Q E hr h=>?_)
 ·obtain⟨l,b,xs,ys,y,z,rfl,_⟩:=h;rfl
 obtain⟨l,b,xs,ys,y,z,rfl,ba,ok,ly,lz,yes,no⟩:=h;refine⟨_,(av (aG (cT ue hr (by omega) (xy uc hr (by omega) (pv 0)) (aa (Qu zk hr (by omega) Hu (pv 0) (aa (pv 1) ae)) (aa (Qu zk hr (by omega) Hu (pv 0) (aa (pv 2) ae)) ae))))),?_⟩;obtain⟨dx,ho⟩:=ba.obj;refine⟨_,rfl,l.h,dx,_,rfl,ho,rfl,l,b,xs,ys,rfl,ba,ok,λl' jl st H1 w1 bX e1 e2 ja me len fX _=>?_⟩;obtain⟨dy,hj⟩:=ja.obj;obtain⟨pN,qR⟩:=bX.obj;rw[w1.h] at qR;refine⟨jl.J,dy,_,rfl,hj,rfl,_,rfl,l.h,pN,_,rfl,qR,rfl,_,rfl,l',b,xs,ys,y,by rw[w1.h];rfl,bX,ok.nm,ly,λi hi ey=>?_,λm=>no (.inl m) l' H1 w1 bX⟩;refine⟨_,rfl,l.h,pN,_,rfl,qR,rfl,_,rfl,l',b,xs,ys,z,by rw[w1.h];rfl,bX,ok.nm,lz,λj wm ez=>?_,λm=>no (.inr m) l' H1 w1 bX⟩;have lL:i<st.hd.length:=by rw[len];exact hi
 have LJ:j<st.hd.length:=by rw[len];exact wm
 have n8:=ok.gd.2.2.2.2;refine⟨jl,st,xs.length,i,j,_,_,_,_,_,_,rfl,ja,me.wf.one n8 lL,me.wf.one n8 LJ,λp as aL H2 np g2 hp pa pm lex=>?_⟩;refine yes i j hi wm ey ez l' st H1 p as aL H2 w1 bX me len np g2 hp pa lex λu v=>?_;rw[pm.mem_iff];constructor;·exact Ge me.wf lL LJ me.live
 ·rintro⟨f,d,rfl,rfl⟩;exact uM me.wf lL LJ d
end
inductive Oo(C CL CJ:Addr)(vs:List V)(H:Hp)(Q:VK):Prop
 |mk (l:BL) (b:BS) (xs ys:List Int) (y z:Str) (aC:vs=[.ref l.h,.str y,.str z]) (ba:bh H C CL CJ l xs ys b) (ok:cM xs ys b) (ly:y.length<=1000) (lz:z.length<=1000)
  (yes:∀i j,i<b.ps.length->j<b.ps.length->y=au b.ps i->z=au b.ps j->∀(l':BL) (st:JS) (H1:Hp) (t p:Addr) (as:List Addr) (aL:List (Int×Int)) (H':Hp),bM H H1 l l'->bh H1 C CL CJ l' xs ys b->du xs.length st b.F->st.hd.length=b.ps.length->aj H1 H'->H' t=some (.tup [.str "told",.ref p])->H' p=some (.lst (as.map V.ref))->qw H' as aL->aL.Pairwise dJ->(∀u v,(u,v)∈aL↔∃f,cH st f/\f i=u/\f j=v)->Q (.ref t) H')
  (no:y∉b.ps.map (·.1)\/z∉b.ps.map (·.1)->∀(l':BL) (H1:Hp) (p:Addr) (H':Hp),bM H H1 l l'->bh H1 C CL CJ l' xs ys b->aj H1 H'->H' p=some (.tup [.str "no person",.bl true])->Q (.ref p) H'):Oo C CL CJ vs H Q
def PL(C CL CJ:Addr):Sp:=λvs H Q _=>Oo C CL CJ vs H Q
section
variable {K:ah}{mg:aQ}{pZ kT:Addr}
abbrev JH:List Str:=["_law_book","_law_one","_law_other"]
def L7:aP ["_law_book","_law_one","_law_other","e"] JH (aF EA):=.aX
def ZcD(F:aN K "_law_asked" "_law_asked" EA f fd)(FZ:Iv P w K mg base 9 "between" BC (Nt C CL CJ kT))(ux:mg "KinError"=some (.ref pZ))(Fw:dC K pZ)
  (zI:mg "NoPerson"=some (.ref kT))(rJ:dC K kT)(wJ:de K kT "word")(C3:PySem.W.mroIn K kT (.ref pZ)=some true)(bl:Bl mg):aE P w K mg base aM 12 f fd JH (PL C CL CJ):=by
 refine F.o L7 @λbC A outer vs Q E s H hr h=>?_;obtain⟨l,b,xs,ys,y,z,rfl,ba,ok,ly,lz,yes,no⟩:=h;refine⟨_,(av (Zer (B:=pZ) (i:=3) ⟨rfl,rfl⟩ L7.nd rfl rfl rfl ux Fw (λpn xe E hx ow=>(av (aG (c6 (aa bc (aa (Zem FZ hr (by omega) hx rfl (aa (pv 0) (aa (pv 1) (aa (pv 2) ae)))) ae)))))) (λ_=>(av (aG (c6 (aa (ZbH (K:=K) rfl (pv 3)) (aa (h_ (ZbG (K:=K) rfl) rfl bl.L3 LW (aa (pv 3) (aa (dv (v:=.ref kT) rfl zI rfl) ae))) ae)))))))),?_⟩;refine⟨_,rfl,_,rfl,_,rfl,l,b,xs,ys,y,z,rfl,ba,ok,ly,lz,λi j hi hj ey ez l' st H1 p as aL H2 w1 bX me len np g2 hp pa lex mem=>?_,λm l' H0 w1 bX=>?_⟩
 ·refine⟨by show 2<=sizeLine;decide,λt H3 nt g3 ht=>?_⟩;exact yes i j hi hj ey ez l' st H1 t p as aL H3 w1 bX me len (g2.trans g3) ht (g3 _ _ hp) (L2.Paired.bq pa λc p hc=>g3 _ _ hc) lex mem
 intro a' d' H1 _ _ g e1 e2;refine⟨kT,d',rfl,rfl,rJ,C3,λz' e3=>?_⟩;refine⟨_,rfl,z',kT,d',_,_,rfl,e3,e2,rJ,wJ,rfl,?_⟩;refine⟨_,rfl,z',kT,d',_,_,_,true,rfl,rfl,e3,e2,rJ,ZbF _,?_⟩;exact⟨by show 2<=sizeLine;decide,λp H4 np g4 hp=>no m l' H0 p H4 w1 bX (g.trans g4) hp⟩
end
def Zfn{xs ys:List (Int×Int)}(h1:xs.Pairwise dJ)(h2:ys.Pairwise dJ)(h:∀u v,(u,v)∈xs↔(u,v)∈ys):xs=ys:=by
 refine List.Perm.eq_of_pairwise (le:=dJ) (λa b _ _ l1 l2=>?_) h1 h2 ((List.perm_ext_iff_of_nodup (FE h1) (FE h2)).mpr λa=>h a.1 a.2);unfold dJ at l1 l2;omega
theorem Rb{H:Hp}{p:Addr}{m:Nat}{as:List Addr}{aL:List (Int×Int)}(h:H p=some (.lst (as.map V.ref)))(pa:qw H as aL)(l:aL.length<=1000):At H (m+2) (.ref p) (.lst (aL.map λq=>Dt.tup [.int q.1,.int q.2])):=by
 refine ZeG h (by rw[Ya];exact l) ?_;clear h l;induction pa with
 |nil=>exact .nil
 |cons h _ ih=>exact .cons (Az h (by show 2<=1000;omega) (.cons (L2.Qt _) (.cons (L2.Qt _) .nil))) ih
def jU(ps:bA)(is:List Nat):List V:=is.map λi=>.str (au ps i)
def PM(ps:bA):jT ps=jU ps (List.range ps.length):=by
 refine Wo λk=>?_;unfold jU;by_cases h:k<ps.length
 ·rw[ZdS h,Ye,Jx h];rfl
 ·rw[Y4 (by rw[rY];omega),Y4 (by rw[Ya,Jc];omega)]
def PN(ps:bA)(is:List Nat)(lo hi:Option Int):∃LK:List Nat,mC (jU ps is) lo hi=jU ps LK/\(∀i∈LK,i∈is)/\LK.length<=is.length:=by
 refine⟨(is.drop (HT.fh is.length 0 lo)).take (HT.fh is.length is.length hi-HT.fh is.length 0 lo),?_,λi hi=>List.mem_of_mem_drop (List.mem_of_mem_take hi),by rw[Y8,Jv];omega⟩;unfold mC jU;rw[Ya,List.map_take,List.map_drop]
theorem PQ{ps:bA}{is:List Nat}{j:Nat}{v:V}(h:(jU ps is)[j]?=some v):∃i,i∈is/\V.str (au ps i)=v:=by
 unfold jU at h;rw[Ye] at h;cases e:is[j]? with
 |none=>rw[e] at h;cases h
 |some i=>rw[e] at h;exact⟨i,Yg e,Yn h⟩
theorem Zfo{ps:bA}{us:List V}{ks:List Nat}(h:Paired (λ(y:V) (_:Nat)=>∃i,i<ps.length/\y=.str (au ps i)) us ks):∃is:List Nat,us=jU ps is/\(∀i∈is,i<ps.length)/\is.length=ks.length:=by
 induction h with
 |nil=>exact⟨[],rfl,(λ_ h=>nomatch h),rfl⟩
 |cons r _ ih=>
  obtain⟨i,hi,rfl⟩:=r;obtain⟨is,rfl,h1,h2⟩:=ih;exact⟨i::is,rfl,λk hk=>(Yp.mp hk).elim (λe=>by rw[e];exact hi) (h1 k),by rw[Y7,Y7,h2]⟩
def AV(K:ah):Sp:=λvs H Q _=>∃(a:Addr) (ns:List Int),vs=[.ref a]/\ak K H a (ns.map V.int)/\ns.length<=63/\∀H',Q (.bl true) H'
def zg(s1 m wi td h nl sd fl:Addr)(n z co:Int)(oh iE jS oq rq:Option V):St:=[some (.ref s1),some (.int n),some (.ref m),some (.ref wi),some (.ref td),some (.int z),some (.ref h),some (.ref nl),some (.ref sd),some (.ref fl),some (.int co),oh,iE,jS,oq,rq]
section
variable {K:ah}{mg:aQ}
abbrev BD:List Str:=["_law_script"]
def gU:aP ["_law_script","_law_size","_law_mother","_law_wife","_law_turns_here","_law_salt","_law_book","_law_names","_law_sides","_law_facts","_law_after_here","_law_few","_law_drawn","_law_one","_law_other","_law_pair"] BD (aF sy):=.aX
theorem Zfp(F:aN K "law" "law" sy f fd)(rK:HasFn P w K mg base 1 "_law_cell" B_ (Qi K))(oy:HasFn P w K mg base 1 "_law_draws" yA (Ah K))(zS:HasFn P w K mg base 2 "_law_row" IL RS)(EU:HasFn P w K mg base 2 "_law_turns" IQ Px)(uy:HasFn P w K mg base 4 "_law_same" nR (r6 4))(EV:HasFn P w K mg base 4 "_law_pairs" JC Om)(Fx:HasFn P w K mg base 15 "_law_grow" JB (Q_ C CL CJ))(zx:HasFn P w K mg base 12 "_law_asked" JH (PL C CL CJ))
  (F0:HasFn P w K mg base 7 "land_of" A_ (NX CL))(Gn:uY P w K mg base 1 "Hearth" C Bk (Pm C CL CJ))(bl:Bl mg):aE P w K mg base (dW P w) 16 f fd BD (AV K):=by
 refine F.Kb gU (λvs H Q E h=>?_) (λbC A outer s H vs Q E hr h=>?_)
 ·obtain⟨a,ns,rfl,_⟩:=h;rfl
 obtain⟨a,ns,rfl,hs,hlen,q⟩:=h;have hu:=hr.uT;refine⟨_,(aq (bU 0 gU.nd (zU (zX (K:=K) rfl) (pv 0) Ae (Af aO))) (aq (bU 1 gU.nd (a_ iK aO (a_ d5 (aW rK hr (aa (pv 0) (aa aO ae))) aO))) (aq (bU 2 gU.nd (aW zS hr (aa (aW rK hr (aa (pv 0) (aa aO ae))) (aa (pv 1) ae)))) (aq (bU 3 gU.nd (aW zS hr (aa (aW rK hr (aa (pv 0) (aa aO ae))) (aa (pv 1) ae)))) (aq (bU 4 gU.nd (aW EU hr (aa (pv 2) (aa (pv 3) ae)))) (aq (bU 5 gU.nd (a_ d5 (aW rK hr (aa (pv 0) (aa aO ae))) aO)) (aq (bU 6 gU.nd (Hw Gn hr (by omega) rfl (aa (aW F0 hr (aa (pv 2) (aa (pv 3) ae))) ae))) (aq (nv (aW Fx hr (aa (pv 6) (aa (zU (zX (K:=K) rfl) (pv 0) (Af aO) Ae) (aa (pv 4) (aa (pv 5) ae))))) (jj (K:=K) (n:=4) rfl rfl (bR (m8 (i:=7) gU.nd rfl (Or.inr rfl)) (bR (bF 8 gU.nd) (bR (bF 9 gU.nd) (bR (bF 10 gU.nd) ji)))))) (aq (bU 11 gU.nd (pv 7)) (aq (aV (bG AI (dq K bl (pv 7)) aO) (aq (bU 12 gU.nd (aW oy hr (aa (a_ iK (aW rK hr (aa (pv 0) (aa aO ae))) aO) (aa (dw (aa aO (aa aO ae))) ae)))) (av (bU 11 gU.nd (a_ rQ (a_ rQ (zU (zX (K:=K) rfl) (pv 7) Ae (Af aO)) (zU (zX (K:=K) rfl) (pv 7) (Af (Zfz Zd7 aO)) Ae)) (iJ (x:="_law_at") (fr:=[("_law_names",7)]) (cl:=[("_law_names",s.heap.objs.size+1)]) rfl (.gu ⟨rfl,trivial⟩ ⟨⟨rfl,.inl rfl,.inl rfl,rfl⟩,trivial⟩) (eI (K:=K) rfl (pv 12)) (λ_ _ _ _=>kY) (λ_ _ _ _=>(bj (iL K) (pv 1) (a_ d5 (pv 0) (dq K bl (pv 1)))))))))) aZ) (aq (fP Iu rfl (eI (K:=K) rfl (pv 11)) (bF 13 gU.nd) (aq (fP Iu rfl (eI (K:=K) rfl (pv 11)) (bF 14 gU.nd) (av (aV (j_ (eY (aW uy hr (aa (aW zx hr (aa (pv 6) (aa (pv 13) (aa (pv 14) ae)))) (aa (c6 (aa bc (aa (h_ (NM (K:=K) rfl) rfl bl.zW zK (aa (aW EV hr (aa (pv 9) (aa (pv 4) (aa (pv 13) (aa (pv 14) ae))))) ae)) ae))) ae))))) (av (aG jF)) aZ))) (av (fP Iu rfl (eI (K:=K) rfl (dw (aa (c6 (aa (pv 13) (aa bc ae))) (aa (c6 (aa bc (aa (pv 13) ae))) ae)))) (bF 15 gU.nd) (av (aV (j_ (eY (aW uy hr (aa (aW zx hr (aa (pv 6) (aa (bj (iT K) (pv 15) aO) (aa (bj (iT K) (pv 15) aO) ae)))) (aa (c6 (aa bc (aa jF ae))) ae))))) (av (aG jF)) aZ)))))) (av (aG jF))))))))))))),?_⟩;have sz:(10000:Nat)<=sizeLine:=by rw[sizeLine_eq];omega
 obtain⟨ms,em⟩:=NA ns none (some 63);have lms:ms.length<=ns.length:=by
  have:=L8 (ns.map V.int) none (some 63);rw[em,Ya,Ya] at this;exact this
 obtain⟨cs,ec⟩:=NA ms (some 4) none;have lcs:cs.length<=59:=by
  have:=ZcA (xs:=ms.map V.int) (by rw[Ya];omega);rw[ec,Ya] at this;exact this
 refine cz ?_;refine⟨_,rfl,_,rfl,a,_,rfl,hs,λs1 H0 n1 g0 wo=>?_⟩;rw[em] at wo;refine cz ?_;refine⟨_,rfl,s1,ms,0,rfl,ak.of wo,Int.le_refl 0,λc0=>⟨_,_,rfl,rfl,(by show(0:Int)<7;decide),_,_,rfl,rfl,?_⟩⟩;try dsimp only
 have m0:=W5 c0 (show(7:Int)≠0 by decide);have m1:=Wq c0 (show(0:Int)<7 by decide);obtain⟨n,en⟩:∃n:Nat,2+c0 % 7=(n:Int):=⟨(2+c0 % 7).toNat,by omega⟩;rw[en];have n2:2<=n:=by omega
 have n8:n<=8:=by omega
 refine cz ?_;refine⟨_,rfl,s1,ms,1,rfl,ak.of wo,by decide,λc1=>⟨_,rfl,c1,n,rfl,by omega,by omega,λm xs H1 nm g1 hM px=>?_⟩⟩;refine cz ?_;refine⟨_,rfl,s1,ms,2,rfl,ak.of (g1 _ _ wo),by decide,λc2=>⟨_,rfl,c2,n,rfl,by omega,by omega,λwi ys H2 nw g2 hW py=>?_⟩⟩;have lx:xs.length=n:=by rw[px.length_eq,eG]
 have ly:ys.length=n:=by rw[py.length_eq,eG]
 have gd:nG xs ys:=⟨rO px,rO py,by omega,by omega,by omega⟩;refine cz ?_;refine⟨_,rfl,_,rfl,m,wi,xs,ys,rfl,g2 _ _ hM,hW,gd,λtd H3 ntd g3 ht=>?_⟩;have jN:=(g1.trans g2).trans g3;refine cz ?_;refine⟨_,rfl,s1,ms,3,rfl,ak.of (jN _ _ wo),by decide,λc3=>⟨_,_,rfl,rfl,(by show(0:Int)<97;decide),?_⟩⟩;try dsimp only
 have z0:=W5 c3 (show(97:Int)≠0 by decide);have z1:=Wq c3 (show(0:Int)<97 by decide);obtain⟨z,ez⟩:∃z:Nat,c3 % 97=(z:Int):=⟨(c3 % 97).toNat,by omega⟩;rw[ez];have hz:z<97:=by omega
 refine cz ?_;refine⟨_,rfl,_,rfl,m,wi,xs,ys,rfl,g3 _ _ (g2 _ _ hM),g3 _ _ hW,gd.1,gd.2.1,gd.2.2.1,gd.2.2.2.1,gd.2.2.2.2,λLd H4 g4 la=>λx dx nx yD nd=>?_⟩;have yE:upd H4 dx (.own x) x=none:=by rw[aK (λz=>nd z.symm)];exact nx
 obtain⟨H5,e5⟩:∃H5,H5=upd (upd H4 dx (.own x)) x (.ins C dx []):=⟨_,rfl⟩;have g5:aj H4 H5:=by rw[e5];exact(cq yD _).trans (cq yE _)
 have hx5:H5 x=some (.ins C dx []):=by rw[e5];exact aR
 rw[←e5];refine⟨x,dx,Ld,xs,ys,rfl,hx5,la.same g5,λl H6 eh CF b6 ba=>⟨rfl,?_⟩⟩;subst eh;have keep:∀{a:Addr} {o:HO},H4 a=some o->H6 a=some o/\a∉l.fp:=λ{a o} e=>by
  have na:a≠l.h:=bY e nx;refine⟨b6 _ _ (g5 _ _ e) na,λz=>?_⟩;have:=CF a z na;rw[g5 _ _ e] at this;cases this
 have LL:=g4 _ _ (jN _ _ wo);have ht4:=ht.same g4;obtain⟨tm,tf,tw,ts,fE,q1,q2,q3,q4⟩:=ht4;have ht6:fK H6 td xs ys:=⟨tm,tf,tw,ts,(keep fE).1,(keep q1).1,(keep q2).1,(keep q3).1,(keep q4).1⟩;refine⟨_,rfl,_,rfl,_,rfl,s1,_,rfl,ak.of (keep LL).1,λca H7 nca g7 hca=>⟨_,rfl,_,rfl,xs,ys,z,ca,td,l,⟨[],[],0,[],[]⟩,cs,rfl,ba.same g7,rfl,gd,by rw[hca,ec],ba.fresh nca,ht6.same g7,(keep fE).2,hz,lcs,λl2 b nl sd fl st H8 wt si=>?_⟩⟩;refine⟨st,_,rfl,aB.of si.tup,rfl,_,_,rfl,bg ⟨_,_,rfl,bg ⟨_,_,rfl,bg ⟨_,_,rfl,bg ⟨rfl,?_⟩⟩⟩⟩⟩;dsimp only;have eh:=wt.h;have Vu:=si.ok.m;have ok:=si.ok;obtain⟨hs8,ns8⟩:=wt.off (g7 _ _ (keep LL).1) (keep LL).2;refine cz ?_;refine⟨_,rfl,?_⟩;refine gI (λσ H'=>∃(fw:Addr) (is:List Nat) (iE:Option V),aj H8 H'/\H' fw=some (.lst (jU b.ps is))/\fw∉l2.fp/\(∀i∈is,i<b.ps.length)/\σ=zg s1 m wi td l.h nl sd fl n z b.co (some (.ref fw)) iE none none none) (λnW eV=>?_) ?_
 ·refine⟨_,rfl,nl,_,rfl,.inl (ak.of si.names),_,_,rfl,rfl,_,rfl,bJ (λcc=>?_) (λcc=>aY (eV _ _ ⟨nl,List.range b.ps.length,none,aj.refl _,by rw[←PM];exact si.names,si.n1,λi hi=>Wg.mp hi,rfl⟩))⟩;have big:0<b.ps.length:=by
   have:=of_decide_eq_true cc;rw[rY] at this;omega
  refine cz ?_;refine⟨_,rfl,s1,ms,3,rfl,ak.of hs8,by decide,λc4=>⟨_,_,rfl,rfl,by show 2<=sizeLine;omega,λpl H9 t4 g9 bQ=>⟨_,pl,[61,59],rfl,ak.of bQ,by decide,by decide,λdr ds HA ndr gA VE bd=>?_⟩⟩⟩;have ld:ds.length=2:=cU bd;have LM:=g9.trans gA;obtain⟨i1,e1,m1',l1'⟩:=PN b.ps (List.range b.ps.length) none (some 1);obtain⟨i2,e2,m2',l2'⟩:=PN b.ps (List.range b.ps.length) (some (-1)) none;rw[←PM] at e1 e2;rw[Jc] at l1' l2';refine⟨_,rfl,_,rfl,nl,_,rfl,ak.of (LM _ _ si.names),λp1 HB np1 gB lK=>?_⟩;rw[e1] at lK;refine⟨_,rfl,_,rfl,_,rfl,nl,_,rfl,ak.of (gB _ _ (LM _ _ si.names)),λp2 HC tM gC dh=>?_⟩;rw[e2] at dh;refine⟨p1,p2,_,_,rfl,rfl,gC _ _ lK,dh,by unfold jU;rw[Ya,Ya];omega,λp3 HD K_ gD vT=>?_⟩;have LN:=(gB.trans gC).trans gD;have LO:=LM.trans LN;refine⟨_,rfl,dr,rfl,⟨_,ak.of (LN _ _ VE)⟩,λD hD=>wM (K:=K) (xs:=ds.map V.int) (ak.of (LN _ _ VE)) (by rw[Ya];omega) hD (λ_=>true) (λk y _=>∃i,i<b.ps.length/\y=.str (au b.ps i)) (λ_ _ _ _ _ h=>h) (λk v hk HE gE _ Kt Kf kt kf=>?_) λus HE gE hE pr=>?_⟩
  ·obtain⟨d0,rfl,_⟩:=jY hk;have q0:=W5 d0 (show(b.ps.length:Int)≠0 by omega);have q1:=Wq d0 (show(0:Int)<(b.ps.length:Int) by omega);have VF:=gE _ _ (LO _ _ si.names);refine kj (cY ?_);refine⟨_,rfl,_,rfl,_,rfl,nl,_,rfl,.inl (ak.of VF),_,_,rfl,rfl,by rw[rY];omega,nl,_,_,_,rfl,rfl,ak.of VF,by rw[rY];exact QZ q0 q1,?_⟩;exact kt _ HE rfl (aj.refl _) ⟨_,by omega,rfl⟩
  ·rw[zy,Ya] at pr;obtain⟨i3,e3,m3,l3⟩:=Zfo pr;rw[Jc] at l3;rw[e3] at hE;refine⟨p3,D,_,_,rfl,rfl,gE _ _ vT,hE,by unfold jU;rw[Yi,Ya,Ya,Ya];omega,λp4 HG La g4 yO=>bg (eV _ _ ⟨p4,i1++i2++i3,_,(LO.trans gE).trans g4,?_,(si.same (LO.trans gE)).ba.fresh La,λi hi=>?_,rfl⟩)⟩
   ·rw[yO];unfold jU;rw[Ym,Ym]
   ·rcases Yq.mp hi with h|h
    ·rcases Yq.mp h with h|h;·exact Wg.mp (m1' i h)
     ·exact Wg.mp (m2' i h)
    ·exact m3 i h
 rintro σ HF ⟨fw,is,iE,gF,C0,LP,VG,rfl⟩;have sF:=si.same gF;have VH:∀{H:Hp} {l:BL},dA C CL CJ H xs ys z 59 td l b nl sd fl st->(Str.ofString "stranger")∉b.ps.map (·.1):=λs h=>by
  rw[s.nm] at h;obtain⟨k,hk,e⟩:=Yh.mp h;have:=Wg.mp hk;have:=s.cp;exact ZcC z k (by omega) e
 have n8:=gd.2.2.2.2;have VI:∀{H:Hp} {p:Addr},H p=some (.tup [.str "no person",.bl true])->At H 3 (.ref p) (.tup [.str "no person",.bl true]):=λh=>Az h (by show 2<=1000;decide) (.cons (GX _) (.cons (ZfS _) .nil));refine gI (λσ H'=>True) (λCB n_=>?_) ?_
 ·refine⟨_,rfl,fw,rfl,⟨_,ak.of C0⟩,je (K:=K) (a:=fw) (xs:=jU b.ps is) (λj σ H'=>∃(l3:BL) (jS oq rq:Option V),bM HF H' l2 l3/\dA C CL CJ H' xs ys z 59 td l3 b nl sd fl st/\σ=zg s1 m wi td l.h nl sd fl n z b.co (some (.ref fw)) iE jS oq rq)
   ⟨l2,none,none,none,bM.of (aj.refl _),sF,rfl⟩ (λj σ H' _ ⟨_,_,_,_,w3,_⟩=>ak.of (w3.off C0 LP).1) ?_ ?_⟩
  ·rintro j v σ HG hj ⟨l3,jS,oq,rq,w3,s3,rfl⟩;obtain⟨i,mi,rfl⟩:=PQ hj;have hi:=VG i mi;refine bg ?_;have hfG:=w3.off C0 LP;refine gI (λσ H'=>∃(l4:BL) (oq:Option V),bM HF H' l2 l4/\dA C CL CJ H' xs ys z 59 td l4 b nl sd fl st/\σ=zg s1 m wi td l.h nl sd fl n z b.co (some (.ref fw)) iE (some (.str (au b.ps i))) oq rq) (λpQ fS=>?_) ?_
   ·refine⟨_,rfl,fw,rfl,⟨_,ak.of hfG.1⟩,je (K:=K) (a:=fw) (xs:=jU b.ps is) (λk σ H'=>∃(l4:BL) (oq:Option V),bM HF H' l2 l4/\dA C CL CJ H' xs ys z 59 td l4 b nl sd fl st/\σ=zg s1 m wi td l.h nl sd fl n z b.co (some (.ref fw)) iE (some (.str (au b.ps i))) oq rq)
     ⟨l3,oq,w3,s3,rfl⟩ (λj σ H' _ ⟨_,_,w4,_⟩=>ak.of (w4.off C0 LP).1) ?_ ?_⟩
    ·rintro k v σ HI hk ⟨l4,wq,w4,s4,rfl⟩;obtain⟨i2,mi2,rfl⟩:=PQ hk;have lL:=VG i2 mi2;refine bg ?_;refine⟨_,rfl,_,rfl,_,rfl,l4,b,xs,ys,_,_,by rw[w4.h,eh];rfl,s4.ba,ok,s4.len (by omega) hi,s4.len (by omega) lL,λi' j' iy wm ei ej l5 mK HK t p as aL HL wK baK me len gL ht hp pa lex mem=>?_,λno=>absurd no (by rw[not_or,Classical.not_not,Classical.not_not];exact⟨rT hi,rT lL⟩)⟩;obtain rfl:=rX ok.nm hi iy ei;obtain rfl:=rX ok.nm lL wm ej;have sK:=s4.S6 wK baK;have sL:=sK.same gL;refine⟨_,rfl,_,rfl,_,rfl,_,rfl,fl,td,b.ps,xs,ys,mK,b.F,_,_,rfl,sL.FL,sL.turns,ok.nm,sL.good.1,me,len,n8,by omega,sL.good.2,hi,lL,λp2 nX qD HM gM dh tN S9 jR ZhD=>?_⟩;have al:=cU tN;refine⟨p2,nX,qD,rfl,ak.of dh,tN,FE S9,?_,λas3 S_ pa3 VJ ZhE p3 HN K_ gN vT=>?_⟩
     ·rw[←al] at jR;rcases Nat.lt_or_eq_of_le jR with h|h;·exact .inl h
      ·exact .inr ⟨h,S9⟩
     have e3:S_=aL:=Zfn ZhE lex λu v=>by rw[VJ.mem_iff,ZhD,mem]
     have VL:S_.length<=1000:=by rw[VJ.length_eq];omega
     refine⟨by show 2<=sizeLine;omega,λt2 HO LD gO LF=>?_⟩;have zh:=(gM.trans gN).trans gO;refine⟨_,_,.tup [.str "told",.lst (aL.map λq=>Dt.tup [.int q.1,.int q.2])],3,rfl,rfl,Az (zh _ _ ht) (by show 2<=1000;decide) (.cons (GX _) (.cons (Rb (zh _ _ hp) (L2.Paired.bq pa λ_ _ e=>zh _ _ e) (by rw[←e3];exact VL)) .nil)),Az LF (by show 2<=1000;decide) (.cons (GX _) (.cons (by rw[←e3];exact Rb (gO _ _ vT) (L2.Paired.bq pa3 λ_ _ e=>gO _ _ (gN _ _ e)) VL) .nil)),λHP gP=>⟨_,rfl,bW (aY ⟨l5,_,(w4.trans wK).same ((gL.trans zh).trans gP),sL.same (zh.trans gP),rfl⟩)⟩⟩
    ·rintro σ HI ⟨l4,wq,w4,s4,rfl⟩;exact fS _ _ ⟨l4,wq,w4,s4,rfl⟩
   rintro σ HI ⟨l4,wq,w4,s4,rfl⟩;refine⟨_,rfl,by show 2<=sizeLine;omega,λt1 HJ nt1 gJ h1=>⟨_,rfl,by show 2<=sizeLine;omega,λt2 HK LD gK h2=>⟨by show 2<=sizeLine;omega,λpl HL t4 gL bQ=>⟨pl,rfl,⟨_,ak.of bQ⟩,?_⟩⟩⟩⟩;have sK:=s4.same (gJ.trans gK);have sL:=sK.same gL;have npf:=sK.ba.fresh t4;refine je (K:=K) (a:=pl) (xs:=[.ref t1,.ref t2]) (λk σ H'=>∃(l5:BL) (LQ:Option V),bM HL H' l4 l5/\dA C CL CJ H' xs ys z 59 td l5 b nl sd fl st/\σ=zg s1 m wi td l.h nl sd fl n z b.co (some (.ref fw)) iE (some (.str (au b.ps i))) wq LQ)
    ⟨l4,rq,bM.of (aj.refl _),sL,rfl⟩ (λj σ H' _ ⟨_,_,w5,_⟩=>ak.of (w5.off bQ npf).1) ?_ ?_
   ·rintro k v σ HM hk ⟨l5,LQ,w5,s5,rfl⟩;obtain⟨tt,ya,za,rfl,Co,bad,lya,lza⟩:∃(tt:Addr) (ya za:Str),V.ref tt=v/\HM tt=some (.tup [.str ya,.str za])/\(ya∉b.ps.map (·.1)\/za∉b.ps.map (·.1))/\ya.length<=1000/\za.length<=1000:=by
     match k,hk with
     |0,hk=>exact⟨t1,_,_,Yn hk,w5.bN sL.ba (gL _ _ (gK _ _ h1)),.inr (VH s4),s4.len (by omega) hi,by decide+kernel⟩
     |1,hk=>exact⟨t2,_,_,Yn hk,w5.bN sL.ba (gL _ _ h2),.inl (VH s4),by decide+kernel,s4.len (by omega) hi⟩
     |k+2,hk=>cases hk
    refine bg ?_;refine⟨_,rfl,_,rfl,tt,_,_,.str ya,rfl,rfl,aB.of Co,rfl,_,rfl,tt,_,_,.str za,rfl,rfl,aB.of Co,rfl,l5,b,xs,ys,ya,za,by rw[w5.h,w4.h,eh];rfl,s5.ba,ok,lya,lza,λi' j' iy wm ei ej=>?_,λ_ l6 HN p HO wN baN gN hp=>⟨by show 2<=sizeLine;omega,λp2 HP tM gP dh=>⟨_,_,.tup [.str "no person",.bl true],3,rfl,rfl,VI (gP _ _ hp),VI dh,λHQ gQ=>⟨_,rfl,bW (aY ⟨l6,_,(w5.trans wN).same ((gN.trans gP).trans gQ),(s5.S6 wN baN).same ((gN.trans gP).trans gQ),rfl⟩)⟩⟩⟩⟩;rcases bad with h|h;·exact absurd (by rw[ei];exact rT iy) h
    ·exact absurd (by rw[ej];exact rT wm) h
   ·rintro σ HM ⟨l5,LQ,w5,s5,rfl⟩;exact⟨l5,_,_,_,(w4.same ((gJ.trans gK).trans gL)).trans w5,s5,rfl⟩
  ·rintro σ HG ⟨l3,jS,oq,rq,w3,s3,rfl⟩;exact n_ _ _ trivial
 rintro σ HG _;exact q HG
end
def all_mk{l:PySem.W.OpenLaw}{w:World}{K:ah}{h:Heap}{mg:aQ}{fa:Addr}(X:K.In h)(G:h.Ns mainGlobals mg)(di:mg "law"=some (.ref fa))
  (p1:bO K "is_turn" FH f1)
  (p2:bO K "still" Gx f2)
  (p3:bO K "behind" F7 f3)
  (p4:bO K "back" G3 f4)
  (p5:bO K "check_turn" D6 f5)
  (p6:bO K "check_rows" D7 f6)
  (p7:bO K "check_parents" Dl f7)
  (p8:bO K "land_of" FI f8)
  (p9:bO K "followed" EZ f9)
  (p10:bO K "turned_back" DT Kj)
  (p11:bO K "lines_up" E1 f11)
  (p12:bO K "is_tie" F8 f12)
  (p13:bO K "tie_turn" E2 f13)
  (wq:bO K "fact_key" E3 f14)
  (p15:bO K "keep_fact" Eo f15)
  (p16:bO K "fact_fits" Ep f16)
  (p17:bO K "is_name" FJ f17)
  (p18:bO K "check_person" DD f18)
  (p19:bO K "check_tie" Es f19)
  (p20:bO K "sides_fit" Et f20)
  (p21:bO K "told_already" DE f21)
  (p22:bO K "check_elders" DF f22)
  (p23:bO K "check_saying" DG f23)
  (p24:bO K "check_section" Dm f24)
  (p25:bO K "is_person" Eu f25)
  (p26:bO K "between" FK f26)
  (p27:bO K "_law_cell" MA f27)
  (p28:bO K "_law_draws" Mc f28)
  (p29:bO K "_law_turn" MB f29)
  (p30:bO K "_law_row" FN f30)
  (p31:bO K "_law_inverse" DU f31)
  (p32:bO K "_law_after" Ew f32)
  (p33:bO K "_law_turns" Ex f33)
  (p34:bO K "_law_same" zA f34)
  (p35:bO K "_law_nets" E4 f35)
  (p36:bO K "_law_carried" DV f36)
  (p37:bO K "_law_room" E5 f37)
  (p38:bO K "_law_name" E6 f38)
  (p39:bO K "_law_up" F9 f39)
  (p40:bO K "_law_told" E7 f40)
  (p41:bO K "_law_sided" Ey f41)
  (p42:bO K "_law_word" E8 f42)
  (p43:bO K "_law_pick" E9 f43)
  (p44:bO K "_law_fact" E_ f44)
  (p45:bO K "_law_put" FO f45)
  (p46:bO K "_law_step" Fb f46)
  (p47:bO K "_law_grow" Fd f47)
  (p48:bO K "_law_good" Fe f48)
  (p49:bO K "_law_pairs" Ez f49)
  (p50:bO K "_law_asked" EA f50)
  (p51:bO K "law" sy f51)
  (z:qS K ["len","abs","list","range","tuple","any","all","isinstance","bool","int","str","sorted","min","max","sum","dict","reversed","ValueError"])
  (Xu:nsIn K mainGlobals "LEAST_SIZE"=some (some (.int (2) ZhY)))
  (X5:nsIn K mainGlobals "MOST_SIZE"=some (some (.int (8) Zh5)))
  (WO:nsIn K mainGlobals "LONGEST_NAME"=some (some (.int (12) ZhQ)))
  (Zbf:nsIn K mainGlobals "PUT_IN"=some (some (.int (1) Zis)))
  (X6:nsIn K mainGlobals "TAKEN_OUT"=some (some (.int (-1) Zh6)))
  (Xc:nsIn K mainGlobals "TIE_LETTERS"=some (some (.ref mZ)))
  (LV:PyProof.Rows.KTD.tabLook PyProof.Rows.KTD.flatLooks (λb=>K.lookup b) mZ [("mother",PyData.str "m"),("father",PyData.str "f"),("wed",PyData.str "w"),("sibling",PyData.str "s")]=true)
  (Zah:nsIn K mainGlobals "PARENTS"=some (some (.ref dD)))
  (Zai:K.lookup dD=some ⟨.type "tuple",Zim,.seq #[.str "mother" Zh7,.str "father" Zh8] Zin,Zio⟩)
  (Zfq:nsIn K mainGlobals "MAN"=some (some (.str "man" ZiA)))
  (ZcE:nsIn K mainGlobals "WOMAN"=some (some (.str "woman" Ziv)))
  (VS:nsIn K mainGlobals "LETTERS_OF_NAMES"=some (some (.str "abcdefghijklmnopqrstuvwxyz" ZhG)))
  (V1:nsIn K mainGlobals "SIGNS_OF_NAMES"=some (some (.str "abcdefghijklmnopqrstuvwxyz0123456789" ZhK)))
  (ZdV:nsIn K mainGlobals "SAID"=some (some (.str "said" Ziw)))
  (Zaj:nsIn K mainGlobals "SIBLING"=some (some (.str "sibling" Ziq)))
  (Zm:yz K "KinError" "KinError.__init__" [] Du pZ Zn)
  (EG:Hv K pZ "__init__" Zn)
  (Zo:yz K "NoPerson" "NoPerson.__init__" [pZ] Dv kT Zie)
  (Zfr:yy K "Land" cW)
  (lc:u3 K cW)
  (Zp:cR K cW "__init__" "Land.__init__" EB Zif)
  (Zq:cR K cW "step" "Land.step" EC Zig)
  (ZdW:yy K "Joins" cC)
  (jc:nB K cC)
  (X7:cR K cC "__init__" "Joins.__init__" D8 Zh9)
  (Zr:cR K cC "add" "Joins.add" ED Zih)
  (Zs:cR K cC "tie" "Joins.tie" EE Zii)
  (Zt:cR K cC "say" "Joins.say" EF Zij)
  (WQ:cR K cC "open_at" "Joins.open_at" Dn ZhR)
  (X8:cR K cC "left" "Joins.left" D9 Zh_)
  (WB:cR K cC "together" "Joins.together" Df ZhN)
  (Xv:cR K cC "pairs" "Joins.pairs" DW ZhZ)
  (Xd:cR K cC "narrow" "Joins.narrow" DH ZhV)
  (VN:cR K cC "bring_together" "Joins.bring_together" C1 ZhF)
  (X9:cR K cC "move" "Joins.move" D_ Zia)
  (ZcF:yy K "Hearth" dt)
  (hc:fO K dt)
  (Xw:cR K dt "__init__" "Hearth.__init__" DX Zh0)
  (WR:cR K dt "person" "Hearth.person" Dp ZhS)
  (X_:cR K dt "tie" "Hearth.tie" Ea Zib)
  (YA:cR K dt "say" "Hearth.say" Eb Zic)
  (Xx:cR K dt "keep" "Hearth.keep" DY Zh1)
  (Xy:cR K dt "take" "Hearth.take" DZ Zh2)
  (WS:cR K dt "people" "Hearth.people" Dq ZhT)
  (WC:cR K dt "side_of" "Hearth.side_of" Dg ZhO)
  (Zh3:cR K dt "kept" "Hearth.kept" Xm Zh4)
  (YB:cR K dt "has" "Hearth.has" Ec Zid)
  (VW:cR K dt "parent_of" "Hearth.parent_of" C6 ZhI)
  (VT:cR K dt "parents_of" "Hearth.parents_of" C4 ZhH)
  (Xe:cR K dt "joins" "Hearth.joins" DI ZhW)
  (WD:cR K dt "do_deed" "Hearth.do_deed" Dh ZhP)
  (Xf:cR K dt "shift" "Hearth.shift" DJ ZhX)
  (WT:cR K dt "put_in" "Hearth.put_in" Dr ZhU)
  (VX:cR K dt "note_fact" "Hearth.note_fact" C7 ZhJ)
  (V2:cR K dt "take_out" "Hearth.take_out" Dc ZhL)
  (V3:cR K dt "place_of" "Hearth.place_of" Dd ZhM)
  (C3:PySem.W.mroIn K kT (.ref pZ)=some true)
  :∃fd:FuncData,(∀(s:Shared) (v:Value),BindsTo s fd ⟨[v],[]⟩ [("_law_script",v)])/\∀base:Heap,K.In base->base.Ns mainGlobals mg->aE l.prog w K mg base (dW l.prog w) 16 fa fd BD (AV K):=by
 obtain @⟨od,an,sl,oc,kV,dc,pm,cd,ct,ax,lx,cx,kx⟩:=p51;have e:=di.symm.trans (mg_of X G ax);cases e;have bl:=z.bl X G;have Ed:=mg_of X G Xu;have EH:=mg_of X G X5;have DM:=mg_of X G WO;have oH:=mg_of X G Zbf;have EN:=mg_of X G X6;have uf:=mg_of X G Xc;have jd:=mg_of X G Zah;have wV:∀H,aB K H dD [.str "mother",.str "father"]:=λ_=>.inr ⟨_,_,_,Zai,rfl,rfl,by show 2<=sizeLine;decide,(.cons ⟨_,rfl⟩ (.cons ⟨_,rfl⟩ .nil))⟩;have sD:=mg_of X G Zfq;have rW:=mg_of X G ZcE;have C9:=mg_of X G VS;have Dk:=mg_of X G V1;have kZ:=mg_of X G ZdV;have oE:=mg_of X G Zaj;obtain⟨_,Zak,Ff,Fw,Zir,ux,Zik⟩:=Zm.b X G vM;obtain⟨_,Zal,Zam,rJ,Zan,zI,wJ⟩:=Zo.b X G vJ;have Zfs:=lc.cls;have ng:=jc.cls;have ia:=hc.cls;refine⟨fnOf "law" "law" (kX sy) (iI sy) (aF sy) .none kV dc pm an cd ct,λs v=>.of_eq rfl,λbase _ _=>?_⟩;have F:=xm (st:=sy) lx cx kx;have D:iZ l.prog w K mg base:=⟨X,G⟩;have Fv:GY l.prog w K mg base "NoPerson" "no person" kT:=⟨_,_,Zan,YS Zal EG (YR Zak bl) Ff ux rJ wJ,Zam,zI,rJ,wJ⟩;have rK:=D.d p27 (λ_ F=>Zdm F bl.AN);have oy:=D.d p28 (λ_ F=>Zb6 F bl.ZfO);have uE:=D.d p1 (λ_ F=>ZV F bl);have pY:=D.d p9 (λ_ F=>YV F bl);have ou:=D.d p10 (λ_ F=>WZ F bl);have uP:=D.d p2 (λ_ F=>Zb9 F bl);have EJ:=D.m Zfs Zq (λ_ F=>Zds F lc);have GF:=D.j ZdW X7 (λ_ F=>Zcc F jc bl);have ua:=D.m ng WB (λ_ F=>YW F jc bl);have mY:=D.m ng WQ (λ_ F=>ZZ F jc bl);have ub:=D.m ng Xd (λ_ F=>Za2 F jc bl);have uN:=D.d p12 (λ_ F=>Za7 F uf LV);have oA:=D.d wq (λ_ F=>Y_ F oE bl);have DA:=D.m ia WS (λ_ F=>Za8 (CL:=cW) (CJ:=cC) F hc bl);have rA:=D.m ia WC (λ_ F=>Z5 (CL:=cW) (CJ:=cC) F hc bl);have uq:=D.d p25 (λ_ F=>XU F bl);have C_:=D.m ia VW (λ_ F=>XW (CL:=cW) (CJ:=cC) F hc);have C5:=D.m ia VT (λ_ F=>Xr (CL:=cW) (CJ:=cC) F hc jd wV);have FV:=D.d p17 (λ_ F=>Z8 F DM C9 Dk bl);have Gn:=D.j ZcF Xw (λ_ F=>Zcv (CL:=cW) (CJ:=cC) F hc);have EO:=D.d p20 (λ_ F=>XY F sD rW oE);have DB:=D.d p24 (λ_ F=>WA (C:=dt) (CL:=cW) (CJ:=cC) F hc lc bl);have ES:=D.d p32 (λ_ F=>X2 F bl);have rC:=D.d p31 (λ_ F=>Z_ F bl);have uh:=D.d p36 (λ_ F=>Zaa F bl);have Fo:=D.d p40 (λ_ F=>Zc F);have ET:=D.d p41 (λ_ F=>X4 F);have Gk:=D.d p39 (λ_ F=>Zbb F bl);have zF:=D.d p43 (λ_ F=>Ze F bl);have Fp:=D.d p38 (λ_ F=>Zg F bl);have zk:=D.mX ia V3 (λ_ F=>Zl (CL:=cW) (CJ:=cC) F hc Fv);have Fn:=D.d p29 (λ_ F=>Zdn F bl.uU bl.jZ bl.m9);have uy:HasFn l.prog w K mg base 4 "_law_same" nR (r6 4):=let⟨_,F,b,k,m⟩:=D.p (ps:=nR) p34;⟨_,_,O0 F b k m bl 4,b,k,m⟩;have rD:=D.d p5 (λ_ F=>Zfa F uE);have ui:=D.d p6 (λ_ F=>Zdq F uE Ed EH bl);have ur:=D.m ng Zr (λ_ F=>Zfb F jc uP bl);have EK:=D.m ng Zt (λ_ F=>Zfc F mY ub bl);have zm:=D.m ng X9 (λ_ F=>Zdu F jc pY ou bl);have ue:=D.m ng Xv (λ_ F=>Zcg F jc ua mY bl);have uA:=D.d p13 (λ_ F=>YY (CL:=cW) F uf LV lc uN EJ);have uk:=D.m ia YB (λ_ F=>Zfh (CL:=cW) (CJ:=cC) F hc oA);have C8:=D.m ia VX (λ_ F=>ZdE (CL:=cW) (CJ:=cC) F hc jd wV oA);have De:=D.m ia V2 (λ_ F=>Za (CL:=cW) (CJ:=cC) F hc jd wV uq oA);have DN:=D.d p18 (λ_ F=>WJ (C:=dt) (CL:=cW) (CJ:=cC) F FV sD rW DA);have Fm:=D.d p11 (λ_ F=>Zb (C:=dt) (CL:=cW) (CJ:=cC) F C5);have zS:=D.d p30 (λ_ F=>Z9 F oy Fn bl);have uB:=D.d p35 (λ_ F=>ZdM F rC bl);have EU:=D.d p33 (λ_ F=>Zcx F rC ES bl);have Fq:=D.d p44 (λ_ F=>Zf F zF bl);have uL:=D.d p3 (λ_ F=>Zf8 F rD pY bl);have xC:=D.d p4 (λ_ F=>Zf9 F rD ou bl);have C2:=D.m ng VN (λ_ F=>Zcf F jc ou zm bl);have uj:=D.m ng X8 (λ_ F=>Zdv F ue bl);have DO:=D.d p21 (λ_ F=>ZdI (C:=dt) (CL:=cW) (CJ:=cC) F oE jd wV C_ uk);have DP:=D.d p22 (λ_ F=>WL (C:=dt) (CL:=cW) (CJ:=cC) F Fm);have DQ:=D.d p23 (λ_ F=>WN (C:=dt) (CL:=cW) (CJ:=cC) F kZ rA DB uk);have rH:=D.d p37 (λ_ F=>ZdO F uB uh bl);have Fu:=D.d p48 (λ_ F=>ZdT F uB uh);have Dw:=D.d p7 (λ_ F=>ZW F uL bl);have EL:=D.m ng Zs (λ_ F=>Zfe F jc uj ua C2 ub bl);have EM:=D.d p16 (λ_ F=>XS (CL:=cW) (CJ:=cC) F kZ uA mY uj);have ER:=D.d p19 (λ_ F=>X0 (C:=dt) (CL:=cW) (CJ:=cC) F jd wV uN EO rA DO DP);have Fs:=D.d p42 (λ_ F=>Zd F ET Fo Gk rH bl);have EV:=D.d p49 (λ_ F=>Zbe F rH Fu bl);have G5:=D.j Zfr Zp (λ_ F=>Zdr F lc ui Dw xC uP bl);have uu:=D.d p15 (λ_ F=>XR (CL:=cW) (CJ:=cC) F kZ uA EK EL);have F0:=D.d p8 (λ_ F=>ZY (C:=cW) F ui uL G5);have Dy:=D.m ia WT (λ_ F=>Za_ (CL:=cW) (CJ:=cC) F hc uq ur C8 uu bl);have uc:=D.m ia Xe (λ_ F=>Zct (CL:=cW) (CJ:=cC) F hc lc GF ur uu);have DL:=D.m ia Xf (λ_ F=>Zcs (CL:=cW) (CJ:=cC) F hc oH Dy De);have FZ:=D.dX p26 (λ_ F=>Zag (C:=dt) (CL:=cW) (CJ:=cC) F uc zk ue);have ot:=D.m ia WD (λ_ F=>Z6 (CL:=cW) (CJ:=cC) F hc DL);have zx:=D.d p50 (λ_ F=>ZcD (C:=dt) (CL:=cW) (CJ:=cC) F FZ ux Fw zI rJ wJ C3 bl);have DC:=D.m ia WR (λ_ F=>Zba (CL:=cW) (CJ:=cC) F hc oH DN ot);have ug:=D.m ia Xx (λ_ F=>ZdG (CL:=cW) (CJ:=cC) F hc oH EM uc ot);have D2:=D.m ia Xy (λ_ F=>ZdH (CL:=cW) (CJ:=cC) F hc EN ot);have Ei:=D.m ia X_ (λ_ F=>ZdJ (CL:=cW) (CJ:=cC) F hc ER ug);have Eh:=D.m ia YA (λ_ F=>ZdK (CL:=cW) (CJ:=cC) F hc kZ DQ ug);have FY:=D.d p45 (λ_ F=>Zae (C:=dt) (CL:=cW) (CJ:=cC) F Eh Ei);have Ft:=D.d p46 (λ_ F=>Zi (C:=dt) (CL:=cW) (CJ:=cC) F oy Fp Fq Fs FY DC D2 bl);have Fx:=D.d p47 (λ_ F=>Zj (C:=dt) (CL:=cW) (CJ:=cC) F Ft bl);exact Zfp F rK oy zS EU uy EV Fx zx F0 Gn bl
def walk{l:PySem.W.OpenLaw}{q:Program}{loose:List Str}{XP:(Str->Option Value)->Heap->Prop}{YP:World->Heap->Prop}{d:DefRec}{K:Params->ah}(hn:l.most=some 63)(yk:d.params.defaults=[])
  (hY:∀(w:World) (h:Heap),YP w h->(K w.params).In h)
  (F:∀(w:World) (mg:aQ) (fa:Addr) (h:Heap),(K w.params).In h->h.Ns mainGlobals mg->mg d.name=some (.ref fa)->
   ∃fd:FuncData,(∀(s:Shared) (u:Value),BindsTo s fd ⟨[u],[]⟩ [("_law_script",u)])/\∀base:Heap,(K w.params).In base->base.Ns mainGlobals mg->aE l.prog w (K w.params) mg base (dW l.prog w) 16 fa fd BD (AV (K w.params))):
  PySem.W.WalkO q loose XP YP l.row.toRowW d [] (λf vs=>PySem.call f vs):=
 L2.ZcT (n:=63) (k:=16) (x:="_law_script") (CX:=λw=>dW l.prog w) (sp:=λw=>AV (K w.params)) hn (by decide) yk ⟨rfl,by decide,by decide,rfl⟩ hY F (λ_ _ a ns hl _ hS=>⟨a,ns,rfl,hS,hl,λ_=>rfl⟩) λ_ _ _ _ _ h=>by obtain⟨_,_,_,_,_,_,_,_,_,_,_,_,_,_,z⟩:=h;exact z
end Kx
namespace PySem.W.Fast
def tw340478138254939805:=0
def tw16578460812204516084:=0
def tw11612773083769926048:=0
def tw9000764086607833792:=0
def tw4530319879945062626:=0
def tw5959146735044234723:=0
def tw5466862524320620419:=0
def tw11421985747475020932:=0
def tw11471060969431185572:=0
def tw11935653258725876068:=0
def tw384841308902804036:=0
def tw13833586951493989733:=0
def tw6046331355138815717:=0
def tw771904562909128230:=0
def tw9605072087512292135:=0
def tw704835573444380584:=0
def tw13034519026559154152:=0
def tw7180331146083117193:=0
def tw2596455725369064777:=0
def tw10610240755359195017:=0
def tw1682375770785887177:=0
def tw17160506674897183114:=0
def tw5893908077636371946:=0
def tw3516413517002358955:=0
def tw16025487812380012907:=0
def tw14927067678698725803:=0
def tw1424737844429524332:=0
def tw2756962632169868236:=0
def tw13201548134632640109:=0
def tw3614734840384856270:=0
def tw13275097300935700238:=0
def tw17053221440742438415:=0
def tw871644650305877775:=0
def tw136672941875445232:=0
def tw2166568135643625713:=0
def tw11581872343342539121:=0
def tw15904243299988701235:=0
def tw12483594407656112531:=0
def tw7031890588739389011:=0
def tw17561269825845243508:=0
def tw9284055522665193557:=0
def tw10152863741690371285:=0
def tw422996148172323958:=0
def tw11804450727660165878:=0
def tw14171133015488243511:=0
def tw840613846087632920:=0
def tw15257716620170448600:=0
def tw9437657396327737243:=0
def tw1153785844158699612:=0
def tw12680399080539939132:=0
def tw2369485113221529244:=0
def tw8770062991331353277:=0
def tw5479724048266949533:=0
def tw17520829539126026430:=0
def tw2417792992913151870:=0
def tw14716833957684973502:=0
def tw14207183772461931647:=0
def tw17197591221728597535:=0
def tw15421422397982812863:=0
def tw14326337520130350421:=0
def tw9512678479735429261:=0
def tw1338962385467555763:=0
def tw5692027931369851099:=0
def tw50949097572548443:=0
def tw1171598645765566303:=0
def tw11190507743332029782:=0
def tw4283731649728373422:=0
def tw15594349867202908178:=0
def tw4659983725342084008:=0
def tw7311294446592821145:=0
def tw2264013231026116235:=0
def tw16738356509100167582:=0
def tw5894867609684321703:=0
def tw6388607821168840360:=0
def tw2069131549637973606:=0
def tw1500995883840430599:=0
def tw5856010292795514207:=0
def tw14972216825470245623:=0
def tw9920359592450421034:=0
def tw5777184164803025026:=0
def tw287130237992714731:=0
def tw8819501711294013660:=0
def tw504914033086518040:=0
def tw17513638523047908149:=0
def tw10261602370142522049:=0
def tw5059491158007504673:=0
def tw883662535958676653:=0
def tw17094588419689349213:=0
def tw2052355611541684103:=0
def tw18285732349523137234:=0
def tw16307718647421160503:=0
def tw11438252904703435228:=0
def tw5218542133651372116:=0
def tw16856804400079097528:=0
def tw14066910418080759931:=0
def tw12612690182685191690:=0
def tw11625803173149376048:=0
def tw13035591463134189977:=0
def tw9012026344283008993:=0
def tw13970721127281967456:=0
def tw1437788564947035420:=0
def tw13080587847041812041:=0
def tw8800735086419231617:=0
def tw15210240787498978323:=0
def tw18013721802615123856:=0
def tw6965877085571884661:=0
def tw14678804973552166343:=0
def tw16190171075190388011:=0
def tw206726068771716106:=0
def tw14479062408441533326:=0
def tw8734986730822913788:=0
def tw16992508808864935857:=0
def tw15963920248030206124:=0
def tw13320182115385979985:=0
def tw14198807577769950113:=0
def tw7531421137396879046:=0
def tw13080522210159847314:=0
def tw4773284750232206218:=0
def tw7818488193401413755:=0
def tw17864107778598042704:=0
def tw13319635200279609230:=0
def tw3623884933937305788:=0
def tw15368369270176914209:=0
def tw3823220311107384509:=0
def tw7694518541993367343:=0
def tw8632193302252733656:=0
def tw381165586081502484:=0
def tw13305284510793551099:=0
def tw1057677796770718165:=0
def tw994653462910327812:=0
def tw3503242344630131835:=0
def tw1781547618424314108:=0
def tw9809492208439015450:=0
def tw507211992053145347:=0
def tw7605080584466493978:=0
def tw12061345867355788667:=0
def tw7967234154654145612:=0
def tw169998234486295056:=0
def tw15765599394422410478:=0
def tw1421459016086377936:=0
def tw14299128846791385400:=0
def tw13794842038312926039:=0
def tw11811241826214647081:=0
def tw13485382623067975549:=0
def tw10399728212097597865:=0
def tw2623025048642382395:=0
def tw3959824144063246888:=0
def tw16753089206188117835:=0
def tw7864230464932893202:=0
def tw621698455608606915:=0
def tw5263574834593343445:=0
def tw2285934516069355950:=0
def tw15260849990501849628:=0
def tw9695219167606207467:=0
def tw3264532139191775524:=0
def tw1678380348823118032:=0
def tw1522350273742534033:=0
def tw2650420521596814354:=0
def tw13542372100848185422:=0
def tw14571768137255581240:=0
def tw1222701764871963798:=0
def tw10972713068815755203:=0
def tw11897663370114057828:=0
def tw6608678569449239324:=0
def tw12798571671628293937:=0
def tw7736390701379083756:=0
def tw10681741504794340496:=0
def tw6926640432238817235:=0
def tw2124001419560509202:=0
def tw13469307030419504583:=0
def tw9765457798180120144:=0
def tw17464348462899556130:=0
def tw14362659871366776127:=0
def tw10933006577880529156:=0
def tw15105004280488770482:=0
def tw16025952402685340193:=0
def tw3766682371023676448:=0
def tw18034605609601772935:=0
def tw10925692880797424559:=0
def tw10108598837209449398:=0
def tw1256184128175344107:=0
def tw3218571554196162973:=0
def tw6871977306454772905:=0
def tw7657790743422587860:=0
def tw4419217826182923798:=0
def tw3942650077817873508:=0
def tw14076088623509838229:=0
def tw7039352940452167301:=0
def tw7738776339118856469:=0
def tw5323146416417588208:=0
def tw9619940560371725344:=0
def tw17474262368721049651:=0
def tw6093213289119804749:=0
def tw9941006589887221368:=0
def tw18048971902315712416:=0
def tw905592955980371870:=0
def tw9346394506289249454:=0
def tw7761694471783876951:=0
def tw3578881610340323023:=0
def tw4109218585790418575:=0
def tw3516986841099094538:=0
def tw1838763924389144049:=0
def tw8793833180364945742:=0
def tw5134048314031173577:=0
def tw14020736972761383734:=0
def tw5838158443195691943:=0
def tw13173203911179817510:=0
def tw13916659531026642613:=0
def tw11985907575145191860:=0
def tw10831036992354015002:=0
def tw3991294008913336104:=0
def tw8039144527913548949:=0
def tw11182207235080963245:=0
def tw15309200739209987406:=0
def tw4185081971314068043:=0
def tw1381371227632636368:=0
def tw988143551321983528:=0
def tw9329155087574083650:=0
def tw4897471001379554727:=0
def tw14755392206742867003:=0
def tw8986734526150068932:=0
def tw8239144040158191026:=0
def tw15523980008494969497:=0
def tw7612437316359704188:=0
def tw11101902070335447677:=0
def tw9984540956209781628:=0
def tw7978937525719634243:=0
def tw5354098599334216766:=0
def tw18014723967912826551:=0
def tw7803633844259573175:=0
def tw14186022630055064457:=0
def tw1516226334002355151:=0
def tw2421237564214389550:=0
def tw5694205811133523854:=0
def tw16534455182319516985:=0
def tw12485125184826814041:=0
def tw15685621105586513832:=0
def tw10767593612228147576:=0
def tw9188238193010519709:=0
def tw12270222302283555042:=0
def tw8777886506001602484:=0
def tw12447491605578720103:=0
def tw9705458485411968341:=0
def tw14905884364811051179:=0
def tw17017419308042244148:=0
def tw6397761807304419912:=0
def tw16276433343950318957:=0
def tw111368374083593192:=0
def tw10955928817648448492:=0
def tw16913873397169249075:=0
def tw8140187486517017007:=0
def tw15623066080982427124:=0
def tw10664252161478278136:=0
def tw6047599325715778505:=0
def tw4501556151419534773:=0
def tw6782667985806627786:=0
def tw2071240528838974911:=0
def tw8141405867640989058:=0
def tw3756043926383976259:=0
def tw1441866806947647323:=0
def tw14053281483100579444:=0
def tw10792029685224122368:=0
def tw1959396339955358515:=0
def tw12111426110278546600:=0
def tw828949702649485815:=0
def tw10457736571345428796:=0
def tw9036385848100558810:=0
def tw4013352225434881686:=0
def tw17589380295581265834:=0
def tw16973418854042164002:=0
def tw16425055204821783047:=0
def tw15805309013318447157:=0
def tw11101164244511358935:=0
def tw6827467235821154160:=0
def tw9161403144716122901:=0
def tw11655380471110835778:=0
def tw749453460219996750:=0
def tw15295975630854114603:=0
def tw6539322887904003020:=0
def tw970538019421963239:=0
def tw6660571558877171076:=0
def tw16373484724926600682:=0
def tw4534614258464423318:=0
def tw18414997643422133612:=0
def tw1201707323393105142:=0
def tw4802003040622574216:=0
def tw9669400541549841965:=0
def tw9374734687059051270:=0
def tw8792629115160750295:=0
def tw60918230070104501:=0
def tw16920112705954603724:=0
def tw10225165315130555614:=0
def tw18341830288290423827:=0
def tw10614989363959666960:=0
def tw11921030889107417157:=0
def tw3090611957392994277:=0
def tw9528699215735160196:=0
def tw211735546523373075:=0
def tw9175955308461182269:=0
def tw15046679269046675874:=0
def tw11263295764752902719:=0
def tw13777628736451196696:=0
def tw6702568304568345208:=0
def tw9866847798066124127:=0
def tw12011240598240235604:=0
def tw970390360873236536:=0
def tw17384200907912218327:=0
def tw11809677786577022982:=0
def tw2533417918368595840:=0
def tw8027013086732374181:=0
def tw4992896803766039239:=0
def tw12625775339323527280:=0
def tw891274649240850379:=0
def tw14432638161248406840:=0
def tw13027807223441244058:=0
def tw1766388008279827957:=0
def tw9665790059707211565:=0
def tw6834122198296009495:=0
def tw4601056026447074474:=0
def tw17225307891961750740:=0
def tw4069339200583473092:=0
def tw5814611358673314494:=0
def tw14363779568381857911:=0
def tw10929763897385816147:=0
def tw14246167320369584118:=0
def tw1475734715428278650:=0
def tw5590433949963873478:=0
def tw8490246364198731032:=0
def tw8341687306413098475:=0
def tw17008351991844658799:=0
def tw16725424900477940453:=0
def tw13447953047252186224:=0
def tw11166479230970084032:=0
def tw3696343141604917022:=0
def tw8360405027232158300:=0
def tw7384214920347922452:=0
def tw17697250191232590284:=0
def tw8384135384402611955:=0
def tw4551865770529398949:=0
def tw3546100627432432073:=0
def tw3363687901897647929:=0
def tw9761499425807562731:=0
def tw9305575774759802189:=0
def tw7874765655493638658:=0
def tw5631925576896904286:=0
def tw18389970085063670547:=0
def tw16812110761534293474:=0
def tw15802286931487764759:=0
def tw1227535055612633252:=0
def tw1041486710914853015:=0
def tw2028258506497591187:=0
def tw10591102569913744542:=0
def tw11175335545874795969:=0
def tw16275545970298728822:=0
def tw11505112947032749945:=0
def tw9504696831278797933:=0
def tw6541926393477609623:=0
def tw15350709038312486007:=0
def tw15186525513997406343:=0
def tw13138261225741538014:=0
def tw1091824279609524743:=0
def tw10282934699648058464:=0
def tw9984057208588395305:=0
def tw247896585804195861:=0
def tw6334196514806425651:=0
def tw8482066566642826228:=0
def tw7765131307235223509:=0
def tw6819115019674860015:=0
def tw4121446933600864123:=0
def tw236276690233715890:=0
def tw18045774652796885993:=0
def tw17495022063531079339:=0
def tw16504764954235054612:=0
def tw13534275782400534415:=0
def tw13220233618449958275:=0
def tw13189698405646951186:=0
def tw11346591925889329175:=0
def tw11190626952279260597:=0
def tw9810950108129041471:=0
def tw8548257480484718273:=0
def tw14560692651336476595:=0
def tw2792922931784496047:=0
def tw16828882399026887563:=0
def tw391155957490716161:=0
def tw4981939307455060815:=0
def tw16643311099634389340:=0
def tw15700895225365405292:=0
def tw463961906696515470:=0
def tw5143850051641156118:=0
def tw13831359460596390929:=0
def tw461124943765544618:=0
def tw3397702160249989968:=0
def tw3485345982798858870:=0
def tw6039039816175456197:=0
def tw16100522798707690546:=0
def tw11289875805930552616:=0
def tw14694339389264608736:=0
def tw4493680051908309:=0
def tw3042834977666065495:=0
def tw6189466118306622122:=0
def tw8112917021669163150:=0
def tw10607113675974496154:=0
def tw811108893734765427:=0
def tw14882294624857124986:=0
def tw11771254587211377311:=0
def tw557737412459649937:=0
def tw15731408302952183402:=0
def tw17634553948550849041:=0
def tw2618129123480097530:=0
def tw17270048456871801909:=0
def tw10235403689586356897:=0
def tw13500644230364655197:=0
def tw269614164482706035:=0
def tw3875076755291853078:=0
def tw5868897007351056025:=0
def tw5437707841878456305:=0
def tw5673051469344453202:=0
def tw10795353819821783112:=0
def tw16795453199343105229:=0
def tw8441075661939641687:=0
def tw6238321880308758069:=0
def tw8922143061886350864:=0
def tw12731801110044652396:=0
def tw6856920116851963901:=0
def tw8196555454066649432:=0
def tw5342028640830745927:=0
def tw2265623594316588488:=0
def tw2080221088935306012:=0
def tw4962244913527829842:=0
def tw6202851441467512750:=0
def tw12590592386958207380:=0
def tw11129027357055999005:=0
def tw8920594045789496384:=0
def tw13026884959350085799:=0
def tw15306056279436702261:=0
def tw18203598530088195553:=0
def tw2805635916504282198:=0
def tw17178748788055081307:=0
def tw169856262053346409:=0
def tw10210274089718747165:=0
def tw14910428230821939913:=0
def tw6837047441751175240:=0
def tw7543453216260637235:=0
def tw5993621829670939039:=0
def tw2165281670605969597:=0
def tw15290968417547027378:=0
def tw17624258733214289415:=0
def tw9196395173447557566:=0
def tw1022488064901380336:=0
end PySem.W.Fast
open PySem PySem.W PyProof.Rows
set_option maxRecDepth 100000 in
set_option maxHeartbeats 0 in
theorem PySem.Challenge.cw_kinhearth_k30_pairs_between_two_holds : PySem.Challenge.rw_kinhearth_k30_pairs_between_two.Holds := by
 w_on; o_law; k_head; (case hw=>w_witness2)
 k_fill
 refine Kx.walk (l:=PySem.Challenge.rw_kinhearth_k30_pairs_between_two) rfl rfl (λ w h Y=>kIn_of Y) ?F
 case F=>
  intro w mg fa h KX G yn
  apply Kx.all_mk KX G yn <;> repeat' first | k_is | (show _=_; k_is) | kernel_rfl | constructor
