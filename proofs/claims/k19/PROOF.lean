import PyProof.Rows.All
import Wide.All
import OpenK.AllK
import Wide.FinOn
import Lean
import PyProof.EqAt
import PyProof.EqKinds
import PyProof.TupleCall
import PyProof.NeKinds
import PyProof.ConsumeWalk
import PyProof.ListRange
import PyProof.TupleOfSeq
import PyProof.Rows.SortWalk
import PyProof.CompFree
import PySem.Challenge.RW_kinhearth_k19_dealings_counted
set_option Elab.async false
set_option linter.all false
set_option maxRecDepth 100000
set_option maxHeartbeats 4000000
namespace L2
open PySem PySem.Spec PyProof.Rows
abbrev Key := Sum Int Str
def keyIs : Key → Value → Bool
  | .inl k, v => Value.isInt k v
  | .inr x, v => Value.isStrOf x v
def keyH (w : World) : Key → Int
  | .inl k => hashInt k
  | .inr x => hashStr w x
theorem keyIs_shape : ∀ {k : Key} {v : Value}, keyIs k v = true → (∃ i t, k = Sum.inl i ∧ v = Value.int i t) ∨ (∃ x t, k = Sum.inr x ∧ v = Value.str x t)
  | .inl i, v, h => by
    obtain ⟨t, e⟩ := Value.isInt_shape (k := i) (v := v) h
    exact .inl ⟨i, t, rfl, e⟩
  | .inr x, v, h => by
    obtain ⟨t, e⟩ := Value.isStrOf_shape (x := x) (v := v) h
    exact .inr ⟨x, t, rfl, e⟩
theorem keyIs_int (i : Int) (t : Tok) : keyIs (.inl i) (.int i t) = true := by simp [keyIs, Value.isInt]
theorem keyIs_str (x : Str) (t : Tok) : keyIs (.inr x) (.str x t) = true := by simp [keyIs, Value.isStrOf]
theorem key_ll (a b : Int) : decide ((Sum.inl a : Key) = Sum.inl b) = (a == b) := by
  by_cases e : a = b
  · subst e; simp
  · have h : ¬ (Sum.inl a : Key) = Sum.inl b := fun q => e (Sum.inl.inj q)
    rw [decide_eq_false h]
    exact (beq_eq_false_iff_ne.mpr e).symm
theorem key_rr (a b : Str) : decide ((Sum.inr a : Key) = Sum.inr b) = decide (a = b) := by
  by_cases e : a = b
  · subst e; simp
  · have h : ¬ (Sum.inr a : Key) = Sum.inr b := fun q => e (Sum.inr.inj q)
    rw [decide_eq_false h, decide_eq_false e]
theorem key_lr (a : Int) (b : Str) : decide ((Sum.inl a : Key) = Sum.inr b) = false := decide_eq_false (fun q => nomatch q)
theorem key_rl (a : Str) (b : Int) : decide ((Sum.inr a : Key) = Sum.inl b) = false := decide_eq_false (fun q => nomatch q)
def mixKind (prog : Program) (w : World) : PySem.KeyKind prog w Key where
  is := keyIs
  hash := keyH w
  inj := fun v a b ha hb => by
    rcases keyIs_shape ha with ⟨i, t, rfl, rfl⟩ | ⟨x, t, rfl, rfl⟩
    · rcases keyIs_shape hb with ⟨j, u, rfl, e⟩ | ⟨y, u, rfl, e⟩
      · injection e with e1 _; rw [e1]
      · exact nomatch e
    · rcases keyIs_shape hb with ⟨j, u, rfl, e⟩ | ⟨y, u, rfl, e⟩
      · exact nomatch e
      · injection e with e1 _; rw [e1]
  byValue := fun k v h => by
    rcases keyIs_shape h with ⟨i, t, rfl, rfl⟩ | ⟨x, t, rfl, rfl⟩ <;> rfl
  pyHash := fun hv h => by
    rcases keyIs_shape hv with ⟨i, t, rfl, rfl⟩ | ⟨x, t, rfl, rfl⟩
    · exact wpAny_pyHash_int h
    · exact wpAny_pyHash_str h
  eqBool := fun hu hv h => by
    rcases keyIs_shape hu with ⟨i, t, rfl, rfl⟩ | ⟨x, t, rfl, rfl⟩
    · rcases keyIs_shape hv with ⟨j, u, rfl, rfl⟩ | ⟨y, u, rfl, rfl⟩
      · rw [key_ll] at h; exact wpAny_eqBool_int h
      · rw [key_lr] at h; exact SeqAt.EqAt.int_str i t y u _ _ _ _ h
    · rcases keyIs_shape hv with ⟨j, u, rfl, rfl⟩ | ⟨y, u, rfl, rfl⟩
      · rw [key_rl] at h; exact SeqAt.EqAt.str_int x t j u _ _ _ _ h
      · rw [key_rr] at h; exact wpAny_eqBool_str h
  «strs» := fun k x t v h => by
    rcases keyIs_shape h with ⟨i, u, rfl, e⟩ | ⟨y, u, rfl, e⟩
    · exact nomatch e
    · injection e with e1 _
      subst e1
      cases v <;> rfl
theorem mixKind_int (prog : Program) (w : World) (i : Int) (t : Tok) : (mixKind prog w).is (.inl i) (.int i t) = true := keyIs_int i t
theorem mixKind_str (prog : Program) (w : World) (x : Str) (t : Tok) : (mixKind prog w).is (.inr x) (.str x t) = true := keyIs_str x t
end L2
namespace L2
open PySem PySem.Spec PyProof.Rows
inductive V where
  | non | bl (b : Bool) | int (i : Int) | str (x : Str) | byt (b : Array UInt8) | flt (b : UInt64) | ref (a : Addr) | ty (n : String)
  deriving DecidableEq
def RelV : V → Value → Prop
  | .non, u => u = Value.none
  | .bl b, u => u = Value.bool b
  | .int i, u => ∃ t, u = Value.int i t
  | .str x, u => ∃ t, u = Value.str x t
  | .byt b, u => ∃ t, u = Value.bytes b t
  | .flt b, u => ∃ t, u = Value.float b t
  | .ref a, u => u = Value.ref a
  | .ty n, u => u = Value.type n
abbrev Vals : List V → List Value → Prop := Paired RelV
theorem Vals.length {xs : List V} {us : List Value} (r : Vals xs us) : xs.length = us.length := Paired.length r
theorem Vals.get : ∀ {xs : List V} {us : List Value} {i : Nat} {x : V}, Vals xs us → xs[i]? = some x → ∃ u, us[i]? = some u ∧ RelV x u
  | _, _, _, _, .nil, e => by simp at e
  | _, _, 0, _, .cons r _, e => by simp at e; subst e; exact ⟨_, rfl, r⟩
  | _, _, i + 1, x, .cons _ t, e => by
    obtain ⟨u, h1, h2⟩ := Vals.get (i := i) (x := x) t (by simpa using e)
    exact ⟨u, by simpa using h1, h2⟩
theorem Vals.set {x : V} {u : Value} (r : RelV x u) : ∀ {xs : List V} {us : List Value} (i : Nat), Vals xs us → Vals (xs.set i x) (us.set i u)
  | _, _, _, .nil => .nil
  | _, _, 0, .cons _ t => .cons r t
  | _, _, i + 1, .cons q t => .cons q (Vals.set r i t)
theorem Vals.append : ∀ {xs ys : List V} {us ws : List Value}, Vals xs us → Vals ys ws → Vals (xs ++ ys) (us ++ ws)
  | _, _, _, _, .nil, s => s
  | _, _, _, _, .cons r t, s => .cons r (Vals.append t s)
theorem Vals.take : ∀ {xs : List V} {us : List Value} (n : Nat), Vals xs us → Vals (xs.take n) (us.take n)
  | _, _, 0, _ => .nil
  | _, _, _ + 1, .nil => .nil
  | _, _, n + 1, .cons r t => .cons r (Vals.take n t)
theorem Vals.drop : ∀ {xs : List V} {us : List Value} (n : Nat), Vals xs us → Vals (xs.drop n) (us.drop n)
  | _, _, 0, r => r
  | _, _, _ + 1, .nil => .nil
  | _, _, n + 1, .cons _ t => Vals.drop n t
def RelO : Option V → Option Value → Prop
  | some v, some u => RelV v u
  | none, none => True
  | _, _ => False
def KV {κ : Type} : List (κ × V) → List (κ × Value) → Prop := Paired fun (p : κ × V) (q : κ × Value) => p.1 = q.1 ∧ RelV p.2 q.2
def kV : Key → V
  | .inl i => .int i
  | .inr x => .str x
inductive HO where
  /-- a list -/
  | lst (xs : List V)
  /-- a tuple (never changes) -/
  | tup (xs : List V)
  /-- a dict whose keys are ints and texts; one whose keys are tuples of ints and texts (the empty one is both) -/
  | dK (kvs : List (Key × V)) | dT (kvs : List (List Key × V))
  /-- a set of ints: its members, its size -/
  | set (S : Int → Bool) (n : Nat)
  /-- an instance of the class at C, its dict at dx, its attributes -/
  | ins (C dx : Addr) (fs : List (Str × V))
  /-- the dict of the instance at x -/
  | own (x : Addr)
  /-- the dict of an exception -/
  | xd (fs : List (Str × V))
  /-- a bound method, f of x -/
  | met (f x : Addr)
  /-- a range object lo, lo + 1, .. below hi -/
  | rng (lo hi : Int)
  /-- a thing that is known to the object (the script; a dict while a loop walks it): read, never written while it is so -/
  | frz (o : Obj) (u : HO)
  /-- a code object's table -/
  | tbl (ps : Array Value)
  /-- any other thing, by what is true of its one object (a def of one's own: SetO a S n := HO.ext fun h => ..) -/
  | ext (φ : Heap → Prop)
abbrev Hp := Addr → Option HO
def upd (H : Hp) (a : Addr) (o : HO) : Hp := fun b => if b = a then some o else H b
theorem upd_same {H : Hp} {a : Addr} {o : HO} : upd H a o a = some o := by unfold upd; rw [if_pos rfl]
theorem upd_ne {H : Hp} {a b : Addr} {o : HO} (h : b ≠ a) : upd H a o b = H b := by unfold upd; rw [if_neg h]
theorem ne_of {H : Hp} {a b : Addr} {o u : HO} (h : H a = some o) (h' : H b = some u) (d : o ≠ u) : a ≠ b := by
  intro e; subst e; rw [h] at h'; exact d (Option.some.inj h')
theorem ne_of_none {H : Hp} {a b : Addr} {o : HO} (h : H a = some o) (h' : H b = none) : a ≠ b := by
  intro e; subst e; rw [h] at h'; cases h'
section
variable (P : Program) (w : World)
def IsTupN (h : Heap) (a : Addr) (items : Array Value) : Prop := ∃ o, h.get? a = some o ∧ o.cls = .type "tuple" ∧ ∃ n, o.data = .seq items n ∧ o.dict = none
theorem IsTupN.tup {h : Heap} {a : Addr} {items : Array Value} (x : IsTupN h a items) : IsTup h a items := let ⟨o, e, c, n, d, _⟩ := x; ⟨o, e, c, n, d⟩
theorem IsTupN.lt {h : Heap} {a : Addr} {items : Array Value} (x : IsTupN h a items) : a < h.objs.size := x.tup.lt
theorem IsTupN.new (h : Heap) (items : Array Value) : IsTupN (h.push { cls := .type "tuple", data := .seq items }) h.objs.size items := ⟨_, Heap.get?_push_size _ rfl, rfl, _, rfl, rfl⟩
def ObjOk (H : Hp) (h : Heap) (a : Addr) : HO → Prop
  | .lst xs => xs.length ≤ sizeLine ∧ ∃ (its : List Value) (n : Nat), Vals xs its ∧ h.get? a = some { cls := .type "list", data := .seq its.toArray n }
  | .tup xs => xs.length ≤ sizeLine ∧ ∃ its : List Value, Vals xs its ∧ IsTupN h a its.toArray
  | .dK kvs => kvs.length ≤ sizeLine ∧ (a == sysModules) = false ∧ ∃ vs, KV kvs vs ∧ h.DictOf (mixKind P w) a vs
  | .dT kvs => kvs.length ≤ sizeLine ∧ (a == sysModules) = false ∧ ∃ xs : List (List Key × Addr × Value),
      Paired (fun (p : List Key × V) (q : List Key × Addr × Value) => p.1 = q.1 ∧ H q.2.1 = some (.tup (p.1.map kV)) ∧ RelV p.2 q.2.2) kvs xs ∧
      ∃ o es ep, h.get? a = some o ∧ o.ExactDict ∧ o.data = .dict es ep ∧ es.toList = xs.map (entryOfKey (tupleKind (mixKind P w))) ∧ (xs.map (·.1)).Nodup
  | .set S n => h.SetOf (intKind P w) a S n
  | .ins C dx fs => H dx = some (.own a) ∧ fs.length ≤ 1000 ∧ dx ≠ a ∧ h.get? a = some (PySem.W.instObj C dx) ∧
      ∃ mA, h.Ns1 dx mA ∧ (∀ f, RelO (fs.lookup f) (mA f)) ∧ PySem.Within mA (fs.map (·.1))
  | .own _ => ∃ o, h.get? a = some o
  | .xd fs => ∃ mA, h.Ns1 a mA ∧ ∀ f, RelO (fs.lookup f) (mA f)
  | .rng lo hi => ∃ t u v, h.get? a = some { cls := .type "range", data := .fields #[.int lo t, .int hi u, .int 1 v] }
  | .frz o u => h.get? a = some o ∧ ObjOk H h a u
  | .tbl ps => h.get? a = some { cls := .none, data := .fields ps }
  | .met f x => h.get? a = some (PySem.W.methodObj (.ref f) (.ref x))
  | .ext φ => φ h ∧ (∃ o, h.get? a = some o) ∧ ∀ h1 h2 : Heap, φ h1 → (∀ o, h1.get? a = some o → h2.get? a = some o) → φ h2
def HOk (H : Hp) (h : Heap) : Prop := ∀ a o, H a = some o → ObjOk P w H h a o
end
section
variable {P : Program} {w : World} {H H' : Hp} {h h' : Heap} {a : Addr} {o : HO}
theorem ObjOk.lt (x : ObjOk P w H h a o) : a < h.objs.size := by
  cases o with
  | lst xs => obtain ⟨_, _, _, _, e⟩ := x; exact Heap.lt_size e
  | tup xs => obtain ⟨_, _, _, p⟩ := x; exact p.lt
  | dK kvs => obtain ⟨_, _, _, _, o, _, _, e, _⟩ := x; exact Heap.lt_size e
  | dT kvs => obtain ⟨_, _, _, _, o, _, _, e, _⟩ := x; exact Heap.lt_size e
  | set S n => obtain ⟨o, _, _, _, e, _⟩ := x; exact Heap.lt_size e
  | ins C dx fs => obtain ⟨_, _, _, e, _⟩ := x; exact Heap.lt_size e
  | own y => obtain ⟨_, e⟩ := x; exact Heap.lt_size e
  | xd fs => obtain ⟨_, ⟨_, _, _, e, _⟩, _⟩ := x; exact Heap.lt_size e
  | rng lo hi => obtain ⟨_, _, _, e⟩ := x; exact Heap.lt_size e
  | frz ob u => obtain ⟨e, _⟩ := x; exact Heap.lt_size e
  | tbl ps => exact Heap.lt_size (show h.get? a = some _ from x)
  | met f y => exact Heap.lt_size (show h.get? a = some _ from x)
  | ext φ => obtain ⟨_, ⟨_, e⟩, _⟩ := x; exact Heap.lt_size e
theorem Paired.mapP {α β : Type} {F G : α → β → Prop} : ∀ {l₁ : List α} {l₂ : List β}, Paired F l₁ l₂ → (∀ a b, F a b → G a b) → Paired G l₁ l₂
  | _, _, .nil, _ => .nil
  | _, _, .cons r t, f => .cons (f _ _ r) (Paired.mapP t f)
theorem ObjOk.stay (x : ObjOk P w H h a o) (k : ∀ b u, (b = a ∨ H b = some (.own a)) → h.get? b = some u → h'.get? b = some u)
    (ho : ∀ b, H b = some (.own a) → H' b = some (.own a)) (ht : ∀ b xs, H b = some (.tup xs) → H' b = some (.tup xs)) : ObjOk P w H' h' a o := by
  induction o with
  | lst xs => obtain ⟨z, its, n, r, e⟩ := x; exact ⟨z, its, n, r, k _ _ (.inl rfl) e⟩
  | tup xs => obtain ⟨z, its, r, ob, e, c⟩ := x; exact ⟨z, its, r, ob, k _ _ (.inl rfl) e, c⟩
  | dK kvs => obtain ⟨z, y, vs, r, ob, es, ep, e, c⟩ := x; exact ⟨z, y, vs, r, ob, es, ep, k _ _ (.inl rfl) e, c⟩
  | dT kvs =>
    obtain ⟨z, y, xs, r, ob, es, ep, e, c⟩ := x
    exact ⟨z, y, xs, Paired.mapP r fun p q z => ⟨z.1, ht _ _ z.2.1, z.2.2⟩, ob, es, ep, k _ _ (.inl rfl) e, c⟩
  | set S n => obtain ⟨ob, es, ep, t, e, c⟩ := x; exact ⟨ob, es, ep, t, k _ _ (.inl rfl) e, c⟩
  | ins C dx fs =>
    obtain ⟨d, z, ne, e, mA, ⟨od, es, ep, e2, c⟩, r⟩ := x
    exact ⟨ho _ d, z, ne, k _ _ (.inl rfl) e, mA, ⟨od, es, ep, k _ _ (.inr d) e2, c⟩, r⟩
  | own y => obtain ⟨ob, e⟩ := x; exact ⟨ob, k _ _ (.inl rfl) e⟩
  | xd fs => obtain ⟨mA, ⟨od, es, ep, e, c⟩, r⟩ := x; exact ⟨mA, ⟨od, es, ep, k _ _ (.inl rfl) e, c⟩, r⟩
  | rng lo hi => obtain ⟨t, u, v, e⟩ := x; exact ⟨t, u, v, k _ _ (.inl rfl) e⟩
  | frz ob u ih => obtain ⟨e, q⟩ := x; exact ⟨k _ _ (.inl rfl) e, ih q⟩
  | tbl ps =>
    have e : h.get? a = some { cls := .none, data := .fields ps } := x
    show h'.get? a = some { cls := .none, data := .fields ps }
    exact k a _ (.inl rfl) e
  | met f y =>
    have e : h.get? a = some (PySem.W.methodObj (.ref f) (.ref y)) := x
    show h'.get? a = some (PySem.W.methodObj (.ref f) (.ref y))
    exact k a _ (.inl rfl) e
  | ext φ => obtain ⟨p, ⟨o, e⟩, st⟩ := x; exact ⟨st _ _ p fun o q => k _ _ (.inl rfl) q, ⟨o, k _ _ (.inl rfl) e⟩, st⟩
theorem HOk.lt (x : HOk P w H h) (e : H a = some o) : a < h.objs.size := (x a o e).lt
theorem HOk.fresh (x : HOk P w H h) (e : h.objs.size ≤ a) : H a = none := by
  cases q : H a with
  | none => rfl
  | some u => exact absurd (Nat.lt_of_lt_of_le (x.lt q) e) (Nat.lt_irrefl _)
theorem HOk.kept (x : HOk P w H h) (k : ∀ b u, h.get? b = some u → h'.get? b = some u) : HOk P w H h' := fun a o e =>
  (x a o e).stay (fun b u _ q => k b u q) (fun _ q => q) fun _ _ q => q
theorem HOk.laid (x : HOk P w H h) (k : ∀ b u, h.get? b = some u → h'.get? b = some u) (hp : h.objs.size ≤ a) (new : ObjOk P w (upd H a o) h' a o) : HOk P w (upd H a o) h' := fun b u e => by
  have hn := x.fresh hp
  by_cases hb : b = a
  · subst hb; rw [upd_same] at e; cases e; exact new
  · rw [upd_ne hb] at e
    exact (x b u e).stay (fun c v _ q => k c v q) (fun c q => by rw [upd_ne (ne_of_none q hn)]; exact q) fun c xs q => by rw [upd_ne (ne_of_none q hn)]; exact q
end
def Rd (H : Hp) (a : Addr) (u : HO) : Prop := H a = some u ∨ ∃ o, H a = some (.frz o u)
theorem Rd.ok {P : Program} {w : World} {H : Hp} {h : Heap} {a : Addr} {u : HO} (r : Rd H a u) (x : HOk P w H h) : ObjOk P w H h a u := by
  rcases r with r | ⟨o, r⟩
  · exact x a u r
  · obtain ⟨_, q⟩ := x a _ r
    exact q
def Mut : Option HO → Prop
  | some (.lst _) => True
  | some (.dK _) => True
  | some (.dT _) => True
  | some (.set _ _) => True
  | some (.ins _ _ _) => True
  | some (.ext _) => True
  | _ => False
section
variable {P : Program} {w : World} {H : Hp} {h h' : Heap} {x e : Addr} {o' : HO}
theorem HOk.write (ok : HOk P w H h) (mu : Mut (H x)) (he : e = x ∨ H e = some (.own x)) (k : ∀ b u, b ≠ e → h.get? b = some u → h'.get? b = some u) (heo : ∃ u, h'.get? e = some u)
    (new : ObjOk P w (upd H x o') h' x o') : HOk P w (upd H x o') h' := fun b u q => by
  have nown : ∀ c y, H c = some (.own y) → c ≠ x := fun c y r z => by subst z; rw [r] at mu; exact mu
  have ntup : ∀ c xs, H c = some (.tup xs) → c ≠ x := fun c xs r z => by subst z; rw [r] at mu; exact mu
  by_cases hb : b = x
  · subst hb; rw [upd_same] at q; cases q; exact new
  · rw [upd_ne hb] at q
    by_cases hbe : b = e
    · have q' : H b = some (.own x) := by
        rcases he with z | z
        · exact absurd (hbe.trans z) hb
        · rw [hbe]; exact z
      rw [q] at q'; cases q'
      obtain ⟨v, hv⟩ := heo
      exact ⟨v, by rw [hbe]; exact hv⟩
    · refine (ok b u q).stay (fun c v hc r => k c v ?_ r) (fun c r => by rw [upd_ne (nown c b r)]; exact r) fun c xs r => by rw [upd_ne (ntup c xs r)]; exact r
      rcases hc with rfl | hc
      · exact hbe
      · rintro rfl
        rcases he with z | z
        · exact nown c b hc z
        · rw [hc] at z; cases z; exact hb rfl
end
structure Un (fs ex : List Addr) (H H' : Hp) (h h' : Heap) : Prop where
  keep : ∀ b o, h.get? b = some o → H b = none → b ∉ fs → b ∉ ex → h'.get? b = some o
  slot : ∀ b o, h.get? b = some o → H b = none → b ∈ fs → b ∉ ex → ∃ sl, h'.get? b = some { o with slots := sl }
  free : ∀ b o, h.get? b = some o → H b = none → b ∉ ex → H' b = none
  there : ∀ b o, h.get? b = some o → b ∉ ex → ∃ o', h'.get? b = some o'
  tups : ∀ b xs, H b = some (.tup xs) → H' b = some (.tup xs)
  frzs : ∀ b o u, H b = some (.frz o u) → H' b = some (.frz o u)
  tbls : ∀ b ps, H b = some (.tbl ps) → ∃ more, H' b = some (.tbl (ps ++ more))
section
variable {fs fs' ex ex' : List Addr} {H H1 H2 : Hp} {h h1 h2 h' : Heap} {a x e : Addr} {o : HO}
theorem Un.any (u : Un fs ex H H1 h h1) {b : Addr} {ob : Obj} (q : h.get? b = some ob) (n : H b = none) (hx : b ∉ ex) : ∃ sl, h1.get? b = some { ob with slots := sl } := by
  by_cases hb : b ∈ fs
  · exact u.slot b ob q n hb hx
  · exact ⟨ob.slots, u.keep b ob q n hb hx⟩
theorem Un.kept (k : ∀ b u, h.get? b = some u → h'.get? b = some u) : Un fs ex H H h h' :=
  ⟨fun b ob q _ _ _ => k b ob q, fun b ob q _ _ _ => ⟨ob.slots, k b ob q⟩, fun _ _ _ n _ => n, fun b ob q _ => ⟨ob, k b ob q⟩, fun _ _ q => q, fun _ _ _ q => q, fun _ ps q => ⟨#[], by rw [q]; simp⟩⟩
theorem Un.refl : Un fs ex H H h h := Un.kept fun _ _ q => q
theorem Un.laid (k : ∀ b u, h.get? b = some u → h'.get? b = some u) (hp : h.objs.size ≤ a) (hn : H a = none) : Un fs ex H (upd H a o) h h' where
  keep := fun b u q _ _ _ => k b u q
  slot := fun b u q _ _ _ => ⟨u.slots, k b u q⟩
  free := fun b u q n _ => by rw [upd_ne (Nat.ne_of_lt (Nat.lt_of_lt_of_le (Heap.lt_size q) hp))]; exact n
  there := fun b u q _ => ⟨u, k b u q⟩
  tups := fun b xs q => by rw [upd_ne (ne_of_none q hn)]; exact q
  frzs := fun b u xs q => by rw [upd_ne (ne_of_none q hn)]; exact q
  tbls := fun b ps q => ⟨#[], by rw [upd_ne (ne_of_none q hn), q]; simp⟩
theorem Un.write (mu : Mut (H x)) (he : e = x ∨ H e = some (.own x)) (k : ∀ b u, b ≠ e → h.get? b = some u → h'.get? b = some u) (heo : ∃ u, h'.get? e = some u) : Un fs ex H (upd H x o) h h' := by
  have hx : ∀ b, H b = none → b ≠ x := fun b n z => by subst z; rw [n] at mu; exact mu
  have hb : ∀ b, H b = none → b ≠ e := fun b n z => by
    subst z
    rcases he with r | r
    · exact hx b n r
    · rw [n] at r; cases r
  have hm : ∀ b u, H b = some u → ¬ Mut (some u) → b ≠ x := fun b u q nm z => by subst z; rw [q] at mu; exact nm mu
  refine ⟨fun b u q n _ _ => k b u (hb b n) q, fun b u q n _ _ => ⟨u.slots, k b u (hb b n) q⟩, fun b u q n _ => by rw [upd_ne (hx b n)]; exact n, fun b u q _ => ?_,
    fun b xs q => by rw [upd_ne (hm b _ q fun z => z)]; exact q, fun b u xs q => by rw [upd_ne (hm b _ q fun z => z)]; exact q, fun b ps q => ⟨#[], by rw [upd_ne (hm b _ q fun z => z), q]; simp⟩⟩
  by_cases hbe : b = e
  · subst hbe; exact heo
  · exact ⟨u, k b u hbe q⟩
end
def trk (h : Heap) (H : Hp) : List Addr := (List.range h.objs.size).filter fun a => (H a).isSome
def hidT (h : Heap) (H : Hp) : Heap := PySem.W.hideAll h (trk h H)
theorem hidT_size (h : Heap) (H : Hp) : (hidT h H).objs.size = h.objs.size := PySem.W.hideAll_size _ _
theorem hidT_get {h : Heap} {H : Hp} {b : Addr} {o : Obj} (e : h.get? b = some o) (n : H b = none) : (hidT h H).get? b = some o :=
  PySem.W.hideAll_get _ e fun hm => by
    have q : (H b).isSome = true := (List.mem_filter.mp hm).2
    rw [n] at q; simp at q
theorem of_hidT {h : Heap} {H : Hp} {b : Addr} {o : Obj} (e : (hidT h H).get? b = some o) : h.get? b = some o ∧ H b = none := by
  have e' : h.get? b = some o := PySem.W.of_hideAll (trk h H) e
  refine ⟨e', ?_⟩
  cases q : H b with
  | none => rfl
  | some x =>
    have hm : b ∈ trk h H := List.mem_filter.mpr ⟨List.mem_range.mpr (Heap.lt_size e'), by simp [q]⟩
    have z : (hidT h H).get? b = none := PySem.W.hideAll_none (trk h H) hm
    rw [z] at e; cases e
end L2
namespace L2
open PySem PySem.Spec PyProof.Rows
structure Mod (K : PySem.W.Frag) (mg : Str → Option Value) (base : Heap) : Prop where
  kin : K.In base
  glob : base.Ns mainGlobals mg
  blt : ∃ mb, base.Ns builtinsNs mb ∧ ∀ x : Str, x ≠ "__name__" → mb x = bootBuiltins x
  nolimit : base.NoLimit
structure Cx where
  prog : Program
  w : World
  K : PySem.W.Frag
  mg : Str → Option Value
  base : Heap
  A : Around
  N : List Str
  s₀ : Shared
  H₀ : Hp
  env : Env
  outer : List Env
  stack : List Env
  ex : List Addr
  fn : Str → Bool
  calm : Bool
  pn : List (Addr × Obj)
  xe : Value → Shared → Prop
def frs (l : List Env) : List Addr := l.filterMap (·.frame)
abbrev Cx.fs (X : Cx) : List Addr := frs X.outer
def Vis (sc : Scope) (x : Str) : Prop := sc.names.lookup x = some .local ∨ sc.names.lookup x = some .cell ∨ sc.names.lookup x = some .free
def Loc (sc : Scope) (x : Str) : Prop := sc.names.lookup x = some .local ∨ sc.names.lookup x = some .cell
def Look (env : Env) (h : Heap) (m : Str → Option Value) (x : Str) (u : Value) : Prop :=
  (env.kindOf x = some .local ∧ m x = some u) ∨ ((env.kindOf x = some .cell ∨ env.kindOf x = some .free) ∧ ∃ c, env.cells.lookup x = some c ∧ h.IsCell c (some u))
structure Cx.Ok (X : Cx) : Prop where
  mod : Mod X.K X.mg X.base
  kind : X.env.scope.kind = .function
  glob : X.env.globals = mainGlobals
  blt : X.env.builtins = builtinsNs
  above : X.s₀.heap.objs.size ≤ X.env.locals
  inj : ∀ x y c, X.env.cells.lookup x = some c → X.env.cells.lookup y = some c → x = y
  has : ∀ x, (X.env.kindOf x = some .cell ∨ X.env.kindOf x = some .free) → ∃ c, X.env.cells.lookup x = some c
  cab : ∀ x c, X.fn x = true → X.env.cells.lookup x = some c → X.s₀.heap.objs.size ≤ c
  hd : X.calm = true → X.A.handled = none
  frames : X.A.frames = some X.stack
  stk : X.stack = X.outer ∨ (X.stack = X.env :: X.outer ∧ X.env.frame = some X.env.locals)
  exf : ∀ b ∈ X.ex, b ≠ X.env.locals ∧ ∀ x c, X.env.cells.lookup x = some c → c ≠ b
  bs : ∀ b o, X.base.get? b = some o → X.s₀.heap.get? b = some o ∧ X.H₀ b = none
  bsz : X.base.objs.size ≤ X.s₀.heap.objs.size
  noex : ∀ b o, X.base.get? b = some o → b ∉ X.ex
  exfs : ∀ b ∈ X.ex, b ∉ X.fs
  funs : X.s₀.heap.FunFrames X.base X.outer
  frf : ∀ b ∈ X.fs, X.H₀ b = none
structure Inv (X : Cx) (pins : List (Addr × Obj)) (σ : List (Option V)) (H : Hp) (s : Shared) : Prop where
  ok : X.Ok
  os : s.os = X.s₀.os
  bare : AllBare s.gens
  base : Un X.fs X.ex X.H₀ H X.s₀.heap s.heap
  loc : ∃ m, s.heap.Ns X.env.locals m ∧ ∀ (i : Nat) (x : Str) (v : V), X.N[i]? = some x → σ[i]? = some (some v) → Vis X.env.scope x → ∃ u, RelV v u ∧ Look X.env s.heap m x u
  cell : ∀ x c, X.env.cells.lookup x = some c → ∃ v, s.heap.IsCell c v
  free : H X.env.locals = none
  freeC : ∀ x c, X.env.cells.lookup x = some c → H c = none
  pin : ∀ p ∈ X.pn ++ pins, s.heap.get? p.1 = some p.2 ∧ H p.1 = none ∧ p.1 ≠ X.env.locals ∧ p.1 ∉ X.fs ∧ ∀ v, p.2.data ≠ .cell v
  hok : HOk X.prog X.w H s.heap
  len : σ.length = X.N.length
section
variable {X : Cx} {pins : List (Addr × Obj)} {σ : List (Option V)} {H H' : Hp} {s : Shared} {h' : Heap}
theorem Cx.Ok.nofr (ok : X.Ok) {b : Addr} {o : Obj} (e : X.base.get? b = some o) : b ∉ X.fs := fun hb => by
  have := (ok.funs.mem hb).1
  rw [e] at this; cases this
theorem Inv.bs (I : Inv X pins σ H s) : ∀ b o, X.base.get? b = some o → s.heap.get? b = some o ∧ H b = none := fun b o e =>
  ⟨I.base.keep b o (I.ok.bs b o e).1 (I.ok.bs b o e).2 (I.ok.nofr e) (I.ok.noex b o e), I.base.free b o (I.ok.bs b o e).1 (I.ok.bs b o e).2 (I.ok.noex b o e)⟩
theorem Inv.bk (I : Inv X pins σ H s) : ∀ b o, X.base.get? b = some o → s.heap.get? b = some o := fun b o e => (I.bs b o e).1
theorem Inv.mod (I : Inv X pins σ H s) : Mod X.K X.mg X.base := I.ok.mod
theorem Inv.kIn (I : Inv X pins σ H s) : X.K.In s.heap := I.ok.mod.kin.keeps I.bk
theorem Inv.lt (I : Inv X pins σ H s) : X.env.locals < s.heap.objs.size := let ⟨_, hn, _⟩ := I.loc; hn.lt
theorem Inv.sz (I : Inv X pins σ H s) : X.s₀.heap.objs.size ≤ s.heap.objs.size := Nat.le_trans I.ok.above (Nat.le_of_lt I.lt)
theorem Inv.nofs (I : Inv X pins σ H s) {a : Addr} (h : s.heap.objs.size ≤ a) : a ∉ X.fs := fun hb => by
  obtain ⟨_, o, ho, _⟩ := I.ok.funs.mem hb
  exact absurd (Nat.lt_of_lt_of_le (Heap.lt_size ho) (Nat.le_trans I.sz h)) (Nat.lt_irrefl _)
theorem Inv.cne (I : Inv X pins σ H s) : ∀ x c, X.env.cells.lookup x = some c → c ≠ X.env.locals := fun x c e z => by
  obtain ⟨v, o, ho, hd⟩ := I.cell x c e
  obtain ⟨m, ⟨o', es, ep, ho', hd', _⟩, _⟩ := I.loc
  rw [z, ho'] at ho; cases ho; rw [hd'] at hd; cases hd
theorem Inv.funs (I : Inv X pins σ H s) : s.heap.FunFrames X.base X.outer := by
  have all : ∀ (l : List Env), (∀ b ∈ frs l, b ∈ X.fs) → X.s₀.heap.FunFrames X.base l → s.heap.FunFrames X.base l := by
    intro l
    induction l with
    | nil => intro _ _; trivial
    | cons env r ih =>
      intro hs hl
      obtain ⟨hk, ⟨L, o, hf, hn, ho, hd⟩, hr⟩ := hl
      have hL : L ∈ X.fs := hs L (by unfold frs; rw [List.filterMap_cons, hf]; exact List.mem_cons_self)
      obtain ⟨sl, e⟩ := I.base.slot L o ho (I.ok.frf L hL) hL fun z => I.ok.exfs L z hL
      exact ⟨hk, ⟨L, _, hf, hn, e, hd⟩, ih (fun b hb => hs b (by unfold frs; rw [List.filterMap_cons, hf]; exact List.mem_cons_of_mem _ hb)) hr⟩
  exact all X.outer (fun _ hb => hb) I.ok.funs
theorem Inv.stack (I : Inv X pins σ H s) : s.heap.FunFrames X.base X.stack := by
  rcases I.ok.stk with e | ⟨e, hf⟩
  · rw [e]; exact I.funs
  · rw [e]
    obtain ⟨m, hn, _⟩ := I.loc
    refine .cons (by rw [I.ok.kind]; decide) hf hn ?_ I.funs
    exact Heap.get?_none_of_le (Nat.le_trans I.ok.bsz I.ok.above)
theorem Inv.stkSub (I : Inv X pins σ H s) : ∀ b ∈ frs X.stack, b ∈ X.env.locals :: X.fs := fun b hb => by
  rcases I.ok.stk with e | ⟨e, hf⟩
  · rw [e] at hb; exact List.mem_cons_of_mem _ hb
  · rw [e] at hb
    unfold frs at hb
    rw [List.filterMap_cons, hf] at hb
    exact hb
theorem Inv.stkFree (I : Inv X pins σ H s) : ∀ b ∈ frs X.stack, H b = none := fun b hb => by
  rcases List.mem_cons.mp (I.stkSub b hb) with e | hb
  · rw [e]; exact I.free
  · obtain ⟨_, o, ho, _⟩ := I.ok.funs.mem hb
    exact I.base.free b o ho (I.ok.frf b hb) fun z => I.ok.exfs b z hb
theorem Inv.step {g' : Array GenState} {t' : Nat} {d' : Drawn} {ch : List Addr} (I : Inv X pins σ H s)
    (hch : ∀ b ∈ ch, (b ∈ X.ex ∨ X.s₀.heap.objs.size ≤ b) ∧ b ≠ X.env.locals ∧ (∀ x c, X.env.cells.lookup x = some c → c ≠ b) ∧ ∀ p ∈ X.pn ++ pins, p.1 ≠ b)
    (keep : ∀ b o, b ≠ X.env.locals → b ∉ X.fs → b ∉ ch → s.heap.get? b = some o → H b = none → h'.get? b = some o)
    (slot : ∀ b o, b ≠ X.env.locals → b ∈ X.fs → b ∉ ch → s.heap.get? b = some o → H b = none → ∃ sl, h'.get? b = some { o with slots := sl }) (free : ∀ b o, b ∉ ch → s.heap.get? b = some o → H b = none → H' b = none)
    (there : ∀ b o, b ∉ ch → s.heap.get? b = some o → ∃ o', h'.get? b = some o')
    (tups : ∀ b xs, H b = some (.tup xs) → H' b = some (.tup xs)) (frzs : ∀ b o u, H b = some (.frz o u) → H' b = some (.frz o u)) (tbls : ∀ b ps, H b = some (.tbl ps) → ∃ more, H' b = some (.tbl (ps ++ more)))
    (ns : ∀ m, s.heap.Ns X.env.locals m → h'.Ns X.env.locals m) (hok : HOk X.prog X.w H' h') (hg : AllBare g') :
    Inv X pins σ H' { s with heap := h', gens := g', drawn := d', toks := t' } := by
  have neL : ∀ b o, X.s₀.heap.get? b = some o → b ≠ X.env.locals := fun b o e => Nat.ne_of_lt (Nat.lt_of_lt_of_le (Heap.lt_size e) I.ok.above)
  have neC : ∀ b o, X.s₀.heap.get? b = some o → b ∉ X.ex → b ∉ ch := fun b o e hx hb => by
    rcases (hch b hb).1 with z | z
    · exact hx z
    · exact absurd (Nat.lt_of_lt_of_le (Heap.lt_size e) z) (Nat.lt_irrefl _)
  have cellK : ∀ x c, X.env.cells.lookup x = some c → ∀ v, s.heap.IsCell c v → h'.IsCell c v := fun x c e v ⟨o, ho, hd⟩ => by
    have nch : c ∉ ch := fun z => (hch c z).2.2.1 x c e rfl
    by_cases hc : c ∈ X.fs
    · obtain ⟨sl, q⟩ := slot c o (I.cne x c e) hc nch ho (I.freeC x c e)
      exact ⟨_, q, hd⟩
    · exact ⟨o, keep c o (I.cne x c e) hc nch ho (I.freeC x c e), hd⟩
  refine ⟨I.ok, I.os, hg, ⟨fun b o e n hb hx => ?_, fun b o e n hb hx => ?_, fun b o e n hx => ?_, fun b o e hx => ?_, fun b xs e => tups b xs (I.base.tups b xs e), fun b o xs e => frzs b o xs (I.base.frzs b o xs e), fun b ps e => ?_⟩, ?_, fun x c e => ?_, ?_, fun x c e => ?_, fun p hp => ?_, hok, I.len⟩
  · exact keep b o (neL b o e) hb (neC b o e hx) (I.base.keep b o e n hb hx) (I.base.free b o e n hx)
  · obtain ⟨sl, e1⟩ := I.base.slot b o e n hb hx
    obtain ⟨sl', e2⟩ := slot b _ (neL b o e) hb (neC b o e hx) e1 (I.base.free b o e n hx)
    exact ⟨sl', e2⟩
  · obtain ⟨o', e1⟩ := I.base.there b o e hx
    exact free b o' (neC b o e hx) e1 (I.base.free b o e n hx)
  · obtain ⟨o', e1⟩ := I.base.there b o e hx
    exact there b o' (neC b o e hx) e1
  · obtain ⟨m1, e1⟩ := I.base.tbls b ps e
    obtain ⟨m2, e2⟩ := tbls b _ e1
    exact ⟨m1 ++ m2, by rw [e2, Array.append_assoc]⟩
  · obtain ⟨m, hn, hl⟩ := I.loc
    refine ⟨m, ns m hn, fun i x v e1 e2 e3 => ?_⟩
    obtain ⟨u, r, l⟩ := hl i x v e1 e2 e3
    refine ⟨u, r, ?_⟩
    rcases l with l | ⟨k, c, e, z⟩
    · exact .inl l
    · exact .inr ⟨k, c, e, cellK x c e _ z⟩
  · obtain ⟨v, z⟩ := I.cell x c e
    exact ⟨v, cellK x c e v z⟩
  · obtain ⟨m, ⟨o, _, _, ho, _⟩, _⟩ := I.loc
    exact free _ o (fun z => (hch _ z).2.1 rfl) ho I.free
  · obtain ⟨v, o, ho, hd⟩ := I.cell x c e
    exact free c o (fun z => (hch c z).2.2.1 x c e rfl) ho (I.freeC x c e)
  · obtain ⟨e, n, ne, nf, d⟩ := I.pin p hp
    have nch : p.1 ∉ ch := fun z => (hch p.1 z).2.2.2 p hp rfl
    exact ⟨keep p.1 p.2 ne nf nch e n, free p.1 p.2 nch e n, ne, nf, d⟩
theorem Inv.un {t' : Nat} (I : Inv X pins σ H s) (u : Un X.fs [] H H' s.heap h') (hok : HOk X.prog X.w H' h') : Inv X pins σ H' { s with heap := h', toks := t' } := by
  obtain ⟨m, ⟨o, es, ep, ho, r⟩, _⟩ := id I.loc
  obtain ⟨sl, hL⟩ := u.any ho I.free (by simp)
  exact I.step (g' := s.gens) (d' := s.drawn) (ch := []) (fun _ z => nomatch z) (fun b o _ hb _ e n => u.keep b o e n hb (by simp)) (fun b o _ hb _ e n => u.slot b o e n hb (by simp)) (fun b o _ e n => u.free b o e n (by simp)) (fun b o _ e => u.there b o e (by simp)) u.tups u.frzs u.tbls (fun m' hm => by
    obtain ⟨o', es', ep', ho', r'⟩ := hm
    rw [ho] at ho'; cases ho'
    exact ⟨_, es', ep', hL, r'⟩) hok I.bare
theorem Inv.call {g' : Array GenState} {t' : Nat} {d' : Drawn} {ch : List Addr} (I : Inv X pins σ H s) (u : Un (frs X.stack) ch H H' s.heap h') (hok : HOk X.prog X.w H' h') (hg : AllBare g')
    (hch : ∀ b ∈ ch, (b ∈ X.ex ∨ X.s₀.heap.objs.size ≤ b) ∧ b ≠ X.env.locals ∧ (∀ x c, X.env.cells.lookup x = some c → c ≠ b) ∧ ∀ p ∈ X.pn ++ pins, p.1 ≠ b) :
    Inv X pins σ H' { s with heap := h', gens := g', drawn := d', toks := t' } := by
  obtain ⟨m, ⟨o, es, ep, ho, r⟩, _⟩ := id I.loc
  obtain ⟨sl, hL⟩ := u.any ho I.free fun z => (hch _ z).2.1 rfl
  exact I.step (ch := ch) hch (fun b o hL hb hc e n => u.keep b o e n (fun z => (List.mem_cons.mp (I.stkSub b z)).elim hL hb) hc) (fun b o _ _ hc e n => u.any e n hc) (fun b o hc e n => u.free b o e n hc) (fun b o hc e => u.there b o e hc) u.tups u.frzs u.tbls (fun m' hm => by
    obtain ⟨o', es', ep', ho', r'⟩ := hm
    rw [ho] at ho'; cases ho'
    exact ⟨_, es', ep', hL, r'⟩) hok hg
theorem Inv.turned {t' : Nat} {it : Addr} (I : Inv X pins σ H s) (k : ∀ b o, b ≠ it → s.heap.get? b = some o → h'.get? b = some o) (hn : H it = none) (hL : it ≠ X.env.locals)
    (h1 : it ∈ X.ex ∨ X.s₀.heap.objs.size ≤ it) (h2 : ∀ x c, X.env.cells.lookup x = some c → c ≠ it) (h3 : ∀ p ∈ X.pn ++ pins, p.1 ≠ it) : Inv X pins σ H { s with heap := h', toks := t' } := by
  have nit : ∀ b u, H b = some u → b ≠ it := fun b u e z => by rw [z, hn] at e; cases e
  refine I.step (g' := s.gens) (d' := s.drawn) (ch := [it]) (fun b hb => ?_) (fun b o _ _ hc e _ => k b o (fun z => hc (by simp [z])) e) (fun b o _ _ hc e _ => ⟨o.slots, k b o (fun z => hc (by simp [z])) e⟩) (fun _ _ _ _ n => n)
    (fun b o hc e => ⟨o, k b o (fun z => hc (by simp [z])) e⟩) (fun _ _ e => e) (fun _ _ _ e => e) (fun b ps e => ⟨#[], by rw [e]; simp⟩) (fun m hm => ?_) (fun b u e => ?_) I.bare
  · have e : b = it := by simpa using hb
    subst e
    exact ⟨h1, hL, h2, h3⟩
  · obtain ⟨o, es, ep, ho, r⟩ := hm
    exact ⟨o, es, ep, k _ o (Ne.symm hL) ho, r⟩
  · refine (I.hok b u e).stay (fun c v hc q => k c v ?_ q) (fun _ q => q) fun _ _ q => q
    rcases hc with z | z
    · rw [z]; exact nit b u e
    · exact nit c _ z
theorem Inv.tok (I : Inv X pins σ H s) (t : Nat) : Inv X pins σ H { s with toks := t } := I.un (h' := s.heap) (t' := t) Un.refl I.hok
theorem Inv.kept {t' : Nat} (I : Inv X pins σ H s) (k : ∀ b u, s.heap.get? b = some u → h'.get? b = some u) : Inv X pins σ H { s with heap := h', toks := t' } := I.un (Un.kept k) (I.hok.kept k)
theorem Inv.laid {a : Addr} {o : HO} {t' : Nat} (I : Inv X pins σ H s) (k : ∀ b u, s.heap.get? b = some u → h'.get? b = some u) (hp : s.heap.objs.size ≤ a) (new : ObjOk X.prog X.w (upd H a o) h' a o) :
    Inv X pins σ (upd H a o) { s with heap := h', toks := t' } := I.un (Un.laid k hp (I.hok.fresh hp)) (I.hok.laid k hp new)
theorem Inv.write {x e : Addr} {o : HO} {t' : Nat} (I : Inv X pins σ H s) (mu : Mut (H x)) (he : e = x ∨ H e = some (.own x)) (k : ∀ b u, b ≠ e → s.heap.get? b = some u → h'.get? b = some u) (heo : ∃ u, h'.get? e = some u)
    (new : ObjOk X.prog X.w (upd H x o) h' x o) : Inv X pins σ (upd H x o) { s with heap := h', toks := t' } := I.un (Un.write mu he k heo) (I.hok.write mu he k heo new)
theorem Inv.pins_of {pins' : List (Addr × Obj)} (I : Inv X pins σ H s) (h : ∀ p ∈ pins', s.heap.get? p.1 = some p.2 ∧ H p.1 = none ∧ p.1 ≠ X.env.locals ∧ p.1 ∉ X.fs ∧ ∀ v, p.2.data ≠ .cell v) : Inv X pins' σ H s :=
  ⟨I.ok, I.os, I.bare, I.base, I.loc, I.cell, I.free, I.freeC, fun p hp => (List.mem_append.mp hp).elim (fun z => I.pin p (List.mem_append_left _ z)) (h p), I.hok, I.len⟩
theorem nodup_ix {N : List Str} (hN : N.Nodup) {i j : Nat} {x : Str} (a : N[i]? = some x) (b : N[j]? = some x) : i = j := by
  obtain ⟨h1, e1⟩ := List.getElem?_eq_some_iff.mp a
  obtain ⟨h2, e2⟩ := List.getElem?_eq_some_iff.mp b
  exact (List.getElem_inj hN).mp (e1.trans e2.symm)
theorem store_ok2 {M : Model} {A : Around} {E : Value → Shared → Prop} {i : Nat} {x : Str} {v : V} {u : Value} {Q : Unit → Shared → Prop} (I : Inv X pins σ H s) (hN : X.N.Nodup) (hi : X.N[i]? = some x) (hx : Loc X.env.scope x) (r : RelV v u)
    (h : ∀ s', Inv X pins (σ.set i (some v)) H s' → (∃ a, Heap.SameBut a s.heap s'.heap ∧ (a = X.env.locals ∨ X.env.cells.lookup x = some a)) → Q () s') (hf : X.fn x = true ∨ X.env.scope.names.lookup x = some .local := by first | exact .inl rfl | exact .inr rfl | assumption) : wpAny M A (storeName X.env x u) Q E s := by
  obtain ⟨m, hn, hl⟩ := id I.loc
  have hcls : (X.env.scope.kind == .class || (X.env.scope.kind == .module && X.env.locals != X.env.globals)) = false := by rw [I.ok.kind]; rfl
  have hiσ : i < σ.length := by rw [I.len]; exact (List.getElem?_eq_some_iff.mp hi).1
  have cne := I.cne
  have tracked : ∀ {a : Addr} {h' : Heap}, (∃ o, s.heap.get? a = some o ∧ H a = none) → Heap.SameBut a s.heap h' → HOk X.prog X.w H h' := fun {a h'} ha hs b ob e => by
    obtain ⟨_, _, hfree⟩ := ha
    refine (I.hok b ob e).stay (fun c w' hc q => (hs.2 c ?_).trans q) (fun _ q => q) fun _ _ q => q
    rintro rfl
    rcases hc with rfl | hc
    · rw [hfree] at e; cases e
    · rw [hfree] at hc; cases hc
  rcases hx with hk | hk
  · refine wpAny_storeName_local hk hn (fun h' hn' hs => ?_) hcls
    obtain ⟨oL, _, _, hoL, _⟩ := id hn
    refine h _ ⟨I.ok, I.os, I.bare, ⟨fun b o e n hb hx => ?_, fun b o e n hb hx => ?_, I.base.free, fun b o e hx => ?_, I.base.tups, I.base.frzs, I.base.tbls⟩, ⟨_, hn', fun j y v' e1 e2 e3 => ?_⟩, fun y c e => ?_, I.free, I.freeC, fun p hp => ?_, tracked ⟨oL, hoL, I.free⟩ hs, by simpa using I.len⟩ ⟨_, hs, .inl rfl⟩
    · exact (hs.2 b (Nat.ne_of_lt (Nat.lt_of_lt_of_le (Heap.lt_size e) I.ok.above))).trans (I.base.keep b o e n hb hx)
    · obtain ⟨sl, e1⟩ := I.base.slot b o e n hb hx
      exact ⟨sl, (hs.2 b (Nat.ne_of_lt (Nat.lt_of_lt_of_le (Heap.lt_size e) I.ok.above))).trans e1⟩
    · obtain ⟨o', e1⟩ := I.base.there b o e hx
      exact ⟨o', (hs.2 b (Nat.ne_of_lt (Nat.lt_of_lt_of_le (Heap.lt_size e) I.ok.above))).trans e1⟩
    · by_cases hj : j = i
      · subst hj
        rw [hi] at e1; cases e1
        rw [List.getElem?_set_self hiσ] at e2
        cases e2
        exact ⟨u, r, .inl ⟨hk, by simp⟩⟩
      · rw [List.getElem?_set_ne (Ne.symm hj)] at e2
        obtain ⟨u', r', q⟩ := hl j y v' e1 e2 e3
        refine ⟨u', r', ?_⟩
        rcases q with ⟨k, e⟩ | ⟨k, c, e, z⟩
        · refine .inl ⟨k, ?_⟩
          have : y ≠ x := fun e => hj (nodup_ix hN e1 (e ▸ hi))
          simp [this, e]
        · exact .inr ⟨k, c, e, z.sameBut hs (cne y c e)⟩
    · obtain ⟨w', z⟩ := I.cell y c e
      exact ⟨w', z.sameBut hs (cne y c e)⟩
    · obtain ⟨e, n, ne, nf, d⟩ := I.pin p hp
      exact ⟨(hs.2 p.1 ne).trans e, n, ne, nf, d⟩
  · have hfn : X.fn x = true := by
      rcases hf with z | z
      · exact z
      · rw [z] at hk; cases hk
    obtain ⟨c, hc⟩ := I.ok.has x (.inl hk)
    obtain ⟨w', z⟩ := I.cell x c hc
    refine wpAny_storeName_cell I.ok.kind hk hc z (fun h' hc' hs => ?_)
    obtain ⟨oc, hoc, hocd⟩ := id z
    refine h { s with heap := h' } ⟨I.ok, I.os, I.bare, ⟨fun b o e n hb hx => ?_, fun b o e n hb hx => ?_, I.base.free, fun b o e hx => ?_, I.base.tups, I.base.frzs, I.base.tbls⟩, ⟨m, hn.sameBut hs (Ne.symm (cne x c hc)), fun j y v' e1 e2 e3 => ?_⟩, fun y c' e => ?_, I.free, I.freeC, fun p hp => ?_, tracked ⟨oc, hoc, I.freeC x c hc⟩ hs, by simpa using I.len⟩ ⟨c, hs, .inr hc⟩
    · exact (hs.2 b (Nat.ne_of_lt (Nat.lt_of_lt_of_le (Heap.lt_size e) (I.ok.cab x c hfn hc)))).trans (I.base.keep b o e n hb hx)
    · obtain ⟨sl, e1⟩ := I.base.slot b o e n hb hx
      exact ⟨sl, (hs.2 b (Nat.ne_of_lt (Nat.lt_of_lt_of_le (Heap.lt_size e) (I.ok.cab x c hfn hc)))).trans e1⟩
    · obtain ⟨o', e1⟩ := I.base.there b o e hx
      exact ⟨o', (hs.2 b (Nat.ne_of_lt (Nat.lt_of_lt_of_le (Heap.lt_size e) (I.ok.cab x c hfn hc)))).trans e1⟩
    · by_cases hj : j = i
      · subst hj
        rw [hi] at e1; cases e1
        rw [List.getElem?_set_self hiσ] at e2
        cases e2
        exact ⟨u, r, .inr ⟨.inl hk, c, hc, hc'⟩⟩
      · rw [List.getElem?_set_ne (Ne.symm hj)] at e2
        obtain ⟨u', r', q⟩ := hl j y v' e1 e2 e3
        refine ⟨u', r', ?_⟩
        rcases q with q | ⟨k, c', e, z'⟩
        · exact .inl q
        · refine .inr ⟨k, c', e, z'.sameBut hs ?_⟩
          rintro rfl
          exact hj (nodup_ix hN e1 (I.ok.inj _ _ _ e hc ▸ hi))
    · by_cases hcc : c' = c
      · subst hcc; exact ⟨_, hc'⟩
      · obtain ⟨w2, z2⟩ := I.cell y c' e
        exact ⟨w2, z2.sameBut hs hcc⟩
    · obtain ⟨e, n, ne, nf, d⟩ := I.pin p hp
      refine ⟨(hs.2 p.1 ?_).trans e, n, ne, nf, d⟩
      intro q
      rw [q, hoc] at e
      have q' : oc = p.2 := Option.some.inj e
      exact d w' (by rw [← q']; exact hocd)
theorem store_ok {M : Model} {A : Around} {E : Value → Shared → Prop} {i : Nat} {x : Str} {v : V} {u : Value} {Q : Unit → Shared → Prop} (I : Inv X pins σ H s) (hN : X.N.Nodup) (hi : X.N[i]? = some x) (hx : Loc X.env.scope x) (r : RelV v u)
    (h : ∀ s', Inv X pins (σ.set i (some v)) H s' → Q () s') (hf : X.fn x = true ∨ X.env.scope.names.lookup x = some .local := by first | exact .inl rfl | exact .inr rfl | assumption) : wpAny M A (storeName X.env x u) Q E s :=
  store_ok2 I hN hi hx r (fun s' I' _ => h s' I') hf
theorem Inv.call' {s' : Shared} {ch : List Addr} (I : Inv X pins σ H s) (ho : s'.os = s.os) (u : Un (frs X.stack) ch H H' s.heap s'.heap) (hok : HOk X.prog X.w H' s'.heap) (hg : AllBare s'.gens)
    (hch : ∀ b ∈ ch, (b ∈ X.ex ∨ X.s₀.heap.objs.size ≤ b) ∧ b ≠ X.env.locals ∧ (∀ x c, X.env.cells.lookup x = some c → c ≠ b) ∧ ∀ p ∈ X.pn ++ pins, p.1 ≠ b) : Inv X pins σ H' s' := by
  obtain ⟨h', g', d', t', o'⟩ := s'
  have e : o' = s.os := ho
  subst e
  exact I.call (g' := g') (t' := t') (d' := d') u hok hg hch
end
abbrev XK := Value → Option Addr → Hp → Prop
abbrev St := List (Option V)
abbrev VK := V → Hp → Prop
abbrev TE := St → Hp → VK → Prop
abbrev TT := St → Hp → (Bool → Hp → Prop) → Prop
abbrev TA := St → Hp → (List V → Hp → Prop) → Prop
structure Ends where
  nx : St → Hp → Prop
  rt : VK
  bk : St → Hp → Prop := fun _ _ => False
  ct : St → Hp → Prop := fun _ _ => False
abbrev TS := Ends → St → Hp → Prop
def EP (X : Cx) (pins : List (Addr × Obj)) (σ : St) (Q : VK) (u : Value) (s' : Shared) : Prop := ∃ v H', Inv X pins σ H' s' ∧ RelV v u ∧ Q v H'
def TP (X : Cx) (pins : List (Addr × Obj)) (σ : St) (Q : Bool → Hp → Prop) (b : Bool) (s' : Shared) : Prop := ∃ H', Inv X pins σ H' s' ∧ Q b H'
def AP (X : Cx) (pins : List (Addr × Obj)) (σ : St) (Q : List V → Hp → Prop) (us : List Value) (s' : Shared) : Prop := ∃ vs H', Inv X pins σ H' s' ∧ Vals vs us ∧ Q vs H'
def SP (X : Cx) (pins : List (Addr × Obj)) (D : Ends) (f : Flow) (s' : Shared) : Prop :=
  match f with
  | .next => ∃ σ' H', Inv X pins σ' H' s' ∧ D.nx σ' H'
  | .brk => ∃ σ' H', Inv X pins σ' H' s' ∧ D.bk σ' H'
  | .cont => ∃ σ' H', Inv X pins σ' H' s' ∧ D.ct σ' H'
  | .ret u => ∃ v σ' H', Inv X pins σ' H' s' ∧ RelV v u ∧ D.rt v H'
def PE (X : Cx) (e : Expr) (t : TE) : Prop :=
  ∀ (pins : List (Addr × Obj)) (s : Shared) (σ : St) (H : Hp) (Q : VK), Inv X pins σ H s → t σ H Q → wpAny (model X.prog X.w) X.A (eval e X.env) (EP X pins σ Q) X.xe s
def PT (X : Cx) (e : Expr) (t : TT) : Prop :=
  ∀ (pins : List (Addr × Obj)) (s : Shared) (σ : St) (H : Hp) (Q : Bool → Hp → Prop), Inv X pins σ H s → t σ H Q → wpAny (model X.prog X.w) X.A (isTrue e X.env (eval e X.env)) (TP X pins σ Q) X.xe s
def PW (X : Cx) (e : Expr) (t : TT) : Prop :=
  ∀ (whole : Sem Value) (pins : List (Addr × Obj)) (s : Shared) (σ : St) (H : Hp) (Q : Bool → Hp → Prop), Inv X pins σ H s → t σ H Q → wpAny (model X.prog X.w) X.A (isTrue e X.env whole) (TP X pins σ Q) X.xe s
theorem PW.pt {X : Cx} {e : Expr} {t : TT} (h : PW X e t) : PT X e t := h _
def PA (X : Cx) (es : List Expr) (t : TA) : Prop :=
  ∀ (pos : Pos) (pins : List (Addr × Obj)) (s : Shared) (σ : St) (H : Hp) (Q : List V → Hp → Prop), Inv X pins σ H s → t σ H Q → wpAny (model X.prog X.w) X.A (spliced (backTo pos (starEach es X.env))) (AP X pins σ Q) X.xe s
def PS (X : Cx) (st : Stmt) (t : TS) : Prop :=
  ∀ (pins : List (Addr × Obj)) (s : Shared) (σ : St) (H : Hp) (D : Ends), Inv X pins σ H s → t D σ H → wpAny (model X.prog X.w) X.A (exec st X.env) (SP X pins D) X.xe s
def PSs (X : Cx) (st : List Stmt) (t : TS) : Prop :=
  ∀ (pins : List (Addr × Obj)) (s : Shared) (σ : St) (H : Hp) (D : Ends), Inv X pins σ H s → t D σ H → wpAny (model X.prog X.w) X.A (execs st X.env) (SP X pins D) X.xe s
theorem thn {α : Type} {t : Sem α} {Q Q' : α → Shared → Prop} {M : Model} {A : Around} {E : Value → Shared → Prop} {s : Shared} (h : wpAny M A t Q E s) (hQ : ∀ a s, Q a s → Q' a s) : wpAny M A t Q' E s := wpAny_mono h hQ fun _ _ x => x
end L2
namespace L2
open PySem PySem.Spec PyProof.Rows
section
variable {X : Cx}
def tVar (i : Nat) : TE := fun σ H Q => ∃ v, σ[i]? = some (some v) ∧ Q v H
def tC (v : V) : TE := fun _ H Q => Q v H
theorem pe_var {i : Nat} {x : Str} {pos : Pos} (hN : X.N[i]? = some x) (hv : Vis X.env.scope x) (hd : (x == ("__debug__" : Str)) = false := by decide) (hcd : (x == ("__classdict__" : Str)) = false := by decide) : PE X (.Name x pos) (tVar i) := by
  intro pins s σ H Q I h
  obtain ⟨v, e, h⟩ := h
  obtain ⟨m, hn, hl⟩ := I.loc
  obtain ⟨u, r, l⟩ := hl i x v hN e hv
  have fin : EP X pins σ Q u s := ⟨v, H, I, r, h⟩
  rcases l with ⟨hk, hm⟩ | ⟨hk, c, hc, hcell⟩
  · exact wpAny_Name (wpAny_loadName_local I.ok.kind hk hn hm fin) hd
  · rcases hk with hk | hk
    · exact wpAny_Name (wpAny_loadName_cell I.ok.kind hk hc hcell fin) hd
    · exact wpAny_Name (wpAny_loadName_free I.ok.kind hk hc hcell fin hcd) hd
theorem pe_int {i j pos} : PE X (.Constant (.int i) j pos) (tC (.int i)) := fun _ _ _ H _ I h => wpAny_Constant_int ⟨.int i, H, I.tok _, ⟨_, rfl⟩, h⟩
theorem pe_bl {b j pos} : PE X (.Constant (.bool b) j pos) (tC (.bl b)) := fun _ _ _ H _ I h => Constant_bool ⟨.bl b, H, I, rfl, h⟩
theorem pe_non {j pos} : PE X (.Constant .none j pos) (tC .non) := fun _ _ _ H _ I h => Constant_none ⟨.non, H, I, rfl, h⟩
theorem pe_str {x j pos} : PE X (.Constant (.str x) j pos) (tC (.str x)) := fun _ _ _ H _ I h => Calls.Constant_str ⟨.str x, H, I.tok _, ⟨_, rfl⟩, h⟩
def Gl (X : Cx) (x : Str) : Prop := X.env.kindOf x = some .globalImplicit
theorem ld_glob {E : Value → Shared → Prop} {pins : List (Addr × Obj)} {s : Shared} {σ : St} {H : Hp} {x : Str} {u : Value} {pos : Pos} {Q : Value → Shared → Prop} (I : Inv X pins σ H s) (hg : Gl X x) (hm : X.mg x = some u) (h : Q u s)
    (hd : (x == ("__debug__" : Str)) = false := by decide) : wpAny (model X.prog X.w) X.A (eval (.Name x pos) X.env) Q E s :=
  Calls.Name_function_global I.ok.kind hg (Calls.loadGlobal_global (by rw [I.ok.glob]; exact I.mod.glob.keeps I.bk) hm h) hd
theorem ld_blt {E : Value → Shared → Prop} {pins : List (Addr × Obj)} {s : Shared} {σ : St} {H : Hp} {x : Str} {u : Value} {pos : Pos} {Q : Value → Shared → Prop} (I : Inv X pins σ H s) (hg : Gl X x) (hm : X.mg x = none) (hv : bootBuiltins x = some u) (h : Q u s)
    (hn : x ≠ "__name__" := by decide) (hd : (x == ("__debug__" : Str)) = false := by decide) : wpAny (model X.prog X.w) X.A (eval (.Name x pos) X.env) Q E s := by
  obtain ⟨mb, h1, h2⟩ := I.mod.blt
  exact Calls.Name_function_global I.ok.kind hg (Calls.loadGlobal_builtin (by rw [I.ok.glob]; exact I.mod.glob.keeps I.bk) hm (by rw [I.ok.blt]; exact h1.keeps I.bk) ((h2 x hn).trans hv) h) hd
theorem pe_bltn {x : Str} {v : V} {u : Value} {pos : Pos} (hg : Gl X x) (hm : X.mg x = none) (hv : bootBuiltins x = some u) (r : RelV v u) (hn : x ≠ "__name__" := by decide) (hd : (x == ("__debug__" : Str)) = false := by decide) : PE X (.Name x pos) (tC v) :=
  fun _ _ _ H _ I h => ld_blt I hg hm hv ⟨v, H, I, r, h⟩ hn hd
variable {a b : Expr} {ta tb : TE} {pos : Pos}
def PC (X : Cx) (op : CmpOp) (a b : Expr) (t : TE) : Prop :=
  ∀ (pins : List (Addr × Obj)) (s : Shared) (σ : St) (H : Hp) (Q : VK), Inv X pins σ H s → t σ H Q →
    wpAny (model X.prog X.w) X.A (eval a X.env) (fun v s₁ => wpAny (model X.prog X.w) X.A (eval b X.env) (fun u s₂ => wpAny (model X.prog X.w) X.A (compareOp op v u) (EP X pins σ Q) X.xe s₂) X.xe s₁) X.xe s
def tB (t : TE) : TT := fun σ H Q => t σ H fun x H1 => ∃ c, x = .bl c ∧ Q c H1
theorem pt_cmp {op : CmpOp} {t : TE} (h : PC X op a b t) (h1 : behindInMarks op b = false := by first | exact nobehind _ (by decide) (by decide) | rfl) : PT X (.Compare a [op] [b] pos) (tB t) := by
  intro pins s σ H Q I hw
  refine wpAny_isTrue_Compare1 (thn (h pins s σ H _ I hw) fun v s1 h1 => thn h1 fun u s2 h2 => thn h2 fun c s3 zq => ?_) h1
  obtain ⟨x, H1, I1, r1, q1⟩ := zq
  obtain ⟨d, rfl, q⟩ := q1
  cases r1
  exact wpAny_truthy_bool ⟨H1, I1, q⟩
theorem pt_val {e : Expr} {t : TE} (h : PE X e t) (he : ∀ whole, isTrue e X.env whole = (do let v ← whole; standAt e.pos; holding [v] (truthy v)) := by intro _; rfl) : PT X e (tB t) := by
  intro pins s σ H Q I hw
  refine isTrue_plain (thn (h pins s σ H _ I hw) fun v s1 zq => ?_) (he _)
  obtain ⟨x, H1, I1, r1, q1⟩ := zq
  obtain ⟨d, rfl, q⟩ := q1
  cases r1
  exact wpAny_truthy_bool ⟨H1, I1, q⟩
variable {tA tB' : TT} {rest : List Expr}
def tAnd (t u : TT) : TT := fun σ H Q => t σ H fun c H1 => if c = true then u σ H1 Q else Q false H1
def tOr (t u : TT) : TT := fun σ H Q => t σ H fun c H1 => if c = true then Q true H1 else u σ H1 Q
def tNot (t : TT) : TT := fun σ H Q => t σ H fun c H1 => Q (!c) H1
theorem pw_and1 (ha : PT X a tA) : PW X (.BoolOp .And [a] pos) tA := by
  intro wh pins s σ H Q I h
  refine isTrue_and (thn (ha pins s σ H Q I h) fun c s1 e => ?_)
  cases c with
  | true => exact isTrue_and_nil e
  | false => exact e
theorem pw_or1 (ha : PT X a tA) : PW X (.BoolOp .Or [a] pos) tA := by
  intro wh pins s σ H Q I h
  refine isTrue_or (thn (ha pins s σ H Q I h) fun c s1 e => ?_)
  cases c with
  | false => exact isTrue_or_nil e
  | true => exact e
theorem pw_and (ha : PT X a tA) (hb : PW X (.BoolOp .And (b :: rest) pos) tB') : PW X (.BoolOp .And (a :: b :: rest) pos) (tAnd tA tB') := by
  intro wh pins s σ H Q I h
  refine isTrue_and (thn (ha pins s σ H _ I h) fun c s1 zq => ?_)
  obtain ⟨H1, I1, q1⟩ := zq
  cases c with
  | true => exact hb wh pins s1 σ H1 Q I1 q1
  | false => exact ⟨H1, I1, q1⟩
theorem pw_or (ha : PT X a tA) (hb : PW X (.BoolOp .Or (b :: rest) pos) tB') : PW X (.BoolOp .Or (a :: b :: rest) pos) (tOr tA tB') := by
  intro wh pins s σ H Q I h
  refine isTrue_or (thn (ha pins s σ H _ I h) fun c s1 zq => ?_)
  obtain ⟨H1, I1, q1⟩ := zq
  cases c with
  | true => exact ⟨H1, I1, q1⟩
  | false => exact hb wh pins s1 σ H1 Q I1 q1
theorem pt_not (ha : PT X a tA) : PT X (.UnaryOp .Not a pos) (tNot tA) := by
  intro pins s σ H Q I h
  exact isTrue_not (ha pins s σ H (fun c H1 => Q (!c) H1) I h)
def tAndV (ta tb : TE) : TE := fun σ H Q => ta σ H fun x H1 => ∃ c, x = .bl c ∧ if c = true then tb σ H1 Q else Q (.bl false) H1
def tNotV (ta : TE) : TE := fun σ H Q => ta σ H fun x H1 => ∃ c, x = .bl c ∧ Q (.bl (!c)) H1
theorem pe_one {op} {t : TE} (h : PE X a t) : PE X (.BoolOp op [a] pos) t := fun pins s σ H Q I hw => BoolOp_one (h pins s σ H Q I hw)
theorem pe_and (ha : PE X a ta) (hb : PE X (.BoolOp .And (b :: rest) pos) tb) : PE X (.BoolOp .And (a :: b :: rest) pos) (tAndV ta tb) := by
  intro pins s σ H Q I h
  refine BoolOp_and (thn (ha pins s σ H _ I h) fun v s1 zq => ?_)
  obtain ⟨x, H1, I1, r1, q1⟩ := zq
  obtain ⟨c, rfl, q1⟩ := q1
  cases r1
  refine wpAny_truthy_bool ?_
  cases c with
  | true => exact hb pins s1 σ H1 Q I1 q1
  | false => exact ⟨.bl false, H1, I1, rfl, q1⟩
theorem pe_not (ha : PE X a ta) : PE X (.UnaryOp .Not a pos) (tNotV ta) := by
  intro pins s σ H Q I h
  refine UnaryOp_ (thn (ha pins s σ H _ I h) fun v s1 zq => ?_)
  obtain ⟨x, H1, I1, r1, q1⟩ := zq
  obtain ⟨c, rfl, q1⟩ := q1
  cases r1
  exact not_of (wpAny_truthy_bool ⟨.bl (!c), H1, I1, rfl, q1⟩)
end
end L2
namespace L2
open PySem PySem.Spec PyProof.Rows
def SqL (K : PySem.W.Frag) (H : Hp) (a : Addr) (xs : List V) : Prop :=
  Rd H a (.lst xs) ∨
    ∃ (o : Obj) (its : Array Value) (n : Nat), K.lookup a = some o ∧ o.cls = .type "list" ∧ o.dict = none ∧ o.data = .seq its n ∧ its.size ≤ sizeLine ∧ Vals xs its.toList
def SqT (K : PySem.W.Frag) (H : Hp) (a : Addr) (xs : List V) : Prop :=
  Rd H a (.tup xs) ∨
    ∃ (o : Obj) (its : Array Value) (n : Nat), K.lookup a = some o ∧ o.cls = .type "tuple" ∧ o.data = .seq its n ∧ its.size ≤ sizeLine ∧ Vals xs its.toList
def absV : Value → Option V
  | .none => some .non
  | .bool b => some (.bl b)
  | .int i _ => some (.int i)
  | .str x _ => some (.str x)
  | .bytes b _ => some (.byt b)
  | .float b _ => some (.flt b)
  | .ref a => some (.ref a)
  | .type n => some (.ty n)
  | _ => none
theorem RelV.abs {x : V} {u : Value} (r : RelV x u) : absV u = some x := by
  cases x with
  | non => cases r; rfl
  | bl _ => cases r; rfl
  | int _ => obtain ⟨t, rfl⟩ := r; rfl
  | str _ => obtain ⟨t, rfl⟩ := r; rfl
  | byt _ => obtain ⟨t, rfl⟩ := r; rfl
  | flt _ => obtain ⟨t, rfl⟩ := r; rfl
  | ref _ => cases r; rfl
  | ty _ => cases r; rfl
theorem RelV.inj {x y : V} {u : Value} (r : RelV x u) (q : RelV y u) : x = y := Option.some.inj (r.abs.symm.trans q.abs)
theorem Vals.inj : ∀ {xs ys : List V} {us : List Value}, Vals xs us → Vals ys us → xs = ys
  | _, _, _, .nil, .nil => rfl
  | _, _, _, .cons r t, .cons r' t' => by rw [r.inj r', Vals.inj t t']
section
variable {X : Cx} {pins : List (Addr × Obj)} {σ : St} {H : Hp} {s : Shared} {a : Addr} {xs ys : List V}
theorem SqL.of {K : PySem.W.Frag} (h : H a = some (.lst xs)) : SqL K H a xs := .inl (.inl h)
theorem SqT.of {K : PySem.W.Frag} (h : H a = some (.tup xs)) : SqT K H a xs := .inl (.inl h)
theorem Inv.list (I : Inv X pins σ H s) (h : SqL X.K H a xs) : ∃ its : List Value, Vals xs its ∧ PlainL s.heap a its.toArray ∧ xs.length ≤ sizeLine := by
  rcases h with h | ⟨o, its, n, hk, hc, hd, hs, hz, r⟩
  · obtain ⟨z, its, n, r, e⟩ := h.ok I.hok
    exact ⟨its, r, ⟨_, n, e, rfl, rfl, rfl⟩, z⟩
  · refine ⟨its.toList, r, ⟨o, n, I.kIn a o hk, hc, hd, by simpa using hs⟩, ?_⟩
    have e := r.length
    simp only [Array.length_toList] at e
    omega
theorem Inv.tuple (I : Inv X pins σ H s) (h : SqT X.K H a xs) : ∃ its : List Value, Vals xs its ∧ IsTup s.heap a its.toArray ∧ xs.length ≤ sizeLine := by
  rcases h with h | ⟨o, its, n, hk, hc, hs, hz, r⟩
  · obtain ⟨z, its, r, p⟩ := h.ok I.hok
    exact ⟨its, r, p.tup, z⟩
  · refine ⟨its.toList, r, ⟨o, I.kIn a o hk, hc, n, by simpa using hs⟩, ?_⟩
    have e := r.length
    simp only [Array.length_toList] at e
    omega
theorem Inv.list_inj (I : Inv X pins σ H s) (h : SqL X.K H a xs) (h' : SqL X.K H a ys) : xs = ys := by
  obtain ⟨its, r, ⟨o, n, e, _, _, d⟩, _⟩ := I.list h
  obtain ⟨its', r', ⟨o', n', e', _, _, d'⟩, _⟩ := I.list h'
  rw [e] at e'; cases e'
  rw [d] at d'
  injection d' with d1 _
  have : its = its' := by simpa using congrArg Array.toList d1
  subst this
  exact r.inj r'
theorem Inv.tuple_inj (I : Inv X pins σ H s) (h : SqT X.K H a xs) (h' : SqT X.K H a ys) : xs = ys := by
  obtain ⟨its, r, ⟨o, e, _, n, d⟩, _⟩ := I.tuple h
  obtain ⟨its', r', ⟨o', e', _, n', d'⟩, _⟩ := I.tuple h'
  rw [e] at e'; cases e'
  rw [d] at d'
  injection d' with d1 _
  have : its = its' := by simpa using congrArg Array.toList d1
  subst this
  exact r.inj r'
end
abbrev Cx.wish (X : Cx) (E : Value → Shared → Prop) : Cx := { X with xe := E }
abbrev Cx.nox (X : Cx) : Cx := X.wish fun _ _ => False
theorem Cx.Ok.wish {X : Cx} (ok : X.Ok) (E : Value → Shared → Prop) : (X.wish E).Ok :=
  ⟨ok.mod, ok.kind, ok.glob, ok.blt, ok.above, ok.inj, ok.has, ok.cab, ok.hd, ok.frames, ok.stk, ok.exf, ok.bs, ok.bsz, ok.noex, ok.exfs, ok.funs, ok.frf⟩
theorem Cx.Ok.unwish {X : Cx} {E : Value → Shared → Prop} (ok : (X.wish E).Ok) : X.Ok :=
  ⟨ok.mod, ok.kind, ok.glob, ok.blt, ok.above, ok.inj, ok.has, ok.cab, ok.hd, ok.frames, ok.stk, ok.exf, ok.bs, ok.bsz, ok.noex, ok.exfs, ok.funs, ok.frf⟩
section
variable {X : Cx} {pins : List (Addr × Obj)} {σ : St} {H : Hp} {s : Shared} {E : Value → Shared → Prop}
theorem Inv.wish (I : Inv X pins σ H s) (E : Value → Shared → Prop) : Inv (X.wish E) pins σ H s := ⟨I.ok.wish E, I.os, I.bare, I.base, I.loc, I.cell, I.free, I.freeC, I.pin, I.hok, I.len⟩
theorem Inv.unwish (I : Inv (X.wish E) pins σ H s) : Inv X pins σ H s := ⟨I.ok.unwish, I.os, I.bare, I.base, I.loc, I.cell, I.free, I.freeC, I.pin, I.hok, I.len⟩
theorem SP.unwish {D : Ends} {f : Flow} {s' : Shared} (h : SP (X.wish E) pins D f s') : SP X pins D f s' := by
  cases f with
  | next => obtain ⟨σ', H', I, q⟩ := h; exact ⟨σ', H', I.unwish, q⟩
  | brk => obtain ⟨σ', H', I, q⟩ := h; exact ⟨σ', H', I.unwish, q⟩
  | cont => obtain ⟨σ', H', I, q⟩ := h; exact ⟨σ', H', I.unwish, q⟩
  | ret u => obtain ⟨v, σ', H', I, r, q⟩ := h; exact ⟨v, σ', H', I.unwish, r, q⟩
theorem PSs.nox {st : List Stmt} {t : TS} (h : PSs X.nox st t) : PSs X st t := fun pins s σ H D I hw =>
  wpAny_mono (h pins s σ H D (I.wish _) hw) (fun _ _ q => q.unwish) fun _ _ z => False.elim z
end
section
variable {X : Cx} {st : Stmt} {rest : List Stmt} {t u : TS} {e : Expr} {te : TE} {pos : Pos}
def tNext : TS := fun D σ H => D.nx σ H
def tSeq (t u : TS) : TS := fun D σ H => t { D with nx := u D } σ H
theorem pss_nil : PSs X [] tNext := fun _ _ σ H _ I h => wpAny_execs_nil ⟨σ, H, I, h⟩
theorem pss_cons (h1 : PS X st t) (h2 : PSs X rest u) : PSs X (st :: rest) (tSeq t u) := by
  intro pins s σ H D I h
  refine wpAny_execs_cons (thn (h1 pins s σ H { D with nx := u D } I h) fun f s1 q => ?_)
  cases f with
  | next =>
    obtain ⟨σ', H', I', q⟩ := q
    exact h2 pins s1 σ' H' D I' q
  | ret v => exact q
  | brk => exact q
  | cont => exact q
theorem pss_one (h1 : PS X st t) : PSs X [st] t := by
  intro pins s σ H D I h
  refine wpAny_execs_cons (thn (h1 pins s σ H D I h) fun f s1 q => ?_)
  cases f with
  | next => exact wpAny_execs_nil q
  | ret v => exact q
  | brk => exact q
  | cont => exact q
def tCont : TS := fun D σ H => D.ct σ H
theorem ps_continue : PS X (.Continue pos) tCont := fun _ _ σ H _ I h => wpAny_Continue ⟨σ, H, I, h⟩
theorem Inv.quiet {pins : List (Addr × Obj)} {σ : St} {H : Hp} {s : Shared} (I : Inv X pins σ H s) : interactive X.env = false := by simp [interactive, I.ok.kind]
def tDrop (te : TE) : TS := fun D σ H => te σ H fun _ H1 => D.nx σ H1
theorem ps_expr (he : PE X e te) (hs : swapsWith e none pos.line X.env = pure false := by rfl) : PS X (.Expr e pos) (tDrop te) := by
  intro pins s σ H D I h
  exact wpAny_Expr_any (thn (he pins s σ H _ I h) fun v s1 ⟨x, H1, I1, r1, q1⟩ => ⟨σ, H1, I1, q1⟩) I.quiet hs
def tRet (te : TE) : TS := fun D σ H => te σ H D.rt
theorem ps_ret (he : PE X e te) : PS X (.Return (some e) pos) (tRet te) := by
  intro pins s σ H D I h
  exact wpAny_Return_some (thn (he pins s σ H _ I h) fun v s1 ⟨x, H1, I1, r1, q1⟩ => ⟨x, σ, H1, I1, r1, q1⟩)
def tIfS (c : TT) (t u : TS) : TS := fun D σ H => c σ H fun b H1 => if b = true then t D σ H1 else u D σ H1
theorem ps_if {c : Expr} {a b : List Stmt} {tc : TT} (hc : PT X c tc) (ha : PSs X a t) (hb : PSs X b u) : PS X (.If c a b pos) (tIfS tc t u) := by
  intro pins s σ H D I h
  refine wpAny_If (thn (hc pins s σ H _ I h) fun d s1 zq => ?_)
  obtain ⟨H1, I1, q1⟩ := zq
  cases d with
  | true => exact ha pins s1 σ H1 D I1 q1
  | false => exact hb pins s1 σ H1 D I1 q1
end
abbrev TG := V → St → Hp → (St → Hp → Prop) → Prop
abbrev TGs := List V → St → Hp → (St → Hp → Prop) → Prop
def PG (X : Cx) (target : Expr) (t : TG) : Prop :=
  ∀ (pins : List (Addr × Obj)) (s : Shared) (σ : St) (H : Hp) (v : V) (u : Value) (Q : St → Hp → Prop), Inv X pins σ H s → RelV v u → t v σ H Q →
    wpAny (model X.prog X.w) X.A (assign target X.env u) (fun _ s' => ∃ σ' H', Inv X pins σ' H' s' ∧ Q σ' H') X.xe s
def PGs (X : Cx) (ts : List Expr) (t : TGs) : Prop :=
  ∀ (pins : List (Addr × Obj)) (s : Shared) (σ : St) (H : Hp) (vs : List V) (us : List Value) (Q : St → Hp → Prop), Inv X pins σ H s → Vals vs us → t vs σ H Q →
    wpAny (model X.prog X.w) X.A (assignInOrder ((assignEach ts X.env).map (·.2)) us) (fun _ s' => ∃ σ' H', Inv X pins σ' H' s' ∧ Q σ' H') X.xe s
abbrev TSet := V → V → V → Hp → (Hp → Prop) → Prop
def PSet (X : Cx) (t : TSet) : Prop :=
  ∀ (pins : List (Addr × Obj)) (s : Shared) (σ : St) (H : Hp) (o i v : V) (ov iv u : Value) (Q : Hp → Prop), Inv X pins σ H s → RelV o ov → RelV i iv → RelV v u → t o i v H Q →
    wpAny (model X.prog X.w) X.A (setItem ov iv u) (fun _ s' => ∃ H', Inv X pins σ H' s' ∧ Q H') X.xe s
abbrev TIp := V → V → Hp → VK → Prop
def PIp (X : Cx) (op : Operator) (t : TIp) : Prop :=
  ∀ (pins : List (Addr × Obj)) (s : Shared) (σ : St) (H : Hp) (x y : V) (v u : Value) (Q : VK), Inv X pins σ H s → RelV x v → RelV y u → t x y H Q →
    wpAny (model X.prog X.w) X.A (inplaceOp op v u) (EP X pins σ Q) X.xe s
section
variable {X : Cx} {pos : Pos}
def gName (i : Nat) : TG := fun v σ H Q => Q (σ.set i (some v)) H
theorem pg_name {i : Nat} {x : Str} (hN : X.N.Nodup) (hi : X.N[i]? = some x) (hx : Loc X.env.scope x) (hf : X.fn x = true ∨ X.env.scope.names.lookup x = some .local := by first | exact .inl rfl | exact .inr rfl | assumption) : PG X (.Name x pos) (gName i) := by
  intro pins s σ H v u Q I r h
  exact wpAny_assign_Name (store_ok I hN hi hx r (fun s' I' => ⟨_, H, I', h⟩) hf)
def gNil : TGs := fun vs σ H Q => vs = [] ∧ Q σ H
def gCons (t : TG) (u : TGs) : TGs := fun vs σ H Q => ∃ v r, vs = v :: r ∧ t v σ H fun σ' H' => u r σ' H' Q
theorem pgs_nil : PGs X [] gNil := by
  intro pins s σ H vs us Q I r h
  obtain ⟨e, h⟩ := h
  subst e
  cases r
  exact assignInOrder_nil ⟨σ, H, I, h⟩
theorem pgs_cons {e : Expr} {es : List Expr} {t : TG} {u : TGs} (h1 : PG X e t) (h2 : PGs X es u)
    (hs : (assignEach (e :: es) X.env).map (·.2) = assign e X.env :: (assignEach es X.env).map (·.2) := by rfl) : PGs X (e :: es) (gCons t u) := by
  intro pins s σ H vs us Q I r h
  obtain ⟨v, vr, e1, h⟩ := h
  subst e1
  cases r with
  | cons r rr =>
    rw [hs]
    refine assignInOrder_cons (thn (h1 pins s σ H _ _ _ I r h) fun _ s1 zq => ?_)
    obtain ⟨σ1, H1, I1, q1⟩ := zq
    exact h2 pins s1 σ1 H1 _ _ Q I1 rr q1
def gTup (K : PySem.W.Frag) (n : Nat) (t : TGs) : TG := fun v σ H Q => ∃ a xs, v = .ref a ∧ SqT K H a xs ∧ xs.length = n ∧ t xs σ H Q
theorem pg_tup {es : List Expr} {k : Nat} {t : TGs} {n : Nat} (hc : X.calm = true) (h : PGs X es t)
    (hn : (assignEach es X.env).length = n := by rfl) (hst : (assignEach es X.env).findIdx? (·.1) = none := by rfl) : PG X (.Tuple es k pos) (gTup X.K n t) := by
  intro pins s σ H v u Q I r hw
  obtain ⟨a, xs, e1, hq, hl, hw⟩ := hw
  subst e1
  cases r
  obtain ⟨its, rv, ht, hz⟩ := I.tuple hq
  refine assign_Tuple_tuple (I.ok.hd hc) ht (by simp [hn, ← hl, rv.length]) hst fun h' hx => ?_
  have I1 : Inv X pins σ H { s with heap := h' } := I.kept (t' := s.toks) fun b o e => hx b o (Nat.ne_of_lt (Heap.lt_size e)) e
  exact h pins _ σ H xs _ Q I1 (by simpa using rv) hw
def gSub (to ti : TE) (t : TSet) : TG := fun v σ H Q => to σ H fun o H1 => ti σ H1 fun i H2 => t o i v H2 fun H3 => Q σ H3
theorem pg_sub {o i : Expr} {to ti : TE} {t : TSet} (ho : PE X o to) (hi : PE X i ti) (hs : PSet X t)
    (ha : ∀ v, assign (.Subscript o i pos) X.env v = (do
      let ov ← holding [v] (eval o X.env)
      let iv ← holding [v, ov] (eval i X.env)
      standAt pos
      holding [v, ov, iv] (setItem ov iv v)
      release [v, ov, iv] []) := by intro _; rfl) : PG X (.Subscript o i pos) (gSub to ti t) := by
  intro pins s σ H v u Q I r h
  rw [ha]
  refine wpAny_bind (wpAny_holding (thn (ho pins s σ H _ I h) fun ov s1 zq => ?_))
  obtain ⟨x, H1, I1, r1, q1⟩ := zq
  refine wpAny_bind (wpAny_holding (thn (hi pins s1 σ H1 _ I1 q1) fun iv s2 zq => ?_))
  obtain ⟨y, H2, I2, r2, q2⟩ := zq
  refine wpAny_bind (wpAny_standAt (wpAny_bind (wpAny_holding (thn (hs pins s2 σ H2 x y v ov iv u _ I2 r1 r2 r q2) fun _ s3 zq => ?_))))
  obtain ⟨H3, I3, q3⟩ := zq
  exact wpAny_release ⟨σ, H3, I3, q3⟩
def tAsg (te : TE) (g : TG) : TS := fun D σ H => te σ H fun x H1 => g x σ H1 D.nx
theorem ps_asg {tg e : Expr} {te : TE} {g : TG} (he : PE X e te) (hg : PG X tg g) (hs : swapsWithSole [tg] e pos.line X.env = pure false := by rfl) (hw : swappedStores [tg] e X.env = pure none := by rfl)
    (h1 : (assignEach [tg] X.env).map (·.2) = [assign tg X.env] := by rfl) : PS X (.Assign [tg] e pos) (tAsg te g) := by
  intro pins s σ H D I h
  refine wpAny_Assign_stores (thn (he pins s σ H _ I h) fun v s1 zq => ?_) hs hw
  obtain ⟨x, H1, I1, r1, q1⟩ := zq
  rw [h1]
  exact thn (hg pins s1 σ H1 x v _ I1 r1 q1) fun _ s2 q => q
theorem ps_set {i : Nat} {x : Str} {e : Expr} {te : TE} {pos' : Pos} (hN : X.N.Nodup) (hi : X.N[i]? = some x) (hx : Loc X.env.scope x) (he : PE X e te) (hs : swapsWith e (some (.Name x pos')) pos.line X.env = pure false := by rfl) (hf : X.fn x = true ∨ X.env.scope.names.lookup x = some .local := by first | exact .inl rfl | exact .inr rfl | assumption) :
    PS X (.Assign [.Name x pos'] e pos) (tAsg te (gName i)) := by
  intro pins s σ H D I h
  refine wpAny_Assign_Name (thn (he pins s σ H _ I h) fun v s1 zq => ?_) hs
  obtain ⟨y, H1, I1, r1, q1⟩ := zq
  exact store_ok I1 hN hi hx r1 (fun s2 I2 => ⟨_, H1, I2, q1⟩) hf
def tAug (i : Nat) (te : TE) (ti : TIp) : TS := fun D σ H => ∃ x, σ[i]? = some (some x) ∧ te σ H fun y H1 => ti x y H1 fun z H2 => D.nx (σ.set i (some z)) H2
theorem ps_aug {i : Nat} {x : Str} {e : Expr} {te : TE} {op : Operator} {ti : TIp} {pos' : Pos} (hN : X.N.Nodup) (hi : X.N[i]? = some x) (hx : Loc X.env.scope x) (he : PE X e te) (ho : PIp X op ti) (hf : X.fn x = true ∨ X.env.scope.names.lookup x = some .local := by first | exact .inl rfl | exact .inr rfl | assumption) :
    PS X (.AugAssign (.Name x pos') op e pos) (tAug i te ti) := by
  intro pins s σ H D I h
  obtain ⟨v, e1, h⟩ := h
  obtain ⟨m, hn, hl⟩ := I.loc
  have vis : Vis X.env.scope x := by rcases hx with k | k; exact .inl k; exact .inr (.inl k)
  obtain ⟨u, r, l⟩ := hl i x v hi e1 vis
  refine wpAny_AugAssign_Name ?_
  have go : wpAny (model X.prog X.w) X.A (eval e X.env) (fun w s₂ => wpAny (model X.prog X.w) X.A (inplaceOp op u w) (fun r s₃ => wpAny (model X.prog X.w) X.A (storeName X.env x r) (fun _ => SP X pins D .next) X.xe s₃) X.xe s₂) X.xe s := by
    refine thn (he pins s σ H _ I h) fun w s1 zq => ?_
    obtain ⟨y, H1, I1, r1, q1⟩ := zq
    refine thn (ho pins s1 σ H1 v y u w _ I1 r r1 q1) fun z s2 zq => ?_
    obtain ⟨zv, H2, I2, r2, q2⟩ := zq
    exact store_ok I2 hN hi hx r2 (fun s3 I3 => ⟨_, H2, I3, q2⟩) hf
  rcases l with ⟨hk, hm⟩ | ⟨hk, c, hc, hcell⟩
  · exact wpAny_loadName_local I.ok.kind hk hn hm go
  · rcases hk with hk | hk
    · exact wpAny_loadName_cell I.ok.kind hk hc hcell go
    · rcases hx with k | k
      · have : X.env.scope.names.lookup x = some .free := hk
        rw [k] at this; cases this
      · have : X.env.scope.names.lookup x = some .free := hk
        rw [k] at this; cases this
def ipI (f : Int → Int → Int) : TIp := fun x y H Q => ∃ i j, x = .int i ∧ y = .int j ∧ Q (.int (f i j)) H
theorem ip_add : PIp X .Add (ipI fun i j => i + j) := by
  intro pins s σ H x y v u Q I r1 r2 h
  obtain ⟨i, j, e1, e2, q⟩ := h
  subst e1; subst e2
  obtain ⟨t, rfl⟩ := r1
  obtain ⟨t', rfl⟩ := r2
  exact iadd_int ⟨.int _, H, I.tok _, ⟨_, rfl⟩, q⟩
end
section
variable {X : Cx} {pos : Pos}
def tWhile (c : TT) (tb : TS) : TS := fun D σ H => ∃ W : Nat → St → Hp → Prop, (∃ m, W m σ H) ∧ ∀ m σ H, W m σ H →
  c σ H fun b H1 => if b = true then ∃ N : St → Hp → Prop, (∀ σ' H', N σ' H' → ∃ m', m' < m ∧ W m' σ' H') ∧ tb { D with nx := N, ct := N, bk := D.nx } σ H1 else D.nx σ H1
theorem ps_while {c : Expr} {body : List Stmt} {tc : TT} {tb : TS} (hp : PassesOwn (model X.prog X.w) X.A X.env X.xe) (hc : PT X c tc) (hb : PSs X body tb) : PS X (.While c body [] pos) (tWhile tc tb) := by
  intro pins s σ H D I h
  obtain ⟨W, ⟨m0, w0⟩, turn⟩ := h
  refine wpAny_While (codeAny_whileLoop (fun n s' => ∃ σ' H', Inv X pins σ' H' s' ∧ W n σ' H') ?_ m0 ⟨σ, H, I, w0⟩)
  rintro n s1 ⟨σ1, H1, I1, w1⟩
  refine wpAny_passesOwn hp (thn (hc pins s1 σ1 H1 _ I1 (turn n σ1 H1 w1)) fun b s2 zq => ?_)
  obtain ⟨H2, I2, q2⟩ := zq
  cases b with
  | true =>
    obtain ⟨N, hN, q2⟩ := q2
    rw [if_pos rfl]
    refine wpAny_passesOwn hp (thn (hb pins s2 σ1 H2 _ I2 q2) fun f s3 q3 => ?_)
    cases f with
    | next =>
      obtain ⟨σ3, H3, I3, n3⟩ := q3
      obtain ⟨m', hm, w3⟩ := hN σ3 H3 n3
      exact ⟨m', hm, σ3, H3, I3, w3⟩
    | cont =>
      obtain ⟨σ3, H3, I3, n3⟩ := q3
      obtain ⟨m', hm, w3⟩ := hN σ3 H3 n3
      exact ⟨m', hm, σ3, H3, I3, w3⟩
    | brk => exact q3
    | ret v => exact q3
  | false =>
    rw [if_neg Bool.false_ne_true]
    exact wpAny_execs_nil ⟨σ1, H2, I2, q2⟩
end
structure It where
  go : Nat → Hp → Prop
  yld : Nat → Hp → V → Hp → Prop
  stop : Nat → Hp → Prop
def FpOk (X : Cx) (pins : List (Addr × Obj)) (H : Hp) (b : Addr) : Prop :=
  H b = none ∧ b ≠ X.env.locals ∧ b ∉ X.fs ∧ (b ∈ X.ex ∨ X.s₀.heap.objs.size ≤ b) ∧ (∀ x c, X.env.cells.lookup x = some c → c ≠ b) ∧ ∀ p ∈ X.pn ++ pins, p.1 ≠ b
theorem Inv.fpOk {X : Cx} {pins : List (Addr × Obj)} {σ : St} {H H' : Hp} {s : Shared} {b : Addr} (I : Inv X pins σ H s) (hb : s.heap.objs.size ≤ b) (hn : H' b = none) : FpOk X pins H' b := by
  refine ⟨hn, Nat.ne_of_gt (Nat.lt_of_lt_of_le I.lt hb), I.nofs hb, .inr (Nat.le_trans I.sz hb), fun x c e z => ?_, fun p hp z => ?_⟩
  · obtain ⟨v, q⟩ := I.cell x c e
    exact absurd (Nat.lt_of_lt_of_le q.lt (by rw [z]; exact hb)) (Nat.lt_irrefl _)
  · exact absurd (Nat.lt_of_lt_of_le (Heap.lt_size (I.pin p hp).1) (by rw [z]; exact hb)) (Nat.lt_irrefl _)
structure Turn (P : Program) (w : World) (K : PySem.W.Frag) (tg : Expr) (J : It) (fp : List Addr) (it : Addr) (tn : Nat → Heap → Prop) : Prop where
  mem : it ∈ fp
  obj : ∀ i h, tn i h → ∀ b ∈ fp, ∃ o, h.get? b = some o ∧ ∀ v, o.data ≠ .cell v
  keep : ∀ i h h', tn i h → (∀ b ∈ fp, ∀ o, h.get? b = some o → h'.get? b = some o) → tn i h'
  item : ∀ (X : Cx), X.prog = P → X.w = w → X.K = K → X.calm = true → ∀ (i : Nat) (pins : List (Addr × Obj)) (s : Shared) (σ : St) (H : Hp) (E : Value → Shared → Prop), Inv X pins σ H s → (∀ b ∈ fp, FpOk X pins H b) → tn i s.heap → J.go i H →
    wpAny (model P w) X.A (pyNext (.ref it)) (fun r s1 => ∃ u, r = some u ∧
      wpAny (model P w) X.A (letOwnedTupleGo tg (.ref it) u) (fun _ s2 => ∃ x H', Inv X pins σ H' s2 ∧ RelV x u ∧ J.yld i H x H' ∧ tn (i + 1) s2.heap ∧ ∀ b ∈ fp, H' b = none) E s1) E s
  done : ∀ (X : Cx), X.prog = P → X.w = w → X.K = K → X.calm = true → ∀ (i : Nat) (pins : List (Addr × Obj)) (s : Shared) (σ : St) (H : Hp) (E : Value → Shared → Prop), Inv X pins σ H s → (∀ b ∈ fp, FpOk X pins H b) → tn i s.heap → J.stop i H →
    wpAny (model P w) X.A (pyNext (.ref it)) (fun r s1 => r = none ∧ Inv X pins σ H s1) E s
  self : ∀ (A : Around) (i : Nat) (s : Shared) (Q : Value → Shared → Prop) (E : Value → Shared → Prop), tn i s.heap → Q (.ref it) s → wpAny (model P w) A (pyIter (.ref it)) Q E s
abbrev TI := St → Hp → (It → Hp → Prop) → Prop
def PIE (X : Cx) (pins : List (Addr × Obj)) (σ : St) (tg : Expr) (R : It → Hp → Prop) (itv : Value) (s2 : Shared) : Prop :=
  ∃ (it : Addr) (fp : List Addr) (tn : Nat → Heap → Prop) (J : It) (H' : Hp), itv = .ref it ∧ Inv X pins σ H' s2 ∧ Turn X.prog X.w X.K tg J fp it tn ∧ tn 0 s2.heap ∧ (∀ b ∈ fp, FpOk X pins H' b) ∧ R J H'
def PI (X : Cx) (tg iter : Expr) (wi : TI) : Prop :=
  ∀ (pins : List (Addr × Obj)) (s : Shared) (σ : St) (H : Hp) (R : It → Hp → Prop), Inv X pins σ H s → wi σ H R →
    wpAny (model X.prog X.w) X.A (eval iter X.env) (fun v s1 => wpAny (model X.prog X.w) X.A (pyIter v) (PIE X pins σ tg R) X.xe s1) X.xe s
theorem go_of {M : Model} {A : Around} {E : Value → Shared → Prop} {s : Shared} {tg : Expr} {it : Addr} {u : Value} {o : Obj} {n : String} {vs : Array Value} {Q : Unit → Shared → Prop} (ho : s.heap.get? it = some o) (hc : o.cls = .type n) (hd : o.data = .fields vs)
    (hn : ["enumerate", "zip", "dict_itemiterator", "dict_reverseitemiterator", "odict_iterator", "itertools.zip_longest", "itertools.pairwise"].contains n = false) (hQ : Q () s) : wpAny M A (letOwnedTupleGo tg (.ref it) u) Q E s := by
  unfold letOwnedTupleGo
  cases tg <;> first
    | exact wpAny_pure hQ
    | (cases u <;> first
        | exact wpAny_pure hQ
        | (refine wpAny_bind (wpAny_load ho ?_)
           rw [hc, hd]
           show wpAny M A (if (["enumerate", "zip", "dict_itemiterator", "dict_reverseitemiterator", "odict_iterator", "itertools.zip_longest", "itertools.pairwise"].contains n && vs[0]? == some (rawInt _)) = true then _ else _) Q E s
           rw [if_neg (by intro h; rw [hn, Bool.false_and] at h; cases h)]
           exact wpAny_pure hQ))
def Itl (K : PySem.W.Frag) (a : Addr) : It :=
  ⟨fun i H => ∃ xs x, SqL K H a xs ∧ xs[i]? = some x, fun i H x H' => H' = H ∧ ∀ xs, SqL K H a xs → xs[i]? = some x, fun i H => ∃ xs, SqL K H a xs ∧ xs.length ≤ i⟩
def Itt (K : PySem.W.Frag) (a : Addr) : It :=
  ⟨fun i H => ∃ xs x, SqT K H a xs ∧ xs[i]? = some x, fun i H x H' => H' = H ∧ ∀ xs, SqT K H a xs → xs[i]? = some x, fun i H => ∃ xs, SqT K H a xs ∧ xs.length ≤ i⟩
def Itr (lo : Int) (n : Nat) : It := ⟨fun i _ => i < n, fun i H x H' => H' = H ∧ x = .int (lo + i), fun i _ => n ≤ i⟩
theorem turn_list {P : Program} {w : World} {K : PySem.W.Frag} {tg : Expr} (a it : Addr) : Turn P w K tg (Itl K a) [it] it (fun i h => h.IsListIter it a i) where
  mem := by simp
  obj := fun i h st b hb => by
    have e : b = it := by simpa using hb
    subst e
    obtain ⟨o, e, c, d⟩ := st
    exact ⟨o, e, fun v z => by rw [d] at z; cases z⟩
  keep := fun i h h' st k => st.at fun o e => k it (by simp) o e
  item := by
    intro X hP hw hK hc i pins s σ H E I hf st hg
    subst hP hw hK
    obtain ⟨xs, x, hq, hx⟩ := hg
    obtain ⟨its, rv, p, hz⟩ := I.list hq
    obtain ⟨u, hu, ru⟩ := rv.get hx
    obtain ⟨f0, f1, f2, f3, f4, f5⟩ := hf it (by simp)
    refine wpAny_pyNext_list_item st p.isList (x := u) (by simpa using hu) fun h' st' sb => ?_
    have I1 : Inv X pins σ H { s with heap := h' } := I.turned (t' := s.toks) (fun b o hb e => (sb.2 b hb).trans e) f0 f1 f3 f4 f5
    obtain ⟨o, e, c, d⟩ := id st'
    exact ⟨u, rfl, go_of (s := { s with heap := h' }) e c d (by decide) ⟨x, H, I1, ru, ⟨rfl, fun ys hy => by rw [I.list_inj hy hq]; exact hx⟩, st', fun b hb => (hf b hb).1⟩⟩
  done := by
    intro X hP hw hK hc i pins s σ H E I hf st hg
    subst hP hw hK
    obtain ⟨xs, hq, hx⟩ := hg
    obtain ⟨its, rv, p, hz⟩ := I.list hq
    obtain ⟨f0, f1, f2, f3, f4, f5⟩ := hf it (by simp)
    have hl := rv.length
    exact wpAny_pyNext_list_end (I.ok.hd hc) st p.isList (by simp; omega) fun h' eb => ⟨rfl, I.turned (t' := s.toks) (fun b o hb e => eb b o hb e) f0 f1 f3 f4 f5⟩
  self := fun _ _ _ _ _ st h => wpAny_pyIter_listiter st h
theorem turn_tuple {P : Program} {w : World} {K : PySem.W.Frag} {tg : Expr} (a it : Addr) : Turn P w K tg (Itt K a) [it] it (fun i h => h.IsTupleIter it a i) where
  mem := by simp
  obj := fun i h st b hb => by
    have e : b = it := by simpa using hb
    subst e
    obtain ⟨o, e, c, d⟩ := st
    exact ⟨o, e, fun v z => by rw [d] at z; cases z⟩
  keep := fun i h h' st k => st.at fun o e => k it (by simp) o e
  item := by
    intro X hP hw hK hc i pins s σ H E I hf st hg
    subst hP hw hK
    obtain ⟨xs, x, hq, hx⟩ := hg
    obtain ⟨its, rv, p, hz⟩ := I.tuple hq
    obtain ⟨u, hu, ru⟩ := rv.get hx
    obtain ⟨f0, f1, f2, f3, f4, f5⟩ := hf it (by simp)
    refine wpAny_pyNext_tuple_item st (show s.heap.IsTuple a its.toArray from p) (x := u) (by simpa using hu) fun h' st' sb => ?_
    have I1 : Inv X pins σ H { s with heap := h' } := I.turned (t' := s.toks) (fun b o hb e => (sb.2 b hb).trans e) f0 f1 f3 f4 f5
    obtain ⟨o, e, c, d⟩ := id st'
    exact ⟨u, rfl, go_of (s := { s with heap := h' }) e c d (by decide) ⟨x, H, I1, ru, ⟨rfl, fun ys hy => by rw [I.tuple_inj hy hq]; exact hx⟩, st', fun b hb => (hf b hb).1⟩⟩
  done := by
    intro X hP hw hK hc i pins s σ H E I hf st hg
    subst hP hw hK
    obtain ⟨xs, hq, hx⟩ := hg
    obtain ⟨its, rv, p, hz⟩ := I.tuple hq
    obtain ⟨f0, f1, f2, f3, f4, f5⟩ := hf it (by simp)
    have hl := rv.length
    exact wpAny_pyNext_tuple_end (I.ok.hd hc) st (show s.heap.IsTuple a its.toArray from p) (by simp; omega) fun h' eb => ⟨rfl, I.turned (t' := s.toks) (fun b o hb e => eb b o hb e) f0 f1 f3 f4 f5⟩
  self := fun _ _ _ _ _ st h => wpAny_pyIter_tupleiter st h
theorem turn_range {P : Program} {w : World} {K : PySem.W.Frag} {tg : Expr} (it : Addr) (lo : Int) (n : Nat) : Turn P w K tg (Itr lo n) [it] it (fun i h => IsRangeIter h it (lo + (i : Nat) * 1) ((n : Int) - (i : Nat)) 1) where
  mem := by simp
  obj := fun i h st b hb => by
    have e : b = it := by simpa using hb
    subst e
    exact ⟨_, st, fun v z => by
      have z' : Data.fields _ = Data.cell v := z
      cases z'⟩
  keep := fun i h h' st k => k it (by simp) _ st
  item := by
    intro X hP hw hK hc i pins s σ H E I hf st hg
    subst hP hw hK
    obtain ⟨f0, f1, f2, f3, f4, f5⟩ := hf it (by simp)
    have W := Walks.range (prog := X.prog) (w := X.w) (I.ok.hd hc) it lo 1 n
    refine W.item i s _ _ hg st fun v h' tk hv st' kk => ?_
    obtain ⟨t, rfl⟩ := hv
    have I1 : Inv X pins σ H { s with heap := h', toks := tk } := I.turned (fun b o hb e => kk b o (by simpa using hb) e) f0 f1 f3 f4 f5
    refine ⟨_, rfl, go_of (s := { s with heap := h', toks := tk }) (n := "range_iterator") st' rfl rfl (by decide) ⟨.int (lo + i), H, I1, ⟨t, ?_⟩, ⟨rfl, rfl⟩, st', fun b hb => (hf b hb).1⟩⟩
    rw [Int.mul_one]
  done := by
    intro X hP hw hK hc i pins s σ H E I hf st hg
    subst hP hw hK
    obtain ⟨f0, f1, f2, f3, f4, f5⟩ := hf it (by simp)
    exact wpAny_pyNext_range_end (I.ok.hd hc) st (by have : n ≤ i := hg; omega) fun h' eb => ⟨rfl, I.turned (t' := s.toks) (fun b o hb e => eb b o hb e) f0 f1 f3 f4 f5⟩
  self := fun _ _ _ _ _ st h => wpAny_pyIter_rangeiter st h
end L2
namespace L2
open PySem PySem.Spec PyProof.Rows
section
variable {X : Cx} {tg : Expr}
def iList (K : PySem.W.Frag) (tl : TE) : TI := fun σ H R => tl σ H fun x H1 => ∃ a, x = .ref a ∧ (∃ xs, SqL K H1 a xs) ∧ R (Itl K a) H1
def iTup (K : PySem.W.Frag) (tl : TE) : TI := fun σ H R => tl σ H fun x H1 => ∃ a, x = .ref a ∧ (∃ xs, SqT K H1 a xs) ∧ R (Itt K a) H1
theorem pi_list {l : Expr} {tl : TE} (hl : PE X l tl) : PI X tg l (iList X.K tl) := by
  intro pins s σ H R I h
  refine thn (hl pins s σ H _ I h) fun v s1 zq => ?_
  obtain ⟨x, H1, I1, r1, q1⟩ := zq
  obtain ⟨a, e, ⟨xs, hq⟩, q⟩ := q1
  subst e
  cases r1
  obtain ⟨its, rv, p, hz⟩ := I1.list hq
  refine wpAny_pyIter_list p.isList ?_
  refine ⟨s1.heap.objs.size, [s1.heap.objs.size], _, _, H1, rfl, I1.kept (t' := s1.toks) fun b o e => Heap.get?_push_of_some _ e, turn_list a _, ⟨_, Heap.get?_push_size _ rfl, rfl, rfl⟩, fun b hb => ?_, q⟩
  have e : b = s1.heap.objs.size := by simpa using hb
  subst e
  exact I1.fpOk (Nat.le_refl _) (I1.hok.fresh (Nat.le_refl _))
theorem pi_tup {l : Expr} {tl : TE} (hl : PE X l tl) : PI X tg l (iTup X.K tl) := by
  intro pins s σ H R I h
  refine thn (hl pins s σ H _ I h) fun v s1 zq => ?_
  obtain ⟨x, H1, I1, r1, q1⟩ := zq
  obtain ⟨a, e, ⟨xs, hq⟩, q⟩ := q1
  subst e
  cases r1
  obtain ⟨its, rv, p, hz⟩ := I1.tuple hq
  refine wpAny_pyIter_tuple (show s1.heap.IsTuple a its.toArray from p) ?_
  refine ⟨s1.heap.objs.size, [s1.heap.objs.size], _, _, H1, rfl, I1.kept (t' := s1.toks) fun b o e => Heap.get?_push_of_some _ e, turn_tuple a _, ⟨_, Heap.get?_push_size _ rfl, rfl, rfl⟩, fun b hb => ?_, q⟩
  have e : b = s1.heap.objs.size := by simpa using hb
  subst e
  exact I1.fpOk (Nat.le_refl _) (I1.hok.fresh (Nat.le_refl _))
theorem range_it {pins : List (Addr × Obj)} {σ : St} {H : Hp} {s : Shared} {R : It → Hp → Prop} {E : Value → Shared → Prop} {lo hi : Int} {t u v : Tok} {tk : Nat} (I : Inv X pins σ H s) (h1 : -(2 ^ 62) ≤ lo) (h2 : lo < 2 ^ 62) (h3 : -(2 ^ 62) ≤ hi) (h4 : hi < 2 ^ 62)
    (q : R (Itr lo (hi - lo).toNat) H) : wpAny (model X.prog X.w) X.A (pyIter (.ref s.heap.objs.size)) (PIE X pins σ tg R) E { s with heap := s.heap.push { cls := .type "range", data := .fields #[.int lo t, .int hi u, .int 1 v] }, toks := tk } := by
  refine wpAny_pyIter_range (IsRange.new ..) (small_one h1 h2 h3 h4) ?_
  have I1 : Inv X pins σ H { s with heap := s.heap.push { cls := .type "range", data := .fields #[.int lo t, .int hi u, .int 1 v] }, toks := tk } := I.kept fun b o e => Heap.get?_push_of_some _ e
  refine ⟨(s.heap.push { cls := .type "range", data := .fields #[.int lo t, .int hi u, .int 1 v] }).objs.size, [(s.heap.push { cls := .type "range", data := .fields #[.int lo t, .int hi u, .int 1 v] }).objs.size], _, _, H, rfl,
    I1.kept (t' := tk) fun b o e => Heap.get?_push_of_some _ e, turn_range _ lo (hi - lo).toNat, ?_, fun b hb => ?_, q⟩
  · have e1 : lo + ((0 : Nat) : Int) * 1 = lo := by simp
    have e2 : (((hi - lo).toNat : Nat) : Int) - ((0 : Nat) : Int) = Builtin.Range.rangeSize lo hi 1 := by rw [rangeSize_one]; split <;> omega
    show IsRangeIter _ _ (lo + ((0 : Nat) : Int) * 1) ((((hi - lo).toNat : Nat) : Int) - ((0 : Nat) : Int)) 1
    rw [e1, e2]
    exact Heap.get?_push_size _ rfl
  · have e : b = (s.heap.push { cls := .type "range", data := .fields #[.int lo t, .int hi u, .int 1 v] }).objs.size := by simpa using hb
    subst e
    exact I1.fpOk (Nat.le_refl _) (I1.hok.fresh (Nat.le_refl _))
def iRng1 (ta : TA) : TI := fun σ H R => ta σ H fun vs H1 => ∃ j : Int, vs = [.int j] ∧ -(2 ^ 62) ≤ j ∧ j < 2 ^ 62 ∧ R (Itr 0 j.toNat) H1
theorem pi_range1 {a : Expr} {ta : TA} {p pos : Pos} (hg : Gl X "range") (hm : X.mg "range" = none) (ha : PA X [a] ta) (hs : starEach [a] X.env = [(false, eval a X.env)] := by rfl) : PI X tg (.Call (.Name "range" p) [a] [] pos) (iRng1 ta) := by
  intro pins s σ H R I h
  refine Call_ (ld_blt I hg hm boot_range (PyProof.Rows.callWith_type1 (thn (ha pos pins s σ H _ I h) fun us s1 zq => ?_) hs rfl))
  obtain ⟨vs, H1, I1, r1, q1⟩ := zq
  obtain ⟨j, e, q1, q2, q⟩ := q1
  subst e
  cases r1 with
  | cons r rr =>
    cases rr
    obtain ⟨t, rfl⟩ := r
    exact call_range_1 (range_it I1 (by omega) (by omega) q1 q2 (by simpa using q))
def tFor (wi : TI) (g : TG) (tb : TS) : TS := fun D σ H => wi σ H fun J H1 => ∃ W : Nat → Nat → St → Hp → Prop, (∃ m, W 0 m σ H1) ∧ ∀ i m σ H, W i m σ H →
  (J.stop i H ∧ D.nx σ H) ∨ (J.go i H ∧ ∃ N : St → Hp → Prop, (∀ σ' H', N σ' H' → ∃ m', m' < m ∧ W (i + 1) m' σ' H') ∧ ∀ x H', J.yld i H x H' → g x σ H' fun σ2 H2 => tb { D with nx := N, ct := N, bk := D.nx } σ2 H2)
def pinsAt (fp : List Addr) (h : Heap) : List (Addr × Obj) := fp.filterMap fun b => (h.get? b).map fun o => (b, o)
theorem mem_pinsAt {fp : List Addr} {h : Heap} {b : Addr} {o : Obj} (hb : b ∈ fp) (e : h.get? b = some o) : (b, o) ∈ pinsAt fp h := List.mem_filterMap.mpr ⟨b, hb, by rw [e]; rfl⟩
theorem of_pinsAt {fp : List Addr} {h : Heap} {p : Addr × Obj} (hp : p ∈ pinsAt fp h) : p.1 ∈ fp ∧ h.get? p.1 = some p.2 := by
  obtain ⟨b, hb, e⟩ := List.mem_filterMap.mp hp
  cases q : h.get? b with
  | none => rw [q] at e; cases e
  | some o =>
    rw [q] at e
    have e' : (b, o) = p := Option.some.inj e
    subst e'
    exact ⟨hb, q⟩
theorem Inv.pinned {pins : List (Addr × Obj)} {σ : St} {H : Hp} {s : Shared} {fp : List Addr} (I : Inv X pins σ H s) (hf : ∀ b ∈ fp, FpOk X pins H b) (ho : ∀ b ∈ fp, ∃ o, s.heap.get? b = some o ∧ ∀ v, o.data ≠ .cell v) : Inv X (pins ++ pinsAt fp s.heap) σ H s :=
  I.pins_of fun p hp => (List.mem_append.mp hp).elim (fun z => I.pin p (List.mem_append_right _ z)) fun z => by
    obtain ⟨hb, e⟩ := of_pinsAt z
    obtain ⟨f0, f1, f2, _⟩ := hf p.1 hb
    obtain ⟨o, e', d⟩ := ho p.1 hb
    rw [e] at e'; cases e'
    exact ⟨e, f0, f1, f2, d⟩
theorem Inv.unpinned {pins pl : List (Addr × Obj)} {σ : St} {H : Hp} {s : Shared} (I : Inv X (pins ++ pl) σ H s) : Inv X pins σ H s := I.pins_of fun p hp => I.pin p (List.mem_append_right _ (List.mem_append_left _ hp))
theorem ps_for {iter : Expr} {body : List Stmt} {wi : TI} {g : TG} {tb : TS} {pos : Pos} (hp : PassesOwn (model X.prog X.w) X.A X.env X.xe) (hc : X.calm = true) (hi : PI X tg iter wi) (hg : PG X tg g) (hb : PSs X body tb)
    (hs : ∀ x, foldedSetIterable iter X.env x = pure x := by intro _; rfl) : PS X (.For tg iter body [] pos) (tFor wi g tb) := by
  intro pins s σ H D I h
  refine wpAny_For (thn (hi pins s σ H _ I h) fun v s1 h1 => thn h1 fun itv s2 h2 => ?_) hs
  obtain ⟨it, fp, tn, J, H2, e, I2, T, st2, f2, W, ⟨m0, w0⟩, turn⟩ := h2
  subst e
  -- what stays true of the iterator's objects through the loop
  have stat : ∀ {H' : Hp}, (∀ b ∈ fp, H' b = none) → ∀ b ∈ fp, FpOk X pins H' b := fun hn b hb => ⟨hn b hb, (f2 b hb).2⟩
  refine codeAny_forLoop_any (fun n s' => ∃ i σ' H', Inv X pins σ' H' s' ∧ tn i s'.heap ∧ (∀ b ∈ fp, H' b = none) ∧ W i n σ' H') ?_ m0 ⟨0, σ, H2, I2, st2, fun b hb => (f2 b hb).1, w0⟩
  rintro n s3 ⟨i, σ3, H3, I3, st3, fr3, w3⟩
  rcases turn i n σ3 H3 w3 with ⟨stop, qn⟩ | ⟨go, N, hN, step⟩
  · refine wpAny_passesOwn hp (thn (T.done X rfl rfl rfl hc i pins s3 σ3 H3 X.xe I3 (stat fr3) st3 stop) fun r s4 zq => ?_)
    obtain ⟨hr, I4⟩ := zq
    subst hr
    exact wpAny_execs_nil ⟨σ3, H3, I4, qn⟩
  · refine wpAny_passesOwn hp (thn (T.item X rfl rfl rfl hc i pins s3 σ3 H3 X.xe I3 (stat fr3) st3 go) fun r s4 zq => ?_)
    obtain ⟨u, hr, h4⟩ := zq
    subst hr
    refine wpAny_passesOwn hp (thn h4 fun _ s5 zq => ?_)
    obtain ⟨x, H5, I5, r5, y5, st5, fr5⟩ := zq
    have I5' := I5.pinned (stat fr5) (T.obj _ _ st5)
    refine wpAny_passesOwn hp (thn (hg _ s5 σ3 H5 x u _ I5' r5 (step x H5 y5)) fun _ s6 zq => ?_)
    obtain ⟨σ6, H6, I6, q6⟩ := zq
    refine wpAny_passesOwn hp (thn (hb _ s6 σ6 H6 _ I6 q6) fun f s7 q7 => ?_)
    have again : ∀ {σ7 : St} {H7 : Hp}, Inv X (pins ++ pinsAt fp s5.heap) σ7 H7 s7 → N σ7 H7 → ∃ m, m < n ∧ ∃ i σ' H', Inv X pins σ' H' s7 ∧ tn i s7.heap ∧ (∀ b ∈ fp, H' b = none) ∧ W i m σ' H' := fun {σ7 H7} I7 n7 => by
      obtain ⟨m', hm, w7⟩ := hN σ7 H7 n7
      refine ⟨m', hm, i + 1, σ7, H7, I7.unpinned, T.keep _ _ _ st5 fun b hb o e => (I7.pin (b, o) (List.mem_append_right _ (List.mem_append_right _ (mem_pinsAt hb e)))).1, fun b hb => ?_, w7⟩
      obtain ⟨o, e, d⟩ := T.obj _ _ st5 b hb
      exact (I7.pin (b, o) (List.mem_append_right _ (List.mem_append_right _ (mem_pinsAt hb e)))).2.1
    cases f with
    | next => obtain ⟨σ7, H7, I7, n7⟩ := q7; exact again I7 n7
    | cont => obtain ⟨σ7, H7, I7, n7⟩ := q7; exact again I7 n7
    | brk => obtain ⟨σ7, H7, I7, q7⟩ := q7; exact ⟨σ7, H7, I7.unpinned, q7⟩
    | ret v => obtain ⟨x7, σ7, H7, I7, r7, q7⟩ := q7; exact ⟨x7, σ7, H7, I7.unpinned, r7, q7⟩
end
theorem for_list {K : PySem.W.Frag} {a : Addr} {xs : List V} {g : TG} {tb : TS} {D : Ends} {σ : St} {H : Hp} (Pv : Nat → St → Hp → Prop) (h0 : Pv 0 σ H) (hl : ∀ i σ H, i ≤ xs.length → Pv i σ H → SqL K H a xs)
    (hs : ∀ i x σ H, xs[i]? = some x → Pv i σ H → g x σ H fun σ2 H2 => tb { D with nx := Pv (i + 1), ct := Pv (i + 1), bk := D.nx } σ2 H2) (hd : ∀ σ H, Pv xs.length σ H → D.nx σ H) :
    ∃ W : Nat → Nat → St → Hp → Prop, (∃ m, W 0 m σ H) ∧ ∀ i m σ H, W i m σ H →
      ((Itl K a).stop i H ∧ D.nx σ H) ∨ ((Itl K a).go i H ∧ ∃ N : St → Hp → Prop, (∀ σ' H', N σ' H' → ∃ m', m' < m ∧ W (i + 1) m' σ' H') ∧ ∀ x H', (Itl K a).yld i H x H' → g x σ H' fun σ2 H2 => tb { D with nx := N, ct := N, bk := D.nx } σ2 H2) := by
  refine ⟨fun i m σ H => m = xs.length - i ∧ i ≤ xs.length ∧ Pv i σ H, ⟨xs.length, by simp, Nat.zero_le _, h0⟩, ?_⟩
  rintro i m σ H ⟨rfl, hi, p⟩
  have q := hl i σ H hi p
  by_cases hlt : i < xs.length
  · refine .inr ⟨⟨xs, xs[i], q, by simp [hlt]⟩, Pv (i + 1), fun σ' H' p' => ⟨xs.length - (i + 1), by omega, rfl, hlt, p'⟩, fun x H' y => ?_⟩
    obtain ⟨e, y⟩ := y
    subst e
    exact hs i x σ _ (y xs q) p
  · have e : i = xs.length := by omega
    subst e
    exact .inl ⟨⟨xs, q, Nat.le_refl _⟩, hd σ H p⟩
theorem for_range {lo : Int} {n : Nat} {g : TG} {tb : TS} {D : Ends} {σ : St} {H : Hp} (Pv : Nat → St → Hp → Prop) (h0 : Pv 0 σ H)
    (hs : ∀ i σ H, i < n → Pv i σ H → g (.int (lo + i)) σ H fun σ2 H2 => tb { D with nx := Pv (i + 1), ct := Pv (i + 1), bk := D.nx } σ2 H2) (hd : ∀ σ H, Pv n σ H → D.nx σ H) :
    ∃ W : Nat → Nat → St → Hp → Prop, (∃ m, W 0 m σ H) ∧ ∀ i m σ H, W i m σ H →
      ((Itr lo n).stop i H ∧ D.nx σ H) ∨ ((Itr lo n).go i H ∧ ∃ N : St → Hp → Prop, (∀ σ' H', N σ' H' → ∃ m', m' < m ∧ W (i + 1) m' σ' H') ∧ ∀ x H', (Itr lo n).yld i H x H' → g x σ H' fun σ2 H2 => tb { D with nx := N, ct := N, bk := D.nx } σ2 H2) := by
  refine ⟨fun i m σ H => m = n - i ∧ i ≤ n ∧ Pv i σ H, ⟨n, by simp, Nat.zero_le _, h0⟩, ?_⟩
  rintro i m σ H ⟨rfl, hi, p⟩
  by_cases hlt : i < n
  · refine .inr ⟨hlt, Pv (i + 1), fun σ' H' p' => ⟨n - (i + 1), by omega, rfl, hlt, p'⟩, fun x H' y => ?_⟩
    obtain ⟨e, y⟩ := y
    subst e y
    exact hs i σ _ hlt p
  · have e : i = n := by omega
    subst e
    exact .inl ⟨Nat.le_refl _, hd σ H p⟩
theorem while_by {c : TT} {tb : TS} {D : Ends} {σ : St} {H : Hp} (Pv : St → Hp → Prop) (μ : St → Hp → Nat) (h0 : Pv σ H)
    (hs : ∀ σ H, Pv σ H → c σ H fun b H1 => if b = true then tb { D with nx := fun σ' H' => Pv σ' H' ∧ μ σ' H' < μ σ H, ct := fun σ' H' => Pv σ' H' ∧ μ σ' H' < μ σ H, bk := D.nx } σ H1 else D.nx σ H1)
    (mono : ∀ σ H Q Q', (∀ b H1, Q b H1 → Q' b H1) → c σ H Q → c σ H Q') : tWhile c tb D σ H := by
  refine ⟨fun m σ H => m = μ σ H ∧ Pv σ H, ⟨_, rfl, h0⟩, ?_⟩
  rintro m σ H ⟨rfl, p⟩
  refine mono σ H _ _ (fun b H1 q => ?_) (hs σ H p)
  cases b with
  | true => exact ⟨_, fun σ' H' ⟨p', l⟩ => ⟨_, l, rfl, p'⟩, q⟩
  | false => exact q
end L2
namespace L2
open PySem PySem.Spec PyProof.Rows
abbrev R2 := V → V → Hp → VK → Prop
def OpR (X : Cx) (f : Value → Value → Sem Value) (r : R2) : Prop :=
  ∀ (pins : List (Addr × Obj)) (s : Shared) (σ : St) (H : Hp) (x y : V) (v u : Value) (Q : VK), Inv X pins σ H s → RelV x v → RelV y u → r x y H Q →
    wpAny (model X.prog X.w) X.A (f v u) (EP X pins σ Q) X.xe s
def CallR (X : Cx) (f : Value) (r : List V → Hp → VK → Prop) : Prop :=
  ∀ (pins : List (Addr × Obj)) (s : Shared) (σ : St) (H : Hp) (xs : List V) (us : List Value) (Q : VK), Inv X pins σ H s → Vals xs us → r xs H Q →
    wpAny (model X.prog X.w) X.A (call f us) (EP X pins σ Q) X.xe s
def TruR (X : Cx) (r : V → Hp → (Bool → Hp → Prop) → Prop) : Prop :=
  ∀ (pins : List (Addr × Obj)) (s : Shared) (σ : St) (H : Hp) (x : V) (v : Value) (Q : Bool → Hp → Prop), Inv X pins σ H s → RelV x v → r x H Q →
    wpAny (model X.prog X.w) X.A (truthy v) (TP X pins σ Q) X.xe s
def tOp (r : R2) (ta tb : TE) : TE := fun σ H Q => ta σ H fun x H1 => tb σ H1 fun y H2 => r x y H2 Q
def rI (C : Int → Int → Prop) (g : Int → Int → V) : R2 := fun x y H Q => ∃ i j, x = .int i ∧ y = .int j ∧ C i j ∧ Q (g i j) H
def rI0 (g : Int → Int → V) : R2 := fun x y H Q => ∃ i j, x = .int i ∧ y = .int j ∧ Q (g i j) H
section
variable {X : Cx} {a b c : Expr} {ta tb tc : TE} {pos : Pos}
theorem binT (ha : PE X a ta) (hb : PE X b tb) {pins : List (Addr × Obj)} {s : Shared} {σ : St} {H : Hp} {R : V → V → Hp → Prop} (I : Inv X pins σ H s)
    (h : ta σ H fun x H1 => tb σ H1 fun y H2 => R x y H2) {Q : Value → Shared → Prop} {f : Value → Value → Sem Value}
    (hf : ∀ v u s2 x y H2, Inv X pins σ H2 s2 → RelV x v → RelV y u → R x y H2 → wpAny (model X.prog X.w) X.A (f v u) Q X.xe s2) :
    wpAny (model X.prog X.w) X.A (eval a X.env) (fun v s₁ => wpAny (model X.prog X.w) X.A (eval b X.env) (fun u s₂ => wpAny (model X.prog X.w) X.A (f v u) Q X.xe s₂) X.xe s₁) X.xe s := by
  refine thn (ha pins s σ H _ I h) fun v s1 zq => ?_
  obtain ⟨x, H1, I1, r1, q1⟩ := zq
  refine thn (hb pins s1 σ H1 _ I1 q1) fun u s2 zq => ?_
  obtain ⟨y, H2, I2, r2, q2⟩ := zq
  exact hf v u s2 x y H2 I2 r1 r2 q2
theorem pe_op {op : Operator} {r : R2} (ho : OpR X (binaryOp op) r) (ha : PE X a ta) (hb : PE X b tb) : PE X (.BinOp a op b pos) (tOp r ta tb) := by
  intro pins s σ H Q I h
  exact wpAny_BinOp (binT ha hb I h fun v u s2 x y H2 I2 rx ry q => ho pins s2 σ H2 x y v u Q I2 rx ry q)
theorem opI {f : Value → Value → Sem Value} {C : Int → Int → Prop} {g : Int → Int → Int}
    (rule : ∀ (i j : Int) (t u : Tok) (s : Shared) (Q : Value → Shared → Prop) (E : Value → Shared → Prop), C i j → Q (.int (g i j) s.toks) { s with toks := s.toks + 1 } → wpAny (model X.prog X.w) X.A (f (.int i t) (.int j u)) Q E s) :
    OpR X f (rI C fun i j => .int (g i j)) := by
  intro pins s σ H x y v u Q I rx ry h
  obtain ⟨i, j, rfl, rfl, hc, q⟩ := h
  obtain ⟨t, rfl⟩ := rx
  obtain ⟨t', rfl⟩ := ry
  exact rule i j t t' s _ _ hc ⟨.int (g i j), H, I.tok _, ⟨_, rfl⟩, q⟩
theorem opI0 {f : Value → Value → Sem Value} {g : Int → Int → Int}
    (rule : ∀ (i j : Int) (t u : Tok) (s : Shared) (Q : Value → Shared → Prop) (E : Value → Shared → Prop), Q (.int (g i j) s.toks) { s with toks := s.toks + 1 } → wpAny (model X.prog X.w) X.A (f (.int i t) (.int j u)) Q E s) :
    OpR X f (rI0 fun i j => .int (g i j)) := by
  intro pins s σ H x y v u Q I rx ry h
  obtain ⟨i, j, rfl, rfl, q⟩ := h
  obtain ⟨t, rfl⟩ := rx
  obtain ⟨t', rfl⟩ := ry
  exact rule i j t t' s _ _ ⟨.int (g i j), H, I.tok _, ⟨_, rfl⟩, q⟩
theorem opB0 {f : Value → Value → Sem Value} {g : Int → Int → Bool}
    (rule : ∀ (i j : Int) (t u : Tok) (s : Shared) (Q : Value → Shared → Prop) (E : Value → Shared → Prop), Q (.bool (g i j)) s → wpAny (model X.prog X.w) X.A (f (.int i t) (.int j u)) Q E s) :
    OpR X f (rI0 fun i j => .bl (g i j)) := by
  intro pins s σ H x y v u Q I rx ry h
  obtain ⟨i, j, rfl, rfl, q⟩ := h
  obtain ⟨t, rfl⟩ := rx
  obtain ⟨t', rfl⟩ := ry
  exact rule i j t t' s _ _ ⟨.bl (g i j), H, I, rfl, q⟩
def CDiv (i j : Int) : Prop := 0 < j ∧ j < 1073741824
def CPow (i j : Int) : Prop := 0 ≤ j ∧ j ≤ 1000000 ∧ i.natAbs < 2 ^ 64
def CMul (i j : Int) : Prop := (-(2 ^ 64) < i ∧ i < 2 ^ 64) ∨ (-(2 ^ 64) < j ∧ j < 2 ^ 64)
theorem CMul.ok {i j : Int} (h : CMul i j) : IntMulOk i j := by
  rcases h with ⟨h1, h2⟩ | ⟨h1, h2⟩
  · exact .of_left (intBits_le_64 h1 h2)
  · exact .of_right (intBits_le_64 h1 h2)
theorem op_add : OpR X (binaryOp .Add) (rI0 fun i j => .int (i + j)) := opI0 fun _ _ _ _ _ _ _ q => add_int q
theorem op_sub : OpR X (binaryOp .Sub) (rI0 fun i j => .int (i - j)) := opI0 fun _ _ _ _ _ _ _ q => sub_int q
theorem op_mul : OpR X (binaryOp .Mult) (rI CMul fun i j => .int (i * j)) := opI fun _ _ _ _ _ _ _ hc q => mul_int q hc.ok
theorem op_fdiv : OpR X (binaryOp .FloorDiv) (rI CDiv fun i j => .int (i / j)) := opI fun i j _ _ _ _ _ hc q => by
  have h1 : (0 : Int) < j := hc.1
  have h2 : j < 1073741824 := hc.2
  exact floordiv_int (by omega) (by rw [Int.fdiv_eq_ediv_of_nonneg i (by omega)]; exact q) (.inl (PyProof.noPylong_small (by omega)))
theorem op_mod : OpR X (binaryOp .Mod) (rI (fun _ j => 0 < j) fun i j => .int (i % j)) := opI fun i j _ _ _ _ _ hc q => by
  have h1 : (0 : Int) < j := hc
  exact mod_int' (by omega) (by rw [Int.fmod_eq_emod_of_nonneg i (by omega)]; exact q)
theorem op_pow : OpR X (binaryOp .Pow) (rI CPow fun i j => .int (i ^ j.toNat)) := opI fun _ _ _ _ _ _ _ hc q => pow_int_small hc.1 hc.2.1 hc.2.2 q
end
def scal : V → V → Bool
  | .non, .non => true | .non, .int _ => true | .int _, .non => true | .non, .bl _ => true | .bl _, .non => true | .non, .str _ => true | .str _, .non => true
  | .int _, .int _ => true | .bl _, .bl _ => true | .str _, .str _ => true | .byt _, .byt _ => true
  | .int _, .str _ => true | .str _, .int _ => true | .bl _, .str _ => true | .str _, .bl _ => true
  | _, _ => false
def rEq : R2 := fun x y H Q => scal x y = true ∧ Q (.bl (decide (x = y))) H
def rNe : R2 := fun x y H Q => scal x y = true ∧ Q (.bl (!decide (x = y))) H
theorem dec_int {i j : Int} : decide (V.int i = V.int j) = (i == j) := by
  rw [Bool.eq_iff_iff]
  simp
theorem dec_bl {i j : Bool} : decide (V.bl i = V.bl j) = (i == j) := by
  rw [Bool.eq_iff_iff]
  simp
theorem dec_str {i j : Str} : decide (V.str i = V.str j) = (i == j) := by
  rw [Bool.eq_iff_iff]
  simp
theorem dec_byt {i j : Array UInt8} : decide (V.byt i = V.byt j) = (i.toList == j.toList) := by
  rw [Bool.eq_iff_iff]
  cases i
  cases j
  simp
section
variable {X : Cx} {a b c : Expr} {ta tb tc : TE} {pos : Pos}
theorem fin_bl {pins : List (Addr × Obj)} {σ : St} {H : Hp} {s : Shared} {Q : VK} {k k' : Bool} (I : Inv X pins σ H s) (q : Q (.bl k) H) (e : k = k') : EP X pins σ Q (.bool k') s := by
  subst e
  exact ⟨.bl k, H, I, rfl, q⟩
theorem op_eq : OpR X (compareOp .Eq) rEq := by
  intro pins s σ H x y v u Q I rx ry h
  obtain ⟨hs, q⟩ := h
  cases x with
  | non =>
    cases rx
    cases y with
    | non => cases ry; exact PySem.EqNone.eq_none_none (fin_bl I q (by simp))
    | bl j => cases ry; exact PySem.EqNone.eq_none_bool (fin_bl I q (by simp))
    | int j => obtain ⟨t', rfl⟩ := ry; exact PySem.EqNone.eq_none_int (fin_bl I q (by simp))
    | str j => obtain ⟨t', rfl⟩ := ry; exact PySem.EqNone.eq_none_str (fin_bl I q (by simp))
    | _ => exact absurd (show false = true from hs) Bool.false_ne_true
  | bl i =>
    cases rx
    cases y with
    | non => cases ry; exact PySem.EqNone.eq_bool_none (fin_bl I q (by simp))
    | bl j => cases ry; exact eq_bool (fin_bl I q dec_bl)
    | str j => obtain ⟨t', rfl⟩ := ry; exact PySem.EqMixed.eq_bool_str (fin_bl I q (by simp))
    | _ => exact absurd (show false = true from hs) Bool.false_ne_true
  | int i =>
    obtain ⟨t, rfl⟩ := rx
    cases y with
    | non => cases ry; exact PySem.EqNone.eq_int_none (fin_bl I q (by simp))
    | int j => obtain ⟨t', rfl⟩ := ry; exact eq_int (fin_bl I q dec_int)
    | str j => obtain ⟨t', rfl⟩ := ry; exact PySem.EqMixed.eq_int_str (fin_bl I q (by simp))
    | _ => exact absurd (show false = true from hs) Bool.false_ne_true
  | str i =>
    obtain ⟨t, rfl⟩ := rx
    cases y with
    | non => cases ry; exact PySem.EqNone.eq_str_none (fin_bl I q (by simp))
    | bl j => cases ry; exact PySem.EqMixed.eq_str_bool (fin_bl I q (by simp))
    | int j => obtain ⟨t', rfl⟩ := ry; exact PySem.EqMixed.eq_str_int (fin_bl I q (by simp))
    | str j => obtain ⟨t', rfl⟩ := ry; exact eq_str (fin_bl I q dec_str)
    | _ => exact absurd (show false = true from hs) Bool.false_ne_true
  | byt i =>
    obtain ⟨t, rfl⟩ := rx
    cases y with
    | byt j => obtain ⟨t', rfl⟩ := ry; exact PySem.W.eq_bytes (fin_bl I q dec_byt)
    | _ => exact absurd (show false = true from hs) Bool.false_ne_true
  | _ => cases y <;> exact absurd (show false = true from hs) Bool.false_ne_true
theorem op_ne : OpR X (compareOp .NotEq) rNe := by
  intro pins s σ H x y v u Q I rx ry h
  obtain ⟨hs, q⟩ := h
  cases x with
  | non =>
    cases rx
    cases y with
    | non => cases ry; exact PySem.EqNone.ne_none_none (fin_bl I q (by simp))
    | bl j => cases ry; exact PySem.EqNone.ne_none_bool (fin_bl I q (by simp))
    | int j => obtain ⟨t', rfl⟩ := ry; exact PySem.EqNone.ne_none_int (fin_bl I q (by simp))
    | str j => obtain ⟨t', rfl⟩ := ry; exact PySem.EqNone.ne_none_str (fin_bl I q (by simp))
    | _ => exact absurd (show false = true from hs) Bool.false_ne_true
  | bl i =>
    cases rx
    cases y with
    | non => cases ry; exact PySem.EqNone.ne_bool_none (fin_bl I q (by simp))
    | bl j => cases ry; exact ne_bool (fin_bl I q (congrArg not dec_bl))
    | str j => obtain ⟨t', rfl⟩ := ry; exact PySem.EqMixed.ne_bool_str (fin_bl I q (by simp))
    | _ => exact absurd (show false = true from hs) Bool.false_ne_true
  | int i =>
    obtain ⟨t, rfl⟩ := rx
    cases y with
    | non => cases ry; exact PySem.EqNone.ne_int_none (fin_bl I q (by simp))
    | int j => obtain ⟨t', rfl⟩ := ry; exact ne_int (fin_bl I q (congrArg not dec_int))
    | str j => obtain ⟨t', rfl⟩ := ry; exact PySem.EqMixed.ne_int_str (fin_bl I q (by simp))
    | _ => exact absurd (show false = true from hs) Bool.false_ne_true
  | str i =>
    obtain ⟨t, rfl⟩ := rx
    cases y with
    | non => cases ry; exact PySem.EqNone.ne_str_none (fin_bl I q (by simp))
    | bl j => cases ry; exact PySem.EqMixed.ne_str_bool (fin_bl I q (by simp))
    | int j => obtain ⟨t', rfl⟩ := ry; exact PySem.EqMixed.ne_str_int (fin_bl I q (by simp))
    | str j => obtain ⟨t', rfl⟩ := ry; exact ne_str (fin_bl I q (congrArg not dec_str))
    | _ => exact absurd (show false = true from hs) Bool.false_ne_true
  | byt i =>
    obtain ⟨t, rfl⟩ := rx
    cases y with
    | byt j => obtain ⟨t', rfl⟩ := ry; exact PySem.W.ne_bytes (fin_bl I q (congrArg not dec_byt))
    | _ => exact absurd (show false = true from hs) Bool.false_ne_true
  | _ => cases y <;> exact absurd (show false = true from hs) Bool.false_ne_true
theorem op_lt : OpR X (compareOp .Lt) (rI0 fun i j => .bl (decide (i < j))) := opB0 fun _ _ _ _ _ _ _ q => lt_int q
theorem op_isN : OpR X (compareOp .Is) (fun x y H Q => y = .non ∧ Q (.bl (decide (x = .non))) H) := by
  intro pins s σ H x y v u Q I rx ry h
  obtain ⟨rfl, q⟩ := h
  cases ry
  refine is_none_gen (fin_bl I q ?_)
  cases x <;> first
    | (cases rx; rfl)
    | (obtain ⟨t, rfl⟩ := rx; rfl)
theorem op_notN : OpR X (compareOp .IsNot) (fun x y H Q => y = .non ∧ Q (.bl (!decide (x = .non))) H) := by
  intro pins s σ H x y v u Q I rx ry h
  obtain ⟨rfl, q⟩ := h
  cases ry
  refine isnot_none_gen (fin_bl I q ?_)
  cases x <;> first
    | (cases rx; rfl)
    | (obtain ⟨t, rfl⟩ := rx; rfl)
theorem nomark (b : Expr) {op : CmpOp} (h : op ≠ .In := by decide) (h2 : op ≠ .NotIn := by decide) : behindInMarks op b = false := by
  have e1 : (op == CmpOp.In) = false := by cases op <;> first | rfl | exact absurd rfl h
  have e2 : (op == CmpOp.NotIn) = false := by cases op <;> first | rfl | exact absurd rfl h2
  cases b <;> simp [behindInMarks, e1, e2]
theorem pe_cmpR {op : CmpOp} {r : R2} (ho : OpR X (compareOp op) r) (ha : PE X a ta) (hb : PE X b tb) (hm : behindInMarks op b = false) : PE X (.Compare a [op] [b] pos) (tOp r ta tb) := by
  intro pins s σ H Q I h
  exact wpAny_Compare1 (binT ha hb I h fun v u s2 x y H2 I2 rx ry q => ho pins s2 σ H2 x y v u Q I2 rx ry q) hm
def tTest (t : TE) : TT := fun σ H Q => t σ H fun x H' => ∃ k, x = .bl k ∧ Q k H'
theorem pt_cmpR {op : CmpOp} {r : R2} (ho : OpR X (compareOp op) r) (ha : PE X a ta) (hb : PE X b tb) (hm : behindInMarks op b = false) : PT X (.Compare a [op] [b] pos) (tTest (tOp r ta tb)) := by
  intro pins s σ H Q I h
  refine wpAny_isTrue_Compare1 (thn (ha pins s σ H _ I h) fun v s1 ⟨x, H1, I1, r1, q1⟩ => thn (hb pins s1 σ H1 _ I1 q1) fun u s2 ⟨y, H2, I2, r2, q2⟩ =>
    thn (ho pins s2 σ H2 x y v u _ I2 r1 r2 q2) fun c s3 ⟨z, H3, I3, r3, k, e, q3⟩ => ?_) hm
  subst e
  cases r3
  exact wpAny_truthy_bool ⟨H3, I3, q3⟩
def TruV (K : PySem.W.Frag) (x : V) (H : Hp) (k : Bool) : Prop :=
  match x with
  | .non => k = false
  | .bl b => k = b
  | .int i => k = (i != 0)
  | .str y => y.length ≤ sizeLine ∧ k = ((y.length : Int) != 0)
  | .byt y => y.size ≤ sizeLine ∧ k = ((y.size : Int) != 0)
  | .ref p => (∃ xs, SqL K H p xs ∧ k = !xs.isEmpty) ∨ (∃ xs, SqT K H p xs ∧ k = !xs.isEmpty) ∨ ∃ kvs, H p = some (.dK kvs) ∧ k = !kvs.isEmpty
  | _ => False
theorem isEmpty_kv {κ : Type} {kvs : List (κ × V)} {vs : List (κ × Value)} (r : KV kvs vs) : (!vs.isEmpty) = !kvs.isEmpty := by
  cases r <;> rfl
theorem isEmpty_of {xs : List V} {its : List Value} (r : Vals xs its) : (!its.toArray.isEmpty) = !xs.isEmpty := by
  cases r <;> simp
theorem line63 : (sizeLine : Nat) < 2 ^ 63 := by rw [sizeLine_eq]; decide
theorem tru_ok : TruR X (fun x H Q => ∃ k, TruV X.K x H k ∧ Q k H) := by
  intro pins s σ H x v Q I rx h
  obtain ⟨k, e, q⟩ := h
  have hl := line63
  have hs : sizeLine = 16777216 := sizeLine_eq
  cases x with
  | non =>
    cases rx
    have e' : k = false := e
    subst e'
    exact truthy_none ⟨H, I, q⟩
  | bl b =>
    cases rx
    have e' : k = b := e
    subst e'
    exact wpAny_truthy_bool ⟨H, I, q⟩
  | int i =>
    obtain ⟨t, rfl⟩ := rx
    have e' : k = (i != 0) := e
    subst e'
    exact PySem.P.truthy_int ⟨H, I, q⟩
  | str y =>
    obtain ⟨t, rfl⟩ := rx
    obtain ⟨hy, e'⟩ : y.length ≤ sizeLine ∧ k = ((y.length : Int) != 0) := e
    subst e'
    exact PySem.P.truthy_str (by omega) ⟨H, I.tok _, q⟩
  | byt y =>
    obtain ⟨t, rfl⟩ := rx
    obtain ⟨hy, e'⟩ : y.size ≤ sizeLine ∧ k = ((y.size : Int) != 0) := e
    subst e'
    exact PySem.W.truthy_bytes (by omega) ⟨H, I.tok _, q⟩
  | ref p =>
    cases rx
    have e' : (∃ xs, SqL X.K H p xs ∧ k = !xs.isEmpty) ∨ (∃ xs, SqT X.K H p xs ∧ k = !xs.isEmpty) ∨ ∃ kvs, H p = some (.dK kvs) ∧ k = !kvs.isEmpty := e
    rcases e' with ⟨xs, hx, e'⟩ | ⟨xs, hx, e'⟩ | ⟨kvs, hx, e'⟩
    · subst e'
      obtain ⟨its, r, pl, hz⟩ := I.list hx
      have hlen := r.length
      exact wpAny_truthy_list pl.isList (by simp only [List.size_toArray]; omega) ⟨H, I.tok _, by rw [isEmpty_of r]; exact q⟩
    · subst e'
      obtain ⟨its, r, pl, hz⟩ := I.tuple hx
      have hlen := r.length
      exact truthy_tuple pl (by simp only [List.size_toArray]; omega) ⟨H, I.tok _, by rw [isEmpty_of r]; exact q⟩
    · subst e'
      obtain ⟨hz, hS, vs, r, m⟩ : kvs.length ≤ sizeLine ∧ (p == sysModules) = false ∧ ∃ vs, KV kvs vs ∧ s.heap.DictOf (mixKind X.prog X.w) p vs := I.hok p _ hx
      have hlen : kvs.length = vs.length := Paired.length r
      exact wpAny_truthy_dict hS m (by omega) ⟨H, I.tok _, by rw [isEmpty_kv r]; exact q⟩
  | _ => exact (show False from e).elim
theorem pt_truth (ha : PE X a ta) (he : ∀ whole, isTrue a X.env whole = (do let v ← whole; standAt a.pos; holding [v] (truthy v))) :
    PT X a (fun σ H Q => ta σ H fun x H' => ∃ k, TruV X.K x H' k ∧ Q k H') := by
  intro pins s σ H Q I h
  exact isTrue_plain (thn (ha pins s σ H _ I h) fun v s1 ⟨x, H1, I1, r1, q1⟩ => tru_ok pins s1 σ H1 x v Q I1 r1 q1) (he _)
theorem op_add_str : OpR X (binaryOp .Add) (fun x y H Q => ∃ i j, x = .str i ∧ y = .str j ∧ i.length + j.length ≤ sizeLine ∧ Q (.str (i ++ j)) H) := by
  intro pins s σ H x y v u Q I rx ry h
  obtain ⟨i, j, rfl, rfl, hz, q⟩ := h
  obtain ⟨t, rfl⟩ := rx
  obtain ⟨t', rfl⟩ := ry
  exact add_str (fun t' tk => ⟨.str (i ++ j), H, I.tok _, ⟨_, rfl⟩, q⟩) hz
theorem vals1 {x : V} {us : List Value} (r : Vals [x] us) : ∃ u, us = [u] ∧ RelV x u := by
  cases r with
  | cons r1 r2 => cases r2; exact ⟨_, rfl, r1⟩
theorem vals2 {x y : V} {us : List Value} (r : Vals [x, y] us) : ∃ u w', us = [u, w'] ∧ RelV x u ∧ RelV y w' := by
  cases r with
  | cons r1 r2 =>
    cases r2 with
    | cons r3 r4 => cases r4; exact ⟨_, _, rfl, r1, r3⟩
theorem call_abs : CallR X (.builtin "abs") (fun xs H Q => ∃ i, xs = [.int i] ∧ Q (.int (if i < 0 then -i else i)) H) := by
  intro pins s σ H xs us Q I r h
  obtain ⟨i, rfl, q⟩ := h
  obtain ⟨u, rfl, t, rfl⟩ := vals1 r
  exact call_abs_int fun u tk => ⟨.int (if i < 0 then -i else i), H, I.tok _, ⟨_, rfl⟩, q⟩
theorem call_min2 (hc : X.calm = true) : CallR X (.builtin "min") (fun xs H Q => ∃ i j, xs = [.int i, .int j] ∧ Q (.int (if j < i then j else i)) H) := by
  intro pins s σ H xs us Q I r h
  obtain ⟨i, j, rfl, q⟩ := h
  obtain ⟨u, w', rfl, ⟨t, rfl⟩, ⟨t', rfl⟩⟩ := vals2 r
  refine min_two_ints (I.ok.hd hc) fun h' tk k => ⟨_, H, I.kept k, ?_, q⟩
  by_cases hj : j < i
  · rw [if_pos hj, if_pos hj]; exact ⟨_, rfl⟩
  · rw [if_neg hj, if_neg hj]; exact ⟨_, rfl⟩
theorem call_str_int : CallR X (.type "str") (fun xs H Q => ∃ i, xs = [.int i] ∧ i.natAbs.log2 < 1920 ∧ Q (.str (toString i)) H) := by
  intro pins s σ H xs us Q I r h
  obtain ⟨i, rfl, hz, q⟩ := h
  obtain ⟨u, rfl, t, rfl⟩ := vals1 r
  exact PySem.P.str_of_int hz ⟨.str _, H, I.tok _, ⟨_, rfl⟩, q⟩
end
end L2
namespace L2
open PySem PySem.Spec PyProof.Rows
structure ObjM (h : Heap) (x dx C : Addr) (mA : Str → Option Value) : Prop where
  obj : h.get? x = some (PySem.W.instObj C dx)
  ns : h.Ns1 dx mA
  ne : dx ≠ x
theorem lookIn_ns {h : Heap} {dx : Addr} {mA : Str → Option Value} (n : h.Ns1 dx mA) : ∃ od, h.get? dx = some od ∧ ∀ name, PySem.W.lookIn name od = some (mA name) := by
  obtain ⟨o, es, ep, ho, hd, hk, _, hm⟩ := n
  refine ⟨o, ho, fun name => ?_⟩
  have e := hm name
  unfold nsFind findBy at e
  rw [← Array.find?_toList] at e
  unfold PySem.W.lookIn
  rw [hd]
  dsimp only
  split
  · rename_i y q
    rw [q] at e
    exact congrArg some e
  · rename_i q
    rw [q] at e
    have a : es.toList.any (·.refKey) = false := by
      rw [List.any_eq_false]
      intro y hy
      obtain ⟨z, t, hkey⟩ := hk y (Array.mem_toList_iff.mp hy)
      simp [DictEntry.refKey, hkey]
    have a' : ¬ es.toList.any (·.refKey) = true := by rw [a]; exact Bool.false_ne_true
    rw [if_neg a']
    exact congrArg some e
theorem ObjM.look {h : Heap} {x dx C : Addr} {mA : Str → Option Value} (I : ObjM h x dx C mA) : ∃ od, PySem.W.InstAt h x (PySem.W.instObj C dx) C (some od) ∧ ∀ name, PySem.W.lookIn name od = some (mA name) :=
  let ⟨od, ho, hl⟩ := lookIn_ns I.ns
  ⟨od, ⟨I.obj, rfl, rfl, ho⟩, hl⟩
section
variable {prog : Program} {w : World} {A : Around} {E : Value → Shared → Prop} {s : Shared} {K : PySem.W.Frag} {x dx C f : Addr} {mA : Str → Option Value} {name : Str} {v : Value}
theorem get_map {expr : Bool} {Q : Value → Shared → Prop} (X : K.In s.heap) (I : ObjM s.heap x dx C mA) (hg : PySem.W.plainGet K C name = true) (hh : PySem.W.hasDictIn K C = true)
    (ha : PySem.W.findIn K (.ref C) name = some none) (hv : mA name = some v) (hv' : PySem.W.handedIn v = true) (h : Q v { s with toks := s.toks + 1 }) :
    wpAny (model prog w) A (getAttr (.ref x) name expr) Q E s := by
  obtain ⟨od, J, hl⟩ := I.look
  exact PySem.W.get_value X J (PySem.W.plainGet_of hg).1 (PySem.W.findObj_own hh ha rfl (by rw [hl, hv])) hv' h
theorem get_meth {pl : Sem Bool} {Q : Value × List Value → Shared → Prop} (X : K.In s.heap) (I : ObjM s.heap x dx C mA) (hg : PySem.W.plainGet K C name = true)
    (hf : PySem.W.findIn K (.ref C) name = some (some (.ref f))) (ht : PySem.W.isFn K (.ref f) = true) (hv : mA name = none) (h : Q (.ref f, [.ref x]) s) :
    wpAny (model prog w) A (getMethod (.ref x) name pl) Q E s := by
  obtain ⟨od, J, hl⟩ := I.look
  exact PySem.W.method_fn X J (PySem.W.plainGet_of hg).1 (PySem.W.plainGet_of hg).2 hf (beq_iff_eq.mp ht) (by show (PySem.W.lookIn name od).map (·.isSome) = some false; rw [hl, hv]; rfl) h
theorem set_map {ns : List Str} {Q : Unit → Shared → Prop} (X : K.In s.heap) (I : ObjM s.heap x dx C mA)
    (hs : PySem.W.findIn K (.ref C) "__setattr__" = some (some (.builtin "object.__setattr__"))) (hp : PySem.W.plainOver K C = true) (ht : PySem.W.takerIn K C name = some none) (hh : PySem.W.hasDictIn K C = true)
    (hw : PySem.Within mA ns) (hsz : ns.length ≤ sizeLine)
    (h : ∀ h', ObjM h' x dx C (fun y => if y = name then some v else mA y) → Heap.SameBut dx s.heap h' → Q () { s with heap := h', toks := s.toks + 2 }) :
    wpAny (model prog w) A (setAttr (.ref x) name v) Q E s := by
  obtain ⟨od, J, hl⟩ := I.look
  refine PySem.W.set_plain X J hs (PySem.W.osa_open (s := { s with toks := s.toks + 1 }) (r := none) X J hp ht fun b => ?_)
  obtain ⟨cd, hc, hd'⟩ := PySem.W.any_some hh
  have hx : s.heap.get? x = some ⟨.ref C, some dx, .plain, #[]⟩ := I.obj
  refine wpAny_bind (wpAny_pure (wpAny_bind (wpAny_bind (wpAny_loadPart hx (wpAny_bind (PySem.W.Looks.here (s := { s with toks := s.toks + 1 }) (PySem.W.looks_clsIn X hc) ?_))))))
  rw [hd']
  refine wpAny_pure (a := some dx) (wpAny_bind (wpAny_pure (wpAny_bind ?_)))
  refine wpAny_nsSet1 (s := { s with toks := s.toks + 1 }) I.ns fun h' hn2 hs2 => ?_
  obtain ⟨oD, esD, epD, hoD, hdD, hcD⟩ := hn2.count (PySem.Within.cons name v hw)
  refine wpAny_bind (wpAny_lookBehind hoD (by rw [hdD]; exact pastItsLine_dict (Nat.le_trans hcD (by rw [List.length_cons]; omega))) ?_)
  exact wpAny_pure (h _ ⟨(hs2.2 _ (Ne.symm I.ne)).trans I.obj, hn2, I.ne⟩ hs2)
theorem make_map {R : Result → Shared → Prop} {vs : List Value} {kw : List (Str × Value)} (X : K.In s.heap) (hm : PySem.W.makesIn K C = true)
    (hi : PySem.W.findIn K (.ref C) "__init__" = some (some (.ref f))) (hf : PySem.W.typeIn K (.ref f) = some (.type "function"))
    (h : codeAny (model prog w) (A.under (.builtin "type.__call__" ⟨.ref C :: vs, kw⟩)) (.call (.ref f) ⟨.ref (s.heap.objs.size + 1) :: vs, kw⟩) (PySem.W.InitBack (s.heap.objs.size + 1) R)
      { s with heap := (s.heap.push PySem.W.emptyDict).push (PySem.W.instObj C s.heap.objs.size) }) :
    codeAny (model prog w) A (.call (.ref C) ⟨vs, kw⟩) R s := by
  obtain ⟨hh, g, d, t, os⟩ := s
  exact PySem.W.make_core (PySem.W.makes_of X hm) (PySem.W.looks_findIn X hi) (fun self => PySem.W.bind_fn X self hf) (.inl rfl) h
end
def putF (f : Str) (v : V) : List (Str × V) → List (Str × V)
  | [] => [(f, v)]
  | (g, x) :: r => if g = f then (g, v) :: r else (g, x) :: putF f v r
theorem lookup_putF (f g : Str) (v : V) : ∀ fs : List (Str × V), (putF f v fs).lookup g = if g = f then some v else fs.lookup g
  | [] => by
    show List.lookup g [(f, v)] = _
    by_cases h : g = f
    · have hb : (g == f) = true := beq_iff_eq.mpr h
      simp only [List.lookup, hb, if_pos h]
    · have hb : (g == f) = false := beq_eq_false_iff_ne.mpr h
      simp only [List.lookup, hb, if_neg h]
  | (k, x) :: r => by
    have ih := lookup_putF f g v r
    rw [show putF f v ((k, x) :: r) = (if k = f then (k, v) :: r else (k, x) :: putF f v r) from rfl]
    by_cases hk : k = f
    · rw [if_pos hk]
      by_cases h : g = k
      · have hb : (g == k) = true := beq_iff_eq.mpr h
        simp only [List.lookup, hb, if_pos (h.trans hk)]
      · have hb : (g == k) = false := beq_eq_false_iff_ne.mpr h
        simp only [List.lookup, hb, if_neg (fun e : g = f => h (e.trans hk.symm))]
    · rw [if_neg hk]
      by_cases h : g = k
      · have hb : (g == k) = true := beq_iff_eq.mpr h
        simp only [List.lookup, hb, if_neg (fun e : g = f => hk (h.symm.trans e))]
      · have hb : (g == k) = false := beq_eq_false_iff_ne.mpr h
        simp only [List.lookup, hb]
        exact ih
theorem keys_putF (f : Str) (v : V) : ∀ fs : List (Str × V), f ∈ (putF f v fs).map (·.1) ∧ ∀ g, g ∈ fs.map (·.1) → g ∈ (putF f v fs).map (·.1)
  | [] => ⟨by simp [putF], fun g h => by simp at h⟩
  | (k, x) :: r => by
    obtain ⟨i1, i2⟩ := keys_putF f v r
    rw [show putF f v ((k, x) :: r) = (if k = f then (k, v) :: r else (k, x) :: putF f v r) from rfl]
    by_cases hk : k = f
    · rw [if_pos hk]
      subst hk
      exact ⟨by simp, fun g h => by simpa using h⟩
    · rw [if_neg hk]
      refine ⟨?_, fun g h => ?_⟩
      · rw [List.map_cons]
        exact List.mem_cons_of_mem _ i1
      · rw [List.map_cons] at h ⊢
        rcases List.mem_cons.mp h with e | e
        · exact List.mem_cons.mpr (.inl e)
        · exact List.mem_cons_of_mem _ (i2 g e)
theorem length_putF (f : Str) (v : V) : ∀ fs : List (Str × V), (putF f v fs).length ≤ fs.length + 1
  | [] => by simp [putF]
  | (k, x) :: r => by
    have ih := length_putF f v r
    rw [show putF f v ((k, x) :: r) = (if k = f then (k, v) :: r else (k, x) :: putF f v r) from rfl]
    by_cases hk : k = f
    · rw [if_pos hk, List.length_cons, List.length_cons]; omega
    · rw [if_neg hk, List.length_cons, List.length_cons]; omega
theorem RelO.some_of {v : V} {o : Option Value} (r : RelO (some v) o) : ∃ u, o = some u ∧ RelV v u := by
  cases o with
  | none => exact (show False from r).elim
  | some u => exact ⟨u, rfl, r⟩
theorem RelO.none_of {o : Option Value} (r : RelO none o) : o = none := by
  cases o with
  | none => rfl
  | some u => exact (show False from r).elim
theorem handed_of {v : V} {u : Value} (r : RelV v u) : PySem.W.handedIn u = true := by
  cases v with
  | non => cases (show u = Value.none from r); rfl
  | bl b => cases (show u = Value.bool b from r); rfl
  | int i => obtain ⟨t, e⟩ := (show ∃ t, u = Value.int i t from r); cases e; rfl
  | str x => obtain ⟨t, e⟩ := (show ∃ t, u = Value.str x t from r); cases e; rfl
  | byt b => obtain ⟨t, e⟩ := (show ∃ t, u = Value.bytes b t from r); cases e; rfl
  | flt b => obtain ⟨t, e⟩ := (show ∃ t, u = Value.float b t from r); cases e; rfl
  | ref a => cases (show u = Value.ref a from r); rfl
  | ty n => cases (show u = Value.type n from r); rfl
section
variable {P : Program} {w : World} {H H' : Hp} {h h' : Heap} {a C dx : Addr} {fs fs' : List (Str × V)}
theorem ins_get (hok : HOk P w H h) (e : H a = some (.ins C dx fs)) : ∃ mA, ObjM h a dx C mA ∧ (∀ f, RelO (fs.lookup f) (mA f)) ∧ PySem.Within mA (fs.map (·.1)) ∧ fs.length ≤ 1000 ∧ H dx = some (.own a) := by
  obtain ⟨d, z, ne, ob, mA, n, r, q⟩ := (show ObjOk P w H h a (.ins C dx fs) from hok a _ e)
  exact ⟨mA, ⟨ob, n, ne⟩, r, q, z, d⟩
end
structure Cls (K : PySem.W.Frag) (C : Addr) : Prop where
  pg : PySem.W.plainGet K C Str.empty = true
  hd : PySem.W.hasDictIn K C = true
  po : PySem.W.plainOver K C = true
  sa : PySem.W.findIn K (.ref C) "__setattr__" = some (some (.builtin "object.__setattr__"))
theorem Cls.get {K : PySem.W.Frag} {C : Addr} (c : Cls K C) (f : Str) : PySem.W.plainGet K C f = true := c.pg
def NoAttr (K : PySem.W.Frag) (C : Addr) (f : Str) : Prop := PySem.W.findIn K (.ref C) f = some none
theorem NoAttr.taker {K : PySem.W.Frag} {C : Addr} {f : Str} (n : NoAttr K C f) : PySem.W.takerIn K C f = some none := by
  unfold PySem.W.takerIn
  rw [show PySem.W.findIn K (.ref C) f = some none from n]
  rfl
structure Meth (K : PySem.W.Frag) (C : Addr) (m : Str) (f : Addr) : Prop where
  at_ : PySem.W.findIn K (.ref C) m = some (some (.ref f))
  fn : PySem.W.isFn K (.ref f) = true
  kp : PySem.W.keepIn K (.ref f) = true
section
variable {X : Cx} {pins : List (Addr × Obj)} {σ : St} {H : Hp} {s : Shared} {a C dx : Addr} {fs : List (Str × V)} {f : Str} {v : V} {A : Around} {E : Value → Shared → Prop}
theorem getattr_ok {b : Bool} {Q : Value → Shared → Prop} (I : Inv X pins σ H s) (e : H a = some (.ins C dx fs)) (c : Cls X.K C) (n : NoAttr X.K C f) (l : fs.lookup f = some v)
    (h : ∀ u s', Inv X pins σ H s' → RelV v u → Q u s') : wpAny (model X.prog X.w) A (getAttr (.ref a) f b) Q E s := by
  obtain ⟨mA, O, r, _, _, _⟩ := ins_get I.hok e
  obtain ⟨u, hu, ru⟩ := RelO.some_of (v := v) (o := mA f) (by rw [← l]; exact r f)
  exact get_map I.kIn O (c.get f) c.hd n hu (handed_of ru) (h u _ (I.tok _) ru)
theorem getmeth_ok {m : Str} {g : Addr} {pl : Sem Bool} {Q : Value × List Value → Shared → Prop} (I : Inv X pins σ H s) (e : H a = some (.ins C dx fs)) (c : Cls X.K C) (k : Meth X.K C m g) (l : fs.lookup m = none)
    (h : Q (.ref g, [.ref a]) s) : wpAny (model X.prog X.w) A (getMethod (.ref a) m pl) Q E s := by
  obtain ⟨mA, O, r, _, _, _⟩ := ins_get I.hok e
  have hn : mA m = none := RelO.none_of (by rw [← l]; exact r m)
  exact get_meth I.kIn O (c.get m) k.at_ k.fn hn h
theorem setattr_ok {y : V} {u : Value} {Q : Unit → Shared → Prop} (I : Inv X pins σ H s) (e : H a = some (.ins C dx fs)) (c : Cls X.K C) (n : NoAttr X.K C f) (hl : fs.length < 1000) (ry : RelV y u)
    (h : ∀ s', Inv X pins σ (upd H a (.ins C dx (putF f y fs))) s' → Q () s') : wpAny (model X.prog X.w) A (setAttr (.ref a) f u) Q E s := by
  obtain ⟨mA, O, r, wi, _, ho⟩ := ins_get I.hok e
  have hz : (fs.map (·.1)).length ≤ sizeLine := by rw [List.length_map, sizeLine_eq]; omega
  refine set_map I.kIn O c.sa c.po n.taker c.hd wi hz fun h' O' sb => h _ ?_
  have hd : ∃ o, h'.get? dx = some o := let ⟨o, _, _, e', _⟩ := O'.ns; ⟨o, e'⟩
  refine I.write (x := a) (e := dx) (by rw [e]; exact True.intro) (.inr ho) (fun b q hb z => (sb.2 b hb).trans z) hd ?_
  refine ⟨by rw [upd_ne O.ne]; exact ho, ?_, O.ne, O'.obj, _, O'.ns, fun g => ?_, fun g hg => ?_⟩
  · have := length_putF f y fs; omega
  · show RelO ((putF f y fs).lookup g) (if g = f then some u else mA g)
    rw [lookup_putF]
    by_cases q : g = f
    · rw [if_pos q, if_pos q]; exact ry
    · rw [if_neg q, if_neg q]; exact r g
  · by_cases q : g = f
    · rw [q]; exact (keys_putF f y fs).1
    · refine (keys_putF f y fs).2 g (wi g fun z => hg ?_)
      show (if g = f then some u else mA g) = none
      rw [if_neg q]; exact z
theorem Inv.made (I : Inv X pins σ H s) : Inv X pins σ (upd (upd H s.heap.objs.size (.own (s.heap.objs.size + 1))) (s.heap.objs.size + 1) (.ins C s.heap.objs.size []))
    { s with heap := (s.heap.push PySem.W.emptyDict).push (PySem.W.instObj C s.heap.objs.size) } := by
  have e1 : (s.heap.push PySem.W.emptyDict).get? s.heap.objs.size = some PySem.W.emptyDict := Heap.get?_push_size s.heap rfl
  have e2 : ((s.heap.push PySem.W.emptyDict).push (PySem.W.instObj C s.heap.objs.size)).get? (s.heap.objs.size + 1) = some (PySem.W.instObj C s.heap.objs.size) := by
    have := Heap.get?_push_size (s.heap.push PySem.W.emptyDict) (o := PySem.W.instObj C s.heap.objs.size) rfl
    rwa [Heap.size_push] at this
  have e3 : (s.heap.push PySem.W.emptyDict).Ns s.heap.objs.size (fun _ => none) := ⟨PySem.W.emptyDict, #[], _, e1, rfl, (fun e he => absurd he (by simp)), fun _ => rfl⟩
  have I1 := I.laid (a := s.heap.objs.size) (o := .own (s.heap.objs.size + 1)) (h' := s.heap.push PySem.W.emptyDict) (t' := s.toks) (fun b u q => Heap.get?_push_of_some _ q) (Nat.le_refl _) ⟨_, e1⟩
  refine I1.laid (a := s.heap.objs.size + 1) (o := .ins C s.heap.objs.size []) (t' := s.toks) (fun b u q => Heap.get?_push_of_some _ q) (Nat.le_of_eq (Heap.size_push _ _)) ?_
  have ne : s.heap.objs.size ≠ s.heap.objs.size + 1 := Nat.ne_of_lt (Nat.lt_succ_self _)
  refine ⟨by rw [upd_ne ne, upd_same], Nat.zero_le _, ne, e2, fun _ => none, (Heap.Ns1.of_empty e3).at fun o q => Heap.get?_push_of_some _ q, fun _ => True.intro, fun y hy => absurd rfl hy⟩
theorem attr_of {prog : Program} {w : World} {env : Env} {e : Expr} {f : Str} {pos : Pos} {s : Shared} {Q : Value → Shared → Prop} (hb : attributeBase e f env (eval e env) = eval e env)
    (h : wpAny (model prog w) A (eval e env) (fun o s₁ => wpAny (model prog w) A (getAttr o f true) Q E s₁) E s) : wpAny (model prog w) A (eval (.Attribute e f pos) env) Q E s :=
  Attribute_any_ h (by rw [arm_eval_Attribute, hb])
end
def tFld (K : PySem.W.Frag) (ta : TE) (f : Str) : TE := fun σ H Q => ta σ H fun x H1 => ∃ a C dx fs v, x = .ref a ∧ H1 a = some (.ins C dx fs) ∧ Cls K C ∧ NoAttr K C f ∧ fs.lookup f = some v ∧ Q v H1
section
variable {X : Cx} {o e value : Expr} {f : Str} {pos pos' tpos : Pos} {ta tv : TE}
theorem pe_fld (he : PE X e ta) (hb : attributeBase e f X.env (eval e X.env) = eval e X.env) : PE X (.Attribute e f pos) (tFld X.K ta f) := by
  intro pins s σ H Q I h
  refine attr_of hb (thn (he pins s σ H _ I h) fun u s1 zq => ?_)
  obtain ⟨x, H1, I1, rx, a, C, dx, fs, v, ex, ea, c, n, l, q⟩ := zq
  subst ex
  obtain rfl : u = Value.ref a := rx
  exact getattr_ok I1 ea c n l fun u' s2 I2 ru => ⟨v, H1, I2, ru, q⟩
end
section
variable {X : Cx} {pins : List (Addr × Obj)} {σ : St} {H : Hp} {s : Shared} {A : Around} {E : Value → Shared → Prop} {Q : Value → Shared → Prop} {c : Value} {b : Bool}
inductive TyOf (K : PySem.W.Frag) (H : Hp) : V → Value → Prop where
  | non : TyOf K H .non (.type "NoneType")
  | bl (x : Bool) : TyOf K H (.bl x) (.type "bool")
  | int (i : Int) : TyOf K H (.int i) (.type "int")
  | str (x : Str) : TyOf K H (.str x) (.type "str")
  | flt (x : UInt64) : TyOf K H (.flt x) (.type "float")
  | lst {a : Addr} {xs : List V} (e : H a = some (.lst xs)) : TyOf K H (.ref a) (.type "list")
  | frz {a : Addr} {o : Obj} {xs : List V} (e : H a = some (.frz o (.lst xs))) : TyOf K H (.ref a) (.type "list")
  | tup {a : Addr} {xs : List V} (e : H a = some (.tup xs)) : TyOf K H (.ref a) (.type "tuple")
  | dK {a : Addr} {kvs : List (Key × V)} (e : H a = some (.dK kvs)) : TyOf K H (.ref a) (.type "dict")
  | dT {a : Addr} {kvs : List (List Key × V)} (e : H a = some (.dT kvs)) : TyOf K H (.ref a) (.type "dict")
  | ins {a C dx : Addr} {fs : List (Str × V)} (e : H a = some (.ins C dx fs)) (cl : Cls K C) (ha : PySem.W.findIn K (.ref C) "__class__" = some (some (.builtin "object.__class__")))
      (hn : PySem.W.specialIn K (.builtin "object.__class__") "__get__" = some (some (.builtin "getset_descriptor.__get__"))) (htk : PySem.W.takesIn K (.builtin "object.__class__") = some true)
      (hm : PySem.W.mroIn K C (.type "object") = some true) : TyOf K H (.ref a) (.ref C)
theorem isinst_ok {x : V} {u t : Value} (I : Inv X pins σ H s) (rx : RelV x u) (ty : TyOf X.K H x t) (e : PySem.W.kitOne X.K t c = some b) (h : ∀ tk, Q (.bool b) { s with toks := tk }) :
    wpAny (model X.prog X.w) A (call (.builtin "isinstance") [u, c]) Q E s := by
  cases ty with
  | non => cases (show u = Value.none from rx); exact PySem.W.kia_one PySem.W.kitx_none I.kIn True.intro e (fun z => nomatch z) h
  | bl y => cases (show u = Value.bool y from rx); exact PySem.W.kia_one PySem.W.kitx_bool I.kIn True.intro e (fun z => nomatch z) h
  | int i => obtain ⟨t, q⟩ := (show ∃ t, u = Value.int i t from rx); cases q; exact PySem.W.kia_one PySem.W.kitx_int I.kIn True.intro e (fun z => nomatch z) h
  | str y => obtain ⟨t, q⟩ := (show ∃ t, u = Value.str y t from rx); cases q; exact PySem.W.kia_one PySem.W.kitx_str I.kIn True.intro e (fun z => nomatch z) h
  | flt y => obtain ⟨t, q⟩ := (show ∃ t, u = Value.float y t from rx); cases q; exact PySem.W.kia_one PySem.W.kitx_float I.kIn True.intro e (fun z => nomatch z) h
  | @lst a xs ea =>
    cases (show u = Value.ref a from rx)
    obtain ⟨_, _, n, _, h1⟩ := (show ObjOk X.prog X.w H s.heap a (.lst xs) from I.hok a _ ea)
    exact PySem.W.kia_one PySem.W.kitx_list I.kIn ⟨_, h1, rfl⟩ e (fun z => nomatch z) h
  | @frz a ob xs ea =>
    cases (show u = Value.ref a from rx)
    obtain ⟨_, _, _, n, _, h1⟩ := (show ObjOk X.prog X.w H s.heap a (.frz ob (.lst xs)) from I.hok a _ ea)
    exact PySem.W.kia_one PySem.W.kitx_list I.kIn ⟨_, h1, rfl⟩ e (fun z => nomatch z) h
  | @tup a xs ea =>
    cases (show u = Value.ref a from rx)
    obtain ⟨_, _, _, p⟩ := (show ObjOk X.prog X.w H s.heap a (.tup xs) from I.hok a _ ea)
    obtain ⟨o, h1, h2, _⟩ := p
    exact PySem.W.kia_one PySem.W.kitx_tuple I.kIn ⟨o, h1, h2⟩ e (fun z => nomatch z) h
  | @dK a kvs ea =>
    cases (show u = Value.ref a from rx)
    obtain ⟨_, _, vs, _, p⟩ := (show ObjOk X.prog X.w H s.heap a (.dK kvs) from I.hok a _ ea)
    obtain ⟨o, es, ep, h1, h2, _⟩ := p
    exact PySem.W.kia_one PySem.W.kitx_dict I.kIn ⟨o, h1, h2.1⟩ e (fun z => nomatch z) h
  | @dT a kvs ea =>
    cases (show u = Value.ref a from rx)
    obtain ⟨_, _, xs, _, o, es, ep, h1, h2, _⟩ := (show ObjOk X.prog X.w H s.heap a (.dT kvs) from I.hok a _ ea)
    exact PySem.W.kia_one PySem.W.kitx_dict I.kIn ⟨o, h1, h2.1⟩ e (fun z => nomatch z) h
  | @ins a C dx fs ea cl ha hn htk hm =>
    cases (show u = Value.ref a from rx)
    obtain ⟨mA, O, _⟩ := ins_get I.hok ea
    obtain ⟨od, J, _⟩ := O.look
    exact PySem.W.kia_one (PySem.W.kitx_own (cl.get _) cl.hd ha hn htk hm) I.kIn J e (fun z => nomatch z) h
end
end L2
namespace L2
open PySem PySem.Spec PyProof.Rows
structure Room (k : Nat) (A : Around) : Prop where
  hd : A.handled = none
  dp : A.depth + 3 * k + 5 < recursionLimit
  un : A.units + 16 * k + 200 < cLine
  gd : A.guards = some []
theorem Room.mono {j k : Nat} {A : Around} (r : Room k A) (h : j ≤ k) : Room j A := ⟨r.hd, by have := r.dp; omega, by have := r.un; omega, r.gd⟩
theorem Room.deeper {k : Nat} {A : Around} (r : Room (k + 1) A) (env : Env) : Room k (A.deeper env) :=
  ⟨r.hd, by have := r.dp; show A.depth + 1 + 3 * k + 5 < _; omega, by have := r.un; show A.units + 3 + 16 * k + 200 < _; omega, r.gd⟩
theorem make_depth {A : Around} {C : Addr} {us : List Value} {kw : List (Str × Value)} : (A.under (.builtin "type.__call__" ⟨.ref C :: us, kw⟩)).depth = A.depth + 1 := by
  first | rfl | simp [Around.under, Code.weight, Code.isCreation, Code.isGuard, Code.isCaller, Code.frames, Code.isFrame, guardIds]
theorem make_units {A : Around} {C : Addr} {us : List Value} {kw : List (Str × Value)} : (A.under (.builtin "type.__call__" ⟨.ref C :: us, kw⟩)).units = A.units + 1 := by
  first | rfl | simp [Around.under, Code.cUnits, Code.frames, Code.isFrame]
theorem Room.make {k : Nat} {A : Around} (r : Room (k + 1) A) (C : Addr) (us : List Value) (kw : List (Str × Value)) : Room k (A.under (.builtin "type.__call__" ⟨.ref C :: us, kw⟩)) :=
  ⟨r.hd, by have := r.dp; rw [make_depth]; omega, by have := r.un; rw [make_units]; omega, by first | exact r.gd | simpa [Around.under, Code.isGuard, Code.isFrame, guardIds] using r.gd⟩
theorem Room.depth {k : Nat} {A : Around} (r : Room k A) : A.depth < recursionLimit := by have := r.dp; omega
theorem Room.units {k : Nat} {A : Around} (r : Room k A) : A.units + 64 < cLine := by have := r.un; omega
theorem Room.units0 {k : Nat} {A : Around} (r : Room k A) : A.units < cLine := by have := r.un; omega
def tNil : TA := fun _ H Q => Q [] H
def tCons (ta : TE) (tr : TA) : TA := fun σ H Q => ta σ H fun x H1 => tr σ H1 fun xs H2 => Q (x :: xs) H2
section
variable {X : Cx} {e : Expr} {es : List Expr} {te : TE} {t : TA} {pos : Pos}
theorem pa_nil : PA X [] tNil := fun _ _ _ _ H Q I h => Calls.spliced_nil ⟨[], H, I, .nil, h⟩
theorem pa_cons (ha : PE X e te) (hr : PA X es t) (hs : starEach (e :: es) X.env = (false, eval e X.env) :: starEach es X.env := by rfl) : PA X (e :: es) (tCons te t) := by
  intro pos pins s σ H Q I h
  rw [hs]
  show wpAny _ _ (spliced ((false, eval e X.env) :: backTo pos (starEach es X.env))) _ _ s
  refine Calls.spliced_cons (thn (ha pins s σ H _ I h) fun u s1 zq => ?_)
  obtain ⟨x, H1, I1, r1, q1⟩ := zq
  exact thn (hr pos pins s1 σ H1 _ I1 q1) fun us s2 ⟨xs, H2, I2, r2, q2⟩ => ⟨x :: xs, H2, I2, .cons r1 r2, q2⟩
def tLst (t : TA) : TE := fun σ H Q => t σ H fun xs H1 => xs.length ≤ sizeLine ∧ ∀ p, H1 p = none → Q (.ref p) (upd H1 p (.lst xs))
theorem pe_lst (h : PA X es t) : PE X (.List es pos) (tLst t) := by
  intro pins s σ H Q I hq
  refine wpAny_List_spliced (thn (h pos pins s σ H _ I hq) fun us s1 ⟨xs, H1, I1, r, z, q⟩ => ⟨by rw [← r.length]; exact z, ?_⟩)
  have hf : H1 s1.heap.objs.size = none := I1.hok.fresh (Nat.le_refl _)
  refine ⟨.ref s1.heap.objs.size, upd H1 s1.heap.objs.size (.lst xs), I1.laid (t' := s1.toks) (fun b u e => Heap.get?_push_of_some _ e) (Nat.le_refl _) ?_, rfl, q _ hf⟩
  exact ⟨z, us, 0, r, Heap.get?_push_size _ rfl⟩
end
abbrev Sp := List V → Hp → VK → XK → Prop
abbrev CXT := List Env → Hp → Shared → XK → Value → Shared → Prop
structure Env0 (P : Program) (w : World) (K : PySem.W.Frag) (mg : Str → Option Value) (base : Heap) (A : Around) (outer : List Env) (s : Shared) (H : Hp) : Prop where
  frames : A.frames = some outer
  mod : Mod K mg base
  bs : ∀ b o, base.get? b = some o → s.heap.get? b = some o ∧ H b = none
  bsz : base.objs.size ≤ s.heap.objs.size
  funs : s.heap.FunFrames base outer
  frf : ∀ b ∈ frs outer, H b = none
  hok : HOk P w H s.heap
  bare : AllBare s.gens
def CE (outer : List Env) (P : Program) (w : World) (H : Hp) (s : Shared) (Q : VK) (u : Value) (s' : Shared) : Prop :=
  ∃ v H', s'.os = s.os ∧ AllBare s'.gens ∧ Un (frs outer) [] H H' s.heap s'.heap ∧ HOk P w H' s'.heap ∧ RelV v u ∧ Q v H'
def CR (CX : CXT) (outer : List Env) (P : Program) (w : World) (H : Hp) (s : Shared) (Q : VK) (E : XK) (r : Result) (s' : Shared) : Prop :=
  match r with
  | .ok (.ret u) => CE outer P w H s Q u s'
  | .ok _ => False
  | .error e => CX outer H s E e s'
structure FnOk (P : Program) (w : World) (K : PySem.W.Frag) (mg : Str → Option Value) (base : Heap) (CX : CXT) (k : Nat) (f : Addr) (fd : FuncData) (ps : List Str) (sp : Sp) : Prop where
  len : ∀ vs H Q E, sp vs H Q E → vs.length = ps.length
  run : ∀ (A : Around) (outer : List Env) (s : Shared) (H : Hp) (args : Args) (us : List Value) (vs : List V) (Q : VK) (E : XK), Room k A → Env0 P w K mg base A outer s H → BindsTo s fd args (ps.zip us) → Vals vs us → sp vs H Q E →
    codeAny (model P w) A (.call (.ref f) args) (CR CX outer P w H s Q E) s
theorem Env0.make {P : Program} {w : World} {K : PySem.W.Frag} {mg : Str → Option Value} {base : Heap} {A : Around} {outer : List Env} {s : Shared} {H : Hp} (e : Env0 P w K mg base A outer s H) (C : Addr) (us : List Value) (kw : List (Str × Value)) :
    Env0 P w K mg base (A.under (.builtin "type.__call__" ⟨.ref C :: us, kw⟩)) outer s H := ⟨by first | exact e.frames | (simpa [Around.under, Code.envs, Code.isFrame, pushEnvs] using e.frames), e.mod, e.bs, e.bsz, e.funs, e.frf, e.hok, e.bare⟩
section
variable {X : Cx} {pins : List (Addr × Obj)} {σ : St} {H : Hp} {s s' : Shared}
theorem Inv.env0 (I : Inv X pins σ H s) : Env0 X.prog X.w X.K X.mg X.base X.A X.stack s H :=
  ⟨I.ok.frames, I.ok.mod, I.bs, Nat.le_trans I.ok.bsz I.sz, I.stack, I.stkFree, I.hok, I.bare⟩
theorem Inv.after {Q : VK} {u : Value} (I : Inv X pins σ H s) (h : CE X.stack X.prog X.w H s Q u s') : EP X pins σ Q u s' := by
  obtain ⟨v, H', os, bare, un, hok, r, q⟩ := h
  obtain ⟨hh, g, d, t, os'⟩ := s'
  obtain rfl : os' = s.os := os
  exact ⟨v, H', I.call (h' := hh) (g' := g) (d' := d) (t' := t) (ch := []) un hok bare (fun b z => absurd z (by simp)), r, q⟩
end
def tCall (sp : Sp) (dvs : List V) (E : XK) (t : TA) : TE := fun σ H Q => t σ H fun vs H1 => sp (vs ++ dvs) H1 Q E
def tMeth (C : Addr) (m : Str) (sp : Sp) (dvs : List V) (E : XK) (ta : TE) (t : TA) : TE := fun σ H Q => ta σ H fun x H1 => ∃ a dx fs, x = .ref a ∧ H1 a = some (.ins C dx fs) ∧ fs.lookup m = none ∧
  t σ H1 fun vs H2 => sp (x :: (vs ++ dvs)) H2 Q E
def tMake (C : Addr) (sp : Sp) (dvs : List V) (E : XK) (t : TA) : TE := fun σ H Q => t σ H fun vs H1 => ∀ x dx, H1 x = none → H1 dx = none → dx ≠ x →
  sp (.ref x :: (vs ++ dvs)) (upd (upd H1 dx (.own x)) x (.ins C dx [])) (fun v H2 => v = .non ∧ Q (.ref x) H2) E
def Binds (K : PySem.W.Frag) (fd : FuncData) (ps : List Str) (ds : List Value) : Prop :=
  ∀ (s : Shared) (us : List Value), K.In s.heap → (us ++ ds).length = ps.length → BindsTo s fd ⟨us, []⟩ (ps.zip (us ++ ds))
theorem Binds.all {K : PySem.W.Frag} {fd : FuncData} {ps : List Str} (h : ∀ us : List Value, us.length = ps.length → bindArgs fd ⟨us, []⟩ = pure (ps.zip us)) : Binds K fd ps [] := fun s us _ hl => by
  rw [List.append_nil] at hl ⊢
  exact .of_eq (h us hl)
def Passes (CX : CXT) (X : Cx) (E : XK) : Prop := ∀ (pins : List (Addr × Obj)) (σ : St) (H : Hp) (s : Shared) (e : Value) (s' : Shared), Inv X pins σ H s → CX X.stack H s E e s' → X.xe e s'
section
variable {X : Cx} {CX : CXT} {k : Nat} {f C : Addr} {fd : FuncData} {ps : List Str} {sp : Sp} {dvs : List V} {ds : List Value} {E : XK} {x m : Str} {p pos apos : Pos} {e o : Expr} {es : List Expr} {ta : TE} {t : TA}
theorem run_fn {pins : List (Addr × Obj)} {σ : St} {H : Hp} {s : Shared} {Q : VK} {us : List Value} {vs : List V} (F : FnOk X.prog X.w X.K X.mg X.base CX k f fd ps sp) (hr : Room k X.A) (hb : Binds X.K fd ps ds) (hd : Vals dvs ds) (hx : Passes CX X E)
    (I : Inv X pins σ H s) (r : Vals vs us) (h : sp (vs ++ dvs) H Q E) : wpAny (model X.prog X.w) X.A (call (.ref f) us) (EP X pins σ Q) X.xe s := by
  have r2 : Vals (vs ++ dvs) (us ++ ds) := r.append hd
  have hl : (us ++ ds).length = ps.length := by rw [← r2.length]; exact F.len _ _ _ _ h
  refine wpAny_call (codeAny_mono (F.run X.A X.stack s H ⟨us, []⟩ (us ++ ds) (vs ++ dvs) Q E hr I.env0 (hb s us I.kIn hl) r2 h) fun r s' hq => ?_)
  cases r with
  | error e => exact hx pins σ H s e s' I hq
  | ok fl =>
    cases fl with
    | ret u => exact I.after hq
    | next => exact False.elim hq
    | brk => exact False.elim hq
    | cont => exact False.elim hq
theorem pe_call (F : FnOk X.prog X.w X.K X.mg X.base CX k f fd ps sp) (hr : Room k X.A) (hg : Gl X x) (hm : X.mg x = some (.ref f)) (hk : PySem.W.keepIn X.K (.ref f) = true) (hb : Binds X.K fd ps ds) (hd : Vals dvs ds) (hx : Passes CX X E)
    (ha : PA X (e :: es) t) (hdb : (x == ("__debug__" : Str)) = false := by decide) (he : starEach (e :: es) X.env = (false, eval e X.env) :: starEach es X.env := by rfl) (hpl : (backTo pos (starEach es X.env)).any (·.1) = false := by rfl) :
    PE X (.Call (.Name x p) (e :: es) [] pos) (tCall sp dvs E t) := by
  intro pins s σ H Q I h
  refine wpAny_Call_Name_kw (ld_glob I hg hm ?_ hdb)
  refine PySem.W.callWith_K (h₀ := X.base) I.ok.mod.kin hk (thn (ha pos pins s σ H _ I h) fun us s1 ⟨vs, H1, I1, r, q⟩ => ⟨I1.kIn, ?_⟩) he hpl
  exact run_fn F hr hb hd hx I1 r q
theorem pe_meth {pl : Sem Bool} (he : PE X o ta) (c : Cls X.K C) (hm : Meth X.K C m f) (F : FnOk X.prog X.w X.K X.mg X.base CX k f fd ps sp) (hr : Room k X.A) (hb : Binds X.K fd ps ds) (hd : Vals dvs ds) (hx : Passes CX X E) (ha : PA X (e :: es) t)
    (hst : starEach (e :: es) X.env = (false, eval e X.env) :: starEach es X.env := by rfl) (hpl : (backTo pos (starEach es X.env)).any (·.1) = false := by rfl)
    (ht : eval (.Call (.Attribute o m apos) (e :: es) [] pos) X.env = (do
      let ov ← eval o X.env
      standAt apos.atName
      let (f, first) ← holding [ov] (getMethod ov m pl)
      callWith pos f first (backTo pos (starEach (e :: es) X.env)) (backToKw pos (keywordEach [] X.env))) := by rfl) :
    PE X (.Call (.Attribute o m apos) (e :: es) [] pos) (tMeth C m sp dvs E ta t) := by
  intro pins s σ H Q I h
  refine PySem.W.methodCall_KW (pl := pl) (thn (he pins s σ H _ I h) fun u s1 zq => ?_) ht
  obtain ⟨x, H1, I1, rx, a, dx, fs, ex, ea, l, q⟩ := zq
  subst ex
  obtain rfl : u = Value.ref a := rx
  refine getmeth_ok I1 ea c hm l ?_
  refine PySem.W.callWith_K (first := [.ref a]) (h₀ := X.base) I.ok.mod.kin hm.kp (thn (ha pos pins s1 σ H1 _ I1 q) fun us s2 ⟨vs, H2, I2, r, q2⟩ => ⟨I2.kIn, ?_⟩) hst hpl
  exact run_fn (us := .ref a :: us) (vs := .ref a :: vs) F hr hb hd hx I2 (.cons rfl r) q2
theorem pe_meth0 {pl : Sem Bool} (he : PE X o ta) (c : Cls X.K C) (hm : Meth X.K C m f) (F : FnOk X.prog X.w X.K X.mg X.base CX k f fd ps sp) (hr : Room k X.A) (hb : Binds X.K fd ps ds) (hd : Vals dvs ds) (hx : Passes CX X E)
    (ht : eval (.Call (.Attribute o m apos) [] [] pos) X.env = (do
      let ov ← eval o X.env
      standAt apos.atName
      let (f, first) ← holding [ov] (getMethod ov m pl)
      callWith pos f first (backTo pos (starEach [] X.env)) (backToKw pos (keywordEach [] X.env))) := by rfl) :
    PE X (.Call (.Attribute o m apos) [] [] pos) (tMeth C m sp dvs E ta tNil) := by
  intro pins s σ H Q I h
  refine PySem.W.methodCall_KW (pl := pl) (thn (he pins s σ H _ I h) fun u s1 zq => ?_) ht
  obtain ⟨x, H1, I1, rx, a, dx, fs, ex, ea, l, q⟩ := zq
  subst ex
  obtain rfl : u = Value.ref a := rx
  refine getmeth_ok I1 ea c hm l ?_
  exact PySem.W.callWith_K0 (first := [.ref a]) I1.kIn hm.kp (run_fn (us := [.ref a]) (vs := [.ref a]) F hr hb hd hx I1 (.cons rfl .nil) q)
structure Mk (K : PySem.W.Frag) (C f : Addr) : Prop where
  makes : PySem.W.makesIn K C = true
  init : PySem.W.findIn K (.ref C) "__init__" = some (some (.ref f))
  fn : PySem.W.isFn K (.ref f) = true
  kp : PySem.W.keepIn K (.ref C) = true
theorem run_make {pins : List (Addr × Obj)} {σ : St} {H : Hp} {s : Shared} {Q : VK} {us : List Value} {vs : List V} (M : Mk X.K C f) (F : FnOk X.prog X.w X.K X.mg X.base CX k f fd ps sp) (hr : Room (k + 1) X.A) (hb : Binds X.K fd ps ds) (hd : Vals dvs ds)
    (hx : Passes CX X E) (I : Inv X pins σ H s) (r : Vals vs us)
    (h : ∀ x dx, H x = none → H dx = none → dx ≠ x → sp (.ref x :: (vs ++ dvs)) (upd (upd H dx (.own x)) x (.ins C dx [])) (fun v H2 => v = .non ∧ Q (.ref x) H2) E) :
    wpAny (model X.prog X.w) X.A (call (.ref C) us) (EP X pins σ Q) X.xe s := by
  have hq := h (s.heap.objs.size + 1) s.heap.objs.size (I.hok.fresh (Nat.le_succ _)) (I.hok.fresh (Nat.le_refl _)) (Nat.ne_of_lt (Nat.lt_succ_self _))
  have I2 := Inv.made (C := C) I
  have r2 : Vals (V.ref (s.heap.objs.size + 1) :: (vs ++ dvs)) (Value.ref (s.heap.objs.size + 1) :: (us ++ ds)) := .cons rfl (r.append hd)
  have hl : (Value.ref (s.heap.objs.size + 1) :: us ++ ds).length = ps.length := by
    have e := r2.length
    rw [F.len _ _ _ _ hq] at e
    exact e.symm
  refine wpAny_call (make_map (f := f) I.kIn M.makes M.init (beq_iff_eq.mp M.fn) (codeAny_mono (F.run _ X.stack _ _ ⟨Value.ref (s.heap.objs.size + 1) :: us, []⟩ (Value.ref (s.heap.objs.size + 1) :: (us ++ ds)) _ _ E (hr.make C us [])
    (I2.env0.make C us []) (hb _ (Value.ref (s.heap.objs.size + 1) :: us) I2.kIn hl) r2 hq) fun r s' hq' => ?_))
  cases r with
  | error e => exact hx pins σ _ _ e s' I2 hq'
  | ok fl =>
    cases fl with
    | ret u =>
      obtain ⟨v, H', I3, rv, ev, q3⟩ := I2.after hq'
      subst ev
      exact ⟨rv, ⟨V.ref (s.heap.objs.size + 1), H', I3, rfl, q3⟩⟩
    | next => exact False.elim hq'
    | brk => exact False.elim hq'
    | cont => exact False.elim hq'
theorem pe_make (M : Mk X.K C f) (F : FnOk X.prog X.w X.K X.mg X.base CX k f fd ps sp) (hr : Room (k + 1) X.A) (hg : Gl X x) (hm : X.mg x = some (.ref C)) (hb : Binds X.K fd ps ds) (hd : Vals dvs ds) (hx : Passes CX X E)
    (ha : PA X (e :: es) t) (hdb : (x == ("__debug__" : Str)) = false := by decide) (he : starEach (e :: es) X.env = (false, eval e X.env) :: starEach es X.env := by rfl) (hpl : (backTo pos (starEach es X.env)).any (·.1) = false := by rfl) :
    PE X (.Call (.Name x p) (e :: es) [] pos) (tMake C sp dvs E t) := by
  intro pins s σ H Q I h
  refine wpAny_Call_Name_kw (ld_glob I hg hm ?_ hdb)
  refine PySem.W.callWith_K (h₀ := X.base) I.ok.mod.kin M.kp (thn (ha pos pins s σ H _ I h) fun us s1 ⟨vs, H1, I1, r, q⟩ => ⟨I1.kIn, ?_⟩) he hpl
  exact run_make M F hr hb hd hx I1 r q
end
section
variable {X : Cx} {CX : CXT} {k : Nat} {f C : Addr} {fd : FuncData} {ps ks : List Str} {sp : Sp} {E : XK} {x m : Str} {p pos apos kpos : Pos} {e o : Expr} {es : List Expr} {kws : List Keyword} {te ta : TE} {t tk : TA} {nm : Option Str}
variable {g : List Value → List Value → List Value} {gV : List V → List V → List V}
end
structure FnScope (N P : List Str) (sc : Scope) : Prop where
  kind : sc.kind = .function
  co : sc.isCoroutine = false
  gen : sc.isGenerator = false
  nd : N.Nodup
  pre : N.take P.length = P
  par : ∀ x ∈ P, sc.names.lookup x = some .local ∨ sc.names.lookup x = some .cell
  nofree : ∀ y ∈ sc.names, y.2 ≠ .free
theorem bindL_out {kindOf : Str → Option NameKind} {x : Str} : ∀ {binds : List (Str × Value)} {m : Str → Option Value}, (∀ v, (x, v) ∉ binds) → bindL kindOf binds m x = m x
  | [], _, _ => rfl
  | (n, v) :: r, m, h => by
    unfold bindL
    rw [bindL_out fun w hw => h w (List.mem_cons_of_mem _ hw)]
    split
    · have : x ≠ n := by rintro rfl; exact h v List.mem_cons_self
      simp [this]
    · rfl
theorem bindC_out {kindOf : Str → Option NameKind} {x : Str} : ∀ {binds : List (Str × Value)} {m : Str → Option Value}, (∀ v, (x, v) ∉ binds) → bindC kindOf binds m x = m x
  | [], _, _ => rfl
  | (n, v) :: r, m, h => by
    unfold bindC
    rw [bindC_out fun w hw => h w (List.mem_cons_of_mem _ hw)]
    split
    · rfl
    · have : x ≠ n := by rintro rfl; exact h v List.mem_cons_self
      simp [this]
theorem bindL_get {kindOf : Str → Option NameKind} {x : Str} {v : Value} : ∀ {P : List Str} {vs : List Value} {i : Nat} {m : Str → Option Value}, P.Nodup → P[i]? = some x → vs[i]? = some v → kindOf x = some .local →
    bindL kindOf (P.zip vs) m x = some v
  | [], _, _, _, _, h, _, _ => by simp at h
  | _ :: _, [], _, _, _, _, h, _ => by simp at h
  | p :: P, w :: vs, 0, m, nd, h1, h2, hk => by
    simp at h1 h2; subst h1; subst h2
    show bindL kindOf ((p, w) :: P.zip vs) m p = _
    unfold bindL
    rw [bindL_out fun v hv => (List.nodup_cons.mp nd).1 (List.of_mem_zip hv).1, if_pos hk]
    simp
  | p :: P, w :: vs, i + 1, m, nd, h1, h2, hk => by
    show bindL kindOf ((p, w) :: P.zip vs) m x = _
    unfold bindL
    exact bindL_get (i := i) (List.nodup_cons.mp nd).2 (by simpa using h1) (by simpa using h2) hk
theorem bindC_get {kindOf : Str → Option NameKind} {x : Str} {v : Value} : ∀ {P : List Str} {vs : List Value} {i : Nat} {m : Str → Option Value}, P.Nodup → P[i]? = some x → vs[i]? = some v → kindOf x ≠ some .local →
    bindC kindOf (P.zip vs) m x = some v
  | [], _, _, _, _, h, _, _ => by simp at h
  | _ :: _, [], _, _, _, _, h, _ => by simp at h
  | p :: P, w :: vs, 0, m, nd, h1, h2, hk => by
    simp at h1 h2; subst h1; subst h2
    show bindC kindOf ((p, w) :: P.zip vs) m p = _
    unfold bindC
    rw [bindC_out fun v hv => (List.nodup_cons.mp nd).1 (List.of_mem_zip hv).1, if_neg hk]
    simp
  | p :: P, w :: vs, i + 1, m, nd, h1, h2, hk => by
    show bindC kindOf ((p, w) :: P.zip vs) m x = _
    unfold bindC
    exact bindC_get (i := i) (List.nodup_cons.mp nd).2 (by simpa using h1) (by simpa using h2) hk
def start (N : List Str) (vs : List V) : St := vs.map some ++ List.replicate (N.length - vs.length) none
def cxOf (CX : CXT) (P : Program) (w : World) (K : PySem.W.Frag) (mg : Str → Option Value) (base : Heap) (N : List Str) (qual : Str) (scope : Scope) (f : Addr) (cd : Value) (A : Around) (outer : List Env) (s : Shared) (H : Hp) (E : XK) : Cx where
  prog := P
  w := w
  K := K
  mg := mg
  base := base
  A := A.deeper (envOfC qual scope s.heap.objs.size f cd)
  N := N
  s₀ := s
  H₀ := H
  env := envOfC qual scope s.heap.objs.size f cd
  outer := outer
  stack := envOfC qual scope s.heap.objs.size f cd :: outer
  ex := []
  calm := true
  fn := fun _ => true
  pn := []
  xe := fun e s' => wpAny (model P w) (A.deeper (envOfC qual scope s.heap.objs.size f cd)) (leaving (envOfC qual scope s.heap.objs.size f cd) e) (fun _ s'' => CX outer H s E e s'') (fun e' s'' => CX outer H s E e' s'') s'
theorem cell_has {sc : Scope} {n : Nat} {x : Str} (h : sc.names.lookup x = some .cell) : ∃ c, (cellsFrom n sc.names []).lookup x = some c := by
  have q := PySem.W.cellsFrom_some sc.names n [] (.inl h)
  exact Option.isSome_iff_exists.mp q
theorem inv_start {CX : CXT} {P : Program} {w : World} {K : PySem.W.Frag} {mg : Str → Option Value} {base : Heap} {N ps : List Str} {qual : Str} {scope : Scope} {f : Addr} {cd : Value} {A : Around} {outer : List Env} {s s1 : Shared} {H : Hp} {E : XK} {us : List Value} {vs : List V}
    (S : FnScope N ps scope) (hd : A.handled = none) (e0 : Env0 P w K mg base A outer s H) (hl : vs.length = ps.length) (r : Vals vs us)
    (x : InCallC s s.heap.objs.size (bindL (envOfC qual scope s.heap.objs.size f cd).kindOf (ps.zip us) fun _ => none) (cellsFrom (s.heap.objs.size + 1) scope.names []) (bindC (envOfC qual scope s.heap.objs.size f cd).kindOf (ps.zip us) fun _ => none) s1) :
    Inv (cxOf CX P w K mg base N qual scope f cd A outer s H E) [] (start N vs) H s1 := by
  have hpl : ps.length ≤ N.length := by have := congrArg List.length S.pre; rw [List.length_take] at this; omega
  obtain ⟨h1, tk, rfl, hk⟩ := x.done
  have noA : ∀ b : Addr, b ∉ (cxOf CX P w K mg base N qual scope f cd A outer s H E).ex := fun b z => absurd (show b ∈ ([] : List Addr) from z) (by simp)
  refine ⟨⟨e0.mod, S.kind, rfl, rfl, Nat.le_refl _, fun y z c h1 h2 => ?_, fun y hy => ?_, fun y c _ h => ?_, fun _ => hd, Around.frames_deeper e0.frames, .inr ⟨rfl, rfl⟩, fun b z => absurd z (noA b), e0.bs, e0.bsz, fun b _ _ => noA b, fun b z => absurd z (noA b), e0.funs, e0.frf⟩,
    rfl, e0.bare, Un.kept hk, ⟨_, x.toInCall.ns, fun i y v h1 h2 h3 => ?_⟩, fun y c h => ⟨_, x.cell y c h⟩, e0.hok.fresh (Nat.le_refl _), fun y c h => ?_, fun p hp => absurd (show p ∈ ([] : List (Addr × Obj)) from hp) (by simp), e0.hok.kept hk, ?_⟩
  · exact name_of_addr x.apart (PySem.mem_of_lookup h1) (PySem.mem_of_lookup h2)
  · have hy : scope.names.lookup y = some .cell ∨ scope.names.lookup y = some .free := hy
    rcases hy with hy | hy
    · exact cell_has hy
    · exact absurd rfl (S.nofree _ (PySem.mem_of_lookup hy))
  · exact Nat.le_of_lt (x.above y c (PySem.mem_of_lookup h))
  · have hi : i < vs.length := by
      unfold start at h2
      by_cases hi : i < vs.length
      · exact hi
      · rw [List.getElem?_append_right (by simpa using hi)] at h2
        rw [List.getElem?_replicate] at h2
        split at h2 <;> cases h2
    have ha : vs[i]? = some v := by
      unfold start at h2
      rw [List.getElem?_append_left (by simpa using hi), List.getElem?_map] at h2
      cases e : vs[i]? with
      | none => rw [e] at h2; cases h2
      | some a => rw [e] at h2; cases h2; rfl
    obtain ⟨u, hu, rv⟩ := r.get ha
    have hp : ps[i]? = some y := by
      rw [← S.pre, List.getElem?_take_of_lt (by omega)]; exact h1
    have ndP : ps.Nodup := by rw [← S.pre]; exact S.nd.sublist (List.take_sublist _ _)
    refine ⟨u, rv, ?_⟩
    rcases S.par y (List.mem_of_getElem? hp) with k | k
    · exact .inl ⟨k, bindL_get ndP hp hu k⟩
    · obtain ⟨c, e⟩ := cell_has (n := s.heap.objs.size + 1) k
      refine .inr ⟨.inl k, c, e, ?_⟩
      have q := x.cell y c e
      rw [bindC_get ndP hp hu (by show scope.names.lookup y ≠ _; rw [k]; decide)] at q
      exact q
  · exact e0.hok.fresh (Nat.le_of_lt (x.above y c (PySem.mem_of_lookup h)))
  · unfold start
    show _ = N.length
    rw [List.length_append, List.length_map, List.length_replicate]
    omega
theorem fn_of {CX : CXT} {P : Program} {w : World} {K : PySem.W.Frag} {mg : Str → Option Value} {base : Heap} {k : Nat} {f : Addr} {name qual : Str} {params : Arguments} {body : List Stmt} {scope : Scope} {dV kV doc pm cdv ct oc : Value} {an od : Option Addr}
    {osl : Array (Option Value)} {N ps : List Str} {sp : Sp} (lk : K.lookup f = some ⟨oc, od, .func (PySem.W.fnOf name qual params body scope dV kV doc pm an cdv ct), osl⟩) (hcd : PySem.W.codeIn K cdv qual = true) (S : FnScope N ps scope)
    (len : ∀ vs H Q E, sp vs H Q E → vs.length = ps.length)
    (hbody : ∀ (A : Around) (outer : List Env) (s : Shared) (H : Hp) (vs : List V) (Q : VK) (E : XK), Room k (A.deeper (envOfC qual scope s.heap.objs.size f cdv)) → sp vs H Q E →
      ∃ t, PSs (cxOf CX P w K mg base N qual scope f cdv A outer s H E) body t ∧ t { nx := fun _ H' => Q .non H', rt := Q } (start N vs) H) :
    FnOk P w K mg base CX (k + 1) f (PySem.W.fnOf name qual params body scope dV kV doc pm an cdv ct) ps sp := by
  refine ⟨len, fun A outer s H args us vs Q E hr e0 hb r hsp => ?_⟩
  have hl := len _ _ _ _ hsp
  have KX : K.In s.heap := e0.mod.kin.keeps fun b o e => (e0.bs b o e).1
  have lim : s.heap.NoLimit := e0.mod.nolimit.keeps fun b o e => (e0.bs b o e).1
  have hkind : ∀ y ∈ ps.zip us, scope.names.lookup y.1 = some .local ∨ (scope.names.lookup y.1 = some .cell ∧ ((cellsFrom (s.heap.objs.size + 1) scope.names []).lookup y.1).isSome = true) := fun ⟨n, v⟩ hy => by
    rcases S.par n (List.of_mem_zip hy).1 with q | q
    · exact .inl q
    · exact .inr ⟨q, PySem.W.cellsFrom_some _ _ _ (.inl q)⟩
  refine codeAny_call_function hr.depth (KX _ _ lk) rfl S.co S.gen rfl (PySem.W.codeRec_of KX hcd) (hb _ _ _ _ ?_)
  refine wpAny_newFunctionEnv_cells S.kind hkind fun env he s1 x => ?_
  subst he
  refine ⟨lim.keeps x.toInCall.keep, codeAny_func ?_⟩
  obtain ⟨t, ht, hq⟩ := hbody A outer s H vs Q E (hr.deeper _) hsp
  have I : Inv (cxOf CX P w K mg base N qual scope f cdv A outer s H E) [] (start N vs) H s1 := inv_start S hr.hd e0 hl r x
  refine wpAny_mono (ht [] s1 (start N vs) H _ I hq) (fun fl s' hs => ?_) fun e s' hs => hs
  have fin : ∀ {σ' : St} {H' : Hp} {v : V} {u : Value}, Inv (cxOf CX P w K mg base N qual scope f cdv A outer s H E) [] σ' H' s' → RelV v u → Q v H' → CE outer P w H s Q u s' :=
    fun {σ' H' v u} J rv q => ⟨v, H', J.os, J.bare, J.base, J.hok, rv, q⟩
  cases fl with
  | ret u =>
    obtain ⟨v, σ', H', J, rv, q⟩ := hs
    exact fin J rv q
  | next =>
    obtain ⟨σ', H', J, q⟩ := hs
    exact fin (v := V.non) (u := Value.none) J rfl q
  | brk =>
    obtain ⟨_, _, _, q⟩ := hs
    exact False.elim q
  | cont =>
    obtain ⟨_, _, _, q⟩ := hs
    exact False.elim q
end L2
namespace L2
open PySem PySem.Spec PyProof.Rows
section
variable {X : Cx} {x : Str} {p pos : Pos} {e : Expr} {es : List Expr} {t : TA} {id T : String} {r : List V → Hp → VK → Prop}
def tCB (r : List V → Hp → VK → Prop) (t : TA) : TE := fun σ H Q => t σ H fun vs H1 => r vs H1 Q
theorem pe_callB (hc : CallR X (.builtin id) r) (hg : Gl X x) (hm : X.mg x = none) (hv : bootBuiltins x = some (.builtin id)) (ha : PA X (e :: es) t) (hn : x ≠ "__name__" := by decide) (hdb : (x == ("__debug__" : Str)) = false := by decide)
    (he : starEach (e :: es) X.env = (false, eval e X.env) :: starEach es X.env := by rfl) (hpl : (backTo pos (starEach es X.env)).any (·.1) = false := by rfl) : PE X (.Call (.Name x p) (e :: es) [] pos) (tCB r t) := by
  intro pins s σ H Q I h
  refine wpAny_Call_Name_kw (ld_blt I hg hm hv ?_ hn hdb)
  exact PyProof.Rows.callWith_builtin1 (thn (ha pos pins s σ H _ I h) fun us s1 ⟨vs, H1, I1, r1, q1⟩ => hc pins s1 σ H1 vs us Q I1 r1 q1) he hpl
theorem pe_callTy (hc : CallR X (.type T) r) (hg : Gl X x) (hm : X.mg x = none) (hv : bootBuiltins x = some (.type T)) (ha : PA X (e :: es) t) (hn : x ≠ "__name__" := by decide) (hdb : (x == ("__debug__" : Str)) = false := by decide)
    (he : starEach (e :: es) X.env = (false, eval e X.env) :: starEach es X.env := by rfl) (hpl : (backTo pos (starEach es X.env)).any (·.1) = false := by rfl) : PE X (.Call (.Name x p) (e :: es) [] pos) (tCB r t) := by
  intro pins s σ H Q I h
  refine wpAny_Call_Name_kw (ld_blt I hg hm hv ?_ hn hdb)
  exact PyProof.Rows.callWith_type1 (thn (ha pos pins s σ H _ I h) fun us s1 ⟨vs, H1, I1, r1, q1⟩ => hc pins s1 σ H1 vs us Q I1 r1 q1) he hpl
end
end L2
namespace HT
open PySem PyProof.Rows
section
open PySem.SeqAt
open PySem.AutoSeq1 (wpAny_loadPart')
open PySem.MeetsSeq PySem.MeetsSeq2 PySem.MeetsSeq3
end
section
variable {prog : Program} {w : World} {A : Around} {E : Value → Shared → Prop} {s : Shared}
def sIx (n d : Nat) : Option Int → Nat
  | none => d
  | some v => if v < 0 then (v + (n : Int)).toNat else min v.toNat n
end
end HT
namespace L2
open PySem PySem.Spec PyProof.Rows
abbrev TO := St → Hp → (Option Int → Hp → Prop) → Prop
def PO (X : Cx) (e : Option Expr) (t : TO) : Prop :=
  ∀ (pins : List (Addr × Obj)) (s : Shared) (σ : St) (H : Hp) (Q : Option Int → Hp → Prop), Inv X pins σ H s → t σ H Q →
    wpAny (model X.prog X.w) X.A (evalPart e X.env) (fun u s' => ∃ o H', Inv X pins σ H' s' ∧ IsPart u o ∧ Q o H') X.xe s
def tNoPart : TO := fun _ H Q => Q none H
def tPart (t : TE) : TO := fun σ H Q => t σ H fun x H1 => ∃ i, x = .int i ∧ Q (some i) H1
theorem intsAre_of {ns : List Int} : ∀ {us : List Value}, Vals (ns.map V.int) us → IntsAre us ns := by
  induction ns with
  | nil => intro us r; rw [List.map_nil] at r; cases r; exact .nil
  | cons n ns ih =>
    intro us r
    rw [List.map_cons] at r
    cases r with
    | cons r1 r2 =>
      obtain ⟨t, e⟩ := r1
      subst e
      exact .cons n t (ih r2)
section
variable {X : Cx} {e : Expr} {te : TE} {lo hi : Option Expr} {tl th : TO} {pos p2 : Pos}
theorem po_none : PO X none tNoPart := by
  intro pins s σ H Q I h
  rw [evalPart_none]
  exact wpAny_pure ⟨none, H, I, .none, h⟩
theorem po_some (h : PE X e te) : PO X (some e) (tPart te) := by
  intro pins s σ H Q I hw
  rw [evalPart_some]
  refine thn (h pins s σ H _ I hw) fun u s1 zq => ?_
  obtain ⟨x, H1, I1, r1, q1⟩ := zq
  obtain ⟨i, rfl, q⟩ := q1
  obtain ⟨t, rfl⟩ := r1
  exact ⟨some i, H1, I1, .int i t, q⟩
def SlR (X : Cx) (r : V → Option Int → Option Int → Hp → VK → Prop) : Prop :=
  ∀ (pins : List (Addr × Obj)) (s : Shared) (σ : St) (H : Hp) (x : V) (v vl vu : Value) (lo hi : Option Int) (sl : Addr) (Q : VK), Inv X pins σ H s → RelV x v → s.heap.IsSliceOf sl vl vu .none → IsPart vl lo → IsPart vu hi → r x lo hi H Q →
    ∃ T id, typeLookup (.type T) "__getitem__" = pure (some (.builtin id)) ∧ s.TypeIs v T ∧ wpAny (model X.prog X.w) X.A (getItem v (.ref sl)) (EP X pins σ Q) X.xe s
def tSl (r : V → Option Int → Option Int → Hp → VK → Prop) (te : TE) (tl th : TO) : TE := fun σ H Q => te σ H fun x H1 => tl σ H1 fun l H2 => th σ H2 fun u H3 => r x l u H3 Q
theorem pe_slice {r : V → Option Int → Option Int → Hp → VK → Prop} (hr : SlR X r) (he : PE X e te) (hl : PO X lo tl) (hu : PO X hi th) : PE X (.Subscript e (.Slice lo hi none p2) pos) (tSl r te tl th) := by
  intro pins s σ H Q I h
  refine Subscript_ (thn (he pins s σ H _ I h) fun v s1 zq => ?_)
  obtain ⟨x, H1, I1, r1, q1⟩ := zq
  refine wpAny_Slice (thn (hl pins s1 σ H1 _ I1 q1) fun vl s2 ⟨l, H2, I2, pl, q2⟩ => thn (hu pins s2 σ H2 _ I2 q2) fun vu s3 zq => ?_)
  obtain ⟨u, H3, I3, pu, q3⟩ := zq
  rw [evalPart_none]
  refine wpAny_pure ?_
  have I4 : Inv X pins σ H3 { s3 with heap := s3.heap.push { cls := .type "slice", data := .fields #[vl, vu, .none] } } := I3.kept (t' := s3.toks) fun b ob q => Heap.get?_push_of_some _ q
  obtain ⟨T, id, hT, ht, hg⟩ := hr pins { s3 with heap := s3.heap.push { cls := .type "slice", data := .fields #[vl, vu, .none] } } σ H3 x v vl vu l u s3.heap.objs.size Q I4 r1 (Heap.IsSliceOf.new ..) pl pu q3
  show wpAny (model X.prog X.w) X.A (subscriptTail e (.Slice lo hi none p2) v (.ref s3.heap.objs.size)) (EP X pins σ Q) X.xe { s3 with heap := s3.heap.push { cls := .type "slice", data := .fields #[vl, vu, .none] } }
  exact tail_any (ops := [.ref s3.heap.objs.size, v]) ht hT hg (by with_unfolding_all rfl)
def cutV (xs : List V) (lo hi : Option Int) : List V := (xs.drop (HT.sIx xs.length 0 lo)).take (HT.sIx xs.length xs.length hi - HT.sIx xs.length 0 lo)
theorem cutV_length (xs : List V) (lo hi : Option Int) : (cutV xs lo hi).length ≤ xs.length := by
  unfold cutV
  rw [List.length_take, List.length_drop]
  omega
end
end L2
namespace L2
open PySem PySem.Spec PyProof.Rows
def ixN (n : Nat) (i : Int) : Option Nat := if 0 ≤ i then (if i < n then some i.toNat else none) else if -(n : Int) ≤ i then some (i + n).toNat else none
def atI {α : Type} (xs : List α) (i : Int) : Option α := (ixN xs.length i).bind fun j => xs[j]?
theorem ixN_seq {n : Nat} {i : Int} {j : Nat} (h : ixN n i = some j) : seqIndex? i n = some j ∧ j < n ∧ -(n : Int) ≤ i ∧ i < n := by
  unfold ixN at h
  by_cases h0 : 0 ≤ i
  · rw [if_pos h0] at h
    by_cases h1 : i < n
    · rw [if_pos h1] at h
      have e : i.toNat = j := Option.some.inj h
      exact ⟨by rw [seqIndex_of h0 h1, e], by omega, by omega, h1⟩
    · rw [if_neg h1] at h; cases h
  · rw [if_neg h0] at h
    by_cases h1 : -(n : Int) ≤ i
    · rw [if_pos h1] at h
      have e : (i + n).toNat = j := Option.some.inj h
      exact ⟨by rw [seqIndex_neg (by omega) h1, e], by omega, h1, by omega⟩
    · rw [if_neg h1] at h; cases h
theorem atI_get {α : Type} {xs : List α} {i : Int} {v : α} (h : atI xs i = some v) : ∃ j, seqIndex? i xs.length = some j ∧ xs[j]? = some v ∧ j < xs.length ∧ -(xs.length : Int) ≤ i ∧ i < xs.length := by
  unfold atI at h
  cases e : ixN xs.length i with
  | none => rw [e] at h; cases h
  | some j =>
    rw [e] at h
    obtain ⟨h1, h2, h3, h4⟩ := ixN_seq e
    exact ⟨j, h1, h, h2, h3, h4⟩
theorem atI_nat {α : Type} {xs : List α} {j : Nat} {v : α} (h : xs[j]? = some v) : atI xs (j : Int) = some v := by
  have hj : j < xs.length := (List.getElem?_eq_some_iff.mp h).1
  have e : ixN xs.length (j : Int) = some j := by
    unfold ixN
    rw [if_pos (by omega), if_pos (by omega)]; simp
  unfold atI; rw [e]; exact h
def PlainIx (b : Expr) : Prop := ∀ o i, subscripted b false o i = operate [o, i] (getItem o i)
def IxR (X : Cx) (r : R2) : Prop :=
  ∀ (value slice : Expr) (pins : List (Addr × Obj)) (s : Shared) (σ : St) (H : Hp) (x y : V) (v u : Value) (Q : VK), Inv X pins σ H s → RelV x v → RelV y u → r x y H Q →
    subscripted slice false v u = operate [v, u] (getItem v u) → wpAny (model X.prog X.w) X.A (subscriptTail value slice v u) (EP X pins σ Q) X.xe s
def MtR (X : Cx) (id : String) (r : V → List V → Hp → VK → Prop) : Prop :=
  ∀ (pins : List (Addr × Obj)) (s : Shared) (σ : St) (H : Hp) (x : V) (xs : List V) (v : Value) (us : List Value) (Q : VK), Inv X pins σ H s → RelV x v → Vals xs us → r x xs H Q →
    wpAny (model X.prog X.w) X.A (call (.builtin id) (v :: us)) (EP X pins σ Q) X.xe s
section
variable {X : Cx} {a b : Expr} {ta tb : TE} {pos : Pos}
theorem IxR.or {r r' : R2} (h : IxR X r) (h' : IxR X r') : IxR X (fun x y H Q => r x y H Q ∨ r' x y H Q) := by
  intro value slice pins s σ H x y v u Q I rx ry q hs
  rcases q with q | q
  · exact h value slice pins s σ H x y v u Q I rx ry q hs
  · exact h' value slice pins s σ H x y v u Q I rx ry q hs
theorem pe_ix {r : R2} (hr : IxR X r) (ha : PE X a ta) (hb : PE X b tb) (hs : PlainIx b) : PE X (.Subscript a b pos) (tOp r ta tb) := by
  intro pins s σ H Q I h
  exact Subscript_ (binT ha hb I h fun v u s2 x y H2 I2 rx ry q => hr a b pins s2 σ H2 x y v u Q I2 rx ry q (hs _ _))
def rIxL (K : PySem.W.Frag) : R2 := fun x y H Q => ∃ p xs i v, x = .ref p ∧ y = .int i ∧ SqL K H p xs ∧ atI xs i = some v ∧ Q v H
def rIxT (K : PySem.W.Frag) : R2 := fun x y H Q => ∃ p xs i v, x = .ref p ∧ y = .int i ∧ SqT K H p xs ∧ atI xs i = some v ∧ Q v H
def rIxS : R2 := fun x y H Q => ∃ z i c, x = .str z ∧ y = .int i ∧ z.length ≤ sizeLine ∧ atI z.cps.toList i = some c ∧ Q (.str ⟨#[c]⟩) H
theorem ix_list : IxR X (rIxL X.K) := by
  intro value slice pins s σ H x y v u Q I rx ry h hs
  obtain ⟨p, xs, i, z, rfl, rfl, hq, he, q⟩ := h
  cases rx
  obtain ⟨t, rfl⟩ := ry
  obtain ⟨its, r, pl, hz⟩ := I.list hq
  obtain ⟨j, h1, h2, h3, h4, h5⟩ := atI_get he
  obtain ⟨w, ew, rw'⟩ := r.get h2
  have hl := r.length
  have hn := line63
  have fin : EP X pins σ Q w s := ⟨z, H, I, rw', q⟩
  by_cases h0 : 0 ≤ i
  · have hj : i.toNat = j := by
      rw [seqIndex_of h0 h5] at h1
      exact Option.some.inj h1
    exact item_listR pl.isList h0 (by omega) (by rw [hj]; simpa using ew) fin hs
  · have hj : (i + (its.toArray.size : Int)).toNat = j := by
      rw [seqIndex_neg (by omega) h4] at h1
      rw [List.size_toArray, ← hl]
      exact Option.some.inj h1
    exact subscriptTail_builtinR (x := w) pl.isList.typeIs slot_list_getitem.lookup
      (wpAny_getItem_list_neg (Q := fun r s' => r = w ∧ EP X pins σ Q r s') pl.isList (by omega) (by rw [List.size_toArray] <;> omega) (by omega) (by rw [hj]; simpa using ew) ⟨rfl, fin⟩) hs
theorem ix_tup : IxR X (rIxT X.K) := by
  intro value slice pins s σ H x y v u Q I rx ry h hs
  obtain ⟨p, xs, i, z, rfl, rfl, hq, he, q⟩ := h
  cases rx
  obtain ⟨t, rfl⟩ := ry
  obtain ⟨its, r, pl, hz⟩ := I.tuple hq
  obtain ⟨j, h1, h2, h3, h4, h5⟩ := atI_get he
  obtain ⟨w, ew, rw'⟩ := r.get h2
  have hl := r.length
  have hn := line63
  have fin : EP X pins σ Q w s := ⟨z, H, I, rw', q⟩
  exact subscriptTail_builtinR (x := w) pl.typeIs slot_tuple_getitem.lookup
    (getItem_tuple (j := j) (Q := fun r s' => r = w ∧ EP X pins σ Q r s') pl (by omega) (by omega) (by rw [List.size_toArray, ← hl]; exact h1) (by simpa using ew) ⟨rfl, fin⟩) hs
theorem ix_str : IxR X rIxS := by
  intro value slice pins s σ H x y v u Q I rx ry h hs
  obtain ⟨z, i, c, rfl, rfl, hz, he, q⟩ := h
  obtain ⟨t, rfl⟩ := rx
  obtain ⟨t', rfl⟩ := ry
  obtain ⟨j, h1, h2, h3, h4, h5⟩ := atI_get he
  have hl : z.cps.toList.length = z.length := by simp [Str.length]
  rw [hl] at h1 h4 h5
  have hn := line63
  exact tail_any (typeIs_str s z t) slot_str_getitem.lookup (getItem_str (c := c) (by
    have e1 : decide (i < -(2 ^ 63 : Int)) = false := decide_eq_false (by omega)
    have e2 : decide (i ≥ 2 ^ 63) = false := decide_eq_false (by omega)
    rw [e1, e2, Bool.or_false]) (by rw [h1]; simpa using h2) ⟨.str ⟨#[c]⟩, H, I.tok _, ⟨_, rfl⟩, q⟩) hs
def rIx (K : PySem.W.Frag) : R2 := fun x y H Q => rIxL K x y H Q ∨ rIxT K x y H Q ∨ rIxS x y H Q
theorem ix_seq : IxR X (rIx X.K) := ix_list.or (ix_tup.or ix_str)
theorem mapSeq_set (its : List Value) (n j : Nat) (u : Value) : Obj.mapSeq (·.setIfInBounds j u) { cls := .type "list", data := .seq its.toArray n } = { cls := .type "list", data := .seq (its.set j u).toArray n } := by
  simp [Obj.mapSeq]
theorem Inv.lst {pins : List (Addr × Obj)} {σ : St} {H : Hp} {s : Shared} {p : Addr} {xs : List V} (I : Inv X pins σ H s) (h : H p = some (.lst xs)) :
    ∃ (its : List Value) (n : Nat), Vals xs its ∧ s.heap.get? p = some { cls := .type "list", data := .seq its.toArray n } ∧ xs.length ≤ sizeLine := by
  obtain ⟨z, its, n, r, e⟩ := I.hok p _ h
  exact ⟨its, n, r, e, z⟩
theorem Inv.lstUpd {pins : List (Addr × Obj)} {σ : St} {H : Hp} {s : Shared} {p : Addr} {xs ys : List V} {its its' : List Value} {n n' : Nat} {f : Obj → Obj} (I : Inv X pins σ H s) (h : H p = some (.lst xs))
    (ho : s.heap.get? p = some { cls := .type "list", data := .seq its.toArray n }) (hf : f { cls := .type "list", data := .seq its.toArray n } = { cls := .type "list", data := .seq its'.toArray n' }) (r : Vals ys its') (hz : ys.length ≤ sizeLine) (t : Nat) :
    Inv X pins σ (upd H p (.lst ys)) { s with heap := s.heap.update p f, toks := t } := by
  have e : (s.heap.update p f).get? p = some { cls := .type "list", data := .seq its'.toArray n' } := by
    rw [Heap.get?_update_self f ho (by rw [hf] <;> rfl), hf]
  refine I.write (x := p) (e := p) (by rw [h]; trivial) (.inl rfl) (fun b u hb q => (Heap.get?_update_other _ _ (Ne.symm hb)).trans q) ⟨_, e⟩ ?_
  exact ⟨hz, its', n', r, e⟩
def rSetL : V → V → V → Hp → (Hp → Prop) → Prop := fun o i v H Q => ∃ p xs k j, o = .ref p ∧ i = .int k ∧ H p = some (.lst xs) ∧ ixN xs.length k = some j ∧ Q (upd H p (.lst (xs.set j v)))
theorem set_list : PSet X rSetL := by
  intro pins s σ H o i v ov iv u Q I ro ri rv h
  obtain ⟨p, xs, k, j, rfl, rfl, hp, hj, q⟩ := h
  cases ro
  obtain ⟨t, rfl⟩ := ri
  obtain ⟨its, n, r, ho, hz⟩ := I.lst hp
  obtain ⟨h1, h2, h3, h4⟩ := ixN_seq hj
  have hl := r.length
  have hn := line63
  have I' : Inv X pins σ (upd H p (.lst (xs.set j v))) { s with heap := s.heap.update p (Obj.mapSeq (·.setIfInBounds j u)) } :=
    I.lstUpd hp ho (mapSeq_set its n j u) (r.set rv j) (by rw [List.length_set]; exact hz) s.toks
  by_cases h0 : 0 ≤ k
  · have hk : k.toNat = j := by
      rw [seqIndex_of h0 h4] at h1
      exact Option.some.inj h1
    exact PySem.W.ki_setAt ho h0 (by omega) (by rw [List.size_toArray, ← hl]; exact h4) (by rw [hk]; exact ⟨_, I', q⟩)
  · have hk : (k + (its.toArray.size : Int)).toNat = j := by
      rw [seqIndex_neg (by omega) h3] at h1
      rw [List.size_toArray, ← hl]
      exact Option.some.inj h1
    exact PySem.W.ki_setBack ho (by omega) (by rw [List.size_toArray, ← hl]; exact h3) (by omega) (by rw [hk]; exact ⟨_, I', q⟩)
theorem slice_bounds (lo hi : Option Int) (n : Nat) : (sliceBounds lo hi none n).1 = ((HT.sIx n 0 lo : Nat) : Int) ∧ (sliceBounds lo hi none n).2.1 = ((HT.sIx n n hi : Nat) : Int) ∧ (sliceBounds lo hi none n).2.2 = 1 := by
  refine ⟨?_, ?_, rfl⟩
  · cases lo with
    | none => simp [sliceBounds, HT.sIx]
    | some i =>
      simp only [sliceBounds, HT.sIx, Option.getD_none, show (1 : Int) > 0 by decide, if_true]
      by_cases h : i < 0
      · simp only [h, if_true] <;> omega
      · simp only [h, if_false] <;> omega
  · cases hi with
    | none => simp [sliceBounds, HT.sIx]
    | some i =>
      simp only [sliceBounds, HT.sIx, Option.getD_none, show (1 : Int) > 0 by decide, if_true]
      by_cases h : i < 0
      · simp only [h, if_true] <;> omega
      · simp only [h, if_false] <;> omega
theorem slicePick_cut (its : List Value) (lo hi : Option Int) : slicePick its.toArray lo hi none = ((its.drop (HT.sIx its.length 0 lo)).take (HT.sIx its.length its.length hi - HT.sIx its.length 0 lo)).toArray := by
  obtain ⟨h1, h2, h3⟩ := slice_bounds lo hi its.toArray.size
  unfold slicePick
  rw [h1, h2, h3]
  simp only [sliceRange_one, pick_run, List.size_toArray] <;> rfl
def rSlL (K : PySem.W.Frag) : V → Option Int → Option Int → Hp → VK → Prop := fun x lo hi H Q => ∃ a xs, x = .ref a ∧ SqL K H a xs ∧ ∀ p, H p = none → Q (.ref p) (upd H p (.lst (cutV xs lo hi)))
theorem sl_list : SlR X (rSlL X.K) := by
  intro pins s σ H x v vl vu lo hi sl Q I rx hs pl pu h
  obtain ⟨a, xs, rfl, hx, q⟩ := h
  cases rx
  obtain ⟨its, r, ht, hz⟩ := I.list hx
  have hlen := r.length
  refine ⟨"list", _, slot_list_getitem.lookup, ht.isList.typeIs, ?_⟩
  refine wpAny_getItem_list_slice ht.isList hs pl pu .none (by simp) ?_ (by rw [List.size_toArray] <;> omega)
  rw [slicePick_cut, ← hlen]
  refine ⟨.ref s.heap.objs.size, _, I.laid (t' := s.toks) (o := .lst (cutV xs lo hi)) (fun b ob q => Heap.get?_push_of_some _ q) (Nat.le_refl _) ?_, rfl, q _ (I.hok.fresh (Nat.le_refl _))⟩
  exact ⟨Nat.le_trans (cutV_length xs lo hi) hz, _, 0, (r.drop (HT.sIx xs.length 0 lo)).take (HT.sIx xs.length xs.length hi - HT.sIx xs.length 0 lo), Heap.get?_push_size _ rfl⟩
def flatV : V → Bool
  | .non => true
  | .bl _ => true
  | .int _ => true
  | .str _ => true
  | _ => false
def eqV : V → V → Bool
  | .non, .non => true
  | .bl a, .bl b => a == b
  | .bl a, .int b => (if a then 1 else 0) == b
  | .int a, .bl b => a == (if b then 1 else 0)
  | .int a, .int b => a == b
  | .str a, .str b => a == b
  | _, _ => false
theorem eqAt_V {A : Around} {s : Shared} {y x : V} {u v : Value} (ry : RelV y u) (rx : RelV x v) (fy : flatV y = true) (fx : flatV x = true) : SeqAt.EqAt A s u v (eqV y x) := by
  cases y with
  | non =>
    cases ry
    cases x with
    | non => cases rx; exact SeqAt.EqAt.same _
    | bl b => cases rx; exact SeqAt.EqAt.none_bool b
    | int b => obtain ⟨t, rfl⟩ := rx; exact SeqAt.EqAt.none_int b t
    | str b => obtain ⟨t, rfl⟩ := rx; exact SeqAt.EqAt.none_str b t
    | _ => exact absurd (show false = true from fx) Bool.false_ne_true
  | bl a =>
    cases ry
    cases x with
    | non => cases rx; exact SeqAt.EqAt.bool_none a
    | bl b => cases rx; exact SeqAt.EqAt.bool_bool a b
    | int b => obtain ⟨t, rfl⟩ := rx; exact SeqAt.EqAt.bool_int a b t
    | str b => obtain ⟨t, rfl⟩ := rx; exact SeqAt.EqAt.bool_str a b t
    | _ => exact absurd (show false = true from fx) Bool.false_ne_true
  | int a =>
    obtain ⟨t', rfl⟩ := ry
    cases x with
    | non => cases rx; exact SeqAt.EqAt.int_none a t'
    | bl b => cases rx; exact SeqAt.EqAt.int_bool a t' b
    | int b => obtain ⟨t, rfl⟩ := rx; exact SeqAt.EqAt.int_int a t' b t
    | str b => obtain ⟨t, rfl⟩ := rx; exact SeqAt.EqAt.int_str a t' b t
    | _ => exact absurd (show false = true from fx) Bool.false_ne_true
  | str a =>
    obtain ⟨t', rfl⟩ := ry
    cases x with
    | non => cases rx; exact SeqAt.EqAt.str_none a t'
    | bl b => cases rx; exact SeqAt.EqAt.str_bool a t' b
    | int b => obtain ⟨t, rfl⟩ := rx; exact SeqAt.EqAt.str_int a t' b t
    | str b => obtain ⟨t, rfl⟩ := rx; exact SeqAt.EqAt.str_str a t' b t
    | _ => exact absurd (show false = true from fx) Bool.false_ne_true
  | _ => exact absurd (show false = true from fy) Bool.false_ne_true
def eqU (x : V) (u : Value) : Bool := match u with
  | .none => eqV .non x
  | .bool b => eqV (.bl b) x
  | .int i _ => eqV (.int i) x
  | .str z _ => eqV (.str z) x
  | _ => false
theorem eqU_of {x y : V} {u : Value} (r : RelV y u) (f : flatV y = true) : eqU x u = eqV y x := by
  cases y with
  | non => cases r; rfl
  | bl b => cases r; rfl
  | int i => obtain ⟨t, rfl⟩ := r; rfl
  | str z => obtain ⟨t, rfl⟩ := r; rfl
  | _ => exact absurd (show false = true from f) Bool.false_ne_true
theorem any_eqU {x : V} : ∀ {xs : List V} {us : List Value}, Vals xs us → xs.all flatV = true → us.any (eqU x) = xs.any fun y => eqV y x
  | _, _, .nil, _ => rfl
  | y :: xs, u :: us, .cons r t, f => by
    rw [List.all_cons, Bool.and_eq_true] at f
    rw [List.any_cons, List.any_cons, eqU_of r f.1, any_eqU t f.2]
theorem mem_eqAt {A : Around} {s : Shared} {x : V} {v : Value} (rx : RelV x v) (fx : flatV x = true) : ∀ {xs : List V} {us : List Value}, Vals xs us → xs.all flatV = true → ∀ u ∈ us, SeqAt.EqAt A s u v (eqU x u)
  | _, _, .nil, _ => fun u hu => by cases hu
  | y :: xs, u :: us, .cons r t, f => fun u' hu => by
    rw [List.all_cons, Bool.and_eq_true] at f
    rcases List.mem_cons.mp hu with rfl | hu
    · rw [eqU_of r f.1]; exact eqAt_V r rx f.1 fx
    · exact mem_eqAt rx fx t f.2 u' hu
def inV (x : V) (xs : List V) : Bool := xs.any fun y => eqV y x
def rIn (K : PySem.W.Frag) (neg : Bool) : R2 := fun x y H Q => ∃ p xs, y = .ref p ∧ (SqL K H p xs ∨ SqT K H p xs) ∧ flatV x = true ∧ xs.all flatV = true ∧ Q (.bl (if neg then !inV x xs else inV x xs)) H
theorem op_in_seq : OpR X (compareOp .In) (rIn X.K false) := by
  intro pins s σ H x y v u Q I rx ry h
  obtain ⟨p, xs, rfl, hq, fx, fs, q⟩ := h
  cases ry
  rcases hq with hq | hq
  · obtain ⟨its, r, pl, hz⟩ := I.list hq
    refine SeqAt.in_listAt (eqU x) pl.isList (fun w hw => mem_eqAt rx fx r fs w (by simpa using hw)) ⟨.bl _, H, I, rfl, ?_⟩
    rw [show its.toArray.any (eqU x) = its.any (eqU x) by simp, any_eqU r fs]
    exact q
  · obtain ⟨its, r, pl, hz⟩ := I.tuple hq
    refine SeqAt.in_tupleAt (eqU x) pl (fun w hw => mem_eqAt rx fx r fs w (by simpa using hw)) ⟨.bl _, H, I, rfl, ?_⟩
    rw [show its.toArray.any (eqU x) = its.any (eqU x) by simp, any_eqU r fs]
    exact q
theorem op_notIn_seq : OpR X (compareOp .NotIn) (rIn X.K true) := by
  intro pins s σ H x y v u Q I rx ry h
  obtain ⟨p, xs, rfl, hq, fx, fs, q⟩ := h
  cases ry
  rcases hq with hq | hq
  · obtain ⟨its, r, pl, hz⟩ := I.list hq
    refine SeqAt.notIn_listAt (eqU x) pl.isList (fun w hw => mem_eqAt rx fx r fs w (by simpa using hw)) ⟨.bl _, H, I, rfl, ?_⟩
    rw [show its.toArray.any (eqU x) = its.any (eqU x) by simp, any_eqU r fs]
    exact q
  · obtain ⟨its, r, pl, hz⟩ := I.tuple hq
    refine SeqAt.notIn_tupleAt (eqU x) pl (fun w hw => mem_eqAt rx fx r fs w (by simpa using hw)) ⟨.bl _, H, I, rfl, ?_⟩
    rw [show its.toArray.any (eqU x) = its.any (eqU x) by simp, any_eqU r fs]
    exact q
theorem call_len_seq : CallR X (.builtin "len") (fun xs H Q => ∃ p ys, xs = [.ref p] ∧ (SqL X.K H p ys ∨ SqT X.K H p ys) ∧ Q (.int ys.length) H) := by
  intro pins s σ H xs us Q I r h
  obtain ⟨p, ys, rfl, hq, q⟩ := h
  obtain ⟨u, rfl, rx⟩ := vals1 r
  cases rx
  have hn := line63
  rcases hq with hq | hq
  · obtain ⟨its, r', pl, hz⟩ := I.list hq
    have hlen := r'.length
    exact Calls.call_len_list pl.isList (by simp only [List.size_toArray] <;> omega) ⟨.int ys.length, H, I.tok _, ⟨s.toks + 1, by rw [List.size_toArray, hlen]⟩, q⟩
  · obtain ⟨its, r', pl, hz⟩ := I.tuple hq
    have hlen := r'.length
    exact len_tuple pl (by simp only [List.size_toArray] <;> omega) ⟨.int ys.length, H, I.tok _, ⟨s.toks + 1, by rw [List.size_toArray, hlen]⟩, q⟩
theorem call_tuple_of : CallR X (.type "tuple") (fun xs H Q => ∃ p ys, xs = [.ref p] ∧ ((SqL X.K H p ys ∧ ∀ l, H l = none → Q (.ref l) (upd H l (.tup ys))) ∨ (SqT X.K H p ys ∧ Q (.ref p) H))) := by
  intro pins s σ H xs us Q I r h
  obtain ⟨p, ys, rfl, h⟩ := h
  obtain ⟨u, rfl, rx⟩ := vals1 r
  cases rx
  rcases h with ⟨hq, q⟩ | ⟨hq, q⟩
  · obtain ⟨its, r', pl, hz⟩ := I.list hq
    have hlen := r'.length
    refine call_tuple_list pl.isList (fun h' kp => ?_) (by simp only [List.size_toArray] <;> omega)
    have I1 : Inv X pins σ H { s with heap := h' } := I.kept (t' := s.toks) kp
    have I2 : Inv X pins σ (upd H h'.objs.size (.tup ys)) { s with heap := h'.push { cls := .type "tuple", data := .seq its.toArray } } :=
      I1.laid (t' := s.toks) (fun b o e => Heap.get?_push_of_some _ e) (Nat.le_refl _) (show ObjOk X.prog X.w _ _ _ (.tup ys) from ⟨hz, its, r', IsTupN.new _ _⟩)
    exact ⟨.ref h'.objs.size, _, I2, rfl, q _ (I1.hok.fresh (Nat.le_refl _))⟩
  · obtain ⟨its, r', pl, hz⟩ := I.tuple hq
    exact call_tuple_same pl ⟨.ref p, H, I, rfl, q⟩
def tyV (K : PySem.W.Frag) (T : String) (x : V) (H : Hp) : Prop := match x with
  | .str _ => T = "str"
  | .int _ => T = "int"
  | .ref p => (T = "list" ∧ ∃ xs, SqL K H p xs) ∨ (T = "tuple" ∧ ∃ o, K.lookup p = some o ∧ o.cls = .type "tuple" ∧ o.dict = none) ∨
      (T = "dict" ∧ ((∃ kvs, H p = some (.dK kvs)) ∨ ∃ kvs, H p = some (.dT kvs))) ∨ (T = "set" ∧ ∃ S n, H p = some (.set S n))
  | _ => False
theorem tyV_is {pins : List (Addr × Obj)} {σ : St} {H : Hp} {s : Shared} {T : String} {x : V} {v : Value} (I : Inv X pins σ H s) (r : RelV x v) (ty : tyV X.K T x H) :
    s.TypeIs v T ∧ ∀ a, v = .ref a → ∃ ob, s.heap.get? a = some ob ∧ ob.dict = none := by
  cases x with
  | str z =>
    obtain ⟨t, rfl⟩ := r
    cases (show T = "str" from ty)
    exact ⟨typeIs_str s z t, fun _ e => nomatch e⟩
  | int i =>
    obtain ⟨t, rfl⟩ := r
    cases (show T = "int" from ty)
    exact ⟨typeIs_int s i t, fun _ e => nomatch e⟩
  | ref p =>
    cases r
    rcases ty with ⟨rfl, xs, hq⟩ | ⟨rfl, o, hk, hc, hd⟩ | ⟨rfl, hk⟩ | ⟨rfl, S, n, hk⟩
    · obtain ⟨its, _, pl, _⟩ := I.list hq
      refine ⟨pl.isList.typeIs, fun a e => ?_⟩
      cases e
      obtain ⟨o, n, e, c, hd, _⟩ := pl
      exact ⟨o, e, hd⟩
    · refine ⟨⟨o, I.kIn p o hk, hc⟩, fun a e => ?_⟩
      cases e
      exact ⟨o, I.kIn _ o hk, hd⟩
    · have z : ∃ o, s.heap.get? p = some o ∧ o.ExactDict := by
        rcases hk with ⟨kvs, hk⟩ | ⟨kvs, hk⟩
        · obtain ⟨_, _, _, _, o, _, _, e, ex, _⟩ := I.hok p _ hk
          exact ⟨o, e, ex⟩
        · obtain ⟨_, _, _, _, o, _, _, e, ex, _⟩ := I.hok p _ hk
          exact ⟨o, e, ex⟩
      obtain ⟨o, e, ex⟩ := z
      refine ⟨⟨o, e, ex.1⟩, fun a e2 => ?_⟩
      cases e2
      exact ⟨o, e, ex.2.1⟩
    · obtain ⟨o, _, _, _, e, ex, _⟩ := I.hok p _ hk
      refine ⟨⟨o, e, ex.1⟩, fun a e2 => ?_⟩
      cases e2
      exact ⟨o, e, ex.2.1⟩
  | _ => exact False.elim ty
def tBM (K : PySem.W.Frag) (T : String) (r : V → List V → Hp → VK → Prop) (to : TE) (t : TA) : TE := fun σ H Q => to σ H fun x H1 => tyV K T x H1 ∧ t σ H1 fun xs H2 => r x xs H2 Q
variable {o e : Expr} {es : List Expr} {to : TE} {t : TA} {name : Str} {apos cpos : Pos} {T id : String} {r : V → List V → Hp → VK → Prop}
theorem pe_bm (pa : PlainAttrs T) (slot : Slot T name id) (hty : typeOf (.builtin id) = pure (.type "method_descriptor")) (hm : MtR X id r) (ho : PE X o to) (ha : PA X (e :: es) t)
    (hbase : attributeBase o name X.env (eval o X.env) = eval o X.env := by rfl)
    (hfew : ((backTo cpos (starEach (e :: es) X.env)).all (fun x => !x.1) && (backToKw cpos (keywordEach [] X.env)).all (fun x => x.1.isSome)
      && decide ((e :: es).length + ([] : List Keyword).length + (if ([] : List Keyword).isEmpty then 0 else 1) < 30)) = true := by rfl)
    (hline : (apos.endLine == cpos.line) = true := by rfl) (hs : starEach (e :: es) X.env = (false, eval e X.env) :: starEach es X.env := by rfl) (hplain : (backTo cpos (starEach es X.env)).any (·.1) = false := by rfl) :
    PE X (.Call (.Attribute o name apos) (e :: es) [] cpos) (tBM X.K T r to t) := by
  intro pins s σ H Q I h
  refine wpAny_Call_method_late hbase hfew hline rfl (thn (ho pins s σ H _ I h) fun v s1 zq => ?_)
  obtain ⟨x, H1, I1, r1, ty, q1⟩ := zq
  obtain ⟨h1, h2⟩ := tyV_is I1 r1 ty
  refine ⟨T, id, pa, slot, hty, h1, h2, ?_⟩
  have hA := ha cpos pins s1 σ H1 _ I1 q1
  rw [hs] at hA ⊢
  refine Calls.callWith_builtin (by show (false || (backTo cpos (starEach es X.env)).any (·.1)) = false; rw [hplain] <;> rfl) (Calls.evalArgs_plain ?_)
  exact thn hA fun us s2 ⟨vs, H2, I2, r2, q2⟩ => hm pins s2 σ H2 x vs v us Q I2 r1 r2 q2
end
end L2
namespace L2
open PySem PySem.Spec PyProof.Rows
def MtM (X : Cx) (id : String) (r : V → List V → Hp → VK → Prop) : Prop :=
  ∀ (pins : List (Addr × Obj)) (s : Shared) (σ : St) (H : Hp) (x : V) (xs : List V) (v : Value) (us : List Value) (Q : VK), Inv X pins σ H s → RelV x v → Vals xs us → r x xs H Q →
    wpAny (model X.prog X.w) X.A (call (.builtin id) (v :: us)) (EP X pins σ Q) X.xe s
theorem Vals.one : ∀ {x : V} {us : List Value}, Vals [x] us → ∃ u, us = [u] ∧ RelV x u
  | _, _, .cons r .nil => ⟨_, rfl, r⟩
theorem Vals.eraseIdx : ∀ {xs : List V} {us : List Value} (i : Nat), Vals xs us → Vals (xs.eraseIdx i) (us.eraseIdx i)
  | _, _, _, .nil => .nil
  | _, _, 0, .cons _ t => t
  | _, _, i + 1, .cons r t => .cons r (Vals.eraseIdx i t)
theorem len_erase {α : Type} : ∀ (l : List α) (i : Nat), (l.eraseIdx i).length ≤ l.length
  | [], _ => Nat.le_refl _
  | _ :: _, 0 => Nat.le_succ _
  | _ :: r, i + 1 => Nat.succ_le_succ (len_erase r i)
section
variable {X : Cx} {pins : List (Addr × Obj)} {σ : St} {H : Hp} {s : Shared} {l b : Addr} {xs ys zs : List V}
theorem Inv.lset {its its' : List Value} {n : Nat} {f : Array Value → Array Value} {t' : Nat} (I : Inv X pins σ H s) (hH : H l = some (.lst xs))
    (e : s.heap.get? l = some { cls := .type "list", data := .seq its.toArray n }) (hf : f its.toArray = its'.toArray) (hv : Vals ys its') (hz : ys.length ≤ sizeLine) :
    Inv X pins σ (upd H l (.lst ys)) { s with heap := s.heap.update l (Obj.mapSeq f), toks := t' } := by
  have q := PySem.IsL.update e f
  rw [hf] at q
  refine I.write (x := l) (e := l) (by rw [hH]; exact trivial) (.inl rfl) (fun b' u hb hu => (Heap.get?_update_other s.heap (Obj.mapSeq f) (Ne.symm hb)).trans hu) ⟨_, q⟩ ?_
  exact ⟨hz, its', _, hv, q⟩
theorem Inv.lnew {its : List Value} {t' : Nat} (I : Inv X pins σ H s) (hv : Vals ys its) (hz : ys.length ≤ sizeLine) :
    Inv X pins σ (upd H s.heap.objs.size (.lst ys)) { s with heap := s.heap.push { cls := .type "list", data := .seq its.toArray }, toks := t' } :=
  I.laid (fun _ _ q => Heap.get?_push_of_some _ q) (Nat.le_refl _) ⟨hz, its, 0, hv, Heap.get?_push_size _ rfl⟩
theorem Inv.fresh (I : Inv X pins σ H s) : H s.heap.objs.size = none := I.hok.fresh (Nat.le_refl _)
theorem Inv.lstM (I : Inv X pins σ H s) (hH : H l = some (.lst xs)) : xs.length ≤ sizeLine ∧ ∃ (its : List Value) (n : Nat), Vals xs its ∧ xs.length = its.length ∧ s.heap.get? l = some { cls := .type "list", data := .seq its.toArray n } := by
  obtain ⟨z, its, n, r, e⟩ := I.hok l _ hH
  exact ⟨z, its, n, r, r.length, e⟩
theorem notLongL {n : Nat} (h : n ≤ sizeLine) : Builtin.List.listTooLong n = false := by
  unfold Builtin.List.listTooLong
  exact decide_eq_false (by omega)
end
section
variable {X : Cx}
def rAppend : V → List V → Hp → VK → Prop := fun x vs H Q => ∃ l xs y, x = .ref l ∧ vs = [y] ∧ H l = some (.lst xs) ∧ xs.length < sizeLine ∧ Q .non (upd H l (.lst (xs ++ [y])))
theorem mt_append : MtM X "list.append" rAppend := by
  intro pins s σ H x vs v us Q I rx rv h
  obtain ⟨l, xs, y, rfl, rfl, hH, hz, q⟩ := h
  cases rx
  obtain ⟨u, rfl, ru⟩ := rv.one
  obtain ⟨z, its, n, r, hl, e⟩ := I.lstM hH
  refine call_meets F.slot_list_append ⟨_, e, rfl⟩ F.entry_list_append (F.args_list_append_2 _ _) (PySem.list_append l its.toArray n u (by rw [List.size_toArray]; omega)) ⟨e, ?_⟩
  refine ⟨.non, _, I.lset (its' := its ++ [u]) hH e (by simp) (r.append (.cons ru .nil)) ?_, rfl, q⟩
  rw [List.length_append, List.length_singleton]
  omega
def rExtend : V → List V → Hp → VK → Prop := fun x vs H Q => ∃ l b xs zs, x = .ref l ∧ vs = [.ref b] ∧ H l = some (.lst xs) ∧ H b = some (.lst zs) ∧ xs.length + zs.length ≤ sizeLine ∧ Q .non (upd H l (.lst (xs ++ zs)))
theorem mt_extend : MtM X "list.extend" rExtend := by
  intro pins s σ H x vs v us Q I rx rv h
  obtain ⟨l, b, xs, zs, rfl, rfl, hH, hB, hz, q⟩ := h
  cases rx
  obtain ⟨u, rfl, ru⟩ := rv.one
  cases ru
  obtain ⟨z, its, n, r, hl, e⟩ := I.lstM hH
  obtain ⟨z2, its2, n2, r2, hl2, e2⟩ := I.lstM hB
  have hsz : its.toArray.size + its2.toArray.size ≤ sizeLine := by rw [List.size_toArray, List.size_toArray]; omega
  have hlong : ¬ (!its.toArray.isEmpty && Builtin.List.listTooLong (its.toArray.size + its2.toArray.size)) = true := by
    rw [notLongL hsz, Bool.and_false]
    exact Bool.false_ne_true
  refine call_meets F.slot_list_extend ⟨_, e, rfl⟩ F.entry_list_extend (F.args_list_extend_2 _ _)
    (AutoSeq1.list_extend_list_list_0 l its.toArray n b its2.toArray n2 hlong (by rw [List.size_toArray]; omega) (by omega)) ⟨e, e2, ?_⟩
  refine ⟨.non, _, I.lset (its' := its ++ its2) hH e (by simp) (r.append r2) ?_, rfl, q⟩
  rw [List.length_append]
  omega
def rPopAt : V → List V → Hp → VK → Prop := fun x vs H Q => ∃ l xs i k y, x = .ref l ∧ vs = [.int i] ∧ H l = some (.lst xs) ∧ -(2 ^ 63) ≤ i ∧ i < 2 ^ 63 ∧ seqIndex? i xs.length = some k ∧ xs[k]? = some y ∧ Q y (upd H l (.lst (xs.eraseIdx k)))
theorem mt_popAt : MtM X "list.pop" rPopAt := by
  intro pins s σ H x vs v us Q I rx rv h
  obtain ⟨l, xs, i, k, y, rfl, rfl, hH, h1, h2, hk, hy, q⟩ := h
  cases rx
  obtain ⟨u, rfl, ru⟩ := rv.one
  obtain ⟨t, rfl⟩ := ru
  obtain ⟨z, its, n, r, hl, e⟩ := I.lstM hH
  obtain ⟨w, hw, rw'⟩ := r.get hy
  refine call_meets F.slot_list_pop ⟨_, e, rfl⟩ F.entry_list_pop (F.args_list_pop_2 _ _)
    (MeetsSeq.list_pop_at l its.toArray n i t k w (fitsIndex_both h1 h2) (by rw [List.size_toArray, ← hl]; exact hk) (by rw [← Array.getElem?_toList]; exact hw) (by rw [List.size_toArray]; omega)) ⟨e, ?_⟩
  refine ⟨y, _, I.lset (its' := its.eraseIdx k) hH e ?_ (r.eraseIdx k) ?_, rw', q⟩
  · show its.toArray.eraseIdxIfInBounds k = (its.eraseIdx k).toArray
    rw [List.eraseIdxIfInBounds_toArray]
  · have := len_erase xs k
    omega
def rCat : R2 := fun x y H Q => ∃ l b xs zs, x = .ref l ∧ y = .ref b ∧ H l = some (.lst xs) ∧ H b = some (.lst zs) ∧ xs.length + zs.length ≤ sizeLine ∧ ∀ p, H p = none → Q (.ref p) (upd H p (.lst (xs ++ zs)))
theorem op_cat : OpR X (binaryOp .Add) rCat := by
  intro pins s σ H x y v u Q I rx ry h
  obtain ⟨l, b, xs, zs, rfl, rfl, hH, hB, hz, q⟩ := h
  cases rx
  cases ry
  obtain ⟨z, its, n, r, hl, e⟩ := I.lstM hH
  obtain ⟨z2, its2, n2, r2, hl2, e2⟩ := I.lstM hB
  refine PySem.P.add_list e e2 ?_ (by rw [List.size_toArray, List.size_toArray]; omega)
  have ea : its.toArray ++ its2.toArray = (its ++ its2).toArray := by simp
  rw [ea]
  exact ⟨.ref _, _, I.lnew (t' := s.toks) (r.append r2) (by rw [List.length_append]; omega), rfl, q _ I.fresh⟩
end
section
variable {prog : Program} {w : World} {A : Around} {E : Value → Shared → Prop} {s : Shared}
set_option maxRecDepth 100000 in
end
section
variable {X : Cx}
end
end L2
namespace Att
open PySem PySem.W PySem.Calls PyProof.Rows
theorem ints_of_wellAll {P : Params} {h : Heap} : ∀ (ns : List Int) (vs : List Value), WellAll P h vs (ns.map WData.int) → IntsAre vs ns := by
  intro ns
  induction ns with
  | nil =>
    intro vs w
    rw [List.map_nil] at w
    cases w
    exact .nil
  | cons n ns ih =>
    intro vs w
    rw [List.map_cons] at w
    cases w with
    | cons a b =>
      cases a
      exact .cons _ _ (ih _ b)
theorem script_of {l : OpenLaw} {n : Nat} (hn : l.most = some n) {P : Params} {h : Heap} {args : List WData} {vals : List Value}
    (hpre : l.row.toRowW.claim.pre args = true) (hwl : WellAll P h vals args) :
    ∃ a vs ns, vals = [Value.ref a] ∧ args = [WData.list (ns.map WData.int)] ∧ h.get? a = some { cls := .type "list", data := .seq vs.toArray } ∧ IntsAre vs ns ∧ ns.length ≤ n := by
  have hsh : WShape.hasAll [] args [.list .int] = true := (pre_splitW hpre).1
  have hc : l.pre.holds [] { args := args } = true := (pre_splitW hpre).2
  obtain ⟨d, r, rfl, h1, h2⟩ := hasAllW_cons hsh
  obtain rfl := hasAllW_nil h2
  obtain ⟨xs, rfl, h3⟩ := hasW_list h1
  obtain ⟨ns, rfl⟩ := items_int h3
  have hlen : ns.length ≤ n := by
    unfold OpenLaw.pre at hc
    have h4 : (WTm.not (.lt (.lit (.int (n : Int))) (.len (.arg 0)))).holds [] { args := [.list (ns.map .int)] } = true := by
      have h4 := (holds_andW hc).1
      rw [hn] at h4
      exact h4
    have h5 := condW_of h4 (w_not (w_lt w_lit (w_len_list (w_arg rfl))))
    rw [List.length_map] at h5
    refine Nat.le_of_not_lt fun q => ?_
    have q' : (n : Int) < ((ns.length : Nat) : Int) := by omega
    first
      | (rw [decide_eq_true q'] at h5; exact absurd h5 (by decide))
      | (simp at h5; omega)
  cases hwl with
  | cons w1 w2 =>
    cases w2
    cases w1 with
    | list ho hall => exact ⟨_, _, ns, rfl, rfl, ho, ints_of_wellAll ns _ hall, hlen⟩
theorem post_true (l : OpenLaw) (args : List WData) : l.row.toRowW.claim.post args (.bool true) args = true :=
  postW_of (r := l.row.toRowW) (X := (true == true))
    (show WShape.has [] (.bool true) .bool = true by first | rfl | decide | simp [WShape.has, WShape.arms, WShape.armsAll])
    (show (WTm.eq .res (.lit (.bool true))).value [] { args := args, res := some (.bool true), after := args } = some (.bool (true == true)) from w_eq_bool (w_res rfl) w_lit) rfl
theorem attach_call {l : OpenLaw} {n : Nat} {q : Program} {loose : List Str} {XP : (Str → Option Value) → Heap → Prop} {YP : World → Heap → Prop} {d : DefRec}
    (hn : l.most = some n) (hdf : d.params.defaults = [])
    (call : ∀ (w : World) (s₀ s₁ : Shared) (mg mb : Str → Option Value) (fa : Addr) (o : Obj) (pm cd doc : Value) (a : Addr) (vs : List Value) (ns : List Int),
      Ground q loose [] XP w s₀ mg mb s₁.heap → YP w s₁.heap →
      s₁.heap.get? fa = some o → o.data = .func (docDef d.name d.params d.body d.scope pm cd doc) → s₁.heap.CodeRec cd d.name → mg d.name = some (.ref fa) →
      s₁.heap.get? a = some { cls := .type "list", data := .seq vs.toArray } → IntsAre vs ns → ns.length ≤ n → s₁.gens = #[] →
      codeAny (model l.prog w) callerA (.call (.ref fa) ⟨[.ref a], []⟩) (fun r s' => r = .ok (.ret (.bool true)) ∧ OldK s₁.heap s'.heap ∧ s'.os = s₁.os ∧ AllBare s'.gens) s₁) :
    WalkO q loose XP YP l.row.toRowW d [] (fun f vs => PySem.call f vs) := by
  intro w s₀ s₁ mg mb G Y fa o pm cd doc dV kV ho hd hcd hD hmg hg args vals as hpre hlay hrd hwl hlo
  obtain rfl : dV = .none := Dflts.none hD hdf
  obtain rfl : kV = .none := Dflts.noKw hD
  obtain ⟨a, vs, ns, rfl, rfl, hobj, hints, hlen⟩ := script_of hn hpre hwl
  refine enter_call (codeAny_mono (call w s₀ s₁ mg mb fa o pm cd doc a vs ns G Y ho (fd_plain hd) hcd hmg hobj hints hlen hg) fun r s' hq => ?_)
  obtain ⟨rfl, h2, h3, h4⟩ := hq
  exact ⟨.inl ⟨.bool true, .bool true, [], rfl, fun _ => rfl, .bool true, post_true l _, fun _ => ⟨List.Pairwise.nil, fun _ hm => (nomatch hm)⟩⟩, h2, h3, h4⟩
section
variable {prog : Program} {w : World} {A : Around} {E : Value → Shared → Prop} {s : Shared} {K : Frag}
end
end Att
namespace L2
open PySem PySem.Spec PyProof.Rows
theorem vals_ints : ∀ {vs : List Value} {ns : List Int}, IntsAre vs ns → Vals (ns.map V.int) vs
  | _, _, .nil => .nil
  | _, _, .cons n t h => .cons ⟨t, rfl⟩ (vals_ints h)
def Only (H : Hp) : Prop := ∀ b, H b = none ∨ ∃ o xs, H b = some (.frz o (.lst xs))
theorem law_call {P : Program} {w : World} {K : PySem.W.Frag} {mg mb : Str → Option Value} {CX : CXT} {k : Nat} {fa a : Addr} {fd : FuncData} {x : Str} {sp : Sp} {s₁ : Shared} {vs : List Value} {ns : List Int}
    (KX : K.In s₁.heap) (hns : s₁.heap.Ns mainGlobals mg) (hb : s₁.heap.Ns builtinsNs mb) (hbb : ∀ x : Str, x ≠ "__name__" → mb x = bootBuiltins x) (hlim : s₁.heap.NoLimit) (hg : s₁.gens = #[])
    (ha : s₁.heap.get? a = some { cls := .type "list", data := .seq vs.toArray }) (hi : IntsAre vs ns) (hl : ns.length ≤ sizeLine) (hr : Room k callerA)
    (F : ∀ base : Heap, K.In base → base.Ns mainGlobals mg → FnOk P w K mg base CX k fa fd [x] sp) (hbind : ∀ (s : Shared) (u : Value), BindsTo s fd ⟨[u], []⟩ [(x, u)])
    (hsp : ∀ H : Hp, Only H → SqL K H a (ns.map V.int) → sp [.ref a] H (fun v _ => v = .bl true) fun _ _ _ => False)
    (hCX : ∀ H e s', CX [] H s₁ (fun _ _ _ => False) e s' → False) :
    codeAny (model P w) callerA (.call (.ref fa) ⟨[.ref a], []⟩) (fun r s' => r = .ok (.ret (.bool true)) ∧ OldK s₁.heap s'.heap ∧ s'.os = s₁.os ∧ AllBare s'.gens) s₁ := by
  have rv := vals_ints hi
  have lenV := hi.length
  -- from an abstract heap in which nothing but the script may be tracked
  have core : ∀ H : Hp, Only H → SqL K H a (ns.map V.int) → HOk P w H s₁.heap → (∀ b, H b ≠ none → b = a) → (H a ≠ none → K.lookup a = none) →
      codeAny (model P w) callerA (.call (.ref fa) ⟨[.ref a], []⟩) (fun r s' => r = .ok (.ret (.bool true)) ∧ OldK s₁.heap s'.heap ∧ s'.os = s₁.os ∧ AllBare s'.gens) s₁ := by
    intro H hO hS hok hA hK
    have base_of : ∀ {b : Addr} {o : Obj}, s₁.heap.get? b = some o → H b = none → (hidT s₁.heap H).get? b = some o := fun e n => hidT_get e n
    have noA : ∀ {b : Addr} {o : Obj} {es : Array DictEntry} {ep : Nat}, s₁.heap.get? b = some o → o.data = .dict es ep → H b = none := fun {b o es ep} e d => by
      cases q : H b with
      | none => rfl
      | some u =>
        have e' : b = a := hA b (by rw [q]; simp)
        subst e'
        rw [ha] at e; cases e
        have d' : Data.seq vs.toArray _ = Data.dict es ep := d
        cases d'
    have nsK : ∀ {b : Addr} {m : Str → Option Value}, s₁.heap.Ns b m → (hidT s₁.heap H).Ns b m := fun {b m} ⟨o, es, ep, e, d, r⟩ => ⟨o, es, ep, base_of e (noA e d), d, r⟩
    have hKb : K.In (hidT s₁.heap H) := fun b o e => base_of (KX b o e) (by
      cases q : H b with
      | none => rfl
      | some u =>
        have e' : b = a := hA b (by rw [q]; simp)
        subst e'
        rw [hK (by rw [q]; simp)] at e; cases e)
    have hM : Mod K mg (hidT s₁.heap H) := ⟨hKb, nsK hns, ⟨mb, nsK hb, hbb⟩, let ⟨mc, h1, h2⟩ := hlim; ⟨mc, nsK h1, h2⟩⟩
    have e0 : Env0 P w K mg (hidT s₁.heap H) callerA [] s₁ H := ⟨rfl, hM, fun b o e => of_hidT e, Nat.le_of_eq (hidT_size _ _), trivial, fun b hb => absurd (show b ∈ ([] : List Addr) from hb) (by simp), hok, .of_eq hg⟩
    refine codeAny_mono ((F _ hKb (nsK hns)).run callerA [] s₁ H ⟨[.ref a], []⟩ [.ref a] [.ref a] _ _ hr e0 (hbind s₁ (.ref a)) (.cons rfl .nil) (hsp H hO hS)) fun r s' h => ?_
    cases r with
    | error e => exact (hCX H e s' h).elim
    | ok fl =>
      cases fl with
      | next => exact False.elim h
      | brk => exact False.elim h
      | cont => exact False.elim h
      | ret u =>
        obtain ⟨v, H', os, bare, un, hok', r', q⟩ := h
        have q' : v = .bl true := q
        subst q'
        obtain rfl : u = Value.bool true := r'
        refine ⟨rfl, OldK.of_keep fun b o e => ?_, os, bare⟩
        cases q : H b with
        | none => exact un.keep b o e q (by intro z; exact absurd (show b ∈ ([] : List Addr) from z) (by simp)) (by simp)
        | some u =>
          rcases hO b with z | ⟨ob, xs, z⟩
          · rw [q] at z; cases z
          · have z2 := un.frzs b ob _ z
            obtain ⟨e1, _⟩ := hok b _ z
            obtain ⟨e2, _⟩ := hok' b _ z2
            rw [e] at e1; cases e1
            exact e2
  cases hk : K.lookup a with
  | some o =>
    -- the script is one of the module's own objects
    have e := KX a o hk
    rw [ha] at e
    cases e
    refine core (fun _ => none) (fun _ => .inl rfl) (.inr ⟨_, vs.toArray, _, hk, rfl, rfl, rfl, by rw [List.size_toArray, lenV]; exact hl, by simpa using rv⟩) (fun b u z => by have z' : (none : Option HO) = some u := z; cases z') (fun b z => absurd rfl z) fun z => absurd rfl z
  | none =>
    refine core (fun b => if b = a then some (.frz { cls := .type "list", data := .seq vs.toArray } (.lst (ns.map V.int))) else none) (fun b => ?_) (.inl (.inr ⟨{ cls := .type "list", data := .seq vs.toArray }, if_pos rfl⟩)) (fun b u z => ?_) (fun b z => ?_) fun _ => hk
    · by_cases hb : b = a
      · exact .inr ⟨_, _, if_pos hb⟩
      · exact .inl (if_neg hb)
    · by_cases hb : b = a
      · have z' := (if_pos hb).symm.trans z
        cases z'
        subst hb
        exact ⟨ha, by rw [List.length_map]; exact hl, vs, _, rv, ha⟩
      · have z' := (if_neg hb).symm.trans z
        cases z'
    · by_cases hb : b = a
      · exact hb
      · exact absurd (if_neg hb) z
end L2
namespace L2
open PySem PySem.Spec PyProof.Rows
theorem walk_of {l : PySem.W.OpenLaw} {n k : Nat} {q : Program} {loose : List Str} {XP : (Str → Option Value) → Heap → Prop} {YP : World → Heap → Prop} {d : DefRec} {K : Params → PySem.W.Frag} {CX : World → CXT} {sp : World → Sp} {x : Str}
    (hn : l.most = some n) (hn2 : n ≤ sizeLine) (hdf : d.params.defaults = []) (hr : Room k callerA)
    (hY : ∀ (w : World) (h : Heap), YP w h → (K w.params).In h)
    (F : ∀ (w : World) (mg : Str → Option Value) (fa : Addr) (h : Heap), (K w.params).In h → h.Ns mainGlobals mg → mg d.name = some (.ref fa) →
      ∃ fd : FuncData, (∀ (s : Shared) (u : Value), BindsTo s fd ⟨[u], []⟩ [(x, u)]) ∧
        ∀ base : Heap, (K w.params).In base → base.Ns mainGlobals mg → FnOk l.prog w (K w.params) mg base (CX w) k fa fd [x] (sp w))
    (hsp : ∀ (w : World) (H : Hp) (a : Addr) (ns : List Int), ns.length ≤ n → Only H → SqL (K w.params) H a (ns.map V.int) → sp w [.ref a] H (fun v _ => v = .bl true) fun _ _ _ => False)
    (hCX : ∀ (w : World) (H : Hp) (s : Shared) (e : Value) (s' : Shared), CX w [] H s (fun _ _ _ => False) e s' → False) :
    PySem.W.WalkO q loose XP YP l.row.toRowW d [] (fun f vs => PySem.call f vs) := by
  refine Att.attach_call hn hdf fun w s₀ s₁ mg mb fa o pm cd doc a vs ns G Y ho hd hcd hmg hobj hints hlen hg => ?_
  have KX := hY w _ Y
  obtain ⟨fd, hb, hF⟩ := F w mg fa _ KX G.T.g hmg
  exact law_call KX G.T.g G.T.b G.T.builtins G.T.nolimit hg hobj hints (Nat.le_trans hlen hn2) hr hF hb (fun H hO hS => hsp w H a ns hlen hO hS) fun H e s' => hCX w H s₁ e s'
end L2
namespace L2
open PySem PySem.Spec PyProof.Rows
def inClass (s : Stmt) (j : Nat) : Stmt := match s with
  | .ClassDef _ _ _ body _ _ _ _ _ _ _ => body.getD j (.Pass ⟨0, 0, 0, 0⟩)
  | _ => .Pass ⟨0, 0, 0, 0⟩
def defArgs (s : Stmt) : Arguments := match s with
  | .FunctionDef _ a _ _ _ _ _ _ _ _ => a
  | _ => { posonlyargs := [], args := [], vararg := none, kwonlyargs := [], kw_defaults := [], kwarg := none, defaults := [] }
def defBody (s : Stmt) : List Stmt := match s with
  | .FunctionDef _ _ b _ _ _ _ _ _ _ => b
  | _ => []
def defScope (s : Stmt) : Scope := match s with
  | .FunctionDef _ _ _ _ _ _ sc _ _ _ => sc
  | _ => { kind := .function, names := [], isGenerator := false, isCoroutine := false }
abbrev CX0 : CXT := fun _ _ _ _ _ _ => False
abbrev E0 : XK := fun _ _ _ => False
theorem pass0 {X : Cx} : Passes CX0 X E0 := fun _ _ _ _ _ _ _ h => h.elim
structure Fun (K : PySem.W.Frag) (x qual : Str) (st : Stmt) (f : Addr) (fd : FuncData) : Prop where
  ex : ∃ (oc : Value) (od : Option Addr) (kV doc pm : Value) (an : Option Addr) (cdv ct : Value) (osl : Array (Option Value)),
    fd = PySem.W.fnOf x qual (defArgs st) (defBody st) (defScope st) .none kV doc pm an cdv ct ∧ K.lookup f = some ⟨oc, od, .func fd, osl⟩ ∧ PySem.W.codeIn K cdv qual = true
  kp : PySem.W.keepIn K (.ref f) = true
section
variable {P : Program} {w : World} {K : PySem.W.Frag} {mg : Str → Option Value} {base : Heap}
theorem Fun.ok {x qual : Str} {st : Stmt} {f : Addr} {fd : FuncData} {N ps : List Str} {k : Nat} {sp : Sp} (F : Fun K x qual st f fd) (S : FnScope N ps (defScope st)) (len : ∀ vs H Q E, sp vs H Q E → vs.length = ps.length)
    (hbody : ∀ (cdv : Value) (A : Around) (outer : List Env) (s : Shared) (H : Hp) (vs : List V) (Q : VK) (E : XK), Room k (A.deeper (envOfC qual (defScope st) s.heap.objs.size f cdv)) → sp vs H Q E →
      ∃ t, PSs (cxOf CX0 P w K mg base N qual (defScope st) f cdv A outer s H E).nox (defBody st) t ∧ t { nx := fun _ H' => Q .non H', rt := Q } (start N vs) H) : FnOk P w K mg base CX0 (k + 1) f fd ps sp := by
  obtain ⟨oc, od, kV, doc, pm, an, cdv, ct, osl, rfl, lk, hcd⟩ := F.ex
  refine fn_of lk hcd S len fun A outer s H vs Q E hr hsp => ?_
  obtain ⟨t, h, q⟩ := hbody cdv A outer s H vs Q E hr hsp
  exact ⟨t, h.nox, q⟩
theorem Fun.binds {x qual : Str} {st : Stmt} {f : Addr} {fd : FuncData} {ps : List Str} (F : Fun K x qual st f fd)
    (h : ∀ (kV doc pm : Value) (an : Option Addr) (cdv ct : Value) (us : List Value), us.length = ps.length → bindArgs (PySem.W.fnOf x qual (defArgs st) (defBody st) (defScope st) .none kV doc pm an cdv ct) ⟨us, []⟩ = pure (ps.zip us)) : Binds K fd ps [] := by
  obtain ⟨oc, od, kV, doc, pm, an, cdv, ct, osl, rfl, lk, hcd⟩ := F.ex
  exact .all (h kV doc pm an cdv ct)
theorem fun_mk {x qual : Str} {st : Stmt} {f : Addr} {oc : Value} {od an : Option Addr} {osl : Array (Option Value)} {kV doc pm cdv ct : Value} (l : K.lookup f = some ⟨oc, od, .func (PySem.W.fnOf x qual (defArgs st) (defBody st) (defScope st) .none kV doc pm an cdv ct), osl⟩)
    (c : PySem.W.codeIn K cdv qual = true) (k : PySem.W.keepIn K (.ref f) = true) : Fun K x qual st f (PySem.W.fnOf x qual (defArgs st) (defBody st) (defScope st) .none kV doc pm an cdv ct) := ⟨⟨oc, od, kV, doc, pm, an, cdv, ct, osl, rfl, l, c⟩, k⟩
end
theorem hu_of {A : Around} {k : Nat} (hr : Room k A) : A.units + 1 < cLine := Nat.lt_of_le_of_lt (Nat.add_le_add_left (by decide : 1 ≤ 64) _) hr.units
theorem small1000 {n : Nat} (h : n ≤ 1000) : n < sizeLine := Nat.lt_of_le_of_lt h (by decide)
section
variable {X : Cx}
theorem pv (i : Nat) {x : Str} {pos : Pos} (hN : X.N[i]? = some x := by rfl) (hv : Vis X.env.scope x := by first | exact Or.inl rfl | exact Or.inr (Or.inl rfl) | exact Or.inr (Or.inr rfl)) (hd : (x == ("__debug__" : Str)) = false := by decide)
    (hcd : (x == ("__classdict__" : Str)) = false := by decide) : PE X (.Name x pos) (tVar i) := pe_var hN hv hd hcd
end
theorem iteF {A B : Prop} (h : B) : if false = true then A else B := by
  rw [if_neg Bool.false_ne_true]
  exact h
theorem iteT {A B : Prop} (h : A) : if true = true then A else B := by
  rw [if_pos rfl]
  exact h
theorem ite2 {c A B : Prop} [Decidable c] (h1 : c → A) (h2 : ¬ c → B) : if c then A else B := by
  by_cases h : c
  · rw [if_pos h]
    exact h1 h
  · rw [if_neg h]
    exact h2 h
theorem iteNS {c A B : Prop} [Decidable c] (hc : c) (h : B) : if (!decide c) = true then A else B := by
  rw [decide_eq_true hc]
  exact iteF h
def Same (H H' : Hp) : Prop := ∀ b o, H b = some o → H' b = some o
theorem Same.refl (H : Hp) : Same H H := fun _ _ h => h
theorem Same.trans {H H1 H2 : Hp} (a : Same H H1) (b : Same H1 H2) : Same H H2 := fun c o h => b c o (a c o h)
theorem Same.free {H H' : Hp} (e : Same H H') {l : Addr} (h : H' l = Option.none) : H l = Option.none := by
  cases q : H l with
  | none => rfl
  | some o =>
    rw [e l o q] at h
    cases h
theorem Same.seq {K : PySem.W.Frag} {H H' : Hp} {a : Addr} {xs : List V} (e : Same H H') (h : SqL K H a xs) : SqL K H' a xs := by
  rcases h with (h | ⟨o, h⟩) | h
  · exact .inl (.inl (e _ _ h))
  · exact .inl (.inr ⟨o, e _ _ h⟩)
  · exact .inr h
end L2
namespace L2
open PySem PySem.Spec PyProof.Rows
def CellsIn (cells : List (Str × Addr)) : List (Str × Addr) → Prop
  | [] => True
  | p :: r => cells.lookup p.1 = some p.2 ∧ CellsIn cells r
theorem CellsIn.look {cells : List (Str × Addr)} : ∀ {cl : List (Str × Addr)}, CellsIn cells cl → ∀ (x : Str) (c : Addr), cl.lookup x = some c → cells.lookup x = some c
  | [], _, x, c, h => by simp at h
  | (n, a) :: r, hh, x, c, h => by
    rw [List.lookup_cons] at h
    cases e : x == n with
    | true =>
      rw [e] at h
      have e2 : x = n := eq_of_beq e
      have e3 : a = c := Option.some.inj h
      rw [e2, ← e3]
      exact hh.1
    | false =>
      rw [e] at h
      exact CellsIn.look hh.2 x c h
theorem relabel_back {env : Env} : ∀ {names : List (Str × NameKind)} {x : Str} {k : NameKind},
    (names.map fun (n, k) => if (k == NameKind.free && env.scope.kind == .function && env.kindOf n == some .cell) then (n, NameKind.cell) else (n, k)).lookup x = some k →
    ∃ k0, (x, k0) ∈ names ∧ (k = k0 ∨ k0 = .free)
  | [], _, _, h => by simp at h
  | (n, k0) :: r, x, k, h => by
    have h : List.lookup x ((if (k0 == NameKind.free && env.scope.kind == .function && env.kindOf n == some .cell) = true then (n, NameKind.cell) else (n, k0)) :: (r.map fun (n, k) => if (k == NameKind.free && env.scope.kind == .function && env.kindOf n == some .cell) then (n, NameKind.cell) else (n, k))) = some k := h
    by_cases hc : (k0 == NameKind.free && env.scope.kind == .function && env.kindOf n == some .cell) = true
    · rw [if_pos hc, List.lookup_cons] at h
      cases e : x == n with
      | true =>
        have e2 : x = n := eq_of_beq e
        rw [Bool.and_eq_true, Bool.and_eq_true] at hc
        have e3 : k0 = .free := eq_of_beq hc.1.1
        exact ⟨k0, by rw [e2]; exact List.mem_cons_self, .inr e3⟩
      | false =>
        rw [e] at h
        obtain ⟨k1, m, q⟩ := relabel_back (names := r) (x := x) (k := k) h
        exact ⟨k1, List.mem_cons_of_mem _ m, q⟩
    · rw [if_neg hc, List.lookup_cons] at h
      cases e : x == n with
      | true =>
        rw [e] at h
        have e2 : x = n := eq_of_beq e
        have e3 : k0 = k := Option.some.inj h
        exact ⟨k0, by rw [e2]; exact List.mem_cons_self, .inl e3.symm⟩
      | false =>
        rw [e] at h
        obtain ⟨k1, m, q⟩ := relabel_back (names := r) (x := x) (k := k) h
        exact ⟨k1, List.mem_cons_of_mem _ m, q⟩
structure FreeOk (X : Cx) (scope : Scope) (cl : List (Str × Addr)) (y : Str) (j : Nat) : Prop where
  ix : X.N[j]? = some y
  out : X.env.kindOf y = some .cell ∨ X.env.kindOf y = some .free
  inn : (relabel scope X.env).names.lookup y = some .cell ∨ (relabel scope X.env).names.lookup y = some .free
  cl : (cl.lookup y).isSome = true
def FreesOk (X : Cx) (scope : Scope) (cl : List (Str × Addr)) : List (Str × Nat) → Prop
  | [] => True
  | p :: r => FreeOk X scope cl p.1 p.2 ∧ FreesOk X scope cl r
theorem FreesOk.get {X : Cx} {scope : Scope} {cl : List (Str × Addr)} : ∀ {fr : List (Str × Nat)} {k : Nat} {p : Str × Nat}, FreesOk X scope cl fr → fr[k]? = some p → FreeOk X scope cl p.1 p.2
  | [], k, p, _, h => by simp at h
  | q :: r, 0, p, hh, h => by
    have e : q = p := by simpa using h
    rw [← e]
    exact hh.1
  | q :: r, k + 1, p, hh, h => FreesOk.get (fr := r) (k := k) hh.2 (by simpa using h)
structure CompScope (X : Cx) (scope : Scope) (cl : List (Str × Addr)) (x : Str) (fr : List (Str × Nat)) : Prop where
  clos : closureFor scope X.env = pure cl
  sub : CellsIn X.env.cells cl
  kind : scope.kind = .function
  names : ∀ y ∈ scope.names, y.2 = .local → scope.names.lookup y.1 = some .local
  lx : scope.names.lookup x = some .local
  ncell : ∀ y ∈ scope.names, y.2 ≠ .cell
  has : (scope.names.all fun y => !(y.2 == .free) || (cl.lookup y.1).isSome) = true
  frs : FreesOk X scope cl fr
  nd : (x :: fr.map (·.1)).Nodup
def fvals (σ : St) (fr : List (Str × Nat)) : St := fr.map fun p => (σ[p.2]?).join
def cxComp (X : Cx) (x : Str) (fr : List (Str × Nat)) (scope : Scope) (cl : List (Str × Addr)) (C : Addr) (s : Shared) (H : Hp) (fp : List Addr) : Cx where
  prog := X.prog
  w := X.w
  K := X.K
  mg := X.mg
  base := X.base
  A := X.A
  N := x :: fr.map (·.1)
  s₀ := s
  H₀ := H
  env := compEnvC scope cl C X.env
  outer := X.stack
  stack := X.stack
  ex := fp
  fn := fun _ => false
  calm := X.calm
  pn := []
  xe := fun _ _ => False
section
variable {X : Cx} {scope : Scope} {cl : List (Str × Addr)} {x : Str} {fr : List (Str × Nat)} {pins : List (Addr × Obj)} {σ : St} {H : Hp} {s : Shared}
theorem comp_inv (S : CompScope X scope cl x fr) {h₁ : Heap} {C : Addr} {m : Str → Option Value} {fp : List Addr} {tk : Nat} (I : Inv X pins σ H s) (hC : C = s.heap.objs.size) (hf : ∀ b ∈ fp, FpOk X pins H b) (hlt : ∀ b ∈ fp, b < s.heap.objs.size)
    (old : ∀ b o, s.heap.get? b = some o → h₁.get? b = some o) (hn : h₁.Ns C m) : Inv (cxComp X x fr scope cl C s H fp) [] (none :: fvals σ fr) H { s with heap := h₁, toks := tk } := by
  have look := S.sub.look
  refine ⟨⟨I.ok.mod, S.kind, I.ok.glob, I.ok.blt, by show s.heap.objs.size ≤ C; rw [hC]; exact Nat.le_refl _, fun y z c h1 h2 => I.ok.inj y z c (look y c h1) (look z c h2), fun y hy => ?_, fun y c h => ?_, I.ok.hd, I.ok.frames, .inl rfl, fun b hb => ⟨?_, fun y c h => ?_⟩,
      I.bs, Nat.le_trans I.ok.bsz I.sz, fun b o e hb => ?_, fun b hb hb2 => ?_, I.stack, I.stkFree⟩,
    rfl, I.bare, Un.kept old, ⟨m, hn, fun i y v h1 h2 h3 => ?_⟩, fun y c h => ?_, ?_, fun y c h => I.freeC y c (look y c h), fun p hp => absurd (show p ∈ ([] : List (Addr × Obj)) from hp) (by simp), I.hok.kept old, ?_⟩
  · have hy : (relabel scope X.env).names.lookup y = some .cell ∨ (relabel scope X.env).names.lookup y = some .free := hy
    have fin : ∀ {k : NameKind}, (relabel scope X.env).names.lookup y = some k → (k = .cell ∨ k = .free) → ∃ c, cl.lookup y = some c := fun {k} e hk => by
      obtain ⟨k0, hm, q⟩ := relabel_back (env := X.env) e
      have hk0 : k0 = .free := by
        rcases q with q | q
        · rcases hk with z | z
          · exact absurd (q.symm.trans z) (S.ncell _ hm)
          · exact q.symm.trans z
        · exact q
      have hq := List.all_eq_true.mp S.has _ hm
      rw [hk0] at hq
      exact Option.isSome_iff_exists.mp (by simpa using hq)
    rcases hy with e | e
    · exact fin e (.inl rfl)
    · exact fin e (.inr rfl)
  · exact absurd (show false = true from h) Bool.false_ne_true
  · show b ≠ C
    exact fun z => absurd (hlt b hb) (by rw [show b = C from z, hC]; exact Nat.lt_irrefl _)
  · exact (hf b hb).2.2.2.2.1 y c (look y c h)
  · obtain ⟨_, _, _, z, _⟩ := hf b hb
    rcases z with z | z
    · exact I.ok.noex b o e z
    · have h1 := Heap.lt_size e
      have h2 := I.ok.bsz
      exact absurd (Nat.lt_of_lt_of_le h1 (Nat.le_trans h2 z)) (Nat.lt_irrefl _)
  · have z := I.stkSub b hb2
    rcases List.mem_cons.mp z with z | z
    · exact (hf b hb).2.1 z
    · exact (hf b hb).2.2.1 z
  · cases i with
    | zero => exact absurd (show some (none : Option V) = some (some v) from h2) (by simp)
    | succ k =>
      have h1 : (fr.map (·.1))[k]? = some y := h1
      have h2 : (fr.map fun p => (σ[p.2]?).join)[k]? = some (some v) := h2
      rw [List.getElem?_map] at h1 h2
      cases e : fr[k]? with
      | none => rw [e] at h1; cases h1
      | some p =>
        rw [e] at h1 h2
        have e1 : p.1 = y := Option.some.inj h1
        have e2 : (σ[p.2]?).join = some v := Option.some.inj h2
        have F := S.frs.get e
        rw [e1] at F
        have e3 : σ[p.2]? = some (some v) := by
          cases q : σ[p.2]? with
          | none => rw [q] at e2; cases e2
          | some o => rw [q] at e2; exact congrArg some e2
        obtain ⟨m0, _, hl⟩ := I.loc
        have vis : Vis X.env.scope y := by
          rcases F.out with z | z
          · exact .inr (.inl z)
          · exact .inr (.inr z)
        obtain ⟨u, r, l⟩ := hl p.2 y v F.ix e3 vis
        refine ⟨u, r, .inr ⟨F.inn, ?_⟩⟩
        obtain ⟨c, hc⟩ := Option.isSome_iff_exists.mp F.cl
        refine ⟨c, hc, ?_⟩
        rcases l with ⟨k1, _⟩ | ⟨_, c', e', z⟩
        · rcases F.out with q | q
          · rw [q] at k1; cases k1
          · rw [q] at k1; cases k1
        · have e4 := look y c hc
          rw [e'] at e4
          cases e4
          obtain ⟨o, ho, hd⟩ := z
          exact ⟨o, old _ _ ho, hd⟩
  · obtain ⟨v, o, ho, hd⟩ := I.cell y c (look y c h)
    exact ⟨v, o, old _ _ ho, hd⟩
  · show H C = none
    rw [hC]
    exact I.hok.fresh (Nat.le_refl _)
  · show (none :: fvals σ fr).length = (x :: fr.map (·.1)).length
    simp [fvals]
end
section
variable {prog : Program} {w : World} {A : Around} {R : Result → Shared → Prop} {s : Shared}
theorem codeAny_compLoop_go {elt target iter : Expr} {ifs : List Expr} {scope : Scope} {pos : Pos} {it acc : Value} {env : Env} (I : Nat → Shared → Prop)
    (turn : ∀ n s, I n s → wpAny (model prog w) A (pyNext it) (fun r s₁ => match r with
      | none => R (.ok .next) s₁
      | some v => wpAny (model prog w) A (letOwnedTupleGo target it v) (fun _ s₀ => wpAny (model prog w) A (assign target env v) (fun _ s₂ =>
          wpAny (model prog w) A (forIn ifs true fun c r => if r = true then do let ok ← isTrue c env (eval c env); pure (ForInStep.yield ok) else pure (ForInStep.yield r)) (fun ok s₃ =>
            if ok = true then wpAny (model prog w) A (eval elt env) (fun x s₄ =>
              wpAny (model prog w) A (call (.builtin "list.append") [acc, x]) (fun _ s₅ => ∃ m, m < n ∧ I m s₅) (notedBy (model prog w) A env fun e s' => R (.error e) s') s₄) (notedBy (model prog w) A env fun e s' => R (.error e) s') s₃
            else ∃ m, m < n ∧ I m s₃) (notedBy (model prog w) A env fun e s' => R (.error e) s') s₂) (notedBy (model prog w) A env fun e s' => R (.error e) s') s₀) (notedBy (model prog w) A env fun e s' => R (.error e) s') s₁) (notedBy (model prog w) A env fun e s' => R (.error e) s') s)
    (n : Nat) (h : I n s) : codeAny (model prog w) A (.compLoop (.ListComp elt [⟨target, iter, ifs, 0⟩] scope pos) 0 it acc env) R s := by
  refine codeAny_loop rfl I (fun n s hI => ?_) n h
  show wpAny _ A ((compTurn (.ListComp elt [⟨target, iter, ifs, 0⟩] scope pos) 0 it acc env).onRaise (fun x => do noteFrame x env; theTreesLotGoes x)) _ _ s
  refine wpAny_noted ?_
  rw [compTurn_list]
  refine wpAny_bind (wpAny_standAt (wpAny_bind (wpAny_mono (turn n s hI) (fun r s₁ h₁ => ?_) fun _ _ h' => h')))
  cases r with
  | none => exact wpAny_pure h₁
  | some v =>
    refine wpAny_bind (wpAny_mono h₁ (fun _ s₀ h₀ => ?_) fun _ _ h' => h')
    refine wpAny_bind (wpAny_mono h₀ (fun _ s₂ h₂ => wpAny_bind (wpAny_mono h₂ (fun ok s₃ h₃ => ?_) fun _ _ h' => h')) fun _ _ h' => h')
    cases ok with
    | false => exact wpAny_pure ⟨rfl, h₃⟩
    | true =>
      exact wpAny_bind (wpAny_bind (wpAny_mono h₃ (fun x s₄ h₄ => wpAny_bind (wpAny_mono h₄ (fun _ s₅ h₅ => wpAny_pure (wpAny_pure ⟨rfl, h₅⟩)) fun _ _ h' => h')) fun _ _ h' => h'))
end
def PTL (X : Cx) (ifs : List Expr) (t : TT) : Prop :=
  ∀ (pins : List (Addr × Obj)) (s : Shared) (σ : St) (H : Hp) (Q : Bool → Hp → Prop), Inv X pins σ H s → t σ H Q →
    wpAny (model X.prog X.w) X.A (forIn ifs true fun c r => if r = true then do let ok ← isTrue c X.env (eval c X.env); pure (ForInStep.yield ok) else pure (ForInStep.yield r)) (TP X pins σ Q) X.xe s
def tYes : TT := fun _ H Q => Q true H
theorem ptl_nil {X : Cx} : PTL X [] tYes := fun _ _ _ H _ I h => wpAny_tests_nil ⟨H, I, h⟩
theorem ptl_one {X : Cx} {c : Expr} {t : TT} (h : PT X c t) : PTL X [c] t := fun pins s σ H Q I hw => wpAny_tests_one (h pins s σ H Q I hw)
def CompW (J : It) (tt : TT) (te : TE) (fv : St) (D : Addr) (H : Hp) (Q : VK) : Prop :=
  ∃ W : Nat → Nat → List V → Hp → Prop, (∃ m, W 0 m [] (upd H D (.lst []))) ∧ ∀ i m ys H, W i m ys H →
    (J.stop i H ∧ Q (.ref D) H) ∨ (J.go i H ∧ ∃ N : List V → Hp → Prop, (∀ ys' H', N ys' H' → ∃ m', m' < m ∧ W (i + 1) m' ys' H') ∧
      ∀ v H', J.yld i H v H' → tt (some v :: fv) H' fun c H1 => if c = true then te (some v :: fv) H1 fun y H3 => H3 D = some (.lst ys) ∧ ys.length < sizeLine ∧ N (ys ++ [y]) (upd H3 D (.lst (ys ++ [y]))) else N ys H1)
section
variable {X : Cx} {elt iter : Expr} {x : Str} {px pos : Pos} {ifs : List Expr} {scope : Scope} {cl : List (Str × Addr)} {fr : List (Str × Nat)} {tt : TT} {te : TE} {pins : List (Addr × Obj)} {σ : St}
theorem comp_core {H2 : Hp} {s2 : Shared} {it : Addr} {fp : List Addr} {tn : Nat → Heap → Prop} {J : It} {Q : VK} {RR : Value → Addr → Result → Shared → Prop} {E : Value → Shared → Prop}
    (hc : X.calm = true) (S : CompScope X scope cl x fr)
    (ht : ∀ C s H fp, PTL (cxComp X x fr scope cl C s H fp) ifs tt) (he : ∀ C s H fp, PE (cxComp X x fr scope cl C s H fp) elt te)
    (I2 : Inv X pins σ H2 s2) (T : Turn X.prog X.w X.K (.Name x px) J fp it tn) (st2 : tn 0 s2.heap) (f2 : ∀ b ∈ fp, FpOk X pins H2 b)
    (hw : ∀ D, H2 D = none → CompW J tt te (fvals σ fr) D H2 Q)
    (hR : ∀ D C s1 H1 m, Inv X pins σ H1 s1 → s1.heap.Ns C m → H1 C = none → C ≠ X.env.locals → X.s₀.heap.objs.size ≤ C → (∀ y c, X.env.cells.lookup y = some c → c ≠ C) → (∀ p ∈ X.pn ++ pins, p.1 ≠ C) → Q (.ref D) H1 → RR (.ref D) C (.ok .next) s1) :
    wpAny (model X.prog X.w) X.A (newList []) (fun acc s₃ => wpAny (model X.prog X.w) X.A (newFunctionEnv scope X.env.globals cl [] X.env.qual none .none (some X.env)) (fun cenv s₄ =>
      codeAny (model X.prog X.w) X.A (.compStart (.ListComp elt [⟨.Name x px, iter, ifs, 0⟩] scope pos) 0 (.ref it) acc { cenv with scope := relabel scope X.env }) (RR acc cenv.locals) s₄) E s₃) E s2 := by
  refine wpAny_newObj_type (wpAny_newFunctionEnv S.ncell (by intro y hy; simp at hy) (fun h₁ hns₁ hsb₁ => ?_) S.kind)
  dsimp only at hns₁ hsb₁ ⊢
  have I3 : Inv X pins σ (upd H2 s2.heap.objs.size (.lst [])) { s2 with heap := s2.heap.push { cls := .type "list", dict := none, data := .seq ([] : List Value).toArray } } :=
    I2.laid (t' := s2.toks) (fun b u e => Heap.get?_push_of_some _ e) (Nat.le_refl _) ⟨Nat.zero_le _, [], 0, .nil, Heap.get?_push_size _ rfl⟩
  have hDn : H2 s2.heap.objs.size = none := I2.hok.fresh (Nat.le_refl _)
  obtain ⟨W, ⟨m0, w0⟩, turn⟩ := hw s2.heap.objs.size hDn
  have oldf : ∀ b ∈ fp, b < s2.heap.objs.size := fun b hb => by
    obtain ⟨o, e, _⟩ := T.obj _ _ st2 b hb
    exact Heap.lt_size e
  generalize hH2 : s2.heap.push { cls := .type "list", dict := none, data := .seq ([] : List Value).toArray } = G2 at hns₁ hsb₁ I3 ⊢
  have hC : G2.objs.size = s2.heap.objs.size + 1 := by rw [← hH2, Heap.size_push]
  have old : ∀ b o, G2.get? b = some o → h₁.get? b = some o := fun b o e => hsb₁.extBut b o (Nat.ne_of_lt (Heap.lt_size e)) (Heap.get?_push_of_some _ e)
  have up : ∀ b o, s2.heap.get? b = some o → G2.get? b = some o := fun b o e => hH2 ▸ Heap.get?_push_of_some _ e
  have f3 : ∀ b ∈ fp, FpOk X pins (upd H2 s2.heap.objs.size (.lst [])) b := fun b hb => by
    have := oldf b hb
    exact ⟨by rw [upd_ne (Nat.ne_of_lt this)]; exact (f2 b hb).1, (f2 b hb).2⟩
  have lt3 : ∀ b ∈ fp, b < G2.objs.size := fun b hb => by
    rw [hC]
    exact Nat.lt_succ_of_lt (oldf b hb)
  have st4 : tn 0 h₁ := T.keep _ _ _ st2 fun b hb o e => old b o (up b o e)
  have I4 : Inv (cxComp X x fr scope cl G2.objs.size { s2 with heap := G2 } (upd H2 s2.heap.objs.size (.lst [])) fp) [] (none :: fvals σ fr) (upd H2 s2.heap.objs.size (.lst [])) { s2 with heap := h₁, toks := s2.toks + ([] : List (Str × Value)).length } :=
    comp_inv (tk := s2.toks + ([] : List (Str × Value)).length) S I3 rfl f3 lt3 old hns₁
  have loop : ∀ s₃ : Shared, s₃ = { s2 with heap := h₁, toks := s2.toks + ([] : List (Str × Value)).length } →
      codeAny (model X.prog X.w) X.A (.compLoop (.ListComp elt [⟨.Name x px, iter, ifs, 0⟩] scope pos) 0 (.ref it) (.ref s2.heap.objs.size) (compEnvC scope cl G2.objs.size X.env)) (RR (.ref s2.heap.objs.size) G2.objs.size) s₃ := by
    rintro s₃ rfl
    refine codeAny_compLoop_go (fun k s' => ∃ i ys H' v0, Inv (cxComp X x fr scope cl G2.objs.size { s2 with heap := G2 } (upd H2 s2.heap.objs.size (.lst [])) fp) [] (v0 :: fvals σ fr) H' s' ∧ tn i s'.heap ∧ (∀ b ∈ fp, H' b = none) ∧ W i k ys H') ?_ m0
      ⟨0, [], _, none, I4, st4, fun b hb => (f3 b hb).1, w0⟩
    rintro n s5 ⟨i, ys, H5, v0, I5, st5, fr5, w5⟩
    have stat : ∀ {H' : Hp}, (∀ b ∈ fp, H' b = none) → ∀ b ∈ fp, FpOk (cxComp X x fr scope cl G2.objs.size { s2 with heap := G2 } (upd H2 s2.heap.objs.size (.lst [])) fp) [] H' b := fun {H'} hn b hb =>
      ⟨hn b hb, (I5.ok.exf b hb).1, I5.ok.exfs b hb, .inl hb, (I5.ok.exf b hb).2, fun p hp => absurd (show p ∈ ([] : List (Addr × Obj)) from hp) (by simp)⟩
    rcases turn i n ys H5 w5 with ⟨stop, qn⟩ | ⟨go, N, hN, step⟩
    · refine thn (T.done (cxComp X x fr scope cl G2.objs.size { s2 with heap := G2 } (upd H2 s2.heap.objs.size (.lst [])) fp) rfl rfl rfl hc i [] s5 _ H5 _ I5 (stat fr5) st5 stop) fun r s6 zq => ?_
      obtain ⟨hr, I6⟩ := zq
      subst hr
      obtain ⟨m, hnC, _⟩ := I6.loc
      have I7 : Inv X pins σ H5 s6 := I3.call' (ch := fp) I6.os I6.base I6.hok I6.bare fun b hb => ⟨(f2 b hb).2.2.2.1, (f2 b hb).2.1, (f2 b hb).2.2.2.2.1, (f2 b hb).2.2.2.2.2⟩
      refine hR _ _ s6 H5 m I7 hnC I6.free ?_ ?_ (fun y c e z => ?_) (fun p hp z => ?_) qn
      · exact Nat.ne_of_gt I3.lt
      · exact I3.sz
      · obtain ⟨v, q⟩ := I3.cell y c e
        exact absurd q.lt (by rw [z]; exact Nat.lt_irrefl _)
      · exact absurd (Heap.lt_size (I3.pin p hp).1) (by rw [z]; exact Nat.lt_irrefl _)
    · refine thn (T.item (cxComp X x fr scope cl G2.objs.size { s2 with heap := G2 } (upd H2 s2.heap.objs.size (.lst [])) fp) rfl rfl rfl hc i [] s5 _ H5 _ I5 (stat fr5) st5 go) fun r s6 zq => ?_
      obtain ⟨u, hr, h6⟩ := zq
      subst hr
      refine thn h6 fun _ s7 zq => ?_
      obtain ⟨v, H7, I7, r7, y7, st7, fr7⟩ := zq
      have I7' := I7.pinned (stat fr7) (T.obj _ _ st7)
      have lxr : (relabel scope X.env).names.lookup x = some .local := lookup_relabel_local S.lx
      refine wpAny_assign_Name (store_ok (X := cxComp X x fr scope cl G2.objs.size { s2 with heap := G2 } (upd H2 s2.heap.objs.size (.lst [])) fp) (i := 0) I7' S.nd rfl (.inl lxr) r7 (fun s8 I8 => ?_) (.inr lxr))
      have I8 : Inv (cxComp X x fr scope cl G2.objs.size { s2 with heap := G2 } (upd H2 s2.heap.objs.size (.lst [])) fp) ([] ++ pinsAt fp s7.heap) (some v :: fvals σ fr) H7 s8 := I8
      have again : ∀ {v1 : Option V} {H9 : Hp} {s9 : Shared} {ys9 : List V}, Inv (cxComp X x fr scope cl G2.objs.size { s2 with heap := G2 } (upd H2 s2.heap.objs.size (.lst [])) fp) ([] ++ pinsAt fp s7.heap) (v1 :: fvals σ fr) H9 s9 → N ys9 H9 →
          ∃ m, m < n ∧ ∃ i ys H' v0, Inv (cxComp X x fr scope cl G2.objs.size { s2 with heap := G2 } (upd H2 s2.heap.objs.size (.lst [])) fp) [] (v0 :: fvals σ fr) H' s9 ∧ tn i s9.heap ∧ (∀ b ∈ fp, H' b = none) ∧ W i m ys H' := fun {v1 H9 s9 ys9} I9 n9 => by
        obtain ⟨m', hm, w9⟩ := hN ys9 H9 n9
        refine ⟨m', hm, i + 1, ys9, H9, v1, I9.unpinned, T.keep _ _ _ st7 fun b hb o e => (I9.pin (b, o) (List.mem_append_right _ (List.mem_append_right _ (mem_pinsAt hb e)))).1, fun b hb => ?_, w9⟩
        obtain ⟨o, e, d⟩ := T.obj _ _ st7 b hb
        exact (I9.pin (b, o) (List.mem_append_right _ (List.mem_append_right _ (mem_pinsAt hb e)))).2.1
      refine wpAny_mono (ht _ _ _ _ _ s8 _ H7 _ I8 (step v H7 y7)) (fun ok s9 zq => ?_) fun _ _ z => False.elim z
      obtain ⟨H9, I9, q9⟩ := zq
      cases ok with
      | false =>
        rw [if_neg Bool.false_ne_true]
        rw [if_neg Bool.false_ne_true] at q9
        exact again I9 q9
      | true =>
        rw [if_pos rfl]
        rw [if_pos rfl] at q9
        refine wpAny_mono (he _ _ _ _ _ s9 _ H9 _ I9 q9) (fun u1 s10 zq => ?_) fun _ _ z => False.elim z
        obtain ⟨y, H10, I10, r10, hD, hz, n10⟩ := zq
        refine wpAny_mono (mt_append (X := cxComp X x fr scope cl G2.objs.size { s2 with heap := G2 } (upd H2 s2.heap.objs.size (.lst [])) fp) _ s10 _ H10 (.ref s2.heap.objs.size) [y] _ [u1] (fun _ H' => N (ys ++ [y]) H') I10 rfl (.cons r10 .nil) ⟨_, ys, y, rfl, rfl, hD, hz, n10⟩) (fun _ s11 zq => ?_) fun _ _ z => False.elim z
        obtain ⟨_, H11, I11, _, q11⟩ := zq
        exact again I11 q11
  exact codeAny_compStart_list (loop _ rfl) (T.self _ 0 _ _ _ st4 (loop _ rfl))
def tComp (wi : TI) (fr : List (Str × Nat)) (tt : TT) (te : TE) : TE := fun σ H Q => wi σ H fun J H1 => ∀ D, H1 D = none → CompW J tt te (fvals σ fr) D H1 Q
theorem pe_comp {wi : TI} (hc : X.calm = true) (S : CompScope X scope cl x fr) (hi : PI X (.Name x px) iter wi)
    (ht : ∀ C s H fp, PTL (cxComp X x fr scope cl C s H fp) ifs tt) (he : ∀ C s H fp, PE (cxComp X x fr scope cl C s H fp) elt te)
    (hs : ∀ x, foldedSetIterable iter X.env x = pure x := by intro _; rfl) : PE X (.ListComp elt [⟨.Name x px, iter, ifs, 0⟩] scope pos) (tComp wi fr tt te) := by
  intro pins s σ H Q I h
  rw [eval_ListComp]
  refine wpAny_comprehension_free (use := none) rfl hs S.clos S.kind S.names (thn (hi pins s σ H _ I h) fun v s1 h1 => thn h1 fun itv s2 h2 => ?_)
  obtain ⟨it, fp, tn, J, H2, e, I2, T, st2, f2, hw⟩ := h2
  subst e
  refine comp_core (Q := Q) (RR := fun acc C => compPost (model X.prog X.w) X.A X.xe none (EP X pins σ Q) acc C) hc S ht he I2 T st2 f2 hw ?_
  intro D C s1 H1 m I1 hn f0 f1 f3 f4 f5 q
  refine ⟨m, hn, fun h' hs' => ?_⟩
  exact ⟨.ref D, H1, I1.turned (t' := s1.toks) (fun b o hb e => hs'.extBut b o hb e) f0 f1 (.inr f3) f4 f5, rfl, q⟩
end
theorem comp_list {K : PySem.W.Frag} {a : Addr} {xs : List V} {tt : TT} {te : TE} {fv : St} {D : Addr} {H : Hp} {Q : VK} (Pv : Nat → List V → Hp → Prop) (h0 : Pv 0 [] (upd H D (.lst []))) (hl : ∀ i ys H, i ≤ xs.length → Pv i ys H → SqL K H a xs)
    (hs : ∀ i v ys H, xs[i]? = some v → Pv i ys H → tt (some v :: fv) H fun c H1 => if c = true then te (some v :: fv) H1 fun y H3 => H3 D = some (.lst ys) ∧ ys.length < sizeLine ∧ Pv (i + 1) (ys ++ [y]) (upd H3 D (.lst (ys ++ [y]))) else Pv (i + 1) ys H1)
    (hd : ∀ ys H, Pv xs.length ys H → Q (.ref D) H) : CompW (Itl K a) tt te fv D H Q := by
  refine ⟨fun i m ys H => m = xs.length - i ∧ i ≤ xs.length ∧ Pv i ys H, ⟨xs.length, by simp, Nat.zero_le _, h0⟩, ?_⟩
  rintro i m ys H ⟨rfl, hi, p⟩
  have q := hl i ys H hi p
  by_cases hlt : i < xs.length
  · refine .inr ⟨⟨xs, xs[i], q, by simp [hlt]⟩, Pv (i + 1), fun ys' H' p' => ⟨xs.length - (i + 1), by omega, rfl, hlt, p'⟩, fun x H' y => ?_⟩
    obtain ⟨e, y⟩ := y
    subst e
    exact hs i x ys _ (y xs q) p
  · have e : i = xs.length := by omega
    subst e
    exact .inl ⟨⟨xs, q, Nat.le_refl _⟩, hd ys H p⟩
theorem comp_tup {K : PySem.W.Frag} {a : Addr} {xs : List V} {tt : TT} {te : TE} {fv : St} {D : Addr} {H : Hp} {Q : VK} (Pv : Nat → List V → Hp → Prop) (h0 : Pv 0 [] (upd H D (.lst []))) (hl : ∀ i ys H, i ≤ xs.length → Pv i ys H → SqT K H a xs)
    (hs : ∀ i v ys H, xs[i]? = some v → Pv i ys H → tt (some v :: fv) H fun c H1 => if c = true then te (some v :: fv) H1 fun y H3 => H3 D = some (.lst ys) ∧ ys.length < sizeLine ∧ Pv (i + 1) (ys ++ [y]) (upd H3 D (.lst (ys ++ [y]))) else Pv (i + 1) ys H1)
    (hd : ∀ ys H, Pv xs.length ys H → Q (.ref D) H) : CompW (Itt K a) tt te fv D H Q := by
  refine ⟨fun i m ys H => m = xs.length - i ∧ i ≤ xs.length ∧ Pv i ys H, ⟨xs.length, by simp, Nat.zero_le _, h0⟩, ?_⟩
  rintro i m ys H ⟨rfl, hi, p⟩
  have q := hl i ys H hi p
  by_cases hlt : i < xs.length
  · refine .inr ⟨⟨xs, xs[i], q, by simp [hlt]⟩, Pv (i + 1), fun ys' H' p' => ⟨xs.length - (i + 1), by omega, rfl, hlt, p'⟩, fun x H' y => ?_⟩
    obtain ⟨e, y⟩ := y
    subst e
    exact hs i x ys _ (y xs q) p
  · have e : i = xs.length := by omega
    subst e
    exact .inl ⟨⟨xs, q, Nat.le_refl _⟩, hd ys H p⟩
theorem comp_range {lo : Int} {n : Nat} {tt : TT} {te : TE} {fv : St} {D : Addr} {H : Hp} {Q : VK} (Pv : Nat → List V → Hp → Prop) (h0 : Pv 0 [] (upd H D (.lst [])))
    (hs : ∀ i ys H, i < n → Pv i ys H → tt (some (.int (lo + i)) :: fv) H fun c H1 => if c = true then te (some (.int (lo + i)) :: fv) H1 fun y H3 => H3 D = some (.lst ys) ∧ ys.length < sizeLine ∧ Pv (i + 1) (ys ++ [y]) (upd H3 D (.lst (ys ++ [y]))) else Pv (i + 1) ys H1)
    (hd : ∀ ys H, Pv n ys H → Q (.ref D) H) : CompW (Itr lo n) tt te fv D H Q := by
  refine ⟨fun i m ys H => m = n - i ∧ i ≤ n ∧ Pv i ys H, ⟨n, by simp, Nat.zero_le _, h0⟩, ?_⟩
  rintro i m ys H ⟨rfl, hi, p⟩
  by_cases hlt : i < n
  · refine .inr ⟨hlt, Pv (i + 1), fun ys' H' p' => ⟨n - (i + 1), by omega, rfl, hlt, p'⟩, fun x H' y => ?_⟩
    obtain ⟨e, y⟩ := y
    subst e y
    exact hs i ys _ hlt p
  · have e : i = n := by omega
    subst e
    exact .inl ⟨Nat.le_refl _, hd ys H p⟩
end L2
namespace L2
open PySem PySem.Spec PyProof.Rows
theorem vals_of_get : ∀ {xs : List V} {us : List Value}, xs.length = us.length → (∀ (i : Nat) (x : V) (u : Value), xs[i]? = some x → us[i]? = some u → RelV x u) → Vals xs us
  | [], [], _, _ => .nil
  | [], _ :: _, h, _ => by simp at h
  | _ :: _, [], h, _ => by simp at h
  | x :: xs, u :: us, h, k => .cons (k 0 x u rfl rfl) (vals_of_get (by simpa using h) fun i y w e1 e2 => k (i + 1) y w (by simpa using e1) (by simpa using e2))
theorem vals_bools : ∀ {bs : List Bool} {us : List Value}, Vals (bs.map V.bl) us → us = bs.map Value.bool
  | [], _, .nil => rfl
  | b :: bs, _, .cons r t => by
    have e1 : _ = Value.bool b := r
    rw [e1, vals_bools t]
    rfl
def upto (n : Nat) : List Int := (List.range n).map fun i : Nat => (i : Int)
theorem upto_length (n : Nat) : (upto n).length = n := by simp [upto]
theorem upto_get {n i : Nat} (h : i < n) : (upto n)[i]? = some (i : Int) := by
  unfold upto
  rw [List.getElem?_map, List.getElem?_range h]
  rfl
theorem all_getD (bs : List Bool) : (List.range bs.length).all (fun i => bs.getD i false) = bs.all id := by
  rw [Bool.eq_iff_iff, List.all_eq_true, List.all_eq_true]
  constructor
  · intro h b hb
    obtain ⟨i, hi, rfl⟩ := List.mem_iff_getElem.mp hb
    have q := h i (List.mem_range.mpr hi)
    rw [List.getD_eq_getElem?_getD, List.getElem?_eq_getElem hi] at q
    exact q
  · intro h i hi
    rw [List.mem_range] at hi
    rw [List.getD_eq_getElem?_getD, List.getElem?_eq_getElem hi]
    exact h _ (List.getElem_mem hi)
section
variable {X : Cx}
def rAll (K : PySem.W.Frag) : List V → Hp → VK → Prop := fun xs H Q => ∃ (p : Addr) (bs : List Bool), xs = [.ref p] ∧ SqL K H p (bs.map V.bl) ∧ Q (.bl (bs.all id)) H
theorem call_all_bools (hc : X.calm = true) : CallR X (.builtin "all") (rAll X.K) := by
  intro pins s σ H xs us Q I r h
  obtain ⟨p, bs, rfl, hq, q⟩ := h
  obtain ⟨u, rfl, rx⟩ := vals1 r
  cases rx
  obtain ⟨its, r', pl, hz⟩ := I.list hq
  have e := vals_bools r'
  subst e
  have hl := pl.isList
  have hlt : p < s.heap.objs.size := by obtain ⟨_, e, _⟩ := hl; exact Heap.lt_size e
  refine call_all_walk (wpAny_pyIter_list hl ⟨s.heap.objs.size, _, _, _, _, _, fun i => bs.getD i false, rfl, Walks.list (show X.A.in1.handled = none from I.ok.hd hc) s.heap.objs.size p (Nat.ne_of_lt hlt) (bs.map Value.bool).toArray, ⟨⟨_, Heap.get?_push_size _ rfl, rfl, rfl⟩, hl.push _⟩, ?_, fun h' tk hk => ?_⟩)
  · intro i v s' Q' E' hP hQ
    have hP' : (bs.map Value.bool)[i]? = some v := by simpa using hP
    rw [List.getElem?_map] at hP'
    cases e : bs[i]? with
    | none => rw [e] at hP'; cases hP'
    | some b =>
      rw [e] at hP'
      have ev : Value.bool b = v := Option.some.inj hP'
      subst ev
      refine wpAny_truthy_bool ?_
      have e2 : bs.getD i false = b := by rw [List.getD_eq_getElem?_getD, e]; rfl
      have hQ' : Q' (bs.getD i false) s' := hQ
      rw [e2] at hQ'
      exact hQ'
  · refine ⟨.bl (bs.all id), H, I.kept (t' := tk) (fun b o e => hk b o (by simpa using Nat.ne_of_lt (Heap.lt_size e)) (Heap.get?_push_of_some _ e)), ?_, q⟩
    show Value.bool _ = Value.bool _
    have e : (bs.map Value.bool).toArray.size = bs.length := by simp
    rw [e, all_getD]
def rIsi (K : PySem.W.Frag) : List V → Hp → VK → Prop := fun xs H Q => ∃ (x : V) (t : Value) (c : String) (b : Bool), xs = [x, .ty c] ∧ TyOf K H x t ∧ PySem.W.kitOne K t (.type c) = some b ∧ Q (.bl b) H
theorem call_isinst : CallR X (.builtin "isinstance") (rIsi X.K) := by
  intro pins s σ H xs us Q I r h
  obtain ⟨x, t, c, b, rfl, ty, e, q⟩ := h
  obtain ⟨u, w', rfl, rx, ry⟩ := vals2 r
  cases ry
  exact isinst_ok I rx ty e fun tk => ⟨.bl b, H, I.tok tk, rfl, q⟩
theorem sorted_seq {prog : Program} {w : World} {A : Around} {E : Value → Shared → Prop} {s : Shared} {l : Addr} {T : String} {o : Obj} {its : List Value} {n : Nat} {ns : List Int} {Q : Value → Shared → Prop} (hT : T = "list" ∨ T = "tuple")
    (ho : s.heap.get? l = some o) (hc : o.cls = .type T) (hd : o.data = .seq its.toArray n) (hI : IntsAre its ns) (h64 : its.length < 64) (hsz : its.toArray.size ≤ sizeLine)
    (h : ∀ (h1 h' : Heap) (out : Array Value) (ns' : List Int) (e : Nat), (∀ b o, s.heap.get? b = some o → h1.get? b = some o) → (∀ b o, h1.get? b = some o → h'.get? b = some o) → h'.get? h1.objs.size = some (seqObj "list" out e) → IntsAre out.toList ns' → ns'.Perm ns → ns'.Pairwise (· ≤ ·) → Q (.ref h1.objs.size) { s with heap := h' }) :
    wpAny (model prog w) A (call (.builtin "sorted") [.ref l]) Q E s := by
  refine Calls.call_function_entry kind_sorted plain_sorted entry_sorted (args_sorted1 _) ?_
  unfold Builtin.«sorted»
  refine wpAny_bind (m := checkCount "sorted" 1 1 _) (wpAny_pure ?_)
  refine wpAny_bind (wpAny_collect_seq l hT ho hc hd (fun h1 kp => ?_) hsz)
  refine wpAny_bind (wpAny_newList ?_)
  have e1 : its.toArray.toList = its := by simp
  rw [e1]
  have hoL : (h1.push (seqObj "list" its.toArray 0)).get? h1.objs.size = some (seqObj "list" its.toArray 0) := Heap.get?_push_size _ rfl
  show wpAny _ _ _ _ _ { s with heap := h1.push (seqObj "list" its.toArray 0) }
  refine wpAny_bind (wpAny_holding (wpAny_call_entry slot_list_sort ⟨_, hoL, rfl⟩ entry_list_sort (list_sort_tree hoL hI h64 fun out ns' a1 a2 a3 => ⟨_, rfl, ?_⟩) (args_list_sort _)))
  obtain ⟨e, he⟩ := sortedHeap_at (out := out) hoL
  exact wpAny_pure ⟨_, rfl, h h1 _ out ns' e kp (fun b ob hb => by
    have hlt := Heap.lt_size hb
    rw [sortedHeap_old (Nat.ne_of_lt hlt) (by rw [size_push']; exact Nat.lt_succ_of_lt hlt), Heap.get?_push_ne _ _ _ (Nat.ne_of_lt hlt)]
    exact hb) he a1 a2 a3⟩
def rSorted (K : PySem.W.Frag) : List V → Hp → VK → Prop := fun xs H Q => ∃ (p : Addr) (ns : List Int), xs = [.ref p] ∧ (SqL K H p (ns.map V.int) ∨ SqT K H p (ns.map V.int)) ∧ ns.length < 64 ∧
    ∀ (l : Addr) (ns' : List Int), H l = none → ns'.Perm ns → ns'.Pairwise (· ≤ ·) → Q (.ref l) (upd H l (.lst (ns'.map V.int)))
theorem call_sorted : CallR X (.builtin "sorted") (rSorted X.K) := by
  intro pins s σ H xs us Q I r h
  obtain ⟨p, ns, rfl, hq, h64, q⟩ := h
  obtain ⟨u, rfl, rx⟩ := vals1 r
  cases rx
  have fin : ∀ (h1 h' : Heap) (out : Array Value) (ns' : List Int) (e : Nat), (∀ b o, s.heap.get? b = some o → h1.get? b = some o) → (∀ b o, h1.get? b = some o → h'.get? b = some o) → h'.get? h1.objs.size = some (seqObj "list" out e) → IntsAre out.toList ns' → ns'.Perm ns → ns'.Pairwise (· ≤ ·) →
      EP X pins σ Q (.ref h1.objs.size) { s with heap := h' } := fun h1 h' out ns' e kp kp2 he a1 a2 a3 => by
    have I1 : Inv X pins σ H { s with heap := h1 } := I.kept (t' := s.toks) kp
    refine ⟨.ref h1.objs.size, _, I1.laid (t' := s.toks) (o := .lst (ns'.map V.int)) kp2 (Nat.le_refl _) ⟨?_, out.toList, e, vals_ints a1, by simpa [seqObj] using he⟩, rfl, q _ ns' (I1.hok.fresh (Nat.le_refl _)) a2 a3⟩
    rw [List.length_map, a2.length_eq]
    exact Nat.le_of_lt (small1000 (by omega))
  rcases hq with hq | hq
  · obtain ⟨its, r', pl, hz⟩ := I.list hq
    obtain ⟨o, n, ho, hc, _, hd⟩ := pl
    have hl := r'.length
    rw [List.length_map] at hl
    rw [List.length_map] at hz
    exact sorted_seq (.inl rfl) ho hc hd (intsAre_of r') (by omega) (by rw [List.size_toArray]; omega) fin
  · obtain ⟨its, r', pl, hz⟩ := I.tuple hq
    obtain ⟨o, ho, hc, n, hd⟩ := pl
    have hl := r'.length
    rw [List.length_map] at hl
    rw [List.length_map] at hz
    exact sorted_seq (.inr rfl) ho hc hd (intsAre_of r') (by omega) (by rw [List.size_toArray]; omega) fin
def rRange1 : List V → Hp → VK → Prop := fun xs H Q => ∃ j : Int, xs = [.int j] ∧ ∀ p : Addr, H p = none → Q (.ref p) (upd H p (.rng 0 j))
def rListRng : List V → Hp → VK → Prop := fun xs H Q => ∃ (p : Addr) (n : Nat), xs = [.ref p] ∧ H p = some (.rng 0 (n : Int)) ∧ n ≤ 1000 ∧ ∀ l : Addr, H l = none → Q (.ref l) (upd H l (.lst ((upto n).map V.int)))
def rLen (K : PySem.W.Frag) : List V → Hp → VK → Prop := fun xs H Q => ∃ (p : Addr) (ys : List V), xs = [.ref p] ∧ (SqL K H p ys ∨ SqT K H p ys) ∧ Q (.int ys.length) H
theorem call_len_r : CallR X (.builtin "len") (rLen X.K) := call_len_seq
theorem call_range1 : CallR X (.type "range") rRange1 := by
  intro pins s σ H xs us Q I r h
  obtain ⟨j, rfl, q⟩ := h
  obtain ⟨u, rfl, t, rfl⟩ := vals1 r
  exact call_range_1 ⟨.ref s.heap.objs.size, _, I.laid (o := .rng 0 j) (fun b o e => Heap.get?_push_of_some _ e) (Nat.le_refl _) ⟨_, _, _, Heap.get?_push_size _ rfl⟩, rfl, q _ (I.hok.fresh (Nat.le_refl _))⟩
theorem call_list_rng (hc : X.calm = true) : CallR X (.type "list") rListRng := by
  intro pins s σ H xs us Q I r h
  obtain ⟨p, n, rfl, hp, hn, q⟩ := h
  obtain ⟨u, rfl, rx⟩ := vals1 r
  cases rx
  obtain ⟨t, u, v, ho⟩ := I.hok p _ hp
  refine call_list_range (I.ok.hd hc) ho (small_one (by omega) (by omega) (by omega) (by omega)) (n := n) (by rw [rangeSize_one]; split <;> omega) (by omega) fun h' tk acc' c' hk hS' hacc => ?_
  refine ⟨.ref s.heap.objs.size, _, I.laid (t' := tk) (o := .lst ((upto n).map V.int)) hk (Nat.le_refl _) ⟨?_, acc'.toList, c', ?_, by simpa using hS'⟩, rfl, q _ (I.hok.fresh (Nat.le_refl _))⟩
  · rw [List.length_map, upto_length]
    exact Nat.le_of_lt (small1000 hn)
  · refine vals_of_get (by rw [List.length_map, upto_length]; simp [hacc.1]) fun i x u e1 e2 => ?_
    obtain ⟨t', rfl⟩ := hacc.2 i u (by simpa using e2)
    have hi : i < n := by
      have := (List.getElem?_eq_some_iff.mp e1).1
      rw [List.length_map, upto_length] at this
      exact this
    rw [List.getElem?_map, upto_get hi] at e1
    have e3 : V.int (i : Int) = x := Option.some.inj e1
    subst e3
    exact ⟨t', by rw [show (0 : Int) + (i : Int) * 1 = (i : Int) by omega]⟩
theorem seq_mid {t u : TS} {D : Ends} {σ : St} {H : Hp} (M : St → Hp → Prop) (h1 : ∀ nx : St → Hp → Prop, (∀ σ H, M σ H → nx σ H) → t { D with nx := nx } σ H) (h2 : ∀ σ H, M σ H → u D σ H) : tSeq t u D σ H := h1 _ h2
theorem pe_ty {x : Str} {T : String} {pos : Pos} (hg : Gl X x) (hm : X.mg x = none) (hv : bootBuiltins x = some (.type T)) (hn : x ≠ "__name__" := by decide) (hd : (x == ("__debug__" : Str)) = false := by decide) : PE X (.Name x pos) (tC (.ty T)) := pe_bltn hg hm hv rfl hn hd
end
end L2
namespace L2
open PySem PySem.Spec PyProof.Rows
def HasFn (P : Program) (w : World) (K : PySem.W.Frag) (mg : Str → Option Value) (base : Heap) (k : Nat) (x : Str) (ps : List Str) (sp : Sp) : Prop :=
  ∃ f fd, FnOk P w K mg base CX0 k f fd ps sp ∧ Binds K fd ps [] ∧ PySem.W.keepIn K (.ref f) = true ∧ mg x = some (.ref f)
section
variable {P : Program} {w : World} {K : PySem.W.Frag} {mg : Str → Option Value} {base : Heap} {X : Cx} {k j : Nat} {sp : Sp} {x : Str} {ps : List Str}
theorem pe_fn {p pos : Pos} {e : Expr} {es : List Expr} {t : TA} (h : HasFn X.prog X.w X.K X.mg X.base k x ps sp) (hr : Room j X.A) (hj : k ≤ j) (hg : Gl X x) (ha : PA X (e :: es) t)
    (hdb : (x == ("__debug__" : Str)) = false := by decide) (he : starEach (e :: es) X.env = (false, eval e X.env) :: starEach es X.env := by rfl) (hpl : (backTo pos (starEach es X.env)).any (·.1) = false := by rfl) :
    PE X (.Call (.Name x p) (e :: es) [] pos) (tCall sp [] E0 t) := by
  obtain ⟨f, fd, F, b, kp, m⟩ := h
  exact pe_call F (hr.mono hj) hg m kp b .nil pass0 ha hdb he hpl
theorem same_new {H : Hp} {p : Addr} (h : H p = none) (o : HO) : Same H (upd H p o) := fun b u q => by rw [upd_ne (ne_of_none q h)]; exact q
theorem Same.sqt {H H' : Hp} {a : Addr} {xs : List V} (e : Same H H') (h : SqT K H a xs) : SqT K H' a xs := by
  rcases h with (h | ⟨o, h⟩) | h
  · exact .inl (.inl (e _ _ h))
  · exact .inl (.inr ⟨o, e _ _ h⟩)
  · exact .inr h
theorem ix_listK {X : Cx} {K : PySem.W.Frag} (h : X.K = K) : IxR X (rIxL K) := h ▸ ix_list
theorem ix_tupK {X : Cx} {K : PySem.W.Frag} (h : X.K = K) : IxR X (rIxT K) := h ▸ ix_tup
theorem isinstK {X : Cx} {K : PySem.W.Frag} (h : X.K = K) : CallR X (.builtin "isinstance") (rIsi K) := h ▸ call_isinst
theorem lenK {X : Cx} {K : PySem.W.Frag} (h : X.K = K) : CallR X (.builtin "len") (rLen K) := h ▸ call_len_r
theorem yesT {σ : St} {H : Hp} {Q : Bool → Hp → Prop} (h : Q true H) : tYes σ H Q := h
theorem nextE {n : St → Hp → Prop} {rt : VK} {bk ct : St → Hp → Prop} {σ : St} {H : Hp} (h : n σ H) : tNext ⟨n, rt, bk, ct⟩ σ H := h
theorem if_mid {c : TT} {a b u : TS} {D : Ends} {σ : St} {H : Hp} (M : St → Hp → Prop) (h1 : ∀ nx : St → Hp → Prop, (∀ σ H, M σ H → nx σ H) → tIfS c a b { D with nx := nx } σ H) (h2 : ∀ σ H, M σ H → u D σ H) : tSeq (tIfS c a b) u D σ H := h1 _ h2
theorem mod_bd (x : Int) {m : Int} (h0 : 0 < m) (h1 : m ≤ 2 ^ 62) : -(2 ^ 64) < x % m ∧ x % m < 2 ^ 64 := by
  have a := Int.emod_nonneg x (Int.ne_of_gt h0)
  have b := Int.emod_lt_of_pos x h0
  omega
theorem perm_erase {α : Type} : ∀ (l : List α) (k : Nat) (h : k < l.length), l.Perm (l[k] :: l.eraseIdx k)
  | [], k, h => absurd h (Nat.not_lt_zero k)
  | a :: r, 0, _ => List.Perm.refl _
  | a :: r, k + 1, h => by
    have q := perm_erase r k (Nat.lt_of_succ_lt_succ h)
    exact (List.Perm.cons a q).trans (List.Perm.swap _ _ _)
theorem map_erase {α β : Type} (f : α → β) : ∀ (l : List α) (k : Nat), (l.map f).eraseIdx k = (l.eraseIdx k).map f
  | [], _ => rfl
  | _ :: _, 0 => rfl
  | a :: r, k + 1 => by
    show f a :: (r.map f).eraseIdx k = f a :: (r.eraseIdx k).map f
    rw [map_erase f r k]
theorem ixN_in {n : Nat} {i : Int} (h0 : 0 ≤ i) (h1 : i < n) : ixN n i = some i.toNat := by
  unfold ixN
  rw [if_pos h0, if_pos h1]
theorem atI_in {ns : List Int} {i : Int} (h0 : 0 ≤ i) (h1 : i < ns.length) : atI (ns.map V.int) i = some (.int (ns.getD i.toNat 0)) := by
  have hi : i.toNat < ns.length := by omega
  have e : i = ((i.toNat : Nat) : Int) := by omega
  rw [e]
  refine atI_nat ?_
  rw [List.getElem?_map, List.getD_eq_getElem?_getD, Int.toNat_natCast, List.getElem?_eq_getElem hi]
  rfl
theorem get_int {ns : List Int} {i : Nat} {y : V} (h : (ns.map V.int)[i]? = some y) : ∃ z, y = .int z ∧ ns[i]? = some z := by
  rw [List.getElem?_map] at h
  cases e : ns[i]? with
  | none => rw [e] at h; cases h
  | some z => rw [e] at h; exact ⟨z, (Option.some.inj h).symm, rfl⟩
theorem snoc_int (ns : List Int) (z : Int) : ns.map V.int ++ [V.int z] = (ns ++ [z]).map V.int := by simp
theorem cut_ints (ns : List Int) (lo hi : Option Int) : ∃ ms : List Int, cutV (ns.map V.int) lo hi = ms.map V.int := by
  refine ⟨(ns.drop (HT.sIx ns.length 0 lo)).take (HT.sIx ns.length ns.length hi - HT.sIx ns.length 0 lo), ?_⟩
  unfold cutV
  rw [List.length_map, List.map_take, List.map_drop]
end
theorem bt_abs : bootBuiltins "abs" = some (.builtin "abs") := by decide +kernel
theorem bt_all : bootBuiltins "all" = some (.builtin "all") := by decide +kernel
theorem bt_len : bootBuiltins "len" = some (.builtin "len") := by decide +kernel
theorem bt_min : bootBuiltins "min" = some (.builtin "min") := by decide +kernel
theorem bt_sorted : bootBuiltins "sorted" = some (.builtin "sorted") := by decide +kernel
theorem bt_isinstance : bootBuiltins "isinstance" = some (.builtin "isinstance") := by decide +kernel
theorem bt_list : bootBuiltins "list" = some (.type "list") := by decide +kernel
theorem bt_tuple : bootBuiltins "tuple" = some (.type "tuple") := by decide +kernel
theorem bt_range : bootBuiltins "range" = some (.type "range") := by decide +kernel
theorem bt_bool : bootBuiltins "bool" = some (.type "bool") := by decide +kernel
theorem bt_int : bootBuiltins "int" = some (.type "int") := by decide +kernel
theorem bt_str : bootBuiltins "str" = some (.type "str") := by decide +kernel
def Bd (d p : Int) : Prop := 0 ≤ d ∧ d < p
def spCell (K : PySem.W.Frag) : Sp := fun vs H Q _ => ∃ (a : Addr) (ns : List Int) (k : Int), vs = [.ref a, .int k] ∧ SqL K H a (ns.map V.int) ∧ 0 ≤ k ∧ ∀ c : Int, Q (.int c) H
def spDraws (K : PySem.W.Frag) : Sp := fun vs H Q _ => ∃ (c : Int) (a : Addr) (ps : List Int), vs = [.int c, .ref a] ∧ SqL K H a (ps.map V.int) ∧ (∀ p ∈ ps, 0 < p ∧ p < 1073741824) ∧ ps.length ≤ 60 ∧
  ∀ (l : Addr) (ds : List Int) (H' : Hp), H l = none → Same H H' → H' l = some (.lst (ds.map V.int)) → Paired Bd ds ps → Q (.ref l) H'
def spTurn : Sp := fun vs H Q _ => ∃ (c : Int) (n : Nat), vs = [.int c, .int (n : Int)] ∧ n ≤ 60 ∧
  ∀ (t : Addr) (ns : List Int) (H' : Hp), H t = none → Same H H' → H' t = some (.tup (ns.map V.int)) → ns.Perm (upto n) → Q (.ref t) H'
theorem ps_asgS {X : Cx} {o i e : Expr} {to ti te : TE} {t : TSet} {tp pos : Pos} (ho : PE X o to) (hi : PE X i ti) (hs : PSet X t) (he : PE X e te)
    (h1 : swapsWithSole [.Subscript o i tp] e pos.line X.env = pure false := by rfl) (h2 : swappedStores [.Subscript o i tp] e X.env = pure none := by rfl)
    (h3 : (assignEach [.Subscript o i tp] X.env).map (·.2) = [assign (.Subscript o i tp) X.env] := by rfl)
    (ha : ∀ v, assign (.Subscript o i tp) X.env v = (do
      let ov ← holding [v] (eval o X.env)
      let iv ← holding [v, ov] (eval i X.env)
      standAt tp
      holding [v, ov, iv] (setItem ov iv v)
      release [v, ov, iv] []) := by intro _; rfl) : PS X (.Assign [.Subscript o i tp] e pos) (tAsg te (gSub to ti t)) := ps_asg he (pg_sub ho hi hs ha) h1 h2 h3
end L2
namespace L2
open PySem PySem.Spec PyProof.Rows
def XRec (h : Heap) (a C : Addr) (d : Option Addr) (vs : Array Value) : Prop := ∃ oe : Obj, h.get? a = some oe ∧ oe.cls = .ref C ∧ oe.dict = d ∧ oe.data = .fields vs ∧ 1 < vs.size
def xo (a C : Addr) (d : Option Addr) : HO := .ext fun h => ∃ vs, XRec h a C d vs
def Fly (lo : Nat) (H : Hp) (h : Heap) (vs : Array Value) : Prop :=
  vs[1]? = some Value.none ∨ ∃ T oT ts, vs[1]? = some (Value.ref T) ∧ lo ≤ T ∧ H T = none ∧ h.get? T = some oT ∧ oT.data = .fields ts ∧ ts[3]? = some Value.none
def CXe (P : Program) (w : World) : CXT := fun outer H s E e s' => ∃ (a C d : Addr) (H' : Hp) (vs : Array Value), e = .ref a ∧ s.heap.objs.size ≤ a ∧ s'.os = s.os ∧ AllBare s'.gens ∧ Un (frs outer) [] H H' s.heap s'.heap ∧ HOk P w H' s'.heap ∧
  H' a = some (xo a C (some d)) ∧ XRec s'.heap a C (some d) vs ∧ Fly s.heap.objs.size H' s'.heap vs ∧ E (.ref C) (some d) H'
section
variable {M : Model} {A : Around} {Er : Value → Shared → Prop} {s : Shared}
end
section
variable {P : Program} {w : World} {A : Around} {Er : Value → Shared → Prop}
end
end L2
namespace L2
open PySem PySem.Spec PyProof.Rows
section
variable {P : Program} {w : World} {K : PySem.W.Frag} {mg : Str → Option Value} {base : Heap} {N : List Str} {qual : Str} {scope : Scope} {f : Addr} {cd : Value} {A : Around} {outer : List Env} {s : Shared} {H : Hp} {E : XK}
theorem ownF : PassesOwn (model P w) (cxOf (CXe P w) P w K mg base N qual scope f cd A outer s H E).A (cxOf (CXe P w) P w K mg base N qual scope f cd A outer s H E).env (cxOf (CXe P w) P w K mg base N qual scope f cd A outer s H E).xe :=
  fun e s' h => PassesOwn.leaving (Q₁ := fun e s'' => CXe P w outer H s E e s'') e s' h
end
section
variable {X : Cx} {k j : Nat} {f C : Addr} {fd : FuncData} {ps : List Str} {sp : Sp} {dvs : List V} {ds : List Value} {E : St → XK} {x m : Str} {p pos apos : Pos} {e o : Expr} {es : List Expr} {ta : TE} {t : TA}
end
section
variable {P : Program} {w : World} {K : PySem.W.Frag} {mg : Str → Option Value} {base : Heap}
theorem Fun.okX {x qual : Str} {st : Stmt} {f : Addr} {fd : FuncData} {N ps : List Str} {k : Nat} {sp : Sp} (F : Fun K x qual st f fd) (S : FnScope N ps (defScope st)) (len : ∀ vs H Q E, sp vs H Q E → vs.length = ps.length)
    (hbody : ∀ (cdv : Value) (A : Around) (outer : List Env) (s : Shared) (H : Hp) (vs : List V) (Q : VK) (E : XK), Room k (A.deeper (envOfC qual (defScope st) s.heap.objs.size f cdv)) → sp vs H Q E →
      ∃ t, PSs (cxOf (CXe P w) P w K mg base N qual (defScope st) f cdv A outer s H E) (defBody st) t ∧ t { nx := fun _ H' => Q .non H', rt := Q } (start N vs) H) : FnOk P w K mg base (CXe P w) (k + 1) f fd ps sp := by
  obtain ⟨oc, od, kV, doc, pm, an, cdv, ct, osl, rfl, lk, hcd⟩ := F.ex
  exact fn_of lk hcd S len fun A outer s H vs Q E hr hsp => hbody cdv A outer s H vs Q E hr hsp
end
section
variable {prog : Program} {w : World} {A : Around} {E : Value → Shared → Prop} {h : Heap} {g : Array GenState} {d : Drawn} {t : Nat} {os : OsState}
variable {nm q : Str} {C N : Addr} {bs bm : List Value} {hdct : Bool} {sn : List Str} {sub : List Value} {ab : Bool} {col : Option Bool} {dd : Option Addr} {k0 k1 k2 k3 k5 : Option Value}
local macro_rules | `(tactic| walk_at "vlu") => `(tactic| exact PySem.F.excBase_ValueError)
end
end L2
namespace L2
open PySem PySem.Spec PyProof.Rows
open PySem.W (Looks InstAt looks_findIn looks_typeIn looks_clsIn looks_mroIn looks_find findObj findIn mroIn clsIn)
section
variable {prog : Program} {w : World} {A : Around} {E : Value → Shared → Prop} {s : Shared} {K : PySem.W.Frag} {x C : Addr} {ox : Obj} {od : Option Obj} {name : Str}
end
end L2
namespace L2
open PySem PySem.Spec PyProof.Rows
open PySem.W (Looks InstAt looks_findIn looks_typeIn looks_clsIn looks_mroIn looks_find findObj findIn mroIn clsIn)
section
variable {prog : Program} {w : World} {A : Around} {E : Value → Shared → Prop} {s : Shared} {K : PySem.W.Frag} {x C : Addr} {name : Str} {nV v : Value} {b : Bool} {tk : Tok}
end
section
variable {X : Cx} {o e value : Expr} {f : Str} {pos pos' : Pos} {ta tv : TE}
end
end L2
namespace L2
open PySem PySem.Spec PyProof.Rows
open PySem.W (Looks InstAt looks_findIn looks_typeIn looks_clsIn looks_mroIn looks_find findObj findIn mroIn clsIn)
section
variable {X : Cx} {CX : CXT} {k : Nat} {f C : Addr} {fd : FuncData} {ps : List Str} {sp : Sp} {dvs : List V} {ds : List Value} {E : XK} {x m : Str} {p pos apos : Pos} {e : Expr} {es : List Expr} {t : TA}
end
section
variable {M : Model} {A : Around} {E : Value → Shared → Prop} {s : Shared} {K : PySem.W.Frag} {a C : Addr}
end
section
variable {X : Cx} {x : Str} {p pos apos : Pos} {e : Expr} {es : List Expr} {t : TA}
end
section
variable {X : Cx} {k : Nat} {f C : Addr} {fd : FuncData} {ps : List Str} {sp : Sp} {dvs : List V} {ds : List Value} {E : St → XK} {x : Str} {p pos cpos : Pos} {e : Expr} {es : List Expr} {t : TA}
end
end L2
namespace L2
open PySem PySem.Spec PyProof.Rows
open PySem.W (Looks InstAt looks_findIn looks_typeIn looks_clsIn looks_mroIn looks_find findObj findIn mroIn clsIn)
section
variable {X : Cx} {pins : List (Addr × Obj)} {σ : St} {H : Hp} {s : Shared}
end
section
variable {M : Model} {A : Around} {E : Value → Shared → Prop} {s : Shared} {K : PySem.W.Frag} {a C B : Addr} {d : Option Addr} {vs : Array Value}
end
section
variable {X : Cx} {B : Addr} {i : Nat} {n x : Str} {body suite : List Stmt} {b0 : Stmt} {px hp pos : Pos} {tb : (St → XK) → TS} {th : TS}
end
section
variable {X : Cx} {e : Expr} {te : TE} {pos : Pos}
end
section
variable {X : Cx} {e e2 : Expr} {es : List Expr} {te : TE} {t : TJ} {pos : Pos}
end
end L2
namespace L2
open PySem PySem.Spec PyProof.Rows
structure Bl (mg : Str → Option Value) : Prop where
  n_len : mg "len" = none
  n_abs : mg "abs" = none
  n_list : mg "list" = none
  n_range : mg "range" = none
  n_tuple : mg "tuple" = none
  n_any : mg "any" = none
  n_all : mg "all" = none
  n_isinstance : mg "isinstance" = none
  n_bool : mg "bool" = none
  n_int : mg "int" = none
  n_str : mg "str" = none
  n_sorted : mg "sorted" = none
  n_min : mg "min" = none
  n_max : mg "max" = none
  n_sum : mg "sum" = none
  n_dict : mg "dict" = none
  n_reversed : mg "reversed" = none
  n_ValueError : mg "ValueError" = none
theorem allK {X : Cx} {K : PySem.W.Frag} (hc : X.calm = true) (h : X.K = K) : CallR X (.builtin "all") (rAll K) := h ▸ call_all_bools hc
theorem inK {X : Cx} {K : PySem.W.Frag} (h : X.K = K) : OpR X (compareOp .In) (rIn K false) := h ▸ op_in_seq
theorem notInK {X : Cx} {K : PySem.W.Frag} (h : X.K = K) : OpR X (compareOp .NotIn) (rIn K true) := h ▸ op_notIn_seq
theorem ix_seqK {X : Cx} {K : PySem.W.Frag} (h : X.K = K) : IxR X (rIx K) := h ▸ ix_seq
section
variable {P : Program} {w : World} {K : PySem.W.Frag} {mg : Str → Option Value} {base : Heap}
end
theorem kit_ii {K : PySem.W.Frag} : PySem.W.kitOne K (.type "int") (.type "int") = some true := by kernel_rfl
theorem kit_ib {K : PySem.W.Frag} : PySem.W.kitOne K (.type "int") (.type "bool") = some false := by kernel_rfl
theorem kit_bb {K : PySem.W.Frag} : PySem.W.kitOne K (.type "bool") (.type "bool") = some true := by kernel_rfl
theorem kit_sb {K : PySem.W.Frag} : PySem.W.kitOne K (.type "str") (.type "bool") = some false := by kernel_rfl
theorem kit_si {K : PySem.W.Frag} : PySem.W.kitOne K (.type "str") (.type "int") = some false := by kernel_rfl
theorem kit_ss {K : PySem.W.Frag} : PySem.W.kitOne K (.type "str") (.type "str") = some true := by kernel_rfl
theorem kit_lb {K : PySem.W.Frag} : PySem.W.kitOne K (.type "list") (.type "bool") = some false := by kernel_rfl
theorem kit_li {K : PySem.W.Frag} : PySem.W.kitOne K (.type "list") (.type "int") = some false := by kernel_rfl
theorem kit_ls {K : PySem.W.Frag} : PySem.W.kitOne K (.type "list") (.type "str") = some false := by kernel_rfl
theorem kit_ll {K : PySem.W.Frag} : PySem.W.kitOne K (.type "list") (.type "list") = some true := by kernel_rfl
theorem kit_lt {K : PySem.W.Frag} : PySem.W.kitOne K (.type "list") (.type "tuple") = some false := by kernel_rfl
theorem kit_tb {K : PySem.W.Frag} : PySem.W.kitOne K (.type "tuple") (.type "bool") = some false := by kernel_rfl
theorem kit_ti {K : PySem.W.Frag} : PySem.W.kitOne K (.type "tuple") (.type "int") = some false := by kernel_rfl
theorem kit_ts {K : PySem.W.Frag} : PySem.W.kitOne K (.type "tuple") (.type "str") = some false := by kernel_rfl
theorem kit_tl {K : PySem.W.Frag} : PySem.W.kitOne K (.type "tuple") (.type "list") = some false := by kernel_rfl
theorem kit_tt {K : PySem.W.Frag} : PySem.W.kitOne K (.type "tuple") (.type "tuple") = some true := by kernel_rfl
theorem snoc_int' (ns : List Int) (o : Option Int) : (ns ++ o.toList).map V.int = ns.map V.int ++ o.toList.map V.int := by simp
inductive Dt where
  | non | bl (b : Bool) | int (i : Int) | str (x : Str) | lst (ds : List Dt) | tup (ds : List Dt)
def At (H : Hp) : Nat → V → Dt → Prop
  | _, v, .non => v = .non
  | _, v, .bl b => v = .bl b
  | _, v, .int i => v = .int i
  | _, v, .str x => v = .str x
  | 0, _, .lst _ => False
  | 0, _, .tup _ => False
  | m + 1, v, .lst ds => ∃ a xs, v = .ref a ∧ H a = some (.lst xs) ∧ ds.length ≤ 1000 ∧ Paired (At H m) xs ds
  | m + 1, v, .tup ds => ∃ a xs, v = .ref a ∧ H a = some (.tup xs) ∧ ds.length ≤ 1000 ∧ Paired (At H m) xs ds
theorem At.same {H H' : Hp} (g : Same H H') : ∀ {m : Nat} {v : V} {d : Dt}, At H m v d → At H' m v d
  | _, _, .non, h => by unfold At at h ⊢; exact h
  | _, _, .bl _, h => by unfold At at h ⊢; exact h
  | _, _, .int _, h => by unfold At at h ⊢; exact h
  | _, _, .str _, h => by unfold At at h ⊢; exact h
  | 0, _, .lst _, h => by unfold At at h; exact h.elim
  | 0, _, .tup _, h => by unfold At at h; exact h.elim
  | m + 1, _, .lst _, h => by
    unfold At at h ⊢
    obtain ⟨a, xs, e, h1, h2, h3⟩ := h
    exact ⟨a, xs, e, g _ _ h1, h2, L2.Paired.mapP h3 fun _ _ z => At.same g z⟩
  | m + 1, _, .tup _, h => by
    unfold At at h ⊢
    obtain ⟨a, xs, e, h1, h2, h3⟩ := h
    exact ⟨a, xs, e, g _ _ h1, h2, L2.Paired.mapP h3 fun _ _ z => At.same g z⟩
section
variable {H : Hp} {m : Nat}
theorem at_int (i : Int) : At H m (.int i) (.int i) := by unfold At; rfl
theorem at_lst {a : Addr} {xs : List V} {ds : List Dt} (h : H a = some (.lst xs)) (l : ds.length ≤ 1000) (p : Paired (At H m) xs ds) : At H (m + 1) (.ref a) (.lst ds) := by unfold At; exact ⟨a, xs, rfl, h, l, p⟩
theorem at_ints : ∀ ns : List Int, Paired (At H m) (ns.map V.int) (ns.map Dt.int)
  | [] => .nil
  | n :: r => .cons (at_int n) (at_ints r)
theorem at_lint {a : Addr} {ns : List Int} (h : H a = some (.lst (ns.map V.int))) (l : ns.length ≤ 1000) : At H (m + 1) (.ref a) (.lst (ns.map Dt.int)) := at_lst h (by rw [List.length_map]; exact l) (at_ints ns)
end
theorem paired_get {α β : Type} {F : α → β → Prop} : ∀ {xs : List α} {ys : List β} {i : Nat} {x : α}, Paired F xs ys → xs[i]? = some x → ∃ y, ys[i]? = some y ∧ F x y
  | _, _, _, _, .nil, h => by simp at h
  | _, _, 0, _, .cons r _, h => by
    have e := Option.some.inj (show some _ = some _ by simpa using h)
    subst e
    exact ⟨_, rfl, r⟩
  | _, _, i + 1, x, .cons _ t, h => by
    obtain ⟨y, h1, h2⟩ := paired_get (i := i) (x := x) t (by simpa using h)
    exact ⟨y, by simpa using h1, h2⟩
theorem paired_len {α β : Type} {F : α → β → Prop} : ∀ {xs : List α} {ys : List β}, Paired F xs ys → xs.length = ys.length
  | _, _, .nil => rfl
  | _, _, .cons _ t => by rw [List.length_cons, List.length_cons, paired_len t]
theorem atI_some {α : Type} {xs : List α} {i : Nat} {x : α} (h : xs[i]? = some x) : atI xs (0 + (i : Int)) = some x := by
  rw [show (0 : Int) + (i : Int) = (i : Int) from by omega]
  exact atI_nat h
def rTupRng : List V → Hp → VK → Prop := fun xs H Q => ∃ (p : Addr) (n : Nat), xs = [.ref p] ∧ H p = some (.rng 0 (n : Int)) ∧ n ≤ 1000 ∧ ∀ l : Addr, H l = none → Q (.ref l) (upd H l (.tup ((upto n).map V.int)))
end L2
namespace L2
open PySem PySem.Spec PyProof.Rows
section
variable {prog : Program} {w : World} {A : Around} {E : Value → Shared → Prop} {s : Shared}
theorem collect_rng {Q : List Value → Shared → Prop} {r : Addr} {n : Nat} {t u v : Tok} (hh : A.handled = none) (hr : IsRange s.heap r 0 (n : Int) 1 t u v) (hn : n ≤ 1000)
    (k : ∀ h' tk (acc : Array Value), (∀ b o, s.heap.get? b = some o → h'.get? b = some o) → ItemsOf (fun i v => ∃ t, v = .int (0 + i * 1) t) acc n → Q acc.toList { s with heap := h', toks := tk }) :
    wpAny (model prog w) A (collect (.ref r)) Q E s := by
  unfold collect
  refine wpAny_bind (wpAny_runValue (codeAny_builtin PySem.F.entry_proto_collect ?_))
  rw [Around.under_plainId PySem.F.plain_proto_collect _]
  show wpAny _ A.in1 (newList [] >>= fun l => again (.builtin "list.__iadd__" ⟨[l, .ref r], []⟩)) _ _ s
  refine wpAny_bind (wpAny_newObj_type (wpAny_pure ⟨plainId_quiet PySem.F.plain_list_iadd _, codeAny_builtin PySem.F.entry_list_iadd ?_⟩))
  rw [Around.under_plainId PySem.F.plain_list_iadd _]
  show wpAny _ A.in1 (Builtin.List.listExtendWith (.ref s.heap.objs.size) (.ref r) (.ref s.heap.objs.size)) _ _ _
  have at_ : (s.heap.push { cls := .type "list", data := .seq ([] : List Value).toArray }).get? s.heap.objs.size = some { cls := .type "list", data := .seq #[] 0 } := Heap.get?_push_size _ rfl
  have done_ : ∀ s' : Shared, (∃ (h' : Heap) (tk : Nat) (acc : Array Value) (c : Nat), s' = { s with heap := h', toks := tk } ∧ (∀ b o, b ≠ s.heap.objs.size → (s.heap.push { cls := .type "list", data := .seq ([] : List Value).toArray }).get? b = some o → h'.get? b = some o) ∧
      h'.get? s.heap.objs.size = some { cls := .type "list", dict := none, data := .seq acc c, slots := #[] } ∧ ItemsOf (fun i v => ∃ t, v = .int (0 + i * 1) t) acc n) →
      wpAny (model prog w) A (match Value.ref s.heap.objs.size with
        | Value.ref a => do
          match (← load a).data with
            | Data.seq xs _ => pure xs.toList
            | _ => unsupported "internal:collect"
        | _ => unsupported "internal:collect") Q E s' := by
    rintro s' ⟨h', tk, acc, c, rfl, kp, here, its⟩
    show wpAny _ A (load s.heap.objs.size >>= _) _ _ _
    refine wpAny_bind (wpAny_load here (wpAny_pure (k h' tk acc (fun b o hb => ?_) its)))
    exact kp b o (Nat.ne_of_lt (Heap.lt_size hb)) (Heap.get?_push_of_some _ hb)
  refine wpAny_mono (wpAny_extend_range (A := A) (s := { s with heap := s.heap.push { cls := .type "list", data := .seq ([] : List Value).toArray } })
    (R := fun r s' => r = .ok (.ret (.ref s.heap.objs.size)) ∧ ∃ (h' : Heap) (tk : Nat) (acc : Array Value) (c : Nat), s' = { s with heap := h', toks := tk } ∧ (∀ b o, b ≠ s.heap.objs.size → (s.heap.push { cls := .type "list", data := .seq ([] : List Value).toArray }).get? b = some o → h'.get? b = some o) ∧
      h'.get? s.heap.objs.size = some { cls := .type "list", dict := none, data := .seq acc c, slots := #[] } ∧ ItemsOf (fun i v => ∃ t, v = .int (0 + i * 1) t) acc n)
    hh (Heap.get?_push_of_some _ hr) (small_one (by omega) (by omega) (by omega) (by omega)) (n := n) (by rw [rangeSize_one]; split <;> omega) (by omega) _ _ 0 at_ fun h' tk acc c kp here its => ⟨rfl, h', tk, acc, c, rfl, kp, here, its⟩) (fun fin s' z => ?_) fun e s' z => ?_
  · cases fin with
    | done f =>
      obtain ⟨e, z⟩ := z
      cases e
      exact done_ s' z
    | again c' => exact ⟨z.1, codeAny_mono z.2 fun r s'' hr => by obtain ⟨rfl, hz⟩ := hr; exact done_ s'' hz⟩
  · exact absurd z.1 (by simp)
theorem new_rng (r : Addr) (n : Nat) (t u v : Tok) (hn : n ≤ 1000) :
    Meets (Builtin.«tuple.__new__» ⟨[.type "tuple", .ref r], []⟩) (fun A R s => A.handled = none ∧ IsRange s.heap r 0 (n : Int) 1 t u v ∧ ∀ (h' : Heap) (tk : Nat) (acc : Array Value), (∀ b o, s.heap.get? b = some o → h'.get? b = some o) → ItemsOf (fun i v => ∃ t, v = .int (0 + i * 1) t) acc n →
      R (.ok (.ret (.ref h'.objs.size))) { s with heap := h'.push { cls := .type "tuple", data := .seq acc }, toks := tk }) :=
  .of_wp fun prog w A R s h => by
    obtain ⟨hp, g, d, tk, os⟩ := s
    obtain ⟨hh, ht, q⟩ := h
    have sub := sub_tuple_self
    have ini := init_tuple_lookup
    have mh := madeHere_tuple
    have ty : Shared.TypeIs ⟨hp, g, d, tk, os⟩ (.ref r) "range" := ⟨_, ht, rfl⟩
    have hh1 : A.in1.handled = none := hh
    wp_walk using PySem.AutoSeq1.wpAny_loadPart' ht, wpAny_typeOf ty, collect_rng (A := A.in1) hh1 ht hn
    intro h' tk' acc kp its
    show wpAny _ _ (Builtin.Tuple.tupleExact acc.toList.toArray >>= fun v => ret v) _ _ _
    unfold Builtin.Tuple.tupleExact
    have lz : acc.toList.toArray.size ≤ sizeLine := by
      have e := its.1
      rw [sizeLine_eq]
      simp
      omega
    refine wpAny_bind (wpAny_newObj_type (wpAny_pure ⟨_, rfl, ?_⟩) lz)
    have e : acc.toList.toArray = acc := by simp
    rw [e]
    exact q h' tk' acc kp its
end
theorem call_tuple_rng {X : Cx} (hc : X.calm = true) : CallR X (.type "tuple") rTupRng := by
  intro pins s σ H xs us Q I r h
  obtain ⟨p, n, rfl, hp, hn, q⟩ := h
  obtain ⟨u, rfl, rx⟩ := vals1 r
  cases rx
  obtain ⟨t, u, v, ho⟩ := I.hok p _ hp
  refine callType_new PySem.F.called_tuple (by decide) (PySem.F.typeCall_tuple_1 _) (PySem.F.newCall_tuple_1 _) (fun obj => PySem.F.args_object_init_2 obj _) PySem.F.entry_tuple_new (new_rng p n t u v hn) ⟨I.ok.hd hc, ho, fun h' tk acc kp its => ⟨⟨_, Heap.get?_push_size _ rfl, rfl⟩, ?_⟩⟩
  have I1 : Inv X pins σ H { s with heap := h', toks := tk } := I.kept (t' := tk) kp
  have vs : Vals ((upto n).map V.int) acc.toList := by
    refine vals_of_get (by rw [List.length_map, upto_length]; simp [its.1]) fun i x u e1 e2 => ?_
    obtain ⟨t', rfl⟩ := its.2 i u (by simpa using e2)
    have hi : i < n := by
      have := (List.getElem?_eq_some_iff.mp e1).1
      rw [List.length_map, upto_length] at this
      exact this
    rw [List.getElem?_map, upto_get hi] at e1
    have e3 : V.int (i : Int) = x := Option.some.inj e1
    subst e3
    exact ⟨t', by rw [show (0 : Int) + (i : Int) * 1 = (i : Int) by omega]⟩
  have I2 : Inv X pins σ (upd H h'.objs.size (.tup ((upto n).map V.int))) { s with heap := h'.push { cls := .type "tuple", data := .seq acc }, toks := tk } :=
    I1.laid (t' := tk) (fun b o e => Heap.get?_push_of_some _ e) (Nat.le_refl _) (show ObjOk X.prog X.w _ _ _ (.tup _) from ⟨by rw [List.length_map, upto_length]; exact Nat.le_of_lt (small1000 hn), acc.toList, vs, by simpa using IsTupN.new h' acc⟩)
  exact ⟨.ref h'.objs.size, _, I2, rfl, q _ (I1.hok.fresh (Nat.le_refl _))⟩
end L2
namespace L2
open PySem PySem.Spec PyProof.Rows
section
variable {X : Cx} {e e2 : Expr} {es : List Expr} {te : TE} {t : TF} {pos : Pos}
end
end L2
namespace L2
open PySem PySem.Spec PyProof.Rows
open PySem.W (Looks InstAt looks_findIn looks_typeIn looks_clsIn looks_mroIn looks_find findObj findIn mroIn clsIn)
section
variable {X : Cx} {B1 B2 : Addr} {i : Nat} {n x1 x2 : Str} {body suite1 suite2 : List Stmt} {b1 b2 : Stmt} {px1 px2 hp1 hp2 pos : Pos} {tb : (St → XK) → TS} {th1 th2 : TS}
end
end L2
namespace Orb
open L2
theorem upto_nodup (n : Nat) : (upto n).Nodup := by
  unfold upto
  exact List.Pairwise.map _ (fun a b h e => h (by omega)) List.nodup_range
section
variable {t : List Int} {n : Nat}
end
end Orb
namespace L2
open PySem PySem.Spec PyProof.Rows
def full (ns : List Int) : Bool := decide (ns.Perm (upto ns.length))
theorem full_perm {ns : List Int} (h : full ns = true) : ns.Perm (upto ns.length) := of_decide_eq_true h
theorem full_of {ns : List Int} {n : Nat} (h : ns.Perm (upto n)) : full ns = true := decide_eq_true (by rw [h.length_eq, upto_length]; exact h)
end L2
namespace L2
open PySem PySem.Spec PyProof.Rows
section
open PySem.AutoSeq1 (wpAny_loadPart')
open PySem.MeetsSeq PySem.SeqAt
theorem tuple_indexAt (l : Addr) (items : Array Value) (n : Nat) (dd : Option Addr) (sl : Array (Option Value)) (x : Value) (e : Value → Bool) (j : Nat) (hj : j < items.size)
    (hit : e items[j] = true) (hno : ∀ m (hm : m < items.size), m < j → e items[m] = false) :
    Meets (Builtin.«tuple.index» ⟨[.ref l, x], []⟩)
      (fun A R s => s.heap.get? l = some { cls := .type "tuple", dict := dd, data := .seq items n, slots := sl } ∧ (∀ y, y ∈ items → EqAt A.in1 s y x (e y)) ∧ R (.ok (.ret (.int j s.toks))) { s with toks := s.toks + 1 }) :=
  .of_wp fun prog w A R s h => by
    obtain ⟨hp, g, d, tk, os⟩ := s; obtain ⟨hl, he, h⟩ := h
    wp_walk using wpAny_loadPart' hl
    show wpAny _ _ (forIn (m := Sem) [:min items.size items.size] (none, ()) _) _ _ _
    rw [Std.Legacy.Range.forIn_eq_forIn_range']
    simp only [Std.Legacy.Range.size, Nat.sub_zero, Nat.add_sub_cancel, Nat.div_one, Nat.min_self]
    refine wpAny_forIn_list _ (fun rest b s' => s' = ⟨hp, g, d, tk, os⟩ ∧ ∃ i, i ≤ j ∧ rest = List.range' i (items.size - i)) _ ?_ ?_ _ _ ⟨rfl, 0, Nat.zero_le _, by simp⟩
    · rintro k rest b s' ⟨rfl, i, hi, hr⟩
      have hlt : i < items.size := by omega
      obtain ⟨rfl, hrest⟩ : k = i ∧ rest = List.range' (i + 1) (items.size - (i + 1)) := by
        have e : items.size - i = (items.size - (i + 1)) + 1 := by omega
        rw [e, List.range'_succ] at hr
        injection hr with h1 h2
        exact ⟨h1, h2⟩
      rw [Array.getElem?_eq_getElem hlt]
      refine wpAny_bind (he _ (Array.getElem_mem hlt) prog w _ _ ?_)
      rcases Nat.lt_or_ge k j with hk | hk
      · rw [hno k hlt hk]
        wp_walk
        exact ⟨rfl, k + 1, by omega, hrest⟩
      · obtain rfl : k = j := by omega
        rw [hit]
        wp_walk
        exact ⟨_, rfl, h⟩
    · rintro b s' ⟨_, i, hi, hr⟩
      exfalso
      have : (List.range' i (items.size - i)).length = 0 := by rw [← hr]; rfl
      rw [List.length_range'] at this
      omega
end
def tTupIx (to : TE) (t : TA) : TE := fun σ H Q => to σ H fun x H1 => ∃ (p : Addr) (ns : List Int), x = .ref p ∧ H1 p = some (.tup (ns.map V.int)) ∧ t σ H1 fun vs H2 => ∃ (z : Int) (j : Nat), vs = [.int z] ∧ H2 p = some (.tup (ns.map V.int)) ∧ ns[j]? = some z ∧ (∀ m, m < j → ns[m]? ≠ some z) ∧ Q (.int (j : Int)) H2
theorem vals_ints_get : ∀ {ns : List Int} {us : List Value} {j : Nat} (h : j < us.length), Vals (ns.map V.int) us → ∃ n t, ns[j]? = some n ∧ us[j] = .int n t
  | [], _, _, h, .nil => by simp at h
  | n :: ns, u :: us, 0, _, .cons r _ => by
    obtain ⟨t, rfl⟩ := r
    exact ⟨n, t, rfl, rfl⟩
  | n :: ns, u :: us, j + 1, h, .cons _ r => by
    obtain ⟨n', t, e1, e2⟩ := vals_ints_get (j := j) (by simpa using h) r
    exact ⟨n', t, by simpa using e1, by simpa using e2⟩
theorem flat_ints (ns : List Int) : (ns.map V.int).all flatV = true := by
  induction ns with
  | nil => rfl
  | cons n ns ih => rw [List.map_cons, List.all_cons, ih]; rfl
theorem pe_tupindex {X : Cx} {o e : Expr} {to : TE} {t : TA} {apos cpos : Pos} (ho : PE X o to) (ha : PA X [e] t)
    (hbase : attributeBase o "index" X.env (eval o X.env) = eval o X.env := by rfl)
    (hfew : ((backTo cpos (starEach [e] X.env)).all (fun x => !x.1) && (backToKw cpos (keywordEach [] X.env)).all (fun x => x.1.isSome)
      && decide ([e].length + ([] : List Keyword).length + (if ([] : List Keyword).isEmpty then 0 else 1) < 30)) = true := by rfl)
    (hline : (apos.endLine == cpos.line) = true := by rfl) (hs : starEach [e] X.env = (false, eval e X.env) :: starEach [] X.env := by rfl) :
    PE X (.Call (.Attribute o "index" apos) [e] [] cpos) (tTupIx to t) := by
  intro pins s σ H Q I h
  refine wpAny_Call_method_late hbase hfew hline rfl (thn (ho pins s σ H _ I h) fun v s1 zq => ?_)
  obtain ⟨x, H1, I1, r1, p, ns, ex, hp, q1⟩ := zq
  subst ex
  obtain rfl : v = Value.ref p := r1
  obtain ⟨_, _, _, ob, g, oc, _, _, od⟩ := (show ObjOk X.prog X.w H1 s1.heap p (.tup (ns.map V.int)) from I1.hok p _ hp)
  refine ⟨"tuple", "tuple.index", F.plainAttrs_tuple, F.slot_tuple_index, F.type_tuple_index, ⟨ob, g, oc⟩, fun a ea => by cases ea; exact ⟨ob, g, od⟩, ?_⟩
  have hA := ha cpos pins s1 σ H1 _ I1 q1
  rw [hs] at hA ⊢
  refine Calls.callWith_builtin rfl (Calls.evalArgs_plain ?_)
  refine thn hA fun us s2 zq => ?_
  obtain ⟨vs, H2, I2, r2, z, j, ev, hp2, hj, hno, q2⟩ := zq
  subst ev
  obtain ⟨u, rfl, ru⟩ := r2.one
  obtain ⟨tz, rfl⟩ := ru
  obtain ⟨_, its, rv, ⟨cls, dd, data, sl⟩, g2, oc2, n2, od2, _⟩ := (show ObjOk X.prog X.w H2 s2.heap p (.tup (ns.map V.int)) from I2.hok p _ hp2)
  simp only at oc2 od2
  subst oc2 od2
  have hlen : its.length = ns.length := by have := rv.length; rw [List.length_map] at this; omega
  have hjl : j < its.length := by rw [hlen]; exact (List.getElem?_eq_some_iff.mp hj).1
  have ix : ∀ m (hm : m < its.length), eqU (.int z) its[m] = decide (ns[m]? = some z) := fun m hm => by
    obtain ⟨n', t', e1, e2⟩ := vals_ints_get hm rv
    rw [e1, e2]
    show (n' == z) = decide (some n' = some z)
    rw [Bool.eq_iff_iff, beq_iff_eq, decide_eq_true_iff]
    exact ⟨fun z => by rw [z], fun z => Option.some.inj z⟩
  refine call_meets F.slot_tuple_index ⟨_, g2, rfl⟩ F.entry_tuple_index (F.args_tuple_index_2 _ _) (tuple_indexAt p its.toArray n2 dd sl (.int z tz) (eqU (.int z)) j (by rw [List.size_toArray]; exact hjl) ?_ ?_) ⟨g2, ?_, ?_⟩
  · rw [List.getElem_toArray, ix j hjl]; exact decide_eq_true hj
  · intro m hm hlt
    rw [List.getElem_toArray, ix m (by simpa using hm)]
    exact decide_eq_false (hno m hlt)
  · intro y hy
    exact mem_eqAt (x := .int z) ⟨tz, rfl⟩ rfl rv (flat_ints ns) y (by simpa using hy)
  · exact ⟨.int _, H2, I2.tok _, ⟨_, rfl⟩, q2⟩
end L2
namespace L2
open PySem PySem.Spec PyProof.Rows
section
variable {κ : Type} [DecidableEq κ]
def valV (kvs : List (κ × V)) (k : κ) : Option V := (kvs.find? fun kv => decide (kv.1 = k)).map (·.2)
def putK (kvs : List (κ × V)) (k : κ) (v : V) : List (κ × V) :=
  if (kvs.any fun kv => decide (kv.1 = k)) = true then kvs.map (fun kv => if kv.1 = k then (kv.1, v) else kv) else kvs ++ [(k, v)]
def dropK (kvs : List (κ × V)) (k : κ) : List (κ × V) := kvs.filter fun kv => decide (kv.1 ≠ k)
theorem valV_pos {p : κ × V} {r : List (κ × V)} {k : κ} (e : p.1 = k) : valV (p :: r) k = some p.2 := by simp [valV, List.find?_cons, e]
theorem valV_neg {p : κ × V} {r : List (κ × V)} {k : κ} (e : ¬ p.1 = k) : valV (p :: r) k = valV r k := by simp [valV, List.find?_cons, e]
theorem valV_any (k : κ) : ∀ kvs : List (κ × V), (kvs.any fun kv => decide (kv.1 = k)) = (valV kvs k).isSome
  | [] => rfl
  | p :: r => by
    rw [List.any_cons]
    by_cases e : p.1 = k
    · simp only [valV_pos e, decide_eq_true e, Bool.true_or, Option.isSome_some]
    · rw [valV_neg e, decide_eq_false e, Bool.false_or]; exact valV_any k r
theorem valV_map (k j : κ) (y : V) : ∀ kvs : List (κ × V), valV (kvs.map fun kv => if kv.1 = k then (kv.1, y) else kv) j = (valV kvs j).map fun x => if j = k then y else x
  | [] => rfl
  | p :: r => by
    have ih := valV_map k j y r
    rw [List.map_cons]
    by_cases h : p.1 = k
    · rw [if_pos h]
      by_cases e : p.1 = j
      · rw [valV_pos (p := (p.1, y)) e, valV_pos e, Option.map_some, if_pos (e.symm.trans h)]
      · rw [valV_neg (p := (p.1, y)) e, valV_neg e, ih]
    · rw [if_neg h]
      by_cases e : p.1 = j
      · rw [valV_pos (p := p) e, valV_pos e, Option.map_some, if_neg (fun z => h (e.trans z))]
      · rw [valV_neg (p := p) e, valV_neg e, ih]
theorem valV_snoc (k j : κ) (y : V) : ∀ kvs : List (κ × V), valV kvs k = none → valV (kvs ++ [(k, y)]) j = if j = k then some y else valV kvs j
  | [], _ => by
    by_cases e : k = j
    · rw [if_pos e.symm]; exact valV_pos (p := (k, y)) e
    · rw [if_neg (fun z => e z.symm)]; exact valV_neg (p := (k, y)) e
  | p :: r, hn => by
    rw [List.cons_append]
    have hk : ¬ p.1 = k := fun z => by rw [valV_pos z] at hn; cases hn
    rw [valV_neg hk] at hn
    have ih := valV_snoc k j y r hn
    by_cases e : p.1 = j
    · rw [valV_pos e, valV_pos e, if_neg (fun z => hk (e.trans z))]
    · rw [valV_neg e, valV_neg e, ih]
theorem valV_put (kvs : List (κ × V)) (k j : κ) (y : V) : valV (putK kvs k y) j = if j = k then some y else valV kvs j := by
  unfold putK
  by_cases a : (kvs.any fun kv => decide (kv.1 = k)) = true
  · rw [if_pos a, valV_map]
    rw [valV_any] at a
    by_cases e : j = k
    · obtain ⟨x, hx⟩ := Option.isSome_iff_exists.mp a
      rw [if_pos e, e, hx, Option.map_some, if_pos rfl]
    · rw [if_neg e]
      cases valV kvs j with
      | none => rfl
      | some x => rw [Option.map_some, if_neg e]
  · rw [if_neg a]
    refine valV_snoc k j y kvs ?_
    rw [valV_any] at a
    cases q : valV kvs k with
    | none => rfl
    | some x => rw [q] at a; exact (a rfl).elim
theorem length_putK (kvs : List (κ × V)) (k : κ) (v : V) : (putK kvs k v).length ≤ kvs.length + 1 := by
  unfold putK
  split
  · rw [List.length_map]; omega
  · rw [List.length_append, List.length_cons, List.length_nil]; omega
theorem putK_new {kvs : List (κ × V)} {k : κ} (v : V) (h : valV kvs k = none) : putK kvs k v = kvs ++ [(k, v)] := by
  unfold putK
  rw [valV_any, h]
  exact if_neg (by decide)
theorem RelO.isSome_eq {o : Option V} {u : Option Value} (r : RelO o u) : o.isSome = u.isSome := by
  cases o with
  | none => cases u with
    | none => rfl
    | some _ => exact (show False from r).elim
  | some _ => cases u with
    | none => exact (show False from r).elim
    | some _ => rfl
theorem RelO.getD {o : Option V} {u : Option Value} {d : V} {d' : Value} (r : RelO o u) (rd : RelV d d') : RelV (o.getD d) (u.getD d') := by
  cases o with
  | none => cases u with
    | none => exact rd
    | some _ => exact (show False from r).elim
  | some _ => cases u with
    | none => exact (show False from r).elim
    | some _ => exact r
theorem KV.val {kvs : List (κ × V)} {vs : List (κ × Value)} (r : KV kvs vs) (k : κ) : RelO (valV kvs k) (valueAt vs k) := by
  unfold KV at r
  induction r with
  | nil => exact True.intro
  | @cons p q ps qs h t ih =>
    obtain ⟨h1, h2⟩ := h
    by_cases e : p.1 = k
    · have e' : q.1 = k := h1.symm.trans e
      have b : valueAt (q :: qs) k = some q.2 := by simp [valueAt, List.find?_cons, e']
      rw [valV_pos e, b]; exact h2
    · have e' : ¬ q.1 = k := fun z => e (h1.trans z)
      have b : valueAt (q :: qs) k = valueAt qs k := by simp [valueAt, List.find?_cons, e']
      rw [valV_neg e, b]; exact ih
theorem KV.any {kvs : List (κ × V)} {vs : List (κ × Value)} (r : KV kvs vs) (k : κ) : (kvs.any fun kv => decide (kv.1 = k)) = vs.any fun kv => decide (kv.1 = k) := by
  unfold KV at r
  induction r with
  | nil => rfl
  | cons h t ih => rw [List.any_cons, List.any_cons, ih, h.1]
theorem KV.repl {kvs : List (κ × V)} {vs : List (κ × Value)} (r : KV kvs vs) (k : κ) {y : V} {u : Value} (ry : RelV y u) :
    KV (kvs.map fun kv => if kv.1 = k then (kv.1, y) else kv) (vs.map fun kv => if kv.1 = k then (kv.1, u) else kv) := by
  unfold KV at r ⊢
  induction r with
  | nil => exact .nil
  | @cons p q ps qs h t ih =>
    rw [List.map_cons, List.map_cons]
    refine .cons ?_ ih
    obtain ⟨h1, h2⟩ := h
    by_cases e : p.1 = k
    · rw [if_pos e, if_pos (h1.symm.trans e)]; exact ⟨h1, ry⟩
    · rw [if_neg e, if_neg (fun z => e (h1.trans z))]; exact ⟨h1, h2⟩
theorem KV.put {kvs : List (κ × V)} {vs : List (κ × Value)} (r : KV kvs vs) (k : κ) {y : V} {u : Value} (ry : RelV y u) : KV (putK kvs k y) (stored vs k u) := by
  unfold putK stored
  rw [r.any k]
  by_cases e : (vs.any fun kv => decide (kv.1 = k)) = true
  · rw [if_pos e, if_pos e]; exact r.repl k ry
  · rw [if_neg e, if_neg e]; exact Paired.snoc r ⟨rfl, ry⟩
theorem KV.drop {kvs : List (κ × V)} {vs : List (κ × Value)} (r : KV kvs vs) (k : κ) : KV (dropK kvs k) (without vs k) := by
  unfold KV at r ⊢
  unfold dropK without
  induction r with
  | nil => exact .nil
  | @cons p q ps qs h t ih =>
    obtain ⟨h1, h2⟩ := h
    rw [List.filter_cons, List.filter_cons]
    by_cases e : p.1 = k
    · have a : ¬ decide (p.1 ≠ k) = true := by simp [e]
      have b : ¬ decide (q.1 ≠ k) = true := by simp [h1.symm.trans e]
      rw [if_neg a, if_neg b]; exact ih
    · have e' : ¬ q.1 = k := fun z => e (h1.trans z)
      have a : decide (p.1 ≠ k) = true := by simp [e]
      have b : decide (q.1 ≠ k) = true := by simp [e']
      rw [if_pos a, if_pos b]; exact .cons ⟨h1, h2⟩ ih
theorem KV.length {kvs : List (κ × V)} {vs : List (κ × Value)} (r : KV kvs vs) : kvs.length = vs.length := Paired.length r
theorem dropK_le (kvs : List (κ × V)) (k : κ) : (dropK kvs k).length ≤ kvs.length := List.length_filter_le _ _
end
theorem kV_is {P : Program} {w : World} {k : Key} {u : Value} (r : RelV (kV k) u) : (mixKind P w).is k u = true := by
  cases k with
  | inl i => obtain ⟨t, e⟩ := (show ∃ t, u = Value.int i t from r); subst e; exact mixKind_int P w i t
  | inr x => obtain ⟨t, e⟩ := (show ∃ t, u = Value.str x t from r); subst e; exact mixKind_str P w x t
theorem items_are {P : Program} {w : World} : ∀ {ks : List Key} {us : List Value}, Vals (ks.map kV) us → ItemsAre (mixKind P w) ks us
  | [], _, r => by rw [List.map_nil] at r; cases r; exact .nil
  | k :: ks, _, r => by
    rw [List.map_cons] at r
    cases r with
    | cons h t => exact .cons (kV_is h) (items_are t)
abbrev KT (H : Hp) : List (List Key × V) → List (List Key × Addr × Value) → Prop := Paired fun p q => p.1 = q.1 ∧ H q.2.1 = some (.tup (p.1.map kV)) ∧ RelV p.2 q.2.2
theorem KT.val {H : Hp} {kvs : List (List Key × V)} {xs : List (List Key × Addr × Value)} (r : KT H kvs xs) (k : List Key) : RelO (valV kvs k) ((atKey xs k).map (·.2)) := by
  induction r with
  | nil => exact True.intro
  | @cons p q ps qs h t ih =>
    obtain ⟨h1, _, h2⟩ := h
    by_cases e : p.1 = k
    · have e' : q.1 = k := h1.symm.trans e
      have b : atKey (q :: qs) k = some q.2 := by simp [atKey, List.find?_cons, e']
      rw [valV_pos e, b]; exact h2
    · have e' : ¬ q.1 = k := fun z => e (h1.trans z)
      have b : atKey (q :: qs) k = atKey qs k := by simp [atKey, List.find?_cons, e']
      rw [valV_neg e, b]; exact ih
theorem KT.repl {H : Hp} {kvs : List (List Key × V)} {xs : List (List Key × Addr × Value)} (r : KT H kvs xs) (k : List Key) {y : V} {u : Value} (ry : RelV y u) :
    KT H (kvs.map fun kv => if kv.1 = k then (kv.1, y) else kv) (xs.map (putAt k u)) := by
  induction r with
  | nil => exact .nil
  | @cons p q ps qs h t ih =>
    rw [List.map_cons, List.map_cons]
    refine .cons ?_ ih
    obtain ⟨h1, h2, h3⟩ := h
    unfold putAt
    by_cases e : p.1 = k
    · rw [if_pos e, if_pos (h1.symm.trans e)]; exact ⟨h1, h2, ry⟩
    · rw [if_neg e, if_neg (fun z => e (h1.trans z))]; exact ⟨h1, h2, h3⟩
theorem KT.put {H : Hp} {kvs : List (List Key × V)} {xs : List (List Key × Addr × Value)} (r : KT H kvs xs) (k : List Key) {b : Addr} {y : V} {u : Value} (hb : H b = some (.tup (k.map kV))) (ry : RelV y u) :
    KT H (putK kvs k y) (storedH xs k b u) := by
  have e : (kvs.any fun kv => decide (kv.1 = k)) = (atKey xs k).isSome := by
    rw [valV_any, (r.val k).isSome_eq, Option.isSome_map]
  unfold putK storedH
  rw [e]
  by_cases q : (atKey xs k).isSome = true
  · rw [if_pos q, if_pos q]; exact r.repl k ry
  · rw [if_neg q, if_neg q]; exact Paired.snoc r ⟨rfl, hb, ry⟩
theorem KT.keeps {H H' : Hp} {kvs : List (List Key × V)} {xs : List (List Key × Addr × Value)} (r : KT H kvs xs) (ht : ∀ b ys, H b = some (.tup ys) → H' b = some (.tup ys)) : KT H' kvs xs :=
  Paired.mapP r fun _ _ z => ⟨z.1, ht _ _ z.2.1, z.2.2⟩
section
variable {P : Program} {w : World} {H : Hp} {h : Heap} {a : Addr}
theorem rd_of {u : HO} (ok : HOk P w H h) (e : Rd H a u) : ObjOk P w H h a u := e.ok ok
theorem dk_rd {kvs : List (Key × V)} (ok : HOk P w H h) (e : Rd H a (.dK kvs)) : kvs.length ≤ sizeLine ∧ (a == sysModules) = false ∧ ∃ vs, KV kvs vs ∧ h.DictOf (mixKind P w) a vs :=
  show ObjOk P w H h a (.dK kvs) from rd_of ok e
theorem dk_of {kvs : List (Key × V)} (ok : HOk P w H h) (e : H a = some (.dK kvs)) : kvs.length ≤ sizeLine ∧ (a == sysModules) = false ∧ ∃ vs, KV kvs vs ∧ h.DictOf (mixKind P w) a vs := dk_rd ok (.inl e)
theorem key_of {ks : List Key} (ok : HOk P w H h) (e : H a = some (.tup (ks.map kV))) : (tupleKind (mixKind P w)).is h ks a := by
  obtain ⟨_, its, r, o, h1, h2, n, h3, _⟩ := (show ObjOk P w H h a (.tup (ks.map kV)) from ok a _ e)
  exact ⟨o, its.toArray, n, h1, h2, h3, by simpa using items_are r⟩
theorem dt_rd {kvs : List (List Key × V)} (ok : HOk P w H h) (e : Rd H a (.dT kvs)) : kvs.length ≤ sizeLine ∧ (a == sysModules) = false ∧
    ∃ xs, KT H kvs xs ∧ h.DictOfH (tupleKind (mixKind P w)) a xs := by
  obtain ⟨z, y, xs, r, o, es, ep, h1, h2, h3, h4, h5⟩ := (show ObjOk P w H h a (.dT kvs) from rd_of ok e)
  refine ⟨z, y, xs, r, o, es, ep, h1, h2, h3, h4, fun x hx => ?_, h5⟩
  have all : ∀ {l : List (List Key × V)} {m : List (List Key × Addr × Value)}, KT H l m → ∀ x ∈ m, (tupleKind (mixKind P w)).is h x.1 x.2.1 := by
    intro l m q
    induction q with
    | nil => intro x hx; exact nomatch hx
    | @cons p q ps qs hq t ih =>
      intro x hx
      rcases List.mem_cons.mp hx with e | hx
      · subst e
        exact key_of ok (by rw [← hq.1]; exact hq.2.1)
      · exact ih x hx
  exact all r x hx
theorem dt_of {kvs : List (List Key × V)} (ok : HOk P w H h) (e : H a = some (.dT kvs)) : kvs.length ≤ sizeLine ∧ (a == sysModules) = false ∧
    ∃ xs, KT H kvs xs ∧ h.DictOfH (tupleKind (mixKind P w)) a xs := dt_rd ok (.inl e)
end
def DGet (H : Hp) (a : Addr) (y : V) (r : Option V) : Prop :=
  (∃ kvs k, Rd H a (.dK kvs) ∧ y = kV k ∧ r = valV kvs k) ∨ ∃ kvs k b, Rd H a (.dT kvs) ∧ y = .ref b ∧ H b = some (.tup (k.map kV)) ∧ r = valV kvs k
def DPut (H : Hp) (a : Addr) (y v : V) (H' : Hp) : Prop :=
  (∃ kvs k, H a = some (.dK kvs) ∧ y = kV k ∧ kvs.length < sizeLine ∧ H' = upd H a (.dK (putK kvs k v))) ∨
  ∃ kvs k b, H a = some (.dT kvs) ∧ y = .ref b ∧ H b = some (.tup (k.map kV)) ∧ kvs.length < sizeLine ∧ H' = upd H a (.dT (putK kvs k v))
theorem DPut.k {H : Hp} {a : Addr} {kvs : List (Key × V)} {k : Key} {v : V} (e : H a = some (.dK kvs)) (hl : kvs.length < sizeLine) : DPut H a (kV k) v (upd H a (.dK (putK kvs k v))) := .inl ⟨kvs, k, e, rfl, hl, rfl⟩
section
variable {X : Cx} {pins : List (Addr × Obj)} {σ : St} {H : Hp} {s : Shared} {a : Addr} {y v : V} {u r : Value} {o : Option V} {A : Around} {E : Value → Shared → Prop}
theorem Inv.big (I : Inv X pins σ H s) : sysModules < s.heap.objs.size := by
  have h : mainGlobals < s.heap.objs.size := (I.mod.glob.keeps I.bk).lt
  exact Nat.lt_trans (by decide) h
theorem d_getItem {Q : Value → Shared → Prop} (hu : A.units + 1 < cLine) (I : Inv X pins σ H s) (g : DGet H a y (some v)) (ry : RelV y u) (h : ∀ w' s', Inv X pins σ H s' → RelV v w' → Q w' s') :
    wpAny (model X.prog X.w) A (getItem (.ref a) u) Q E s := by
  rcases g with ⟨kvs, k, e, ey, l⟩ | ⟨kvs, k, b, e, ey, eb, l⟩
  · subst ey
    obtain ⟨z, hd, vs, rel, dd⟩ := dk_rd I.hok e
    obtain ⟨w', hw, rw'⟩ := RelO.some_of (v := v) (o := valueAt vs k) (by rw [l]; exact rel.val k)
    exact wpAny_getItem_of (kV_is ry) dd.mapOf hw (h w' _ (I.tok _) rw')
  · subst ey
    cases (show u = Value.ref b from ry)
    obtain ⟨z, hd, xs, rel, dd⟩ := dt_rd I.hok e
    obtain ⟨w', hw, rw'⟩ := RelO.some_of (v := v) (o := (atKey xs k).map (·.2)) (by rw [l]; exact rel.val k)
    obtain ⟨p, hp, hp2⟩ := Option.map_eq_some_iff.mp hw
    refine wpAny_getItem_heap (tupleKind_room_in1 hu) (key_of I.hok eb) dd hp ?_
    rw [hp2]
    exact h w' _ (I.tok _) rw'
theorem d_in {Q : Value → Shared → Prop} (hu : A.units + 1 < cLine) (I : Inv X pins σ H s) (g : DGet H a y o) (ry : RelV y u) (h : ∀ s', Inv X pins σ H s' → Q (.bool o.isSome) s') :
    wpAny (model X.prog X.w) A (compareOp .In u (.ref a)) Q E s := by
  rcases g with ⟨kvs, k, e, ey, l⟩ | ⟨kvs, k, b, e, ey, eb, l⟩
  · subst ey
    obtain ⟨z, hd, vs, rel, dd⟩ := dk_rd I.hok e
    refine wpAny_in_of (kV_is ry) hd dd.mapOf ?_
    rw [← (rel.val k).isSome_eq, ← l]
    exact h _ (I.tok _)
  · subst ey
    cases (show u = Value.ref b from ry)
    obtain ⟨z, hd, xs, rel, dd⟩ := dt_rd I.hok e
    refine wpAny_in_heap (tupleKind_room_in1 hu) (key_of I.hok eb) hd dd ?_
    have q := (rel.val k).isSome_eq
    rw [Option.isSome_map] at q
    rw [← q, ← l]
    exact h _ (I.tok _)
theorem d_notIn {Q : Value → Shared → Prop} (hu : A.units + 1 < cLine) (I : Inv X pins σ H s) (g : DGet H a y o) (ry : RelV y u) (h : ∀ s', Inv X pins σ H s' → Q (.bool (!o.isSome)) s') :
    wpAny (model X.prog X.w) A (compareOp .NotIn u (.ref a)) Q E s := by
  rcases g with ⟨kvs, k, e, ey, l⟩ | ⟨kvs, k, b, e, ey, eb, l⟩
  · subst ey
    obtain ⟨z, hd, vs, rel, dd⟩ := dk_rd I.hok e
    refine wpAny_notIn_of (kV_is ry) hd dd.mapOf ?_
    rw [← (rel.val k).isSome_eq, ← l]
    exact h _ (I.tok _)
  · subst ey
    cases (show u = Value.ref b from ry)
    obtain ⟨z, hd, xs, rel, dd⟩ := dt_rd I.hok e
    refine wpAny_notIn_heap (tupleKind_room_in1 hu) (key_of I.hok eb) hd dd ?_
    have q := (rel.val k).isSome_eq
    rw [Option.isSome_map] at q
    rw [← q, ← l]
    exact h _ (I.tok _)
theorem d_write {h' : Heap} {t' : Nat} {ob : HO} (I : Inv X pins σ H s) (mu : Mut (H a)) (hs : Heap.SameBut a s.heap h') (he : ∃ q, h'.get? a = some q) (new : ObjOk X.prog X.w (upd H a ob) h' a ob) :
    Inv X pins σ (upd H a ob) { s with heap := h', toks := t' } :=
  I.write (x := a) (e := a) mu (.inl rfl) (fun b q hb z => (hs.2 b hb).trans z) he new
theorem dk_new {P : Program} {w : World} {H' : Hp} {h' : Heap} {kvs : List (Key × V)} {vs : List (Key × Value)} (z : kvs.length ≤ sizeLine) (hd : (a == sysModules) = false) (rel : KV kvs vs) (dd : h'.DictOf (mixKind P w) a vs) :
    ObjOk P w H' h' a (.dK kvs) := ⟨z, hd, vs, rel, dd⟩
theorem d_setItem {H' : Hp} {Q : Unit → Shared → Prop} (hu : A.units + 1 < cLine) (I : Inv X pins σ H s) (g : DPut H a y v H') (ry : RelV y u) (rv : RelV v r) (h : ∀ s', Inv X pins σ H' s' → Q () s') :
    wpAny (model X.prog X.w) A (setItem (.ref a) u r) Q E s := by
  rcases g with ⟨kvs, k, e, ey, l, eH⟩ | ⟨kvs, k, b, e, ey, eb, l, eH⟩
  · subst ey eH
    obtain ⟨z, hd, vs, rel, dd⟩ := dk_of I.hok e
    have hz : vs.length ≤ sizeLine := by rw [← rel.length]; exact z
    have hl : (putK kvs k v).length ≤ sizeLine := by have := length_putK kvs k v; omega
    refine wpAny_setItem_pairs (hsz := hz) (kV_is ry) dd fun h' dd' hs => h _ ?_
    have he : ∃ q, h'.get? a = some q := let ⟨q, _, _, hq, _⟩ := dd'; ⟨q, hq⟩
    exact d_write I (by rw [e]; exact True.intro) hs he (dk_new hl hd (rel.put k rv) dd')
  · subst ey eH
    cases (show u = Value.ref b from ry)
    obtain ⟨z, hd, xs, rel, dd⟩ := dt_of I.hok e
    have hz : xs.length ≤ sizeLine := by rw [← Paired.length rel]; exact z
    have hl : (putK kvs k v).length ≤ sizeLine := by have := length_putK kvs k v; omega
    refine wpAny_setItem_heap (hsz := hz) (tupleKind_room_in1 hu) (key_of I.hok eb) dd fun h' dd' hs => h _ ?_
    obtain ⟨q, es, ep, hq, h2, h3, h4, _, h5⟩ := dd'
    refine d_write I (by rw [e]; exact True.intro) hs ⟨q, hq⟩ ⟨hl, hd, _, (rel.put k eb rv).keeps fun c ys ec => ?_, q, es, ep, hq, h2, h3, h4, h5⟩
    rw [upd_ne (ne_of ec e (fun z => nomatch z))]
    exact ec
end
section
variable {X : Cx} {pins : List (Addr × Obj)} {σ : St} {H : Hp} {s : Shared} {a : Addr} {kvs : List (Key × V)} {k : Key} {u : Value} {A : Around} {E : Value → Shared → Prop}
theorem d_pop {v : V} {more : List Value} {Q : Value → Shared → Prop} (I : Inv X pins σ H s) (e : H a = some (.dK kvs)) (ry : RelV (kV k) u) (l : valV kvs k = some v) (hm : more = [] ∨ ∃ x, more = [x])
    (h : ∀ w' s', Inv X pins σ (upd H a (.dK (dropK kvs k))) s' → RelV v w' → Q w' s') : wpAny (model X.prog X.w) A (call (.builtin "dict.pop") (.ref a :: u :: more)) Q E s := by
  obtain ⟨z, hd, vs, rel, dd⟩ := dk_of I.hok e
  obtain ⟨w', hw, rw'⟩ := RelO.some_of (v := v) (o := valueAt vs k) (by rw [← l]; exact rel.val k)
  have hp : (keyPart u).isSome = true := by
    cases k with
    | inl i => obtain ⟨t, q⟩ := (show ∃ t, u = Value.int i t from ry); subst q; rfl
    | inr x => obtain ⟨t, q⟩ := (show ∃ t, u = Value.str x t from ry); subst q; rfl
  have ha : argsOk "dict.pop" ⟨.ref a :: u :: more, []⟩ := by
    rcases hm with q | ⟨x, q⟩
    · subst q; exact PySem.F.args_dict_pop_2 _ _
    · subst q; exact PySem.F.args_dict_pop_3 _ _ _
  refine call_meetsIn PySem.F.slot_dict_pop dd.typeIs PySem.F.entry_dict_pop ha (meets_dict_pop_there (mixKind X.prog X.w) a (kV_is ry) more hm hp)
    ⟨vs, w', dd, by rw [← rel.length]; exact z, hw, fun h' dd' hs => h w' _ ?_ rw'⟩
  have he : ∃ q, h'.get? a = some q := let ⟨q, _, _, hq, _⟩ := dd'; ⟨q, hq⟩
  exact d_write I (by rw [e]; exact True.intro) hs he (dk_new (Nat.le_trans (dropK_le kvs k) z) hd (rel.drop k) dd')
end
def NoSl (i : Expr) : Prop := ∀ ov iv, subscripted i false ov iv = operate [ov, iv] (getItem ov iv)
theorem subD_of {prog : Program} {w : World} {A : Around} {E : Value → Shared → Prop} {s : Shared} {env : Env} {value slice : Expr} {pos : Pos} {T id : String} {Q : Value → Shared → Prop}
    (hl : typeLookup (.type T) "__getitem__" = pure (some (.builtin id))) (hs : NoSl slice)
    (h : wpAny (model prog w) A (eval value env) (fun o s₁ => wpAny (model prog w) A (eval slice env) (fun i s₂ => s₂.TypeIs o T ∧ wpAny (model prog w) A (getItem o i) Q E s₂) E s₁) E s) :
    wpAny (model prog w) A (eval (.Subscript value slice pos) env) Q E s := by
  refine Subscript_ (wpAny_mono h (fun o s₁ h₁ => wpAny_mono h₁ (fun i s₂ h₂ => ?_) fun _ _ x => x) fun _ _ x => x)
  obtain ⟨hT, h₂⟩ := h₂
  unfold subscriptTail
  refine wpAny_bind ?_
  rw [getitemInPython_of_ne hT.not_modules]
  refine wpAny_bind (wpAny_specialOf hT hl ?_)
  have fin : wpAny (model prog w) A (subscripted slice false o i) (fun r s₃ => wpAny (model prog w) A (letTemporaryGo value o r >>= fun _ => pure r) Q E s₃) E s₂ := by
    rw [hs o i]
    exact wpAny_operating (wpAny_mono h₂ (fun r s₃ h₃ => wpAny_bind (wpAny_letTemporaryGo (wpAny_pure h₃))) fun _ _ x => x)
  first
    | exact wpAny_pure (wpAny_bind fin)
    | exact wpAny_bind (wpAny_pure (wpAny_bind fin))
    | exact wpAny_bind fin
theorem dict_typeIs {X : Cx} {pins : List (Addr × Obj)} {σ : St} {H : Hp} {s : Shared} {a : Addr} {y : V} {o : Option V} (I : Inv X pins σ H s) (g : DGet H a y o) : s.TypeIs (.ref a) "dict" := by
  rcases g with ⟨kvs, k, e, _, _⟩ | ⟨kvs, k, b, e, _, _, _⟩
  · obtain ⟨_, _, vs, _, dd⟩ := dk_rd I.hok e
    exact dd.typeIs
  · obtain ⟨_, _, xs, _, dd⟩ := dt_rd I.hok e
    exact dd.typeIs
def tDGet (td ty : TE) : TE := fun σ H Q => td σ H fun x H1 => ty σ H1 fun y H2 => ∃ a v, x = .ref a ∧ DGet H2 a y (some v) ∧ Q v H2
def tDIn (ty td : TE) : TE := fun σ H Q => ty σ H fun y H1 => td σ H1 fun x H2 => ∃ a o, x = .ref a ∧ DGet H2 a y o ∧ Q (.bl o.isSome) H2
def tDNotIn (ty td : TE) : TE := fun σ H Q => ty σ H fun y H1 => td σ H1 fun x H2 => ∃ a o, x = .ref a ∧ DGet H2 a y o ∧ Q (.bl (!o.isSome)) H2
section
variable {X : Cx} {o i e value : Expr} {pos pos' tpos : Pos} {td ty tv : TE}
theorem pe_dget (hu : X.A.units + 1 < cLine) (ho : PE X o td) (hi : PE X i ty) (hs : NoSl i) : PE X (.Subscript o i pos) (tDGet td ty) := by
  intro pins s σ H Q I h
  refine subD_of PySem.F.slot_dict_getitem.lookup hs (thn (ho pins s σ H _ I h) fun u s1 ⟨x, H1, I1, rx, q1⟩ => thn (hi pins s1 σ H1 _ I1 q1) fun iv s2 zq => ?_)
  obtain ⟨y, H2, I2, ry, a, v, ex, g, q2⟩ := zq
  subst ex
  obtain rfl : u = Value.ref a := rx
  exact ⟨dict_typeIs I2 g, d_getItem hu I2 g ry fun w' s3 I3 rw' => ⟨v, H2, I3, rw', q2⟩⟩
theorem pc_din (hu : X.A.units + 1 < cLine) (hi : PE X i ty) (ho : PE X o td) : PC X .In i o (tDIn ty td) := by
  intro pins s σ H Q I h
  refine thn (hi pins s σ H _ I h) fun iv s1 ⟨y, H1, I1, ry, q1⟩ => thn (ho pins s1 σ H1 _ I1 q1) fun u s2 zq => ?_
  obtain ⟨x, H2, I2, rx, a, ov, ex, g, q2⟩ := zq
  subst ex
  obtain rfl : u = Value.ref a := rx
  exact d_in hu I2 g ry fun s3 I3 => ⟨.bl ov.isSome, H2, I3, rfl, q2⟩
theorem pc_dnotin (hu : X.A.units + 1 < cLine) (hi : PE X i ty) (ho : PE X o td) : PC X .NotIn i o (tDNotIn ty td) := by
  intro pins s σ H Q I h
  refine thn (hi pins s σ H _ I h) fun iv s1 ⟨y, H1, I1, ry, q1⟩ => thn (ho pins s1 σ H1 _ I1 q1) fun u s2 zq => ?_
  obtain ⟨x, H2, I2, rx, a, ov, ex, g, q2⟩ := zq
  subst ex
  obtain rfl : u = Value.ref a := rx
  exact d_notIn hu I2 g ry fun s3 I3 => ⟨.bl (!ov.isSome), H2, I3, rfl, q2⟩
end
theorem dk_empty {P : Program} {w : World} {H : Hp} (h : Heap) (hb : sysModules < h.objs.size) : ObjOk P w H (h.push { cls := .type "dict", data := .dict #[] }) h.objs.size (.dK []) :=
  ⟨Nat.zero_le _, beq_eq_false_iff_ne.mpr (Ne.symm (Nat.ne_of_lt hb)), [], .nil, Heap.DictOf.new h⟩
def tDNewK : TE := fun _ H Q => ∀ p, H p = none → Q (.ref p) (upd H p (.dK []))
section
variable {X : Cx} {pos : Pos}
theorem pe_dnewK : PE X (.Dict [] [] pos) tDNewK := fun pins s σ H Q I h =>
  wpAny_Dict_empty ⟨.ref s.heap.objs.size, _, I.laid (a := s.heap.objs.size) (o := .dK []) (t' := s.toks) (fun _ _ q => Heap.get?_push_of_some _ q) (Nat.le_refl _) (dk_empty s.heap I.big), rfl, h _ (I.hok.fresh (Nat.le_refl _))⟩
end
def tPairs : List (TE × TE) → St → Hp → (List (V × V) → Hp → Prop) → Prop
  | [], _, H, Q => Q [] H
  | (tk, tv) :: r, σ, H, Q => tk σ H fun x H1 => tv σ H1 fun y H2 => tPairs r σ H2 fun ps H3 => Q ((x, y) :: ps) H3
abbrev VV : List (V × V) → List (Value × Value) → Prop := Paired fun p q => RelV p.1 q.1 ∧ RelV p.2 q.2
def PPs (X : Cx) (pos : Pos) (keys : List (Option Expr)) (values : List Expr) (trs : List (TE × TE)) : Prop :=
  ∀ (pins : List (Addr × Obj)) (s : Shared) (σ : St) (H : Hp) (Q : List (V × V) → Hp → Prop), Inv X pins σ H s → tPairs trs σ H Q →
    wpAny (model X.prog X.w) X.A (evalPairs (pairTrees keys values X.env pos)) (fun vs s' => ∃ ps H', Inv X pins σ H' s' ∧ VV ps vs ∧ Q ps H') X.xe s
theorem pps_nil {X : Cx} {pos : Pos} : PPs X pos [] [] [] := fun pins s σ H Q I h => pairTrees_nil_walk ⟨[], H, I, .nil, h⟩
theorem pps_cons {X : Cx} {pos : Pos} {k v : Expr} {ks : List (Option Expr)} {vs : List Expr} {tk tv : TE} {trs : List (TE × TE)} (hk : PE X k tk) (hv : PE X v tv) (hr : PPs X pos ks vs trs) :
    PPs X pos (some k :: ks) (v :: vs) ((tk, tv) :: trs) := fun pins s σ H Q I h =>
  pairTrees_cons_walk (thn (hk pins s σ H _ I h) fun u s1 ⟨x, H1, I1, rx, q1⟩ => thn (hv pins s1 σ H1 _ I1 q1) fun w2 s2 ⟨y, H2, I2, ry, q2⟩ =>
    thn (hr pins s2 σ H2 _ I2 q2) fun ws s3 ⟨ps, H3, I3, rel, q3⟩ => ⟨(x, y) :: ps, H3, I3, .cons ⟨rx, ry⟩ rel, q3⟩)
def mergeK (kvs more : List (Key × V)) : List (Key × V) := more.foldl (fun acc kv => putK acc kv.1 kv.2) kvs
theorem KV.merge : ∀ {more : List (Key × V)} {rs : List (Key × Value)} {kvs : List (Key × V)} {vs : List (Key × Value)}, KV more rs → KV kvs vs → KV (mergeK kvs more) (merged vs rs) := by
  intro more rs kvs vs r
  unfold KV at r
  induction r generalizing kvs vs with
  | nil => intro q; exact q
  | @cons p q ps qs h t ih =>
    intro r0
    have e : KV (putK kvs p.1 p.2) (stored vs q.1 q.2) := by
      have := r0.put p.1 h.2
      rw [← h.1]; exact this
    exact ih e
theorem length_mergeK : ∀ (more kvs : List (Key × V)), (mergeK kvs more).length ≤ kvs.length + more.length
  | [], kvs => by show kvs.length ≤ kvs.length + 0; omega
  | p :: r, kvs => by
    have h1 := length_mergeK r (putK kvs p.1 p.2)
    have h2 := length_putK kvs p.1 p.2
    show (mergeK (putK kvs p.1 p.2) r).length ≤ _
    rw [List.length_cons]; omega
theorem carries_of {P : Program} {w : World} : ∀ {kvs : List (Key × V)} {ws : List (Value × Value)}, VV (kvs.map fun kv => (kV kv.1, kv.2)) ws → ∃ rs, Carries (mixKind P w) ws rs ∧ KV kvs rs
  | [], _, r => by rw [List.map_nil] at r; cases r; exact ⟨[], True.intro, .nil⟩
  | p :: kvs, _, r => by
    rw [List.map_cons] at r
    cases r with
    | @cons a b as bs h t =>
      obtain ⟨rs, c, q⟩ := carries_of (P := P) (w := w) t
      obtain ⟨b1, b2⟩ := b
      exact ⟨(p.1, b2) :: rs, ⟨kV_is h.1, rfl, c⟩, .cons ⟨rfl, h.2⟩ q⟩
def tDisp (trs : List (TE × TE)) : TE := fun σ H Q => ∀ p, H p = none → tPairs trs σ (upd H p (.dK [])) fun ps H2 => H2 p = some (.dK []) ∧ ∃ kvs : List (Key × V), ps = kvs.map (fun kv => (kV kv.1, kv.2)) ∧ kvs.length ≤ 15 ∧ Q (.ref p) (upd H2 p (.dK (mergeK [] kvs)))
theorem pe_disp {X : Cx} {pos : Pos} {keys : List (Option Expr)} {values : List Expr} {trs : List (TE × TE)} (h : PPs X pos keys values trs) (hall : keys.all (·.isSome) = true) (hl : keys.length = values.length) (h0 : keys ≠ [])
    (h15 : keys.length ≤ 15) : PE X (.Dict keys values pos) (tDisp trs) := by
  intro pins s σ H Q I q
  have hn := I.hok.fresh (Nat.le_refl s.heap.objs.size)
  have I1 := I.laid (a := s.heap.objs.size) (o := .dK []) (h' := s.heap.push { cls := .type "dict", data := .dict #[] }) (t' := s.toks) (fun _ _ q => Heap.get?_push_of_some _ q) (Nat.le_refl _) (dk_empty s.heap I.big)
  refine wpAny_Dict_walk (knd := mixKind X.prog X.w) hall hl h0 h15 (thn (h pins _ σ _ _ I1 (q _ hn)) fun ws s2 zq => ?_)
  obtain ⟨ps, H2, I2, rel, e, kvs, ep, lk, q2⟩ := zq
  subst ep
  obtain ⟨rs, c, rk⟩ := carries_of (P := X.prog) (w := X.w) rel
  obtain ⟨z, hd, vs0, r0, dd⟩ := dk_of I2.hok e
  cases r0
  refine ⟨rs, c, dd, fun h' dd' hs => ⟨.ref s.heap.objs.size, _, ?_, rfl, q2⟩⟩
  have hz : (mergeK [] kvs).length ≤ sizeLine := by
    have h1 := length_mergeK kvs []
    rw [List.length_nil] at h1
    rw [sizeLine_eq]; omega
  have he : ∃ q, h'.get? s.heap.objs.size = some q := let ⟨q, _, _, hq, _⟩ := dd'; ⟨q, hq⟩
  exact d_write I2 (by rw [e]; exact True.intro) hs he (dk_new hz hd (rk.merge .nil) dd')
structure M1 (X : Cx) (o : Expr) (m : Str) (apos : Pos) (e : Expr) (cpos : Pos) : Prop where
  base : attributeBase o m X.env (eval o X.env) = eval o X.env
  few : ((backTo cpos (starEach [e] X.env)).all (fun x => !x.1) && (backToKw cpos (keywordEach [] X.env)).all (fun x => x.1.isSome)
    && decide (([e] : List Expr).length + ([] : List Keyword).length + (if ([] : List Keyword).isEmpty then 0 else 1) < 30)) = true
  line : (apos.endLine == cpos.line) = true
  trees : backTo cpos (starEach [e] X.env) = [(false, eval e X.env)]
structure M2 (X : Cx) (o : Expr) (m : Str) (apos : Pos) (e f : Expr) (cpos : Pos) : Prop where
  base : attributeBase o m X.env (eval o X.env) = eval o X.env
  few : ((backTo cpos (starEach [e, f] X.env)).all (fun x => !x.1) && (backToKw cpos (keywordEach [] X.env)).all (fun x => x.1.isSome)
    && decide (([e, f] : List Expr).length + ([] : List Keyword).length + (if ([] : List Keyword).isEmpty then 0 else 1) < 30)) = true
  line : (apos.endLine == cpos.line) = true
  trees : backTo cpos (starEach [e, f] X.env) = [(false, eval e X.env), (false, eval f X.env)]
def IsD (H : Hp) (a : Addr) : Prop := (∃ kvs, Rd H a (.dK kvs)) ∨ ∃ kvs, Rd H a (.dT kvs)
theorem isD_at {X : Cx} {pins : List (Addr × Obj)} {σ : St} {H : Hp} {s : Shared} {a : Addr} (I : Inv X pins σ H s) (d : IsD H a) :
    s.TypeIs (.ref a) "dict" ∧ (∀ b, Value.ref a = .ref b → ∃ ob, s.heap.get? b = some ob ∧ ob.dict = none) ∧ (a == sysModules) = false := by
  rcases d with ⟨kvs, e⟩ | ⟨kvs, e⟩
  · obtain ⟨_, hd, vs, _, dd⟩ := dk_rd I.hok e
    refine ⟨dd.typeIs, fun b q => ?_, hd⟩
    cases q
    obtain ⟨ob, _, _, h1, h2, _⟩ := dd
    exact ⟨ob, h1, h2.2.1⟩
  · obtain ⟨_, hd, xs, _, dd⟩ := dt_rd I.hok e
    refine ⟨dd.typeIs, fun b q => ?_, hd⟩
    cases q
    obtain ⟨ob, _, _, h1, h2, _⟩ := dd
    exact ⟨ob, h1, h2.2.1⟩
section
variable {X : Cx} {pins : List (Addr × Obj)} {σ : St} {H : Hp} {s : Shared} {a : Addr} {y d : V} {u r : Value} {o : Option V} {A : Around} {E : Value → Shared → Prop}
theorem d_get2 {Q : Value → Shared → Prop} (hu : A.units + 1 < cLine) (I : Inv X pins σ H s) (g : DGet H a y o) (ry : RelV y u) (rd : RelV d r) (h : ∀ w' s', Inv X pins σ H s' → RelV (o.getD d) w' → Q w' s') :
    wpAny (model X.prog X.w) A (call (.builtin "dict.get") [.ref a, u, r]) Q E s := by
  rcases g with ⟨kvs, k, e, ey, l⟩ | ⟨kvs, k, b, e, ey, eb, l⟩
  · subst ey
    obtain ⟨z, hd, vs, rel, dd⟩ := dk_rd I.hok e
    refine call_meetsIn PySem.F.slot_dict_get dd.typeIs PySem.F.entry_dict_get (PySem.F.args_dict_get_3 _ _ _) (meets_dict_get_default (mixKind X.prog X.w) a (kV_is ry) hd r) ⟨_, dd.mapOf, h _ _ (I.tok _) ?_⟩
    rw [l]
    exact (rel.val k).getD rd
  · subst ey
    cases (show u = Value.ref b from ry)
    obtain ⟨z, hd, xs, rel, dd⟩ := dt_rd I.hok e
    refine call_meetsIn PySem.F.slot_dict_get dd.typeIs PySem.F.entry_dict_get (PySem.F.args_dict_get_3 _ _ _) (meetsH_dict_get_default (tupleKind (mixKind X.prog X.w)) a b hd r) ⟨tupleKind_room_in1 hu, k, xs, key_of I.hok eb, dd, h _ _ (I.tok _) ?_⟩
    rw [l]
    exact (rel.val k).getD rd
end
def tDGet2 (td ty tx : TE) : TE := fun σ H Q => td σ H fun x H1 => ∃ a, x = .ref a ∧ IsD H1 a ∧ ty σ H1 fun y H2 => tx σ H2 fun z H3 => ∃ o, DGet H3 a y o ∧ Q (o.getD z) H3
section
variable {X : Cx} {o e f : Expr} {apos cpos : Pos} {td ty tx : TE}
theorem pe_dget2 (hu : X.A.units + 1 < cLine) (ho : PE X o td) (he : PE X e ty) (hf : PE X f tx) (m : M2 X o "get" apos e f cpos) : PE X (.Call (.Attribute o "get" apos) [e, f] [] cpos) (tDGet2 td ty tx) := by
  intro pins s σ H Q I h
  refine wpAny_Call_method m.base m.few m.line PySem.F.plainAttrs_dict PySem.F.slot_dict_get PySem.F.type_dict_get (thn (ho pins s σ H _ I h) fun u s1 zq => ?_)
  obtain ⟨x, H1, I1, rx, a, ex, d, q1⟩ := zq
  subst ex
  obtain rfl : u = Value.ref a := rx
  obtain ⟨t1, t2, _⟩ := isD_at I1 d
  refine ⟨t1, t2, ?_⟩
  rw [m.trees]
  refine Calls.callWith_builtin rfl (Calls.evalArgs_plain (Calls.spliced_cons (thn (he pins s1 σ H1 _ I1 q1) fun iv s2 ⟨y, H2, I2, ry, q2⟩ =>
    Calls.spliced_cons (thn (hf pins s2 σ H2 _ I2 q2) fun fv s3 ⟨z, H3, I3, rz, ov, g, q3⟩ => Calls.spliced_nil ?_))))
  exact d_get2 hu I3 g ry rz fun w' s4 I4 rw' => ⟨_, H3, I4, rw', q3⟩
end
section
variable {X : Cx} {pins : List (Addr × Obj)} {σ : St} {H : Hp} {s : Shared} {a : Addr} {kvs : List (Key × V)} {A : Around} {E : Value → Shared → Prop}
end
section
variable {X : Cx} {pins : List (Addr × Obj)} {σ : St} {H : Hp} {s : Shared} {a : Addr} {y : V} {u : Value} {A : Around} {E : Value → Shared → Prop}
end
end L2
namespace L2
open PySem PySem.Spec PyProof.Rows
def HasMk (P : Program) (w : World) (K : PySem.W.Frag) (mg : Str → Option Value) (base : Heap) (k : Nat) (x : Str) (C : Addr) (ps : List Str) (sp : Sp) : Prop :=
  ∃ f fd, Mk K C f ∧ FnOk P w K mg base CX0 k f fd ps sp ∧ Binds K fd ps [] ∧ mg x = some (.ref C)
def HasMt (P : Program) (w : World) (K : PySem.W.Frag) (mg : Str → Option Value) (base : Heap) (k : Nat) (m : Str) (C : Addr) (ps : List Str) (sp : Sp) : Prop :=
  ∃ f fd, Cls K C ∧ Meth K C m f ∧ FnOk P w K mg base CX0 k f fd ps sp ∧ Binds K fd ps []
section
variable {X : Cx} {k j : Nat} {x m : Str} {C : Addr} {ps : List Str} {sp : Sp} {p pos apos : Pos} {o e : Expr} {es : List Expr} {t : TA} {ta : TE}
theorem pe_mk (h : HasMk X.prog X.w X.K X.mg X.base k x C ps sp) (hr : Room j X.A) (hj : k + 1 ≤ j) (hg : Gl X x) (ha : PA X (e :: es) t) (hdb : (x == ("__debug__" : Str)) = false := by decide)
    (he : starEach (e :: es) X.env = (false, eval e X.env) :: starEach es X.env := by rfl) (hpl : (backTo pos (starEach es X.env)).any (·.1) = false := by rfl) : PE X (.Call (.Name x p) (e :: es) [] pos) (tMake C sp [] E0 t) := by
  obtain ⟨f, fd, M, F, b, hm⟩ := h
  exact pe_make M F (hr.mono hj) hg hm b .nil pass0 ha hdb he hpl
theorem pe_mt {pl : Sem Bool} (h : HasMt X.prog X.w X.K X.mg X.base k m C ps sp) (hr : Room j X.A) (hj : k ≤ j) (ho : PE X o ta) (ha : PA X (e :: es) t)
    (hst : starEach (e :: es) X.env = (false, eval e X.env) :: starEach es X.env := by rfl) (hpl : (backTo pos (starEach es X.env)).any (·.1) = false := by rfl)
    (ht : eval (.Call (.Attribute o m apos) (e :: es) [] pos) X.env = (do
      let ov ← eval o X.env
      standAt apos.atName
      let (f, first) ← holding [ov] (getMethod ov m pl)
      callWith pos f first (backTo pos (starEach (e :: es) X.env)) (backToKw pos (keywordEach [] X.env))) := by rfl) :
    PE X (.Call (.Attribute o m apos) (e :: es) [] pos) (tMeth C m sp [] E0 ta t) := by
  obtain ⟨f, fd, c, hm, F, b⟩ := h
  exact pe_meth ho c hm F (hr.mono hj) b .nil pass0 ha hst hpl ht
end
theorem pe_fldK {X : Cx} {K : PySem.W.Frag} {e : Expr} {ta : TE} {f : Str} {pos : Pos} (h : X.K = K) (he : PE X e ta) (hb : attributeBase e f X.env (eval e X.env) = eval e X.env) : PE X (.Attribute e f pos) (tFld K ta f) := h ▸ pe_fld he hb
end L2
namespace L2
open PySem PySem.Spec PyProof.Rows
section
open PySem.AutoSeq1 (wpAny_loadPart')
end
end L2
namespace L2
open PySem PySem.Spec PyProof.Rows
theorem filter_succ (p : Nat → Bool) (n : Nat) : (List.range (n + 1)).filter p = (List.range n).filter p ++ (if p n = true then [n] else []) := by
  rw [List.range_succ, List.filter_append]
  congr 1
  cases h : p n <;> simp [h]
theorem paired_snoc {α β : Type} {F : α → β → Prop} : ∀ {xs : List α} {ys : List β} {x : α} {y : β}, Paired F xs ys → F x y → Paired F (xs ++ [x]) (ys ++ [y])
  | _, _, _, _, .nil, h => .cons h .nil
  | _, _, _, _, .cons r t, h => .cons r (paired_snoc t h)
theorem paired_len' {α β : Type} {F : α → β → Prop} : ∀ {xs : List α} {ys : List β}, Paired F xs ys → xs.length = ys.length
  | _, _, .nil => rfl
  | _, _, .cons _ t => by rw [List.length_cons, List.length_cons, paired_len' t]
theorem paired_map_eq {β : Type} {f : β → V} : ∀ {xs : List V} {ys : List β}, Paired (fun x y => x = f y) xs ys → xs = ys.map f
  | _, _, .nil => rfl
  | _, _, .cons r t => by rw [List.map_cons, ← r, ← paired_map_eq t]
theorem filter_yes (n : Nat) : (List.range n).filter (fun _ => true) = List.range n := by simp
theorem range_map_get {α β : Type} (xs : List α) (f : Nat → β) (g : α → β) (h : ∀ (i : Nat) (v : α), xs[i]? = some v → f i = g v) : (List.range xs.length).map f = xs.map g := by
  refine List.ext_getElem? fun i => ?_
  rw [List.getElem?_map, List.getElem?_map]
  by_cases hi : i < xs.length
  · rw [List.getElem?_range hi, List.getElem?_eq_getElem hi]
    exact congrArg some (h i _ (List.getElem?_eq_getElem hi))
  · rw [List.getElem?_eq_none (by rw [List.length_range]; omega), List.getElem?_eq_none (by omega)]
    rfl
def Bar (D : Addr) (H H' : Hp) : Prop := ∀ b o, H b = some o → b ≠ D → H' b = some o
theorem Bar.of {D : Addr} {H H' : Hp} (g : Same H H') : Bar D H H' := fun b o e _ => g b o e
theorem Bar.put {D : Addr} {H H' : Hp} {o : HO} (g : Bar D H H') : Bar D H (upd H' D o) := fun b u e n => by rw [upd_ne n]; exact g b u e n
def CTurn (tt : TT) (te : TE) (fv : St) (D : Addr) (H : Hp) (v : V) (b : Bool) (Pe : V → Hp → Prop) : Prop :=
  ∀ H1, Same H H1 → (∃ ys, H1 D = some (.lst ys)) → ∀ (Kt : VK) (Kf : Hp → Prop), (∀ y H3, b = true → Same H1 H3 → Pe y H3 → Kt y H3) → (∀ H3, b = false → Same H1 H3 → Kf H3) → tt (some v :: fv) H1 fun c H2 => if c = true then te (some v :: fv) H2 Kt else Kf H2
theorem comp_listF {K : PySem.W.Frag} {a : Addr} {xs : List V} {tt : TT} {te : TE} {fv : St} {D : Addr} {H : Hp} {Q : VK} (hs : SqL K H a xs) (hn : xs.length ≤ 1000) (hD : H D = none) (p : Nat → Bool) (Pe : Nat → V → Hp → Prop) (mono : ∀ i y H1 H2, Bar D H1 H2 → Pe i y H1 → Pe i y H2)
    (turn : ∀ (i : Nat) (v : V), xs[i]? = some v → CTurn tt te fv D H v (p i) (Pe i)) (fin : ∀ ys H', Same H H' → H' D = some (.lst ys) → Paired (fun y i => Pe i y H') ys ((List.range xs.length).filter p) → Q (.ref D) H') : CompW (Itl K a) tt te fv D H Q := by
  refine comp_list (xs := xs) (fun i ys H1 => i ≤ xs.length ∧ Same H H1 ∧ H1 D = some (.lst ys) ∧ Paired (fun y j => Pe j y H1) ys ((List.range i).filter p)) ⟨Nat.zero_le _, same_new hD _, upd_same, .nil⟩ (fun i ys H1 _ ⟨_, g, _, _⟩ => g.seq hs) ?_ ?_
  · rintro i v ys H1 hi ⟨_, g, h1, pr⟩
    have hil : i < xs.length := (List.getElem?_eq_some_iff.mp hi).1
    have ll := paired_len' pr
    have fl := List.length_filter_le p (List.range i)
    rw [List.length_range] at fl
    refine turn i v hi H1 g ⟨_, h1⟩ _ _ (fun y H3 pi g3 py => ⟨g3 _ _ h1, by rw [sizeLine_eq]; omega, hil, ?_, upd_same, ?_⟩) (fun H3 pi g3 => ⟨hil, g.trans g3, g3 _ _ h1, ?_⟩)
    · intro b o e
      rw [upd_ne (ne_of_none e hD)]
      exact g3 _ _ (g _ _ e)
    · rw [filter_succ, if_pos pi]
      exact paired_snoc (Paired.mapP pr fun z j q => mono _ _ _ _ (Bar.put (Bar.of g3)) q) (mono _ _ _ _ (Bar.put (Bar.of (Same.refl _))) py)
    · rw [filter_succ, if_neg (by rw [pi]; exact Bool.false_ne_true), List.append_nil]
      exact Paired.mapP pr fun z j q => mono _ _ _ _ (Bar.of g3) q
  · rintro ys H1 ⟨_, g, h1, pr⟩
    exact fin ys H1 g h1 pr
theorem comp_listV {K : PySem.W.Frag} {a : Addr} {xs : List V} {tt : TT} {te : TE} {fv : St} {D : Addr} {H : Hp} {Q : VK} (hs : SqL K H a xs) (hn : xs.length ≤ 1000) (hD : H D = none) (p : Nat → Bool) (f : Nat → V)
    (turn : ∀ (i : Nat) (v : V), xs[i]? = some v → CTurn tt te fv D H v (p i) (fun y _ => y = f i)) (fin : ∀ H', Same H H' → H' D = some (.lst (((List.range xs.length).filter p).map f)) → Q (.ref D) H') : CompW (Itl K a) tt te fv D H Q :=
  comp_listF hs hn hD p (fun i y _ => y = f i) (fun _ _ _ _ _ e => e) turn fun ys H' g h1 pr => fin H' g (by rw [← paired_map_eq pr]; exact h1)
theorem comp_listM {K : PySem.W.Frag} {a : Addr} {xs : List V} {te : TE} {fv : St} {D : Addr} {H : Hp} {Q : VK} (hs : SqL K H a xs) (hn : xs.length ≤ 1000) (hD : H D = none) (f : V → V)
    (turn : ∀ (i : Nat) (v : V), xs[i]? = some v → ∀ H1, Same H H1 → ∀ Kt : VK, (∀ H3, Same H1 H3 → Kt (f v) H3) → te (some v :: fv) H1 Kt) (fin : ∀ H', Same H H' → H' D = some (.lst (xs.map f)) → Q (.ref D) H') : CompW (Itl K a) tYes te fv D H Q := by
  refine comp_listV hs hn hD (fun _ => true) (fun i => f (xs.getD i .non)) (fun i v hi H1 g _ Kt Kf kt _ => yesT (iteT ?_)) fun H' g h1 => fin H' g ?_
  · have e : xs.getD i .non = v := by rw [List.getD_eq_getElem?_getD, hi]; rfl
    refine turn i v hi H1 g Kt fun H3 g3 => kt (f v) H3 rfl g3 ?_
    show f v = f (xs.getD i .non)
    rw [e]
  · rw [h1, filter_yes, range_map_get xs (fun i => f (xs.getD i .non)) f fun i v hi => by rw [List.getD_eq_getElem?_getD, hi]; rfl]
theorem comp_rangeF {lo : Int} {n : Nat} {tt : TT} {te : TE} {fv : St} {D : Addr} {H : Hp} {Q : VK} (hn : n ≤ 1000) (hD : H D = none) (p : Nat → Bool) (Pe : Nat → V → Hp → Prop) (mono : ∀ i y H1 H2, Bar D H1 H2 → Pe i y H1 → Pe i y H2)
    (turn : ∀ i, i < n → CTurn tt te fv D H (.int (lo + i)) (p i) (Pe i)) (fin : ∀ ys H', Same H H' → H' D = some (.lst ys) → Paired (fun y i => Pe i y H') ys ((List.range n).filter p) → Q (.ref D) H') : CompW (Itr lo n) tt te fv D H Q := by
  refine comp_range (fun i ys H1 => i ≤ n ∧ Same H H1 ∧ H1 D = some (.lst ys) ∧ Paired (fun y j => Pe j y H1) ys ((List.range i).filter p)) ⟨Nat.zero_le _, same_new hD _, upd_same, .nil⟩ ?_ ?_
  · rintro i ys H1 hi ⟨_, g, h1, pr⟩
    have hil : i < n := hi
    have ll := paired_len' pr
    have fl := List.length_filter_le p (List.range i)
    rw [List.length_range] at fl
    refine turn i hi H1 g ⟨_, h1⟩ _ _ (fun y H3 pi g3 py => ⟨g3 _ _ h1, by rw [sizeLine_eq]; omega, hil, ?_, upd_same, ?_⟩) (fun H3 pi g3 => ⟨hil, g.trans g3, g3 _ _ h1, ?_⟩)
    · intro b o e
      rw [upd_ne (ne_of_none e hD)]
      exact g3 _ _ (g _ _ e)
    · rw [filter_succ, if_pos pi]
      exact paired_snoc (Paired.mapP pr fun z j q => mono _ _ _ _ (Bar.put (Bar.of g3)) q) (mono _ _ _ _ (Bar.put (Bar.of (Same.refl _))) py)
    · rw [filter_succ, if_neg (by rw [pi]; exact Bool.false_ne_true), List.append_nil]
      exact Paired.mapP pr fun z j q => mono _ _ _ _ (Bar.of g3) q
  · rintro ys H1 ⟨_, g, h1, pr⟩
    exact fin ys H1 g h1 pr
theorem comp_rangeV {lo : Int} {n : Nat} {tt : TT} {te : TE} {fv : St} {D : Addr} {H : Hp} {Q : VK} (hn : n ≤ 1000) (hD : H D = none) (p : Nat → Bool) (f : Nat → V)
    (turn : ∀ i, i < n → CTurn tt te fv D H (.int (lo + i)) (p i) (fun y _ => y = f i)) (fin : ∀ H', Same H H' → H' D = some (.lst (((List.range n).filter p).map f)) → Q (.ref D) H') : CompW (Itr lo n) tt te fv D H Q :=
  comp_rangeF hn hD p (fun i y _ => y = f i) (fun _ _ _ _ _ e => e) turn fun ys H' g h1 pr => fin H' g (by rw [← paired_map_eq pr]; exact h1)
end L2
namespace L2
open PySem PySem.Spec PyProof.Rows
abbrev Nw (H : Hp) (o : HO) (Q : VK) : Prop := ∀ (p : Addr) (H' : Hp), H p = none → Same H H' → H' p = some o → Q (.ref p) H'
theorem Nw.at {H : Hp} {o : HO} {Q : VK} (h : Nw H o Q) : ∀ p, H p = none → Q (.ref p) (upd H p o) := fun p np => h p _ np (same_new np o) upd_same
def tTupN (t : TA) : TE := fun σ H Q => t σ H fun xs H1 => xs.length ≤ sizeLine ∧ Nw H1 (.tup xs) Q
def tLstN (t : TA) : TE := fun σ H Q => t σ H fun xs H1 => xs.length ≤ sizeLine ∧ Nw H1 (.lst xs) Q
section
variable {X : Cx} {es : List Expr} {t : TA} {pos : Pos} {K : PySem.W.Frag}
theorem pe_tupN {x1} (h : PA X es t) : PE X (.Tuple es x1 pos) (tTupN t) := by
  intro pins s σ H Q I hq
  refine wpAny_Tuple_spliced (thn (h pos pins s σ H _ I hq) fun us s1 ⟨xs, H1, I1, r, z, q⟩ => ⟨by rw [← r.length]; exact z, ?_⟩)
  have hf : H1 s1.heap.objs.size = none := I1.hok.fresh (Nat.le_refl _)
  refine ⟨.ref s1.heap.objs.size, upd H1 s1.heap.objs.size (.tup xs), I1.laid (t' := s1.toks) (fun b u e => Heap.get?_push_of_some _ e) (Nat.le_refl _) ?_, rfl, q.at _ hf⟩
  exact ⟨z, us, r, ⟨_, Heap.get?_push_size _ rfl, rfl, _, rfl, rfl⟩⟩
theorem pe_lstN (h : PA X es t) : PE X (.List es pos) (tLstN t) := by
  intro pins s σ H Q I hq
  refine wpAny_List_spliced (thn (h pos pins s σ H _ I hq) fun us s1 ⟨xs, H1, I1, r, z, q⟩ => ⟨by rw [← r.length]; exact z, ?_⟩)
  have hf : H1 s1.heap.objs.size = none := I1.hok.fresh (Nat.le_refl _)
  refine ⟨.ref s1.heap.objs.size, upd H1 s1.heap.objs.size (.lst xs), I1.laid (t' := s1.toks) (fun b u e => Heap.get?_push_of_some _ e) (Nat.le_refl _) ?_, rfl, q.at _ hf⟩
  exact ⟨z, us, 0, r, Heap.get?_push_size _ rfl⟩
theorem CallR.mono {f : Value} {r r' : List V → Hp → VK → Prop} (h : CallR X f r) (m : ∀ xs H Q, r' xs H Q → r xs H Q) : CallR X f r' := fun pins s σ H xs us Q I v q => h pins s σ H xs us Q I v (m xs H Q q)
theorem OpR.mono {f : Value → Value → Sem Value} {r r' : R2} (h : OpR X f r) (m : ∀ x y H Q, r' x y H Q → r x y H Q) : OpR X f r' := fun pins s σ H x y v u Q I rx ry q => h pins s σ H x y v u Q I rx ry (m x y H Q q)
theorem SlR.mono {r r' : V → Option Int → Option Int → Hp → VK → Prop} (h : SlR X r) (m : ∀ x lo hi H Q, r' x lo hi H Q → r x lo hi H Q) : SlR X r' := fun pins s σ H x v vl vu lo hi sl Q I rx hs pl pu q => h pins s σ H x v vl vu lo hi sl Q I rx hs pl pu (m x lo hi H Q q)
def rRange1N : List V → Hp → VK → Prop := fun xs H Q => ∃ j : Int, xs = [.int j] ∧ Nw H (.rng 0 j) Q
theorem call_range1N : CallR X (.type "range") rRange1N := call_range1.mono fun _ _ _ zq => by obtain ⟨j, e, q⟩ := zq; exact ⟨j, e, q.at⟩
def rListRngN : List V → Hp → VK → Prop := fun xs H Q => ∃ (p : Addr) (n : Nat), xs = [.ref p] ∧ H p = some (.rng 0 (n : Int)) ∧ n ≤ 1000 ∧ Nw H (.lst ((upto n).map V.int)) Q
theorem call_list_rngN (hc : X.calm = true) : CallR X (.type "list") rListRngN := (call_list_rng hc).mono fun _ _ _ zq => by obtain ⟨p, n, e, h, l, q⟩ := zq; exact ⟨p, n, e, h, l, q.at⟩
def rTupRngN : List V → Hp → VK → Prop := fun xs H Q => ∃ (p : Addr) (n : Nat), xs = [.ref p] ∧ H p = some (.rng 0 (n : Int)) ∧ n ≤ 1000 ∧ Nw H (.tup ((upto n).map V.int)) Q
theorem call_tuple_rngN (hc : X.calm = true) : CallR X (.type "tuple") rTupRngN := (call_tuple_rng hc).mono fun _ _ _ zq => by obtain ⟨p, n, e, h, l, q⟩ := zq; exact ⟨p, n, e, h, l, q.at⟩
def rSortedN (K : PySem.W.Frag) : List V → Hp → VK → Prop := fun xs H Q => ∃ (p : Addr) (ns : List Int), xs = [.ref p] ∧ (SqL K H p (ns.map V.int) ∨ SqT K H p (ns.map V.int)) ∧ ns.length < 64 ∧
    ∀ ns' : List Int, ns'.Perm ns → ns'.Pairwise (· ≤ ·) → Nw H (.lst (ns'.map V.int)) Q
theorem sortedKN (h : X.K = K) : CallR X (.builtin "sorted") (rSortedN K) := h ▸ call_sorted.mono fun _ _ _ zq => by obtain ⟨p, ns, e, s, l, q⟩ := zq; exact ⟨p, ns, e, s, l, fun a ns' na pm so => (q ns' pm so).at a na⟩
def rSlLN (K : PySem.W.Frag) : V → Option Int → Option Int → Hp → VK → Prop := fun x lo hi H Q => ∃ a xs, x = .ref a ∧ SqL K H a xs ∧ Nw H (.lst (cutV xs lo hi)) Q
theorem sl_listN (h : X.K = K) : SlR X (rSlLN K) := h ▸ sl_list.mono fun _ _ _ _ _ zq => by obtain ⟨a, xs, e, s, q⟩ := zq; exact ⟨a, xs, e, s, q.at⟩
def rCatN : R2 := fun x y H Q => ∃ l b xs zs, x = .ref l ∧ y = .ref b ∧ H l = some (.lst xs) ∧ H b = some (.lst zs) ∧ xs.length + zs.length ≤ sizeLine ∧ Nw H (.lst (xs ++ zs)) Q
theorem op_catN : OpR X (binaryOp .Add) rCatN := op_cat.mono fun _ _ _ _ zq => by obtain ⟨l, b, xs, zs, e1, e2, h1, h2, z, q⟩ := zq; exact ⟨l, b, xs, zs, e1, e2, h1, h2, z, q.at⟩
def tDNewKN : TE := fun _ H Q => Nw H (.dK []) Q
theorem pe_dnewKN : PE X (.Dict [] [] pos) tDNewKN := fun pins s σ H Q I q => pe_dnewK pins s σ H Q I q.at
end
abbrev Ch (H : Hp) (a : Addr) (o : HO) (R : Hp → Prop) : Prop := ∀ H', Bar a H H' → H' a = some o → R H'
theorem Ch.at {H : Hp} {a : Addr} {o : HO} {R : Hp → Prop} (h : Ch H a o R) : R (upd H a o) := h _ (Bar.put (Bar.of (Same.refl _))) upd_same
section
variable {X : Cx}
theorem MtM.mono {id : String} {r r' : V → List V → Hp → VK → Prop} (h : MtM X id r) (m : ∀ x xs H Q, r' x xs H Q → r x xs H Q) : MtM X id r' := fun pins s σ H x xs v us Q I rx rv q => h pins s σ H x xs v us Q I rx rv (m x xs H Q q)
def rAppendN : V → List V → Hp → VK → Prop := fun x vs H Q => ∃ l xs y, x = .ref l ∧ vs = [y] ∧ H l = some (.lst xs) ∧ xs.length < sizeLine ∧ Ch H l (.lst (xs ++ [y])) (Q .non)
theorem mt_appendN : MtM X "list.append" rAppendN := mt_append.mono fun _ _ _ _ zq => by obtain ⟨l, xs, y, e1, e2, h, z, q⟩ := zq; exact ⟨l, xs, y, e1, e2, h, z, q.at⟩
def rExtendN : V → List V → Hp → VK → Prop := fun x vs H Q => ∃ l b xs zs, x = .ref l ∧ vs = [.ref b] ∧ H l = some (.lst xs) ∧ H b = some (.lst zs) ∧ xs.length + zs.length ≤ sizeLine ∧ Ch H l (.lst (xs ++ zs)) (Q .non)
theorem mt_extendN : MtM X "list.extend" rExtendN := mt_extend.mono fun _ _ _ _ zq => by obtain ⟨l, b, xs, zs, e1, e2, h1, h2, z, q⟩ := zq; exact ⟨l, b, xs, zs, e1, e2, h1, h2, z, q.at⟩
theorem PSet.mono {t t' : TSet} (h : PSet X t) (m : ∀ o i v H Q, t' o i v H Q → t o i v H Q) : PSet X t' := by
  intro pins s σ H o i x ov iv v Q I r1 r2 r3 q
  exact h pins s σ H o i x ov iv v Q I r1 r2 r3 (m _ _ _ _ _ q)
def rSetLN : V → V → V → Hp → (Hp → Prop) → Prop := fun o i v H Q => ∃ p xs k j, o = .ref p ∧ i = .int k ∧ H p = some (.lst xs) ∧ ixN xs.length k = some j ∧ Ch H p (.lst (xs.set j v)) Q
theorem set_listN : PSet X rSetLN := set_list.mono fun _ _ _ _ _ zq => by obtain ⟨p, xs, k, j, e1, e2, h, z, q⟩ := zq; exact ⟨p, xs, k, j, e1, e2, h, z, q.at⟩
variable {o i value : Expr} {td ty tv ta : TE} {pos pos' : Pos} {f : Str}
def sDPutN (td ty tv : TE) : TS := fun D σ H => tv σ H fun v H1 => td σ H1 fun x H2 => ty σ H2 fun y H3 => ∃ a kvs k, x = .ref a ∧ H3 a = some (.dK kvs) ∧ y = kV k ∧ kvs.length < sizeLine ∧ Ch H3 a (.dK (putK kvs k v)) (D.nx σ)
theorem ps_dputN (hu : X.A.units + 1 < cLine) (ho : PE X o td) (hi : PE X i ty) (hv : PE X value tv) (hs : swapsWith value (some (.Subscript o i pos')) pos.line X.env = pure false := by rfl) :
    PS X (.Assign [.Subscript o i pos'] value pos) (sDPutN td ty tv) := by
  intro pins s σ H D I h
  refine wpAny_Assign_Subscript (thn (hv pins s σ H _ I h) fun r s1 ⟨v, H1, I1, rv, q1⟩ => thn (ho pins s1 σ H1 _ I1 q1) fun u s2 ⟨x, H2, I2, rx, q2⟩ => thn (hi pins s2 σ H2 _ I2 q2) fun iv s3 zq => ?_) hs
  obtain ⟨y, H3, I3, ry, a, kvs, k, ex, ha, ey, l, q3⟩ := zq
  subst ex
  subst ey
  obtain rfl : u = Value.ref a := rx
  exact d_setItem hu I3 (DPut.k ha l) ry rv fun s4 I4 => ⟨σ, _, I4, q3.at⟩
def sFldN (K : PySem.W.Frag) (ta tv : TE) (f : Str) : TS := fun D σ H => tv σ H fun y H1 => ta σ H1 fun x H2 => ∃ a C dx fs, x = .ref a ∧ H2 a = some (.ins C dx fs) ∧ Cls K C ∧ NoAttr K C f ∧ fs.length < 1000 ∧ Ch H2 a (.ins C dx (putF f y fs)) (D.nx σ)
theorem ps_fldN {K : PySem.W.Frag} (hK : X.K = K) (ha : PE X o ta) (hv : PE X value tv) (hs : swapsWith value (some (.Attribute o f pos')) pos.line X.env = pure false := by rfl) : PS X (.Assign [.Attribute o f pos'] value pos) (sFldN K ta tv f) := by
  subst hK
  intro pins s σ H D I h
  refine plainObj_wpAny_Assign_Attribute (thn (hv pins s σ H _ I h) fun u s1 ⟨y, H1, I1, ry, q⟩ => thn (ha pins s1 σ H1 _ I1 q) fun ov s2 zq => ?_) hs
  obtain ⟨x, H2, I2, rx, a, C, dx, fs, ex, ea, c, n, l, q2⟩ := zq
  subst ex
  obtain rfl : ov = Value.ref a := rx
  exact setattr_ok I2 ea c n l ry fun s3 I3 => ⟨σ, _, I3, q2.at⟩
end
end L2
namespace L2
open PySem PySem.Spec PyProof.Rows
end L2
namespace L2
open PySem PySem.W PySem.Spec PyProof.Rows
end L2
namespace L2
open PySem PySem.Spec PyProof.Rows
end L2
namespace L2
open PySem PySem.Spec PyProof.Rows
theorem pe_mt0 {X : Cx} {k j : Nat} {m : Str} {C : Addr} {ps : List Str} {sp : Sp} {pos apos : Pos} {o : Expr} {ta : TE} {pl : Sem Bool} (h : HasMt X.prog X.w X.K X.mg X.base k m C ps sp) (hr : Room j X.A) (hj : k ≤ j) (ho : PE X o ta)
    (ht : eval (.Call (.Attribute o m apos) [] [] pos) X.env = (do
      let ov ← eval o X.env
      standAt apos.atName
      let (f, first) ← holding [ov] (getMethod ov m pl)
      callWith pos f first (backTo pos (starEach [] X.env)) (backToKw pos (keywordEach [] X.env))) := by rfl) :
    PE X (.Call (.Attribute o m apos) [] [] pos) (tMeth C m sp [] E0 ta tNil) := by
  obtain ⟨f, fd, c, hm, F, b⟩ := h
  exact pe_meth0 ho c hm F (hr.mono hj) b .nil pass0 ht
def rEqE (K : PySem.W.Frag) (neg : Bool) : R2 := fun x y H Q => ∃ (p q : Addr) (xs : List V), x = .ref p ∧ y = .ref q ∧ SqL K H p xs ∧ SqL K H q [] ∧ Q (.bl (if neg = true then !xs.isEmpty else xs.isEmpty)) H
theorem op_eqE {X : Cx} (hu : X.A.units < cLine) : OpR X (compareOp .Eq) (rEqE X.K false) := by
  intro pins s σ H x y v u Q I rx ry h
  obtain ⟨p, q, xs, rfl, rfl, h1, h2, k⟩ := h
  cases rx
  cases ry
  obtain ⟨its, r1, p1, z1⟩ := I.list h1
  obtain ⟨its2, r2, p2, z2⟩ := I.list h2
  cases r2
  have l1 := r1.length
  cases xs with
  | nil =>
    cases r1
    exact SeqAt.eq_listAt (e := fun _ => true) p1.isList p2.isList rfl hu (fun j h1 _ => absurd h1 (by simp)) (fin_bl I k (by simp))
  | cons a r => exact SeqAt.eq_list_lengthsAt p1.isList p2.isList (by simp; intro z; subst z; simp at l1) hu (fin_bl I k (by simp))
theorem op_neE {X : Cx} (hu : X.A.units < cLine) : OpR X (compareOp .NotEq) (rEqE X.K true) := by
  intro pins s σ H x y v u Q I rx ry h
  obtain ⟨p, q, xs, rfl, rfl, h1, h2, k⟩ := h
  cases rx
  cases ry
  obtain ⟨its, r1, p1, z1⟩ := I.list h1
  obtain ⟨its2, r2, p2, z2⟩ := I.list h2
  cases r2
  have l1 := r1.length
  show wpAny _ _ (richCompare .NotEq _ _) _ _ _
  cases xs with
  | nil =>
    cases r1
    exact SeqAt.RcNeAt.lists (e := fun _ => true) p1.isList p2.isList rfl hu (fun j h1 _ => absurd h1 (by simp)) _ _ _ _ (fin_bl I k (by simp))
  | cons a r => exact SeqAt.RcNeAt.lists_lengths p1.isList p2.isList (by simp; intro z; subst z; simp at l1) hu _ _ _ _ (fin_bl I k (by simp))
theorem Bar.trans {D : Addr} {H H' H'' : Hp} (g : Bar D H H') (g' : Bar D H' H'') : Bar D H H'' := fun b o e n => g' b o (g b o e n) n
def Out (fp : List Addr) (H H' : Hp) : Prop := ∀ b o, H b = some o → b ∉ fp → H' b = some o
theorem Out.of {fp : List Addr} {H H' : Hp} (g : Same H H') : Out fp H H' := fun b o e _ => g b o e
theorem Out.trans {fp : List Addr} {H H' H'' : Hp} (g : Out fp H H') (g' : Out fp H' H'') : Out fp H H'' := fun b o e n => g' b o (g b o e n) n
theorem Out.bar {fp : List Addr} {H H' : Hp} {a : Addr} (g : Bar a H H') (m : a ∈ fp) : Out fp H H' := fun b o e n => g b o e fun z => n (by rw [z]; exact m)
theorem setC {v : V} {i : Nat} {u : TS} {D : Ends} {σ : St} {H : Hp} (h : u D (σ.set i (some v)) H) : tSeq (tAsg (tC v) (gName i)) u D σ H := h
theorem setT {te : TE} {i : Nat} {u : TS} {D : Ends} {σ : St} {H : Hp} (h : te σ H fun x H1 => u D (σ.set i (some x)) H1) : tSeq (tAsg te (gName i)) u D σ H := h
theorem dget_s {H : Hp} {a : Addr} {kvs : List (Key × V)} {z : Str} {o : Option V} (h : H a = some (.dK kvs)) (e : valV kvs (.inr z) = o) : DGet H a (.str z) o := .inl ⟨kvs, .inr z, .inl h, rfl, e.symm⟩
end L2
namespace L2
open PySem PySem.Spec PyProof.Rows
structure CompScopeL (X : Cx) (scope : Scope) (cl : List (Str × Addr)) (xs : List Str) (fr : List (Str × Nat)) : Prop where
  clos : closureFor scope X.env = pure cl
  sub : CellsIn X.env.cells cl
  kind : scope.kind = .function
  names : ∀ y ∈ scope.names, y.2 = .local → scope.names.lookup y.1 = some .local
  ncell : ∀ y ∈ scope.names, y.2 ≠ .cell
  has : (scope.names.all fun y => !(y.2 == .free) || (cl.lookup y.1).isSome) = true
  frs : FreesOk X scope cl fr
  nd : (xs ++ fr.map (·.1)).Nodup
def cxCompL (X : Cx) (xs : List Str) (fr : List (Str × Nat)) (scope : Scope) (cl : List (Str × Addr)) (C : Addr) (s : Shared) (H : Hp) (fp : List Addr) : Cx where
  prog := X.prog
  w := X.w
  K := X.K
  mg := X.mg
  base := X.base
  A := X.A
  N := xs ++ fr.map (·.1)
  s₀ := s
  H₀ := H
  env := compEnvC scope cl C X.env
  outer := X.stack
  stack := X.stack
  ex := fp
  fn := fun _ => false
  calm := X.calm
  pn := []
  xe := fun _ _ => False
section
variable {X : Cx} {scope : Scope} {cl : List (Str × Addr)} {xs : List Str} {fr : List (Str × Nat)} {pins : List (Addr × Obj)} {σ : St} {H : Hp} {s : Shared}
theorem comp_invL (S : CompScopeL X scope cl xs fr) {h₁ : Heap} {C : Addr} {m : Str → Option Value} {fp : List Addr} {tk : Nat} (I : Inv X pins σ H s) (hC : C = s.heap.objs.size) (hf : ∀ b ∈ fp, FpOk X pins H b) (hlt : ∀ b ∈ fp, b < s.heap.objs.size)
    (old : ∀ b o, s.heap.get? b = some o → h₁.get? b = some o) (hn : h₁.Ns C m) : Inv (cxCompL X xs fr scope cl C s H fp) [] (List.replicate xs.length none ++ fvals σ fr) H { s with heap := h₁, toks := tk } := by
  have look := S.sub.look
  refine ⟨⟨I.ok.mod, S.kind, I.ok.glob, I.ok.blt, by show s.heap.objs.size ≤ C; rw [hC]; exact Nat.le_refl _, fun y z c h1 h2 => I.ok.inj y z c (look y c h1) (look z c h2), fun y hy => ?_, fun y c h => ?_, I.ok.hd, I.ok.frames, .inl rfl, fun b hb => ⟨?_, fun y c h => ?_⟩,
      I.bs, Nat.le_trans I.ok.bsz I.sz, fun b o e hb => ?_, fun b hb hb2 => ?_, I.stack, I.stkFree⟩,
    rfl, I.bare, Un.kept old, ⟨m, hn, fun i y v h1 h2 h3 => ?_⟩, fun y c h => ?_, ?_, fun y c h => I.freeC y c (look y c h), fun p hp => absurd (show p ∈ ([] : List (Addr × Obj)) from hp) (by simp), I.hok.kept old, ?_⟩
  · have hy : (relabel scope X.env).names.lookup y = some .cell ∨ (relabel scope X.env).names.lookup y = some .free := hy
    have fin : ∀ {k : NameKind}, (relabel scope X.env).names.lookup y = some k → (k = .cell ∨ k = .free) → ∃ c, cl.lookup y = some c := fun {k} e hk => by
      obtain ⟨k0, hm, q⟩ := relabel_back (env := X.env) e
      have hk0 : k0 = .free := by
        rcases q with q | q
        · rcases hk with z | z
          · exact absurd (q.symm.trans z) (S.ncell _ hm)
          · exact q.symm.trans z
        · exact q
      have hq := List.all_eq_true.mp S.has _ hm
      rw [hk0] at hq
      exact Option.isSome_iff_exists.mp (by simpa using hq)
    rcases hy with e | e
    · exact fin e (.inl rfl)
    · exact fin e (.inr rfl)
  · exact absurd (show false = true from h) Bool.false_ne_true
  · show b ≠ C
    exact fun z => absurd (hlt b hb) (by rw [show b = C from z, hC]; exact Nat.lt_irrefl _)
  · exact (hf b hb).2.2.2.2.1 y c (look y c h)
  · obtain ⟨_, _, _, z, _⟩ := hf b hb
    rcases z with z | z
    · exact I.ok.noex b o e z
    · have h1 := Heap.lt_size e
      have h2 := I.ok.bsz
      exact absurd (Nat.lt_of_lt_of_le h1 (Nat.le_trans h2 z)) (Nat.lt_irrefl _)
  · have z := I.stkSub b hb2
    rcases List.mem_cons.mp z with z | z
    · exact (hf b hb).2.1 z
    · exact (hf b hb).2.2.1 z
  · by_cases hi : i < xs.length
    · have h2 : (List.replicate xs.length none ++ fvals σ fr)[i]? = some (some v) := h2
      rw [List.getElem?_append_left (by rw [List.length_replicate]; exact hi), List.getElem?_replicate, if_pos hi] at h2
      cases h2
    · have h1 : (xs ++ fr.map (·.1))[i]? = some y := h1
      have h2 : (List.replicate xs.length none ++ fvals σ fr)[i]? = some (some v) := h2
      rw [List.getElem?_append_right (Nat.le_of_not_lt hi)] at h1
      rw [List.getElem?_append_right (by rw [List.length_replicate]; exact Nat.le_of_not_lt hi), List.length_replicate] at h2
      generalize i - xs.length = k at h1 h2
      have h2 : (fr.map fun p => (σ[p.2]?).join)[k]? = some (some v) := h2
      rw [List.getElem?_map] at h1 h2
      cases e : fr[k]? with
      | none => rw [e] at h1; cases h1
      | some p =>
        rw [e] at h1 h2
        have e1 : p.1 = y := Option.some.inj h1
        have e2 : (σ[p.2]?).join = some v := Option.some.inj h2
        have F := S.frs.get e
        rw [e1] at F
        have e3 : σ[p.2]? = some (some v) := by
          cases q : σ[p.2]? with
          | none => rw [q] at e2; cases e2
          | some o => rw [q] at e2; exact congrArg some e2
        obtain ⟨m0, _, hl⟩ := I.loc
        have vis : Vis X.env.scope y := by
          rcases F.out with z | z
          · exact .inr (.inl z)
          · exact .inr (.inr z)
        obtain ⟨u, r, l⟩ := hl p.2 y v F.ix e3 vis
        refine ⟨u, r, .inr ⟨F.inn, ?_⟩⟩
        obtain ⟨c, hc⟩ := Option.isSome_iff_exists.mp F.cl
        refine ⟨c, hc, ?_⟩
        rcases l with ⟨k1, _⟩ | ⟨_, c', e', z⟩
        · rcases F.out with q | q
          · rw [q] at k1; cases k1
          · rw [q] at k1; cases k1
        · have e4 := look y c hc
          rw [e'] at e4
          cases e4
          obtain ⟨o, ho, hd⟩ := z
          exact ⟨o, old _ _ ho, hd⟩
  · obtain ⟨v, o, ho, hd⟩ := I.cell y c (look y c h)
    exact ⟨v, o, old _ _ ho, hd⟩
  · show H C = none
    rw [hC]
    exact I.hok.fresh (Nat.le_refl _)
  · show (List.replicate xs.length none ++ fvals σ fr).length = (xs ++ fr.map (·.1)).length
    simp [fvals]
end
def CompWL (n : Nat) (J : It) (tg : TG) (tt : TT) (te : TE) (fv : St) (D : Addr) (H : Hp) (Q : VK) : Prop :=
  ∃ W : Nat → Nat → List V → Hp → Prop, (∃ m, W 0 m [] (upd H D (.lst []))) ∧ ∀ i m ys H, W i m ys H →
    (J.stop i H ∧ Q (.ref D) H) ∨ (J.go i H ∧ ∃ N : List V → Hp → Prop, (∀ ys' H', N ys' H' → ∃ m', m' < m ∧ W (i + 1) m' ys' H') ∧
      ∀ v H', J.yld i H v H' → ∀ os : St, os.length = n → tg v (os ++ fv) H' fun σ2 H2 => (∃ os2 : St, os2.length = n ∧ σ2 = os2 ++ fv) ∧ tt σ2 H2 fun c H1 => if c = true then te σ2 H1 fun y H3 => H3 D = some (.lst ys) ∧ ys.length < sizeLine ∧ N (ys ++ [y]) (upd H3 D (.lst (ys ++ [y]))) else N ys H1)
section
variable {X : Cx} {elt iter tgt : Expr} {xs : List Str} {pos : Pos} {ifs : List Expr} {scope : Scope} {cl : List (Str × Addr)} {fr : List (Str × Nat)} {tg : TG} {tt : TT} {te : TE} {pins : List (Addr × Obj)} {σ : St}
theorem comp_coreL {H2 : Hp} {s2 : Shared} {it : Addr} {fp : List Addr} {tn : Nat → Heap → Prop} {J : It} {Q : VK} {RR : Value → Addr → Result → Shared → Prop} {E : Value → Shared → Prop}
    (hc : X.calm = true) (S : CompScopeL X scope cl xs fr) (hg : ∀ C s H fp, PG (cxCompL X xs fr scope cl C s H fp) tgt tg)
    (ht : ∀ C s H fp, PTL (cxCompL X xs fr scope cl C s H fp) ifs tt) (he : ∀ C s H fp, PE (cxCompL X xs fr scope cl C s H fp) elt te)
    (I2 : Inv X pins σ H2 s2) (T : Turn X.prog X.w X.K tgt J fp it tn) (st2 : tn 0 s2.heap) (f2 : ∀ b ∈ fp, FpOk X pins H2 b)
    (hw : ∀ D, H2 D = none → CompWL xs.length J tg tt te (fvals σ fr) D H2 Q)
    (hR : ∀ D C s1 H1 m, Inv X pins σ H1 s1 → s1.heap.Ns C m → H1 C = none → C ≠ X.env.locals → X.s₀.heap.objs.size ≤ C → (∀ y c, X.env.cells.lookup y = some c → c ≠ C) → (∀ p ∈ X.pn ++ pins, p.1 ≠ C) → Q (.ref D) H1 → RR (.ref D) C (.ok .next) s1) :
    wpAny (model X.prog X.w) X.A (newList []) (fun acc s₃ => wpAny (model X.prog X.w) X.A (newFunctionEnv scope X.env.globals cl [] X.env.qual none .none (some X.env)) (fun cenv s₄ =>
      codeAny (model X.prog X.w) X.A (.compStart (.ListComp elt [⟨tgt, iter, ifs, 0⟩] scope pos) 0 (.ref it) acc { cenv with scope := relabel scope X.env }) (RR acc cenv.locals) s₄) E s₃) E s2 := by
  refine wpAny_newObj_type (wpAny_newFunctionEnv S.ncell (by intro y hy; simp at hy) (fun h₁ hns₁ hsb₁ => ?_) S.kind)
  dsimp only at hns₁ hsb₁ ⊢
  have I3 : Inv X pins σ (upd H2 s2.heap.objs.size (.lst [])) { s2 with heap := s2.heap.push { cls := .type "list", dict := none, data := .seq ([] : List Value).toArray } } :=
    I2.laid (t' := s2.toks) (fun b u e => Heap.get?_push_of_some _ e) (Nat.le_refl _) ⟨Nat.zero_le _, [], 0, .nil, Heap.get?_push_size _ rfl⟩
  have hDn : H2 s2.heap.objs.size = none := I2.hok.fresh (Nat.le_refl _)
  obtain ⟨W, ⟨m0, w0⟩, turn⟩ := hw s2.heap.objs.size hDn
  have oldf : ∀ b ∈ fp, b < s2.heap.objs.size := fun b hb => by
    obtain ⟨o, e, _⟩ := T.obj _ _ st2 b hb
    exact Heap.lt_size e
  generalize hH2 : s2.heap.push { cls := .type "list", dict := none, data := .seq ([] : List Value).toArray } = G2 at hns₁ hsb₁ I3 ⊢
  have hC : G2.objs.size = s2.heap.objs.size + 1 := by rw [← hH2, Heap.size_push]
  have old : ∀ b o, G2.get? b = some o → h₁.get? b = some o := fun b o e => hsb₁.extBut b o (Nat.ne_of_lt (Heap.lt_size e)) (Heap.get?_push_of_some _ e)
  have up : ∀ b o, s2.heap.get? b = some o → G2.get? b = some o := fun b o e => hH2 ▸ Heap.get?_push_of_some _ e
  have f3 : ∀ b ∈ fp, FpOk X pins (upd H2 s2.heap.objs.size (.lst [])) b := fun b hb => by
    have := oldf b hb
    exact ⟨by rw [upd_ne (Nat.ne_of_lt this)]; exact (f2 b hb).1, (f2 b hb).2⟩
  have lt3 : ∀ b ∈ fp, b < G2.objs.size := fun b hb => by
    rw [hC]
    exact Nat.lt_succ_of_lt (oldf b hb)
  have st4 : tn 0 h₁ := T.keep _ _ _ st2 fun b hb o e => old b o (up b o e)
  have I4 : Inv (cxCompL X xs fr scope cl G2.objs.size { s2 with heap := G2 } (upd H2 s2.heap.objs.size (.lst [])) fp) [] (List.replicate xs.length none ++ fvals σ fr) (upd H2 s2.heap.objs.size (.lst [])) { s2 with heap := h₁, toks := s2.toks + ([] : List (Str × Value)).length } :=
    comp_invL (tk := s2.toks + ([] : List (Str × Value)).length) S I3 rfl f3 lt3 old hns₁
  have loop : ∀ s₃ : Shared, s₃ = { s2 with heap := h₁, toks := s2.toks + ([] : List (Str × Value)).length } →
      codeAny (model X.prog X.w) X.A (.compLoop (.ListComp elt [⟨tgt, iter, ifs, 0⟩] scope pos) 0 (.ref it) (.ref s2.heap.objs.size) (compEnvC scope cl G2.objs.size X.env)) (RR (.ref s2.heap.objs.size) G2.objs.size) s₃ := by
    rintro s₃ rfl
    refine codeAny_compLoop_go (fun k s' => ∃ i ys H' os, os.length = xs.length ∧ Inv (cxCompL X xs fr scope cl G2.objs.size { s2 with heap := G2 } (upd H2 s2.heap.objs.size (.lst [])) fp) [] (os ++ fvals σ fr) H' s' ∧ tn i s'.heap ∧ (∀ b ∈ fp, H' b = none) ∧ W i k ys H') ?_ m0
      ⟨0, [], _, List.replicate xs.length none, List.length_replicate, I4, st4, fun b hb => (f3 b hb).1, w0⟩
    rintro n s5 ⟨i, ys, H5, os, los, I5, st5, fr5, w5⟩
    have stat : ∀ {H' : Hp}, (∀ b ∈ fp, H' b = none) → ∀ b ∈ fp, FpOk (cxCompL X xs fr scope cl G2.objs.size { s2 with heap := G2 } (upd H2 s2.heap.objs.size (.lst [])) fp) [] H' b := fun {H'} hn b hb =>
      ⟨hn b hb, (I5.ok.exf b hb).1, I5.ok.exfs b hb, .inl hb, (I5.ok.exf b hb).2, fun p hp => absurd (show p ∈ ([] : List (Addr × Obj)) from hp) (by simp)⟩
    rcases turn i n ys H5 w5 with ⟨stop, qn⟩ | ⟨go, N, hN, step⟩
    · refine thn (T.done (cxCompL X xs fr scope cl G2.objs.size { s2 with heap := G2 } (upd H2 s2.heap.objs.size (.lst [])) fp) rfl rfl rfl hc i [] s5 _ H5 _ I5 (stat fr5) st5 stop) fun r s6 zq => ?_
      obtain ⟨hr, I6⟩ := zq
      subst hr
      obtain ⟨m, hnC, _⟩ := I6.loc
      have I7 : Inv X pins σ H5 s6 := I3.call' (ch := fp) I6.os I6.base I6.hok I6.bare fun b hb => ⟨(f2 b hb).2.2.2.1, (f2 b hb).2.1, (f2 b hb).2.2.2.2.1, (f2 b hb).2.2.2.2.2⟩
      refine hR _ _ s6 H5 m I7 hnC I6.free ?_ ?_ (fun y c e z => ?_) (fun p hp z => ?_) qn
      · exact Nat.ne_of_gt I3.lt
      · exact I3.sz
      · obtain ⟨v, q⟩ := I3.cell y c e
        exact absurd q.lt (by rw [z]; exact Nat.lt_irrefl _)
      · exact absurd (Heap.lt_size (I3.pin p hp).1) (by rw [z]; exact Nat.lt_irrefl _)
    · refine thn (T.item (cxCompL X xs fr scope cl G2.objs.size { s2 with heap := G2 } (upd H2 s2.heap.objs.size (.lst [])) fp) rfl rfl rfl hc i [] s5 _ H5 _ I5 (stat fr5) st5 go) fun r s6 zq => ?_
      obtain ⟨u, hr, h6⟩ := zq
      subst hr
      refine thn h6 fun _ s7 zq => ?_
      obtain ⟨v, H7, I7, r7, y7, st7, fr7⟩ := zq
      have I7' := I7.pinned (stat fr7) (T.obj _ _ st7)
      refine wpAny_mono (hg _ _ _ _ _ s7 _ H7 v u _ I7' r7 (step v H7 y7 os los)) (fun _ s8 zq => ?_) fun _ _ z => False.elim z
      obtain ⟨σ8, H8, I8, ⟨os2, los2, e8⟩, q8⟩ := zq
      subst e8
      have again : ∀ {os1 : St} {H9 : Hp} {s9 : Shared} {ys9 : List V}, os1.length = xs.length → Inv (cxCompL X xs fr scope cl G2.objs.size { s2 with heap := G2 } (upd H2 s2.heap.objs.size (.lst [])) fp) ([] ++ pinsAt fp s7.heap) (os1 ++ fvals σ fr) H9 s9 → N ys9 H9 →
          ∃ m, m < n ∧ ∃ i ys H' os, os.length = xs.length ∧ Inv (cxCompL X xs fr scope cl G2.objs.size { s2 with heap := G2 } (upd H2 s2.heap.objs.size (.lst [])) fp) [] (os ++ fvals σ fr) H' s9 ∧ tn i s9.heap ∧ (∀ b ∈ fp, H' b = none) ∧ W i m ys H' := fun {os1 H9 s9 ys9} l1 I9 n9 => by
        obtain ⟨m', hm, w9⟩ := hN ys9 H9 n9
        refine ⟨m', hm, i + 1, ys9, H9, os1, l1, I9.unpinned, T.keep _ _ _ st7 fun b hb o e => (I9.pin (b, o) (List.mem_append_right _ (List.mem_append_right _ (mem_pinsAt hb e)))).1, fun b hb => ?_, w9⟩
        obtain ⟨o, e, d⟩ := T.obj _ _ st7 b hb
        exact (I9.pin (b, o) (List.mem_append_right _ (List.mem_append_right _ (mem_pinsAt hb e)))).2.1
      refine wpAny_mono (ht _ _ _ _ _ s8 _ H8 _ I8 q8) (fun ok s9 zq => ?_) fun _ _ z => False.elim z
      obtain ⟨H9, I9, q9⟩ := zq
      cases ok with
      | false =>
        rw [if_neg Bool.false_ne_true]
        rw [if_neg Bool.false_ne_true] at q9
        exact again los2 I9 q9
      | true =>
        rw [if_pos rfl]
        rw [if_pos rfl] at q9
        refine wpAny_mono (he _ _ _ _ _ s9 _ H9 _ I9 q9) (fun u1 s10 zq => ?_) fun _ _ z => False.elim z
        obtain ⟨y, H10, I10, r10, hD, hz, n10⟩ := zq
        refine wpAny_mono (mt_append (X := cxCompL X xs fr scope cl G2.objs.size { s2 with heap := G2 } (upd H2 s2.heap.objs.size (.lst [])) fp) _ s10 _ H10 (.ref s2.heap.objs.size) [y] _ [u1] (fun _ H' => N (ys ++ [y]) H') I10 rfl (.cons r10 .nil) ⟨_, ys, y, rfl, rfl, hD, hz, n10⟩) (fun _ s11 zq => ?_) fun _ _ z => False.elim z
        obtain ⟨_, H11, I11, _, q11⟩ := zq
        exact again los2 I11 q11
  exact codeAny_compStart_list (loop _ rfl) (T.self _ 0 _ _ _ st4 (loop _ rfl))
def tCompL (n : Nat) (wi : TI) (fr : List (Str × Nat)) (tg : TG) (tt : TT) (te : TE) : TE := fun σ H Q => wi σ H fun J H1 => ∀ D, H1 D = none → CompWL n J tg tt te (fvals σ fr) D H1 Q
theorem pe_compL {wi : TI} (hc : X.calm = true) (S : CompScopeL X scope cl xs fr) (hg : ∀ C s H fp, PG (cxCompL X xs fr scope cl C s H fp) tgt tg) (hi : PI X tgt iter wi)
    (ht : ∀ C s H fp, PTL (cxCompL X xs fr scope cl C s H fp) ifs tt) (he : ∀ C s H fp, PE (cxCompL X xs fr scope cl C s H fp) elt te)
    (hs : ∀ x, foldedSetIterable iter X.env x = pure x := by intro _; rfl) : PE X (.ListComp elt [⟨tgt, iter, ifs, 0⟩] scope pos) (tCompL xs.length wi fr tg tt te) := by
  intro pins s σ H Q I h
  rw [eval_ListComp]
  refine wpAny_comprehension_free (use := none) rfl hs S.clos S.kind S.names (thn (hi pins s σ H _ I h) fun v s1 h1 => thn h1 fun itv s2 h2 => ?_)
  obtain ⟨it, fp, tn, J, H2, e, I2, T, st2, f2, hw⟩ := h2
  subst e
  refine comp_coreL (Q := Q) (RR := fun acc C => compPost (model X.prog X.w) X.A X.xe none (EP X pins σ Q) acc C) hc S hg ht he I2 T st2 f2 hw ?_
  intro D C s1 H1 m I1 hn f0 f1 f3 f4 f5 q
  refine ⟨m, hn, fun h' hs' => ?_⟩
  exact ⟨.ref D, H1, I1.turned (t' := s1.toks) (fun b o hb e => hs'.extBut b o hb e) f0 f1 (.inr f3) f4 f5, rfl, q⟩
end
theorem comp_listL {K : PySem.W.Frag} {a : Addr} {xs : List V} {n : Nat} {tg : TG} {tt : TT} {te : TE} {fv : St} {D : Addr} {H : Hp} {Q : VK} (Pv : Nat → List V → Hp → Prop) (h0 : Pv 0 [] (upd H D (.lst []))) (hl : ∀ i ys H, i ≤ xs.length → Pv i ys H → SqL K H a xs)
    (hs : ∀ i v ys H, xs[i]? = some v → Pv i ys H → ∀ os : St, os.length = n → tg v (os ++ fv) H fun σ2 H2 => (∃ os2 : St, os2.length = n ∧ σ2 = os2 ++ fv) ∧ tt σ2 H2 fun c H1 => if c = true then te σ2 H1 fun y H3 => H3 D = some (.lst ys) ∧ ys.length < sizeLine ∧ Pv (i + 1) (ys ++ [y]) (upd H3 D (.lst (ys ++ [y]))) else Pv (i + 1) ys H1)
    (hd : ∀ ys H, Pv xs.length ys H → Q (.ref D) H) : CompWL n (Itl K a) tg tt te fv D H Q := by
  refine ⟨fun i m ys H => m = xs.length - i ∧ i ≤ xs.length ∧ Pv i ys H, ⟨xs.length, by simp, Nat.zero_le _, h0⟩, ?_⟩
  rintro i m ys H ⟨rfl, hi, p⟩
  have q := hl i ys H hi p
  by_cases hlt : i < xs.length
  · refine .inr ⟨⟨xs, xs[i], q, by simp [hlt]⟩, Pv (i + 1), fun ys' H' p' => ⟨xs.length - (i + 1), by omega, rfl, hlt, p'⟩, fun x H' y => ?_⟩
    obtain ⟨e, y⟩ := y
    subst e
    exact hs i x ys _ (y xs q) p
  · have e : i = xs.length := by omega
    subst e
    exact .inl ⟨⟨xs, q, Nat.le_refl _⟩, hd ys H p⟩
end L2
namespace L2
open PySem PySem.Spec PyProof.Rows
abbrev lc2 (elt t1 i1 t2 i2 : Expr) (scope : Scope) (pos : Pos) : Expr := .ListComp elt [⟨t1, i1, [], 0⟩, ⟨t2, i2, [], 0⟩] scope pos
theorem comp2_turn0 (elt t1 i1 t2 i2 : Expr) (scope : Scope) (pos : Pos) (it acc : Value) (env : Env) :
    compTurn (lc2 elt t1 i1 t2 i2 scope pos) 0 it acc env = (do
      standAt i1.pos
      match ← pyNext it with
      | none => pure (.done .next)
      | some v =>
        letOwnedTupleGo t1 it v
        assign t1 env v
        let mut ok := true
        for c in ([] : List Expr) do
          if ok then ok ← isTrue c env (eval c env)
        if ok then
          let x ← eval i2 env
          standAt i2.pos
          let x ← foldedSetIterable i2 env x
          let _ ← runOwn (.compStart (lc2 elt t1 i1 t2 i2 scope pos) 1 (← holding [x] (pyIter x)) acc env) env
        again (.compLoop (lc2 elt t1 i1 t2 i2 scope pos) 0 it acc env)) := by rfl
theorem comp2_turn1 (elt t1 i1 t2 i2 : Expr) (scope : Scope) (pos : Pos) (it acc : Value) (env : Env) :
    compTurn (lc2 elt t1 i1 t2 i2 scope pos) 1 it acc env = (do
      standAt i2.pos
      match ← pyNext it with
      | none => pure (.done .next)
      | some v =>
        letOwnedTupleGo t2 it v
        assign t2 env v
        let mut ok := true
        for c in ([] : List Expr) do
          if ok then ok ← isTrue c env (eval c env)
        if ok then
          (do let _ ← call (.builtin "list.append") [acc, ← eval elt env])
        again (.compLoop (lc2 elt t1 i1 t2 i2 scope pos) 1 it acc env)) := by rfl
section
variable {prog : Program} {w : World} {A : Around} {R : Result → Shared → Prop} {s : Shared} {elt t1 i1 t2 i2 : Expr} {scope : Scope} {pos : Pos} {it acc : Value} {env : Env}
theorem comp2_go1 (I : Nat → Shared → Prop)
    (turn : ∀ n s, I n s → wpAny (model prog w) A (pyNext it) (fun r s₁ => match r with
      | none => R (.ok .next) s₁
      | some v => wpAny (model prog w) A (letOwnedTupleGo t2 it v) (fun _ s₀ => wpAny (model prog w) A (assign t2 env v) (fun _ s₂ =>
          wpAny (model prog w) A (eval elt env) (fun x s₄ =>
              wpAny (model prog w) A (call (.builtin "list.append") [acc, x]) (fun _ s₅ => ∃ m, m < n ∧ I m s₅) (notedBy (model prog w) A env fun e s' => R (.error e) s') s₄) (notedBy (model prog w) A env fun e s' => R (.error e) s') s₂) (notedBy (model prog w) A env fun e s' => R (.error e) s') s₀) (notedBy (model prog w) A env fun e s' => R (.error e) s') s₁) (notedBy (model prog w) A env fun e s' => R (.error e) s') s)
    (n : Nat) (h : I n s) : codeAny (model prog w) A (.compLoop (lc2 elt t1 i1 t2 i2 scope pos) 1 it acc env) R s := by
  refine codeAny_loop rfl I (fun n s hI => ?_) n h
  show wpAny _ A ((compTurn (lc2 elt t1 i1 t2 i2 scope pos) 1 it acc env).onRaise (fun x => do noteFrame x env; theTreesLotGoes x)) _ _ s
  refine wpAny_noted ?_
  rw [comp2_turn1]
  refine wpAny_bind (wpAny_standAt (wpAny_bind (wpAny_mono (turn n s hI) (fun r s₁ h₁ => ?_) fun _ _ h' => h')))
  cases r with
  | none => exact wpAny_pure h₁
  | some v =>
    refine wpAny_bind (wpAny_mono h₁ (fun _ s₀ h₀ => ?_) fun _ _ h' => h')
    refine wpAny_bind (wpAny_mono h₀ (fun _ s₂ h₂ => wpAny_bind (wpAny_tests_nil ?_)) fun _ _ h' => h')
    exact wpAny_bind (wpAny_bind (wpAny_mono h₂ (fun x s₄ h₄ => wpAny_bind (wpAny_mono h₄ (fun _ s₅ h₅ => wpAny_pure (wpAny_pure ⟨rfl, h₅⟩)) fun _ _ h' => h')) fun _ _ h' => h'))
theorem comp2_go0 (hs : ∀ x, foldedSetIterable i2 env x = pure x) (I : Nat → Shared → Prop)
    (turn : ∀ n s, I n s → wpAny (model prog w) A (pyNext it) (fun r s₁ => match r with
      | none => R (.ok .next) s₁
      | some v => wpAny (model prog w) A (letOwnedTupleGo t1 it v) (fun _ s₀ => wpAny (model prog w) A (assign t1 env v) (fun _ s₂ =>
          wpAny (model prog w) A (eval i2 env) (fun x s₃ => wpAny (model prog w) A (pyIter x) (fun it2 s₄ =>
            codeAny (model prog w) A (.compStart (lc2 elt t1 i1 t2 i2 scope pos) 1 it2 acc env) (fun r s₅ => match r with | .ok _ => ∃ m, m < n ∧ I m s₅ | .error _ => False) s₄)
            (notedBy (model prog w) A env fun e s' => R (.error e) s') s₃) (notedBy (model prog w) A env fun e s' => R (.error e) s') s₂) (notedBy (model prog w) A env fun e s' => R (.error e) s') s₀) (notedBy (model prog w) A env fun e s' => R (.error e) s') s₁) (notedBy (model prog w) A env fun e s' => R (.error e) s') s)
    (n : Nat) (h : I n s) : codeAny (model prog w) A (.compLoop (lc2 elt t1 i1 t2 i2 scope pos) 0 it acc env) R s := by
  refine codeAny_loop rfl I (fun n s hI => ?_) n h
  show wpAny _ A ((compTurn (lc2 elt t1 i1 t2 i2 scope pos) 0 it acc env).onRaise (fun x => do noteFrame x env; theTreesLotGoes x)) _ _ s
  refine wpAny_noted ?_
  rw [comp2_turn0]
  refine wpAny_bind (wpAny_standAt (wpAny_bind (wpAny_mono (turn n s hI) (fun r s₁ h₁ => ?_) fun _ _ h' => h')))
  cases r with
  | none => exact wpAny_pure h₁
  | some v =>
    refine wpAny_bind (wpAny_mono h₁ (fun _ s₀ h₀ => ?_) fun _ _ h' => h')
    refine wpAny_bind (wpAny_mono h₀ (fun _ s₂ h₂ => wpAny_bind (wpAny_tests_nil ?_)) fun _ _ h' => h')
    refine wpAny_bind (wpAny_mono h₂ (fun x s₃ h₃ => ?_) fun _ _ h' => h')
    refine wpAny_bind (wpAny_standAt ?_)
    rw [hs]
    refine wpAny_bind (wpAny_pure ?_)
    refine wpAny_bind (wpAny_holding (wpAny_mono h₃ (fun it2 s₄ h₄ => ?_) fun _ _ h' => h'))
    refine wpAny_bind (wpAny_runOwn (h := none) ?_)
    rw [Around.mark_none]
    refine codeAny_mono h₄ fun r s₅ h₅ => ?_
    cases r with
    | error e => exact False.elim h₅
    | ok f => exact wpAny_pure ⟨rfl, h₅⟩
theorem comp2_start1 {R : Result → Shared → Prop}
    (h0 : codeAny (model prog w) A (.compLoop (lc2 elt t1 i1 t2 i2 scope pos) 1 it acc env) R s)
    (h : wpAny (model prog w) A (pyIter it) (fun it' s' => codeAny (model prog w) A (.compLoop (lc2 elt t1 i1 t2 i2 scope pos) 1 it' acc env) R s') (notedBy (model prog w) A env fun x s' => R (.error x) s') s) :
    codeAny (model prog w) A (.compStart (lc2 elt t1 i1 t2 i2 scope pos) 1 it acc env) R s := by
  refine codeAny_of_tree ?_
  show wpAny _ _ ((compStart (lc2 elt t1 i1 t2 i2 scope pos) 1 it acc env).onRaise (fun x => do noteFrame x env; standAt theWindowsPlace)) _ _ s
  refine wpAny_notedAt ?_
  unfold compStart
  show wpAny _ _ (ask >>= _) _ _ s
  refine wpAny_bind (wpAny_askSetting (wpAny_ite ?_))
  split
  · first
      | exact wpAny_bind (wpAny_pure (wpAny_pure (And.intro rfl h0)))
      | exact wpAny_pure (And.intro rfl h0)
  · first
      | exact wpAny_bind (wpAny_rule (wpAny_bind (wpAny_standAt (wpAny_bind (wpAny_mono h (fun it' s' h' => wpAny_pure (And.intro rfl h')) fun _ _ x => x)))))
      | (refine wpAny_bind (wpAny_rule ?_); show wpAny _ _ (standAt i2.pos >>= _) _ _ s; exact wpAny_bind (wpAny_standAt (wpAny_bind (wpAny_mono h (fun it' s' h' => wpAny_pure (And.intro rfl h')) fun _ _ x => x))))
end
def CompW2 (n : Nat) (J : It) (tg1 : TG) (wi2 : TI) (tg2 : TG) (te : TE) (fv : St) (D : Addr) (H : Hp) (Q : VK) : Prop :=
  ∃ W : Nat → Nat → List V → Hp → Prop, (∃ m, W 0 m [] (upd H D (.lst []))) ∧ ∀ i m ys H, W i m ys H →
    (J.stop i H ∧ Q (.ref D) H) ∨ (J.go i H ∧ ∃ N : List V → Hp → Prop, (∀ ys' H', N ys' H' → ∃ m', m' < m ∧ W (i + 1) m' ys' H') ∧
      ∀ v H', J.yld i H v H' → ∀ os : St, os.length = n → tg1 v (os ++ fv) H' fun σ2 H2 => (∃ os2 : St, os2.length = n ∧ σ2 = os2 ++ fv) ∧ wi2 σ2 H2 fun J2 H3 =>
        ∃ W2 : Nat → Nat → List V → St → Hp → Prop, (∃ m2, W2 0 m2 ys σ2 H3) ∧ ∀ i2 m2 ys2 σ3 H4, W2 i2 m2 ys2 σ3 H4 →
          (J2.stop i2 H4 ∧ (∃ os3 : St, os3.length = n ∧ σ3 = os3 ++ fv) ∧ N ys2 H4) ∨ (J2.go i2 H4 ∧ ∃ N2 : List V → St → Hp → Prop, (∀ ys' σ' H', N2 ys' σ' H' → ∃ m', m' < m2 ∧ W2 (i2 + 1) m' ys' σ' H') ∧
            ∀ v2 H5, J2.yld i2 H4 v2 H5 → tg2 v2 σ3 H5 fun σ4 H6 => te σ4 H6 fun y H7 => H7 D = some (.lst ys2) ∧ ys2.length < sizeLine ∧ N2 (ys2 ++ [y]) σ4 (upd H7 D (.lst (ys2 ++ [y])))))
section
variable {X : Cx} {elt t1 i1 t2 i2 : Expr} {xs : List Str} {pos : Pos} {scope : Scope} {cl : List (Str × Addr)} {fr : List (Str × Nat)} {tg1 tg2 : TG} {wi2 : TI} {te : TE} {pins : List (Addr × Obj)} {σ : St}
theorem comp_core2 {H2 : Hp} {s2 : Shared} {it : Addr} {fp : List Addr} {tn : Nat → Heap → Prop} {J : It} {Q : VK} {RR : Value → Addr → Result → Shared → Prop} {E : Value → Shared → Prop}
    (hc : X.calm = true) (S : CompScopeL X scope cl xs fr) (hg : ∀ C s H fp, PG (cxCompL X xs fr scope cl C s H fp) t1 tg1) (hi2 : ∀ C s H fp, PI (cxCompL X xs fr scope cl C s H fp) t2 i2 wi2) (hg2 : ∀ C s H fp, PG (cxCompL X xs fr scope cl C s H fp) t2 tg2) (he : ∀ C s H fp, PE (cxCompL X xs fr scope cl C s H fp) elt te)
    (hs2 : ∀ C x, foldedSetIterable i2 (compEnvC scope cl C X.env) x = pure x)
    (I2 : Inv X pins σ H2 s2) (T : Turn X.prog X.w X.K t1 J fp it tn) (st2 : tn 0 s2.heap) (f2 : ∀ b ∈ fp, FpOk X pins H2 b)
    (hw : ∀ D, H2 D = none → CompW2 xs.length J tg1 wi2 tg2 te (fvals σ fr) D H2 Q)
    (hR : ∀ D C s1 H1 m, Inv X pins σ H1 s1 → s1.heap.Ns C m → H1 C = none → C ≠ X.env.locals → X.s₀.heap.objs.size ≤ C → (∀ y c, X.env.cells.lookup y = some c → c ≠ C) → (∀ p ∈ X.pn ++ pins, p.1 ≠ C) → Q (.ref D) H1 → RR (.ref D) C (.ok .next) s1) :
    wpAny (model X.prog X.w) X.A (newList []) (fun acc s₃ => wpAny (model X.prog X.w) X.A (newFunctionEnv scope X.env.globals cl [] X.env.qual none .none (some X.env)) (fun cenv s₄ =>
      codeAny (model X.prog X.w) X.A (.compStart (lc2 elt t1 i1 t2 i2 scope pos) 0 (.ref it) acc { cenv with scope := relabel scope X.env }) (RR acc cenv.locals) s₄) E s₃) E s2 := by
  refine wpAny_newObj_type (wpAny_newFunctionEnv S.ncell (by intro y hy; simp at hy) (fun h₁ hns₁ hsb₁ => ?_) S.kind)
  dsimp only at hns₁ hsb₁ ⊢
  have I3 : Inv X pins σ (upd H2 s2.heap.objs.size (.lst [])) { s2 with heap := s2.heap.push { cls := .type "list", dict := none, data := .seq ([] : List Value).toArray } } :=
    I2.laid (t' := s2.toks) (fun b u e => Heap.get?_push_of_some _ e) (Nat.le_refl _) ⟨Nat.zero_le _, [], 0, .nil, Heap.get?_push_size _ rfl⟩
  have hDn : H2 s2.heap.objs.size = none := I2.hok.fresh (Nat.le_refl _)
  obtain ⟨W, ⟨m0, w0⟩, turn⟩ := hw s2.heap.objs.size hDn
  have oldf : ∀ b ∈ fp, b < s2.heap.objs.size := fun b hb => by
    obtain ⟨o, e, _⟩ := T.obj _ _ st2 b hb
    exact Heap.lt_size e
  generalize hH2 : s2.heap.push { cls := .type "list", dict := none, data := .seq ([] : List Value).toArray } = G2 at hns₁ hsb₁ I3 ⊢
  have hC : G2.objs.size = s2.heap.objs.size + 1 := by rw [← hH2, Heap.size_push]
  have old : ∀ b o, G2.get? b = some o → h₁.get? b = some o := fun b o e => hsb₁.extBut b o (Nat.ne_of_lt (Heap.lt_size e)) (Heap.get?_push_of_some _ e)
  have up : ∀ b o, s2.heap.get? b = some o → G2.get? b = some o := fun b o e => hH2 ▸ Heap.get?_push_of_some _ e
  have f3 : ∀ b ∈ fp, FpOk X pins (upd H2 s2.heap.objs.size (.lst [])) b := fun b hb => by
    have := oldf b hb
    exact ⟨by rw [upd_ne (Nat.ne_of_lt this)]; exact (f2 b hb).1, (f2 b hb).2⟩
  have lt3 : ∀ b ∈ fp, b < G2.objs.size := fun b hb => by
    rw [hC]
    exact Nat.lt_succ_of_lt (oldf b hb)
  have st4 : tn 0 h₁ := T.keep _ _ _ st2 fun b hb o e => old b o (up b o e)
  have I4 : Inv (cxCompL X xs fr scope cl G2.objs.size { s2 with heap := G2 } (upd H2 s2.heap.objs.size (.lst [])) fp) [] (List.replicate xs.length none ++ fvals σ fr) (upd H2 s2.heap.objs.size (.lst [])) { s2 with heap := h₁, toks := s2.toks + ([] : List (Str × Value)).length } :=
    comp_invL (tk := s2.toks + ([] : List (Str × Value)).length) S I3 rfl f3 lt3 old hns₁
  have loop : ∀ s₃ : Shared, s₃ = { s2 with heap := h₁, toks := s2.toks + ([] : List (Str × Value)).length } →
      codeAny (model X.prog X.w) X.A (.compLoop (lc2 elt t1 i1 t2 i2 scope pos) 0 (.ref it) (.ref s2.heap.objs.size) (compEnvC scope cl G2.objs.size X.env)) (RR (.ref s2.heap.objs.size) G2.objs.size) s₃ := by
    rintro s₃ rfl
    refine comp2_go0 (hs2 _) (fun k s' => ∃ i ys H' os, os.length = xs.length ∧ Inv (cxCompL X xs fr scope cl G2.objs.size { s2 with heap := G2 } (upd H2 s2.heap.objs.size (.lst [])) fp) [] (os ++ fvals σ fr) H' s' ∧ tn i s'.heap ∧ (∀ b ∈ fp, H' b = none) ∧ W i k ys H') ?_ m0
      ⟨0, [], _, List.replicate xs.length none, List.length_replicate, I4, st4, fun b hb => (f3 b hb).1, w0⟩
    rintro n s5 ⟨i, ys, H5, os, los, I5, st5, fr5, w5⟩
    have stat : ∀ {H' : Hp}, (∀ b ∈ fp, H' b = none) → ∀ b ∈ fp, FpOk (cxCompL X xs fr scope cl G2.objs.size { s2 with heap := G2 } (upd H2 s2.heap.objs.size (.lst [])) fp) [] H' b := fun {H'} hn b hb =>
      ⟨hn b hb, (I5.ok.exf b hb).1, I5.ok.exfs b hb, .inl hb, (I5.ok.exf b hb).2, fun p hp => absurd (show p ∈ ([] : List (Addr × Obj)) from hp) (by simp)⟩
    rcases turn i n ys H5 w5 with ⟨stop, qn⟩ | ⟨go, N, hN, step⟩
    · refine thn (T.done (cxCompL X xs fr scope cl G2.objs.size { s2 with heap := G2 } (upd H2 s2.heap.objs.size (.lst [])) fp) rfl rfl rfl hc i [] s5 _ H5 _ I5 (stat fr5) st5 stop) fun r s6 zq => ?_
      obtain ⟨hr, I6⟩ := zq
      subst hr
      obtain ⟨m, hnC, _⟩ := I6.loc
      have I7 : Inv X pins σ H5 s6 := I3.call' (ch := fp) I6.os I6.base I6.hok I6.bare fun b hb => ⟨(f2 b hb).2.2.2.1, (f2 b hb).2.1, (f2 b hb).2.2.2.2.1, (f2 b hb).2.2.2.2.2⟩
      refine hR _ _ s6 H5 m I7 hnC I6.free ?_ ?_ (fun y c e z => ?_) (fun p hp z => ?_) qn
      · exact Nat.ne_of_gt I3.lt
      · exact I3.sz
      · obtain ⟨v, q⟩ := I3.cell y c e
        exact absurd q.lt (by rw [z]; exact Nat.lt_irrefl _)
      · exact absurd (Heap.lt_size (I3.pin p hp).1) (by rw [z]; exact Nat.lt_irrefl _)
    · refine thn (T.item (cxCompL X xs fr scope cl G2.objs.size { s2 with heap := G2 } (upd H2 s2.heap.objs.size (.lst [])) fp) rfl rfl rfl hc i [] s5 _ H5 _ I5 (stat fr5) st5 go) fun r s6 zq => ?_
      obtain ⟨u, hr, h6⟩ := zq
      subst hr
      refine thn h6 fun _ s7 zq => ?_
      obtain ⟨v, H7, I7, r7, y7, st7, fr7⟩ := zq
      have I7' := I7.pinned (stat fr7) (T.obj _ _ st7)
      refine wpAny_mono (hg _ _ _ _ _ s7 _ H7 v u _ I7' r7 (step v H7 y7 os los)) (fun _ s8 zq => ?_) fun _ _ z => False.elim z
      obtain ⟨σ8, H8, I8, ⟨os2, los2, e8⟩, q8⟩ := zq
      subst e8
      have again : ∀ {os1 : St} {H9 : Hp} {s9 : Shared} {ys9 : List V}, os1.length = xs.length → Inv (cxCompL X xs fr scope cl G2.objs.size { s2 with heap := G2 } (upd H2 s2.heap.objs.size (.lst [])) fp) ([] ++ pinsAt fp s7.heap) (os1 ++ fvals σ fr) H9 s9 → N ys9 H9 →
          ∃ m, m < n ∧ ∃ i ys H' os, os.length = xs.length ∧ Inv (cxCompL X xs fr scope cl G2.objs.size { s2 with heap := G2 } (upd H2 s2.heap.objs.size (.lst [])) fp) [] (os ++ fvals σ fr) H' s9 ∧ tn i s9.heap ∧ (∀ b ∈ fp, H' b = none) ∧ W i m ys H' := fun {os1 H9 s9 ys9} l1 I9 n9 => by
        obtain ⟨m', hm, w9⟩ := hN ys9 H9 n9
        refine ⟨m', hm, i + 1, ys9, H9, os1, l1, I9.unpinned, T.keep _ _ _ st7 fun b hb o e => (I9.pin (b, o) (List.mem_append_right _ (List.mem_append_right _ (mem_pinsAt hb e)))).1, fun b hb => ?_, w9⟩
        obtain ⟨o, e, d⟩ := T.obj _ _ st7 b hb
        exact (I9.pin (b, o) (List.mem_append_right _ (List.mem_append_right _ (mem_pinsAt hb e)))).2.1
      refine wpAny_mono (hi2 _ _ _ _ _ s8 _ H8 _ I8 q8) (fun x s9 h9 => wpAny_mono h9 (fun itv s10 h10 => ?_) fun _ _ z => False.elim z) fun _ _ z => False.elim z
      obtain ⟨it2, fp2, tn2, J2, H10, e10, I10, T2, st10, f10, W2, ⟨m2, w2⟩, turn2⟩ := h10
      subst e10
      have stat2 : ∀ {H' : Hp}, (∀ b ∈ fp2, H' b = none) → ∀ b ∈ fp2, FpOk (cxCompL X xs fr scope cl G2.objs.size { s2 with heap := G2 } (upd H2 s2.heap.objs.size (.lst [])) fp) ([] ++ pinsAt fp s7.heap) H' b := fun hn b hb => ⟨hn b hb, (f10 b hb).2⟩
      have loop2 : codeAny (model X.prog X.w) X.A (.compLoop (lc2 elt t1 i1 t2 i2 scope pos) 1 (.ref it2) (.ref s2.heap.objs.size) (compEnvC scope cl G2.objs.size X.env)) (fun r s₅ => match r with | .ok _ => ∃ m, m < n ∧ ∃ i ys H' os, os.length = xs.length ∧ Inv (cxCompL X xs fr scope cl G2.objs.size { s2 with heap := G2 } (upd H2 s2.heap.objs.size (.lst [])) fp) [] (os ++ fvals σ fr) H' s₅ ∧ tn i s₅.heap ∧ (∀ b ∈ fp, H' b = none) ∧ W i m ys H' | .error _ => False) s10 := by
        refine comp2_go1 (fun k s' => ∃ j zs σ' H', Inv (cxCompL X xs fr scope cl G2.objs.size { s2 with heap := G2 } (upd H2 s2.heap.objs.size (.lst [])) fp) ([] ++ pinsAt fp s7.heap) σ' H' s' ∧ tn2 j s'.heap ∧ (∀ b ∈ fp2, H' b = none) ∧ W2 j k zs σ' H') ?_ m2 ⟨0, ys, _, H10, I10, st10, fun b hb => (f10 b hb).1, w2⟩
        rintro k s11 ⟨j, zs, σ11, H11, I11, st11, fr11, w11⟩
        rcases turn2 j k zs σ11 H11 w11 with ⟨stop, ⟨os3, los3, e3⟩, qn⟩ | ⟨go, N2, hN2, step2⟩
        · refine thn (T2.done (cxCompL X xs fr scope cl G2.objs.size { s2 with heap := G2 } (upd H2 s2.heap.objs.size (.lst [])) fp) rfl rfl rfl hc j _ s11 _ H11 _ I11 (stat2 fr11) st11 stop) fun r s12 zq => ?_
          obtain ⟨hr, I12⟩ := zq
          subst hr
          subst e3
          exact again los3 I12 qn
        · refine thn (T2.item (cxCompL X xs fr scope cl G2.objs.size { s2 with heap := G2 } (upd H2 s2.heap.objs.size (.lst [])) fp) rfl rfl rfl hc j _ s11 _ H11 _ I11 (stat2 fr11) st11 go) fun r s12 zq => ?_
          obtain ⟨u2, hr, h12⟩ := zq
          subst hr
          refine thn h12 fun _ s13 zq => ?_
          obtain ⟨v2, H13, I13, r13, y13, st13, fr13⟩ := zq
          have I13' := I13.pinned (stat2 fr13) (T2.obj _ _ st13)
          refine wpAny_mono (hg2 _ _ _ _ _ s13 _ H13 v2 u2 _ I13' r13 (step2 v2 H13 y13)) (fun _ s14 zq => ?_) fun _ _ z => False.elim z
          obtain ⟨σ14, H14, I14, q14⟩ := zq
          refine wpAny_mono (he _ _ _ _ _ s14 _ H14 _ I14 q14) (fun u1 s15 zq => ?_) fun _ _ z => False.elim z
          obtain ⟨y, H15, I15, r15, hD, hz, n15⟩ := zq
          refine wpAny_mono (mt_append (X := cxCompL X xs fr scope cl G2.objs.size { s2 with heap := G2 } (upd H2 s2.heap.objs.size (.lst [])) fp) _ s15 _ H15 (.ref s2.heap.objs.size) [y] _ [u1] (fun _ H' => N2 (zs ++ [y]) σ14 H') I15 rfl (.cons r15 .nil) ⟨_, zs, y, rfl, rfl, hD, hz, n15⟩) (fun _ s16 zq => ?_) fun _ _ z => False.elim z
          obtain ⟨_, H16, I16, _, q16⟩ := zq
          obtain ⟨m', hm, w16⟩ := hN2 _ _ _ q16
          refine ⟨m', hm, j + 1, _, _, H16, I16.unpinned, T2.keep _ _ _ st13 fun b hb o e => (I16.pin (b, o) (List.mem_append_right _ (List.mem_append_right _ (mem_pinsAt hb e)))).1, fun b hb => ?_, w16⟩
          obtain ⟨o, e, d⟩ := T2.obj _ _ st13 b hb
          exact (I16.pin (b, o) (List.mem_append_right _ (List.mem_append_right _ (mem_pinsAt hb e)))).2.1
      exact comp2_start1 loop2 (T2.self _ 0 _ _ _ st10 loop2)
  exact codeAny_compStart_list (loop _ rfl) (T.self _ 0 _ _ _ st4 (loop _ rfl))
def tComp2 (n : Nat) (wi : TI) (fr : List (Str × Nat)) (tg1 : TG) (wi2 : TI) (tg2 : TG) (te : TE) : TE := fun σ H Q => wi σ H fun J H1 => ∀ D, H1 D = none → CompW2 n J tg1 wi2 tg2 te (fvals σ fr) D H1 Q
theorem pe_comp2 {wi : TI} (hc : X.calm = true) (S : CompScopeL X scope cl xs fr) (hg : ∀ C s H fp, PG (cxCompL X xs fr scope cl C s H fp) t1 tg1) (hi : PI X t1 i1 wi) (hi2 : ∀ C s H fp, PI (cxCompL X xs fr scope cl C s H fp) t2 i2 wi2) (hg2 : ∀ C s H fp, PG (cxCompL X xs fr scope cl C s H fp) t2 tg2)
    (he : ∀ C s H fp, PE (cxCompL X xs fr scope cl C s H fp) elt te) (hs : ∀ x, foldedSetIterable i1 X.env x = pure x := by intro _; rfl) (hs2 : ∀ C x, foldedSetIterable i2 (compEnvC scope cl C X.env) x = pure x := by intro _ _; rfl) :
    PE X (.ListComp elt [⟨t1, i1, [], 0⟩, ⟨t2, i2, [], 0⟩] scope pos) (tComp2 xs.length wi fr tg1 wi2 tg2 te) := by
  intro pins s σ H Q I h
  rw [eval_ListComp]
  refine wpAny_comprehension_free (use := none) rfl hs S.clos S.kind S.names (thn (hi pins s σ H _ I h) fun v s1 h1 => thn h1 fun itv s2 h2 => ?_)
  obtain ⟨it, fp, tn, J, H2, e, I2, T, st2, f2, hw⟩ := h2
  subst e
  refine comp_core2 (Q := Q) (RR := fun acc C => compPost (model X.prog X.w) X.A X.xe none (EP X pins σ Q) acc C) hc S hg hi2 hg2 he hs2 I2 T st2 f2 hw ?_
  intro D C s1 H1 m I1 hn f0 f1 f3 f4 f5 q
  refine ⟨m, hn, fun h' hs' => ?_⟩
  exact ⟨.ref D, H1, I1.turned (t' := s1.toks) (fun b o hb e => hs'.extBut b o hb e) f0 f1 (.inr f3) f4 f5, rfl, q⟩
end
theorem pi_listK {X : Cx} {K : PySem.W.Frag} {tg l : Expr} {tl : TE} (h : X.K = K) (hl : PE X l tl) : PI X tg l (iList K tl) := h ▸ pi_list hl
theorem pg_tupK {X : Cx} {K : PySem.W.Frag} {pos : Pos} {es : List Expr} {k : Nat} {t : TGs} {n : Nat} (h : X.K = K) (hc : X.calm = true) (hg : PGs X es t)
    (hn : (assignEach es X.env).length = n := by rfl) (hst : (assignEach es X.env).findIdx? (·.1) = none := by rfl) : PG X (.Tuple es k pos) (gTup K n t) := h ▸ pg_tup hc hg hn hst
theorem comp_2L {K : PySem.W.Frag} {a : Addr} {xs : List V} {n : Nat} {tg1 : TG} {wi2 : TI} {tg2 : TG} {te : TE} {fv : St} {D : Addr} {H : Hp} {Q : VK} (Pv : Nat → List V → Hp → Prop) (h0 : Pv 0 [] (upd H D (.lst []))) (hl : ∀ i ys H, i ≤ xs.length → Pv i ys H → SqL K H a xs)
    (hs : ∀ i v ys H, xs[i]? = some v → Pv i ys H → ∀ os : St, os.length = n → tg1 v (os ++ fv) H fun σ2 H2 => (∃ os2 : St, os2.length = n ∧ σ2 = os2 ++ fv) ∧ wi2 σ2 H2 fun J2 H3 => ∃ (b : Addr) (zs : List V) (Pw : Nat → List V → St → Hp → Prop), J2 = Itl K b ∧ Pw 0 ys σ2 H3 ∧
      (∀ k ys σ H, k ≤ zs.length → Pw k ys σ H → SqL K H b zs) ∧
      (∀ k v2 ys σ H, zs[k]? = some v2 → Pw k ys σ H → tg2 v2 σ H fun σ4 H6 => te σ4 H6 fun y H7 => H7 D = some (.lst ys) ∧ ys.length < sizeLine ∧ Pw (k + 1) (ys ++ [y]) σ4 (upd H7 D (.lst (ys ++ [y])))) ∧
      ∀ ys σ H, Pw zs.length ys σ H → (∃ os3 : St, os3.length = n ∧ σ = os3 ++ fv) ∧ Pv (i + 1) ys H)
    (hd : ∀ ys H, Pv xs.length ys H → Q (.ref D) H) (mono2 : ∀ σ H (R R' : It → Hp → Prop), (∀ J H, R J H → R' J H) → wi2 σ H R → wi2 σ H R') (mono1 : ∀ v σ H (R R' : St → Hp → Prop), (∀ σ H, R σ H → R' σ H) → tg1 v σ H R → tg1 v σ H R') : CompW2 n (Itl K a) tg1 wi2 tg2 te fv D H Q := by
  refine ⟨fun i m ys H => m = xs.length - i ∧ i ≤ xs.length ∧ Pv i ys H, ⟨xs.length, by simp, Nat.zero_le _, h0⟩, ?_⟩
  rintro i m ys H ⟨rfl, hi, p⟩
  have q := hl i ys H hi p
  by_cases hlt : i < xs.length
  · refine .inr ⟨⟨xs, xs[i], q, by simp [hlt]⟩, Pv (i + 1), fun ys' H' p' => ⟨xs.length - (i + 1), by omega, rfl, hlt, p'⟩, fun x H' y os los => ?_⟩
    obtain ⟨e, y⟩ := y
    subst e
    refine mono1 _ _ _ _ _ (fun σ2 H2 ⟨h1, h2⟩ => ⟨h1, mono2 _ _ _ _ (fun J2 H3 h3 => ?_) h2⟩) (hs i x ys _ (y xs q) p os los)
    obtain ⟨b, zs, Pw, rfl, w0, wl, ws, wd⟩ := h3
    refine ⟨fun k m2 ys2 σ3 H4 => m2 = zs.length - k ∧ k ≤ zs.length ∧ Pw k ys2 σ3 H4, ⟨zs.length, by simp, Nat.zero_le _, w0⟩, ?_⟩
    rintro k m2 ys2 σ3 H4 ⟨rfl, hk, w⟩
    have q2 := wl k ys2 σ3 H4 hk w
    by_cases hkl : k < zs.length
    · refine .inr ⟨⟨zs, zs[k], q2, by simp [hkl]⟩, Pw (k + 1), fun ys' σ' H' p' => ⟨zs.length - (k + 1), by omega, rfl, hkl, p'⟩, fun v2 H5 y2 => ?_⟩
      obtain ⟨e2, y2⟩ := y2
      subst e2
      exact ws k v2 ys2 σ3 _ (y2 zs q2) w
    · have e : k = zs.length := by omega
      subst e
      exact .inl ⟨⟨zs, q2, Nat.le_refl _⟩, (wd ys2 σ3 H4 w).1, (wd ys2 σ3 H4 w).2⟩
  · have e : i = xs.length := by omega
    subst e
    exact .inl ⟨⟨xs, q, Nat.le_refl _⟩, hd ys H p⟩
end L2
namespace L2
open PySem PySem.Spec PyProof.Rows
section
variable {prog : Program} {w : World} {κ : Type} [DecidableEq κ] {knd : PySem.KeyKind prog w κ} {A : Around} {E : Value → Shared → Prop} {s : Shared}
theorem dictSetDefault_pairs {d : Addr} {kvs : List (κ × Value)} {k : κ} {key dflt : Value} {Q : Value → Shared → Prop} (hkey : knd.is k key = true) (hm : s.heap.DictOf knd d kvs)
    (hthere : ∀ v, valueAt kvs k = some v → Q v { s with toks := s.toks + 1 })
    (hnew : valueAt kvs k = none → ∀ h', h'.DictOf knd d (stored kvs k dflt) → Heap.SameBut d s.heap h' → Q dflt { s with heap := h', toks := s.toks + 1 })
    (hsz : kvs.length ≤ sizeLine) : wpAny (model prog w) A (dictSetDefault d key dflt) Q E s := by
  have mo := hm.mapOf
  obtain ⟨o, es, ep, ho, hc, hd, hk, hp, hn⟩ := hm
  have hes : es.size ≤ sizeLine := by
    have e1 := hp.length
    have e2 : es.toList.length = es.size := by simp
    omega
  have hf : ∀ x, findBy knd.is es x = valueAt kvs x := fun x => by
    rw [← hp.find x]
    obtain ⟨l⟩ := es
    simp [findBy]
  unfold dictSetDefault
  try with_reducible refine wpAny_holding ?_
  refine wpAny_bind (knd.pyHash hkey ?_)
  refine wpAny_bind (wpAny_dictFind_of (s := { s with toks := s.toks + 1 }) hkey ho hd hk ?_)
  have hidx : (es.findIdx? fun e => knd.is k e.key) = kvs.findIdx? fun kv => decide (kv.1 = k) := by
    rw [← hp.findIdx k]; obtain ⟨l⟩ := es; simp
  cases hi : es.findIdx? fun e => knd.is k e.key with
  | some i =>
    have hfk : valueAt kvs k = (es[i]?).map (·.val) := by rw [← hf k, findBy_of_findIdx?, hi]
    refine wpAny_bind (wpAny_dictEntries (s := { s with toks := s.toks + 1 }) ho hd ?_)
    cases he : es[i]? with
    | none =>
      exfalso
      have := Array.findIdx?_eq_some_iff_findIdx_eq.mp hi
      have hlt : i < es.size := this.1
      rw [Array.getElem?_eq_getElem hlt] at he
      exact nomatch he
    | some e =>
      rw [he] at hfk
      exact wpAny_bind (wpAny_rule (wpAny_pure (hthere e.val hfk)))
  | none =>
    have hfk : valueAt kvs k = none := by rw [← hf k, findBy_of_findIdx?, hi]
    have hnot : k ∉ kvs.map (·.1) := not_mem_of_findIdx_none (hidx ▸ hi)
    have hany : ¬ (kvs.any fun kv => decide (kv.1 = k)) = true := by
      rw [List.any_eq_true]; rintro ⟨kv, hkv, he⟩
      exact hnot (List.mem_map.mpr ⟨kv, hkv, of_decide_eq_true he⟩)
    refine wpAny_bind (wpAny_rule (wpAny_bind (wpAny_updateDictKeys (hz := hes) (s := { s with toks := s.toks + 1 }) ho hd (wpAny_pure (hnew hfk _ ⟨_, _, ep + 1, Heap.get?_update_self _ ho (Obj.isFreed_of_dict (Obj.data_mapDictKeys hd _)),
      hc.mapDictKeys _, Obj.data_mapDictKeys hd _, hk.push hkey _, ?_, ?_⟩ (Heap.SameBut.update ..))))))
    · rw [stored, if_neg hany]
      have := hp.append hkey (knd.hash k) dflt
      obtain ⟨l⟩ := es
      simpa using this
    · rw [stored, if_neg hany, List.map_append, List.nodup_append]
      refine ⟨hn, by simp, ?_⟩
      intro a ha b hb
      simp only [List.map_cons, List.map_nil, List.mem_singleton] at hb
      subst hb
      exact fun e => hnot (e ▸ ha)
theorem meets_setdefault {d : Addr} {k : κ} {key : Value} (hkey : knd.is k key = true) (hd : (d == sysModules) = false) (dflt : Value) :
    MeetsIn prog w (Builtin.«dict.setdefault» ⟨[.ref d, key, dflt], []⟩) (fun _ R s => ∃ kvs, s.heap.DictOf knd d kvs ∧ kvs.length ≤ sizeLine ∧
      (∀ v, valueAt kvs k = some v → R (.ok (.ret v)) { s with toks := s.toks + 1 }) ∧
      (valueAt kvs k = none → ∀ h', h'.DictOf knd d (stored kvs k dflt) → Heap.SameBut d s.heap h' → R (.ok (.ret dflt)) { s with heap := h', toks := s.toks + 1 })) :=
  .of_wp fun A R s ⟨kvs, hm, hz, h1, h2⟩ => by
    unfold Builtin.«dict.setdefault»
    refine wpAny_bind ?_
    unfold Builtin.Dict.keyAndDefault
    refine wpAny_bind (wpAny_notOrdered_dict hm.typeIs ?_)
    show wpAny _ _ (pure (d, key, some dflt)) _ _ s
    refine wpAny_pure ?_
    show wpAny _ _ (if (d == sysModules) = true then _ else (dictSetDefault d key dflt >>= _)) _ _ s
    rw [if_neg (by rw [hd]; exact Bool.false_ne_true)]
    exact wpAny_bind (dictSetDefault_pairs hkey hm (fun v hv => wpAny_pure ⟨v, rfl, h1 v hv⟩) (fun hn h' hm' hs' => wpAny_pure ⟨dflt, rfl, h2 hn h' hm' hs'⟩) hz)
end
section
variable {X : Cx} {pins : List (Addr × Obj)} {σ : St} {H : Hp} {s : Shared} {a : Addr} {kvs : List (Key × V)} {k : Key} {z : V} {u r : Value} {A : Around} {E : Value → Shared → Prop}
theorem d_setdef {Q : Value → Shared → Prop} (I : Inv X pins σ H s) (e : H a = some (.dK kvs)) (ry : RelV (kV k) u) (rz : RelV z r) (l : kvs.length < sizeLine)
    (h1 : ∀ v w' s', valV kvs k = some v → Inv X pins σ H s' → RelV v w' → Q w' s') (h2 : ∀ s', valV kvs k = none → Inv X pins σ (upd H a (.dK (putK kvs k z))) s' → Q r s') :
    wpAny (model X.prog X.w) A (call (.builtin "dict.setdefault") [.ref a, u, r]) Q E s := by
  obtain ⟨zz, hd, vs, rel, dd⟩ := dk_of I.hok e
  have hz : vs.length ≤ sizeLine := by rw [← rel.length]; exact zz
  have rv := rel.val k
  refine call_meetsIn PySem.F.slot_dict_setdefault dd.typeIs PySem.F.entry_dict_setdefault (PySem.F.args_dict_setdefault_3 _ _ _) (meets_setdefault (knd := mixKind X.prog X.w) (kV_is ry) hd r) ⟨vs, dd, hz, fun v hv => ?_, fun hn h' dd' hs => ?_⟩
  · cases ev : valV kvs k with
    | none => rw [ev, hv] at rv; cases rv
    | some x =>
      rw [ev, hv] at rv
      exact h1 x v _ ev (I.tok _) rv
  · have ev : valV kvs k = none := by
      cases ev : valV kvs k with
      | none => rfl
      | some x => rw [ev, hn] at rv; cases rv
    have hl : (putK kvs k z).length ≤ sizeLine := by have := length_putK kvs k z; omega
    have he : ∃ q, h'.get? a = some q := let ⟨q, _, _, hq, _⟩ := dd'; ⟨q, hq⟩
    exact h2 _ ev (d_write I (by rw [e]; exact True.intro) hs he (dk_new hl hd (rel.put k rz) dd'))
end
def tDSetDef (td ty tx : TE) : TE := fun σ H Q => td σ H fun x H1 => ∃ a, x = .ref a ∧ IsD H1 a ∧ ty σ H1 fun y H2 => tx σ H2 fun z H3 => ∃ kvs k, H3 a = some (.dK kvs) ∧ y = kV k ∧ kvs.length < sizeLine ∧
  (∀ v, valV kvs k = some v → Q v H3) ∧ (valV kvs k = none → Ch H3 a (.dK (kvs ++ [(k, z)])) (Q z))
def tDPop1N (td ty : TE) : TE := fun σ H Q => td σ H fun x H1 => ∃ a, x = .ref a ∧ IsD H1 a ∧ ty σ H1 fun y H2 => ∃ kvs k v, H2 a = some (.dK kvs) ∧ y = kV k ∧ valV kvs k = some v ∧ Ch H2 a (.dK (dropK kvs k)) (Q v)
section
variable {X : Cx} {o e f : Expr} {apos cpos : Pos} {td ty tx : TE}
theorem pe_dsetdef (ho : PE X o td) (he : PE X e ty) (hf : PE X f tx) (m : M2 X o "setdefault" apos e f cpos) : PE X (.Call (.Attribute o "setdefault" apos) [e, f] [] cpos) (tDSetDef td ty tx) := by
  intro pins s σ H Q I h
  refine wpAny_Call_method m.base m.few m.line PySem.F.plainAttrs_dict PySem.F.slot_dict_setdefault PySem.F.type_dict_setdefault (thn (ho pins s σ H _ I h) fun u s1 zq => ?_)
  obtain ⟨x, H1, I1, rx, a, ex, d, q1⟩ := zq
  subst ex
  obtain rfl : u = Value.ref a := rx
  obtain ⟨t1, t2, _⟩ := isD_at I1 d
  refine ⟨t1, t2, ?_⟩
  rw [m.trees]
  refine Calls.callWith_builtin rfl (Calls.evalArgs_plain (Calls.spliced_cons (thn (he pins s1 σ H1 _ I1 q1) fun iv s2 ⟨y, H2, I2, ry, q2⟩ =>
    Calls.spliced_cons (thn (hf pins s2 σ H2 _ I2 q2) fun fv s3 ⟨z, H3, I3, rz, kvs, k, ea, ey, lz, q3, q4⟩ => Calls.spliced_nil ?_))))
  subst ey
  refine d_setdef I3 ea ry rz lz (fun v w' s4 ev I4 rv => ⟨v, H3, I4, rv, q3 v ev⟩) fun s4 ev I4 => ?_
  rw [putK_new _ ev] at I4
  exact ⟨z, _, I4, rz, (q4 ev).at⟩
theorem pe_dpop1N (ho : PE X o td) (he : PE X e ty) (m : M1 X o "pop" apos e cpos) : PE X (.Call (.Attribute o "pop" apos) [e] [] cpos) (tDPop1N td ty) := by
  intro pins s σ H Q I h
  refine wpAny_Call_method m.base m.few m.line PySem.F.plainAttrs_dict PySem.F.slot_dict_pop PySem.F.type_dict_pop (thn (ho pins s σ H _ I h) fun u s1 zq => ?_)
  obtain ⟨x, H1, I1, rx, a, ex, d, q1⟩ := zq
  subst ex
  obtain rfl : u = Value.ref a := rx
  obtain ⟨t1, t2, _⟩ := isD_at I1 d
  refine ⟨t1, t2, ?_⟩
  rw [m.trees]
  refine Calls.callWith_builtin rfl (Calls.evalArgs_plain (Calls.spliced_cons (thn (he pins s1 σ H1 _ I1 q1) fun iv s2 ⟨y, H2, I2, ry, kvs, k, v, ea, ey, l, q2⟩ => Calls.spliced_nil ?_)))
  subst ey
  exact d_pop I2 ea ry l (.inl rfl) fun w' s3 I3 rw' => ⟨v, _, I3, rw', q2.at⟩
end
end L2
namespace L2
open PySem PySem.W PySem.Calls PySem.Spec PyProof.Rows
def Leaf {α : Type} (n : Nat) (P : α → Prop) : KasT α → Prop
  | .ret a => P a
  | .ask i j k => i < n ∧ j < n ∧ ∀ b, Leaf n P (k b)
theorem Leaf.bind {α β : Type} {n : Nat} {P : α → Prop} {Q : β → Prop} {f : α → KasT β} (hf : ∀ a, P a → Leaf n Q (f a)) : ∀ {t : KasT α}, Leaf n P t → Leaf n Q (t.bind f)
  | .ret a, h => hf a h
  | .ask _ _ _, h => ⟨h.1, h.2.1, fun b => Leaf.bind hf (h.2.2 b)⟩
def Good (n : Nat) (p : Array Nat) : Prop := 0 < n ∧ p.Perm (List.range n).toArray
theorem Good.get {n : Nat} {p : Array Nat} (g : Good n p) (m : Nat) : p.getD m 0 < n := by
  by_cases h : m < p.size
  · have e : p.getD m 0 = p[m] := by rw [Array.getD_eq_getD_getElem?, Array.getElem?_eq_getElem h]; rfl
    rw [e]
    have hm : p[m] ∈ p := Array.getElem_mem h
    have := g.2.mem_iff.mp hm
    simpa using this
  · have e : p.getD m 0 = 0 := by rw [Array.getD_eq_getD_getElem?, Array.getElem?_eq_none (by omega)]; rfl
    rw [e]
    exact g.1
theorem Good.rev {n : Nat} {p : Array Nat} (g : Good n p) (i j : Nat) : Good n (kas_rev p i j) := ⟨g.1, (mirror_perm p i j _).trans g.2⟩
theorem leaf_asc {n : Nat} {p : Array Nat} (g : Good n p) : ∀ f m, Leaf n (fun _ => True) (kas_asc p f m)
  | 0, _ => trivial
  | f + 1, m => ⟨g.get m, g.get (m - 1), fun b => by
    cases b with
    | true => (dsimp only; rw [if_pos rfl]); exact trivial
    | false => (dsimp only; rw [if_neg Bool.false_ne_true]); exact leaf_asc g f (m + 1)⟩
theorem leaf_desc {n : Nat} : ∀ f (p : Array Nat) m q, Good n p → Leaf n (fun r => Good n r.1) (kas_desc f p m q)
  | 0, _, _, _, g => g
  | f + 1, p, m, q, g => ⟨g.get m, g.get (m - 1), fun b => by
    cases b with
    | true =>
      (dsimp only; rw [if_pos rfl])
      split
      · exact leaf_desc f _ _ _ (g.rev _ _)
      · exact leaf_desc f _ _ _ g
    | false =>
      (dsimp only; rw [if_neg Bool.false_ne_true])
      refine ⟨g.get (m - 1), g.get m, fun d => ?_⟩
      cases d with
      | true => (dsimp only; rw [if_pos rfl]); exact g
      | false => (dsimp only; rw [if_neg Bool.false_ne_true]); exact leaf_desc f _ _ _ g⟩
theorem leaf_tail3 {n m k : Nat} {p : Array Nat} (g : Good n p) : Leaf n (fun r => Good n r.2) (kas_tail3 m k p) := by
  unfold kas_tail3
  refine Leaf.bind (P := fun _ => True) (fun a _ => ?_) (leaf_asc (g.rev 0 m) _ _)
  exact g.rev 0 m
theorem leaf_descPart {n m k : Nat} {p : Array Nat} (g : Good n p) : Leaf n (fun r => Good n r.2) (kas_descPart m k p) := by
  unfold kas_descPart
  refine Leaf.bind (fun r hr => ?_) (leaf_desc _ p _ _ g)
  split
  · exact leaf_tail3 (Good.rev hr _ _)
  · exact leaf_tail3 hr
theorem leaf_count {n k : Nat} {p : Array Nat} (g : Good n p) : Leaf n (fun r => Good n r.2) (kas_count k p) := by
  unfold kas_count
  refine Leaf.bind (fun m _ => ?_) (leaf_asc g _ _)
  split
  · exact g
  · split
    · refine ⟨g.get _, g.get _, fun b => ?_⟩
      cases b with
      | true => (dsimp only; rw [if_pos rfl]); exact g
      | false => (dsimp only; rw [if_neg Bool.false_ne_true]); exact leaf_descPart (g.rev _ _)
    · exact leaf_descPart g
theorem leaf_place {n k : Nat} {p : Array Nat} (g : Good n p) : ∀ f l r, Leaf n (fun _ => True) (kas_place p k f l r)
  | 0, _, _ => trivial
  | f + 1, l, r => by
    unfold kas_place
    split
    · exact trivial
    · refine ⟨g.get _, g.get _, fun b => ?_⟩
      cases b with
      | true => (dsimp only; rw [if_pos rfl]); exact leaf_place g f _ _
      | false => (dsimp only; rw [if_neg Bool.false_ne_true]); exact leaf_place g f _ _
theorem leaf_bin {n : Nat} : ∀ f (p : Array Nat) k, Good n p → Leaf n (Good n) (kas_bin f p k)
  | 0, _, _, g => g
  | f + 1, p, k, g => Leaf.bind (fun l _ => leaf_bin f _ _ ⟨g.1, (bubble_perm p k _).trans g.2⟩) (leaf_place g _ _ _)
theorem leaf_sort {n : Nat} (h : 0 < n) : Leaf n (Good n) (kas_sort n) := by
  have g : Good n (List.toArray (List.range n)) := ⟨h, Array.Perm.refl _⟩
  unfold kas_sort
  refine Leaf.bind (fun r hr => ?_) (leaf_count g)
  split
  · exact leaf_bin _ _ _ hr
  · exact hr
theorem range_getD {α : Type} (vs : List α) (d : α) : (List.range vs.length).map (fun i => vs.getD i d) = vs := by
  refine List.ext_getElem? fun i => ?_
  rw [List.getElem?_map]
  by_cases h : i < vs.length
  · rw [List.getElem?_range h, List.getElem?_eq_getElem h]
    show some (vs.getD i d) = _
    rw [List.getD_eq_getElem?_getD, List.getElem?_eq_getElem h]
    rfl
  · rw [List.getElem?_eq_none (by rw [List.length_range]; omega), List.getElem?_eq_none (by omega)]
    rfl
section
variable {prog : Program} {w : World} {A : Around} {E : Value → Shared → Prop} {s : Shared}
end
def TupsAt (h : Heap) (vs : List Value) : Prop := ∀ v ∈ vs, ∃ (a : Addr) (o : Obj) (n : Nat) (x y : Int) (t u : Tok), v = .ref a ∧ h.get? a = some o ∧ o.cls = .type "tuple" ∧ o.data = .seq #[.int x t, .int y u] n
theorem TupsAt.kat {h : Heap} : ∀ {vs : List Value}, TupsAt h vs → ∃ fs : List Value, KatTups h vs fs ∧ fs.length = vs.length ∧ ∀ v ∈ fs, ∃ x t, v = Value.int x t
  | [], _ => ⟨[], KatTups.nil, rfl, fun _ h => by cases h⟩
  | v :: vs, hv => by
    obtain ⟨a, o, n, x, y, t, u, rfl, h1, h2, h3⟩ := hv v List.mem_cons_self
    obtain ⟨fs, k1, k2, k3⟩ := TupsAt.kat fun z hz => hv z (List.mem_cons_of_mem _ hz)
    refine ⟨.int x t :: fs, KatTups.cons h1 h2 h3 rfl k1, by rw [List.length_cons, List.length_cons, k2], fun v hv => ?_⟩
    rcases List.mem_cons.mp hv with rfl | hv
    · exact ⟨x, t, rfl⟩
    · exact k3 v hv
section
variable {prog : Program} {w : World} {A : Around} {E : Value → Shared → Prop} {s : Shared}
end
section
variable {prog : Program} {w : World} {A : Around} {E : Value → Shared → Prop} {s : Shared}
end
theorem vals_refs : ∀ {as : List Addr} {us : List Value}, Vals (as.map V.ref) us → us = as.map Value.ref
  | [], _, .nil => rfl
  | a :: as, u :: us, .cons r t => by
    have e : u = Value.ref a := r
    rw [e, vals_refs t, List.map_cons]
theorem refs_vals : ∀ as : List Addr, Vals (as.map V.ref) (as.map Value.ref)
  | [] => .nil
  | _ :: as => .cons rfl (refs_vals as)
end L2
namespace L2
open PySem PySem.W PySem.Calls PySem.Spec PyProof.Rows
def Run {α : Type} (lt : Nat → Nat → Bool) : KasT α → α
  | .ret a => a
  | .ask i j k => Run lt (k (lt i j))
theorem Run.bind {α β : Type} {lt : Nat → Nat → Bool} {f : α → KasT β} : ∀ t : KasT α, Run lt (t.bind f) = Run lt (f (Run lt t))
  | .ret _ => rfl
  | .ask i j k => Run.bind (k (lt i j))
theorem Leaf.run {α : Type} {n : Nat} {P : α → Prop} {lt : Nat → Nat → Bool} {cmp : Nat → Nat → (Bool → Shared → Prop) → Shared → Prop} {G : α → Shared → Prop} {s : Shared} (hc : ∀ i j (C : Bool → Shared → Prop), i < n → j < n → C (lt i j) s → cmp i j C s) : ∀ {t : KasT α}, Leaf n P t → G (Run lt t) s → t.kasWp cmp G s
  | .ret _, _, hG => hG
  | .ask i j k, h, hG => hc i j _ h.1 h.2.1 (Leaf.run hc (h.2.2 _) hG)
structure Lin (n : Nat) (lt : Nat → Nat → Bool) : Prop where
  trans : ∀ i j k, i < n → j < n → k < n → lt i j = true → lt j k = true → lt i k = true
  tot : ∀ i j, i < n → j < n → i ≠ j → lt i j = false → lt j i = true
  asym : ∀ i j, i < n → j < n → lt i j = true → lt j i = false
def Sd (lt : Nat → Nat → Bool) (p : Array Nat) (m : Nat) : Prop := ∀ i j, i < j → j < m → lt (p.getD i 0) (p.getD j 0) = true
def Ds (lt : Nat → Nat → Bool) (p : Array Nat) (m : Nat) : Prop := ∀ i j, i < j → j < m → lt (p.getD j 0) (p.getD i 0) = true
theorem Good.size {n : Nat} {p : Array Nat} (g : Good n p) : p.size = n := by
  have := g.2.size_eq
  simpa using this
theorem Good.ne {n : Nat} {p : Array Nat} (g : Good n p) {i j : Nat} (hi : i < n) (hj : j < n) (ne : i ≠ j) : p.getD i 0 ≠ p.getD j 0 := by
  have nd : p.toList.Nodup := by
    have := (Array.perm_iff_toList_perm.mp g.2).nodup_iff.mpr (by simpa using List.nodup_range)
    exact this
  have sz := g.size
  have e : ∀ k (hk : k < n), p.getD k 0 = p.toList[k]'(by rw [Array.length_toList]; omega) := fun k hk => by
    rw [Array.getD_eq_getD_getElem?, Array.getElem?_eq_getElem (by omega)]
    rfl
  rw [e i hi, e j hj]
  have pw := List.pairwise_iff_getElem.mp nd
  have li : i < p.toList.length := by rw [Array.length_toList]; omega
  have lj : j < p.toList.length := by rw [Array.length_toList]; omega
  by_cases h : i < j
  · exact pw i j li lj h
  · exact fun z => pw j i lj li (by omega) z.symm
section
variable {n : Nat} {lt : Nat → Nat → Bool}
theorem sd_step {p : Array Nat} (L : Lin n lt) (g : Good n p) {m : Nat} (h1 : 1 ≤ m) (sd : Sd lt p m) (h : lt (p.getD (m - 1) 0) (p.getD m 0) = true) : Sd lt p (m + 1) := by
  intro i j hij hj
  by_cases e : j = m
  · subst e
    by_cases e2 : i = j - 1
    · rw [e2]; exact h
    · exact L.trans _ _ _ (g.get _) (g.get _) (g.get _) (sd i (j - 1) (by omega) (by omega)) h
  · exact sd i j hij (by omega)
theorem ds_step {p : Array Nat} (L : Lin n lt) (g : Good n p) {m : Nat} (h1 : 1 ≤ m) (ds : Ds lt p m) (h : lt (p.getD m 0) (p.getD (m - 1) 0) = true) : Ds lt p (m + 1) := by
  intro i j hij hj
  by_cases e : j = m
  · subst e
    by_cases e2 : i = j - 1
    · rw [e2]; exact h
    · exact L.trans _ _ _ (g.get _) (g.get _) (g.get _) h (ds i (j - 1) (by omega) (by omega))
  · exact ds i j hij (by omega)
theorem run_asc {p : Array Nat} (L : Lin n lt) (g : Good n p) : ∀ f m, 1 ≤ m → m + f ≤ n → Sd lt p m → Sd lt p (Run lt (kas_asc p f m)) ∧ m ≤ Run lt (kas_asc p f m) ∧ Run lt (kas_asc p f m) ≤ m + f
  | 0, m, _, _, sd => ⟨sd, Nat.le_refl _, Nat.le_refl _⟩
  | f + 1, m, h1, h2, sd => by
    have e : Run lt (kas_asc p (f + 1) m) = Run lt (if lt (p.getD m 0) (p.getD (m - 1) 0) = true then KasT.ret m else kas_asc p f (m + 1)) := rfl
    rw [e]
    by_cases c : lt (p.getD m 0) (p.getD (m - 1) 0) = true
    · rw [if_pos c]
      exact ⟨sd, Nat.le_refl _, by show m ≤ _; omega⟩
    · rw [if_neg c]
      have c' : lt (p.getD m 0) (p.getD (m - 1) 0) = false := by cases z : lt (p.getD m 0) (p.getD (m - 1) 0) with | true => exact absurd z c | false => rfl
      obtain ⟨a, b, d⟩ := run_asc L g f (m + 1) (by omega) (by omega) (sd_step L g h1 sd (L.tot _ _ (g.get _) (g.get _) (g.ne (by omega) (by omega) (by omega)) c'))
      exact ⟨a, by omega, by omega⟩
theorem run_desc {p : Array Nat} (L : Lin n lt) (g : Good n p) : ∀ f m, 1 ≤ m → m + f ≤ n → Ds lt p m → ∃ m', Run lt (kas_desc f p m 0) = (p, m', 0) ∧ Ds lt p m' ∧ m ≤ m' ∧ m' ≤ m + f
  | 0, m, _, _, ds => ⟨m, rfl, ds, Nat.le_refl _, Nat.le_refl _⟩
  | f + 1, m, h1, h2, ds => by
    have e : Run lt (kas_desc (f + 1) p m 0) = Run lt (if lt (p.getD m 0) (p.getD (m - 1) 0) = true then (if 0 > 0 then kas_desc f (kas_rev p (m - (0 + 1)) m) (m + 1) 0 else kas_desc f p (m + 1) 0) else KasT.ask (p.getD (m - 1) 0) (p.getD m 0) fun d => if d = true then KasT.ret (p, m, 0) else kas_desc f p (m + 1) (0 + 1)) := rfl
    rw [e]
    by_cases c : lt (p.getD m 0) (p.getD (m - 1) 0) = true
    · rw [if_pos c, if_neg (by omega)]
      obtain ⟨m', a, b, d, d'⟩ := run_desc L g f (m + 1) (by omega) (by omega) (ds_step L g h1 ds c)
      exact ⟨m', a, b, by omega, by omega⟩
    · rw [if_neg c]
      have c' : lt (p.getD m 0) (p.getD (m - 1) 0) = false := by cases z : lt (p.getD m 0) (p.getD (m - 1) 0) with | true => exact absurd z c | false => rfl
      have t := L.tot _ _ (g.get m) (g.get (m - 1)) (g.ne (by omega) (by omega) (by omega)) c'
      have e2 : Run lt (KasT.ask (p.getD (m - 1) 0) (p.getD m 0) fun d => if d = true then KasT.ret (p, m, 0) else kas_desc f p (m + 1) (0 + 1)) = Run lt (if lt (p.getD (m - 1) 0) (p.getD m 0) = true then KasT.ret (p, m, 0) else kas_desc f p (m + 1) (0 + 1)) := rfl
      rw [e2, if_pos t]
      exact ⟨m, rfl, ds, Nat.le_refl _, by omega⟩
theorem rev_get {p : Array Nat} {m : Nat} (hm : m ≤ p.size) {i : Nat} (hi : i < m) : (kas_rev p 0 m).getD i 0 = p.getD (m - 1 - i) 0 := by
  unfold kas_rev
  rw [Array.getD_eq_getD_getElem?, getElem?_mirror_all hm, if_pos ⟨Nat.zero_le _, hi⟩, ← Array.getD_eq_getD_getElem?]
  congr 1
  omega
theorem run_tail3 {p : Array Nat} (L : Lin n lt) (g : Good n p) {m : Nat} (h1 : 1 ≤ m) (hm : m ≤ n) (ds : Ds lt p m) : Good n (Run lt (kas_tail3 m n p)).2 ∧ Sd lt (Run lt (kas_tail3 m n p)).2 (Run lt (kas_tail3 m n p)).1 ∧ m ≤ (Run lt (kas_tail3 m n p)).1 ∧ (Run lt (kas_tail3 m n p)).1 ≤ n := by
  have sd : Sd lt (kas_rev p 0 m) m := fun i j hij hj => by
    rw [rev_get (by rw [g.size]; exact hm) (by omega), rev_get (by rw [g.size]; exact hm) hj]
    exact ds _ _ (by omega) (by omega)
  have e : Run lt (kas_tail3 m n p) = (Run lt (kas_asc (kas_rev p 0 m) (n - m) m), kas_rev p 0 m) := by
    unfold kas_tail3
    rw [Run.bind]
    rfl
  obtain ⟨a, b, c⟩ := run_asc L (g.rev 0 m) (n - m) m h1 (by omega) sd
  rw [e]
  exact ⟨g.rev 0 m, a, b, by show Run lt _ ≤ n; omega⟩
theorem run_count {p : Array Nat} (L : Lin n lt) (g : Good n p) : Good n (Run lt (kas_count n p)).2 ∧ Sd lt (Run lt (kas_count n p)).2 (Run lt (kas_count n p)).1 ∧ 1 ≤ (Run lt (kas_count n p)).1 ∧ (Run lt (kas_count n p)).1 ≤ n := by
  have n0 := g.1
  obtain ⟨sd, h1, h2⟩ := run_asc L g (n - 1) 1 (Nat.le_refl _) (by omega) (fun i j hij hj => by omega)
  have e : Run lt (kas_count n p) = Run lt (if (Run lt (kas_asc p (n - 1) 1) == n) = true then KasT.ret (Run lt (kas_asc p (n - 1) 1), p) else if Run lt (kas_asc p (n - 1) 1) > 1 then KasT.ask (p.getD 0 0) (p.getD (Run lt (kas_asc p (n - 1) 1) - 1) 0) fun c => if c = true then KasT.ret (Run lt (kas_asc p (n - 1) 1), p) else kas_descPart (Run lt (kas_asc p (n - 1) 1)) n (kas_rev p 0 (Run lt (kas_asc p (n - 1) 1))) else kas_descPart (Run lt (kas_asc p (n - 1) 1)) n p) := by
    unfold kas_count
    rw [Run.bind]
  rw [e]
  generalize er : Run lt (kas_asc p (n - 1) 1) = r at sd h1 h2
  by_cases c1 : (r == n) = true
  · rw [if_pos c1]
    exact ⟨g, sd, h1, by show r ≤ n; omega⟩
  · rw [if_neg c1]
    have rn : r ≠ n := fun z => c1 (beq_iff_eq.mpr z)
    by_cases c2 : r > 1
    · rw [if_pos c2]
      have e2 : Run lt (KasT.ask (p.getD 0 0) (p.getD (r - 1) 0) fun c => if c = true then KasT.ret (r, p) else kas_descPart r n (kas_rev p 0 r)) = Run lt (if lt (p.getD 0 0) (p.getD (r - 1) 0) = true then KasT.ret (r, p) else kas_descPart r n (kas_rev p 0 r)) := rfl
      rw [e2, if_pos (sd 0 (r - 1) (by omega) (by omega))]
      exact ⟨g, sd, h1, by show r ≤ n; omega⟩
    · rw [if_neg c2]
      have r1 : r = 1 := by omega
      subst r1
      have hd : lt (p.getD 1 0) (p.getD 0 0) = true := by
        have : n - 1 = (n - 2) + 1 := by omega
        rw [this] at er
        have e3 : Run lt (kas_asc p (n - 2 + 1) 1) = Run lt (if lt (p.getD 1 0) (p.getD (1 - 1) 0) = true then KasT.ret 1 else kas_asc p (n - 2) (1 + 1)) := rfl
        rw [e3] at er
        by_cases c : lt (p.getD 1 0) (p.getD (1 - 1) 0) = true
        · exact c
        · rw [if_neg c] at er
          have c' : lt (p.getD 1 0) (p.getD (1 - 1) 0) = false := by cases z : lt (p.getD 1 0) (p.getD (1 - 1) 0) with | true => exact absurd z c | false => rfl
          have sd2 : Sd lt p 2 := sd_step L g (m := 1) (Nat.le_refl _) (fun i j hij hj => by omega) (L.tot _ _ (g.get _) (g.get _) (g.ne (by omega) (by omega) (by omega)) c')
          obtain ⟨_, b, _⟩ := run_asc L g (n - 2) 2 (by omega) (by omega) sd2
          rw [show 1 + 1 = 2 from rfl] at er
          omega
      have ds2 : Ds lt p 2 := fun i j hij hj => by
        have : i = 0 ∧ j = 1 := by omega
        rw [this.1, this.2]
        exact hd
      obtain ⟨m', a, b, c, d⟩ := run_desc L g (n - (1 + 1)) (1 + 1) (by omega) (by omega) ds2
      have e4 : Run lt (kas_descPart 1 n p) = Run lt (kas_tail3 m' n p) := by
        unfold kas_descPart
        rw [Run.bind, a]
        dsimp only
        rw [if_neg (by omega)]
      rw [e4]
      obtain ⟨x1, x2, x3, x4⟩ := run_tail3 L g (m := m') (by omega) (by omega) b
      exact ⟨x1, x2, by omega, x4⟩
theorem asc_all {p : Array Nat} (L : Lin n lt) (g : Good n p) (sd : Sd lt p n) : ∀ f m, 1 ≤ m → m + f ≤ n → Run lt (kas_asc p f m) = m + f
  | 0, _, _, _ => rfl
  | f + 1, m, h1, h2 => by
    have e : Run lt (kas_asc p (f + 1) m) = Run lt (if lt (p.getD m 0) (p.getD (m - 1) 0) = true then KasT.ret m else kas_asc p f (m + 1)) := rfl
    rw [e, if_neg (by rw [L.asym _ _ (g.get _) (g.get _) (sd (m - 1) m (by omega) (by omega))]; exact Bool.false_ne_true), asc_all L g sd f (m + 1) (by omega) (by omega)]
    omega
theorem count_all {p : Array Nat} (L : Lin n lt) (g : Good n p) (sd : Sd lt p n) : Run lt (kas_count n p) = (n, p) := by
  have n0 := g.1
  have e := asc_all L g sd (n - 1) 1 (Nat.le_refl _) (by omega)
  unfold kas_count
  rw [Run.bind, e, if_pos (beq_iff_eq.mpr (by omega))]
  show (1 + (n - 1), p) = (n, p)
  rw [show 1 + (n - 1) = n by omega]
theorem run_place {p : Array Nat} (L : Lin n lt) (g : Good n p) {k : Nat} (hk : k < n) (sd : Sd lt p k) : ∀ f l r, l ≤ r → r ≤ k → r - l ≤ f → (∀ i, i < l → lt (p.getD i 0) (p.getD k 0) = true) → (∀ i, r ≤ i → i < k → lt (p.getD k 0) (p.getD i 0) = true) →
    Run lt (kas_place p k f l r) ≤ k ∧ (∀ i, i < Run lt (kas_place p k f l r) → lt (p.getD i 0) (p.getD k 0) = true) ∧ ∀ i, Run lt (kas_place p k f l r) ≤ i → i < k → lt (p.getD k 0) (p.getD i 0) = true
  | 0, l, r, h1, h2, h3, hl, hr => ⟨by show l ≤ k; omega, hl, fun i (hi : l ≤ i) hik => hr i (by omega) hik⟩
  | f + 1, l, r, h1, h2, h3, hl, hr => by
    rw [kas_place]
    by_cases c : l ≥ r
    · rw [if_pos c]
      exact ⟨by show l ≤ k; omega, hl, fun i (hi : l ≤ i) hik => hr i (by omega) hik⟩
    · rw [if_neg c]
      have m1 : l ≤ (l + r) / 2 := by omega
      have m2 : (l + r) / 2 < r := by omega
      generalize (l + r) / 2 = m at m1 m2
      have e2 : Run lt (KasT.ask (p.getD k 0) (p.getD m 0) fun c => if c = true then kas_place p k f l m else kas_place p k f (m + 1) r) = Run lt (if lt (p.getD k 0) (p.getD m 0) = true then kas_place p k f l m else kas_place p k f (m + 1) r) := rfl
      rw [e2]
      by_cases c2 : lt (p.getD k 0) (p.getD m 0) = true
      · rw [if_pos c2]
        refine run_place L g hk sd f l m m1 (by omega) (by omega) hl fun i hi hik => ?_
        by_cases e : i = m
        · rw [e]; exact c2
        · exact L.trans _ _ _ (g.get _) (g.get _) (g.get _) c2 (sd m i (by omega) hik)
      · rw [if_neg c2]
        have c' : lt (p.getD k 0) (p.getD m 0) = false := by cases z : lt (p.getD k 0) (p.getD m 0) with | true => exact absurd z c2 | false => rfl
        have t := L.tot _ _ (g.get k) (g.get m) (g.ne hk (by omega) (by omega)) c'
        refine run_place L g hk sd f (m + 1) r (by omega) h2 (by omega) (fun i hi => ?_) hr
        by_cases e : i = m
        · rw [e]; exact t
        · exact L.trans _ _ _ (g.get _) (g.get _) (g.get _) (sd i m (by omega) (by omega)) t
theorem run_bin (L : Lin n lt) : ∀ f (p : Array Nat) k, Good n p → k + f = n → Sd lt p k → Good n (Run lt (kas_bin f p k)) ∧ Sd lt (Run lt (kas_bin f p k)) n
  | 0, p, k, g, e, sd => by
    have e' : k = n := by omega
    refine ⟨g, ?_⟩
    rw [← e']
    exact sd
  | f + 1, p, k, g, e, sd => by
    have hk : k < n := by omega
    obtain ⟨a, b, c⟩ := run_place L g hk sd k 0 k (Nat.zero_le _) (Nat.le_refl _) (by omega) (fun i hi => absurd hi (Nat.not_lt_zero _)) (fun i h1 h2 => by omega)
    have e2 : Run lt (kas_bin (f + 1) p k) = Run lt (kas_bin f (bubble p k (k - Run lt (kas_place p k k 0 k))) (k + 1)) := by
      rw [kas_bin, Run.bind]
    rw [e2]
    generalize Run lt (kas_place p k k 0 k) = l at a b c
    have gb : Good n (bubble p k (k - l)) := ⟨g.1, (bubble_perm p k _).trans g.2⟩
    have sz := g.size
    have get : ∀ i, (bubble p k (k - l)).getD i 0 = if i = l then p.getD k 0 else if l < i ∧ i ≤ k then p.getD (i - 1) 0 else p.getD i 0 := fun i => by
      have h := getElem?_bubble (xs := p) (src := k) (by omega) (k - l) (by omega) i
      rw [show k - (k - l) = l by omega] at h
      rw [Array.getD_eq_getD_getElem?, h]
      by_cases z : i = l
      · rw [if_pos z, if_pos z, ← Array.getD_eq_getD_getElem?]
      · rw [if_neg z, if_neg z]
        by_cases z2 : l < i ∧ i ≤ k
        · rw [if_pos z2, if_pos z2, ← Array.getD_eq_getD_getElem?]
        · rw [if_neg z2, if_neg z2, ← Array.getD_eq_getD_getElem?]
    refine run_bin L f _ (k + 1) gb (by omega) fun i j hij hj => ?_
    rw [get i, get j]
    by_cases i1 : i = l
    · rw [if_pos i1, if_neg (by omega), if_pos (by omega)]
      exact c (j - 1) (by omega) (by omega)
    · rw [if_neg i1]
      by_cases i2 : l < i ∧ i ≤ k
      · rw [if_pos i2, if_neg (by omega), if_pos (by omega)]
        exact sd (i - 1) (j - 1) (by omega) (by omega)
      · rw [if_neg i2]
        have il : i < l := by omega
        by_cases j1 : j = l
        · rw [if_pos j1]; exact b i il
        · rw [if_neg j1]
          by_cases j2 : l < j ∧ j ≤ k
          · rw [if_pos j2]
            exact sd i (j - 1) (by omega) (by omega)
          · rw [if_neg j2]
            exact sd i j hij (by omega)
theorem run_sort (L : Lin n lt) (h : 0 < n) : Good n (Run lt (kas_sort n)) ∧ Sd lt (Run lt (kas_sort n)) n := by
  have g : Good n (List.toArray (List.range n)) := ⟨h, Array.Perm.refl _⟩
  obtain ⟨a, b, c, d⟩ := run_count L g
  have e : Run lt (kas_sort n) = Run lt (if (Run lt (kas_count n (List.toArray (List.range n)))).1 < n then kas_bin (n - max (Run lt (kas_count n (List.toArray (List.range n)))).1 1) (Run lt (kas_count n (List.toArray (List.range n)))).2 (max (Run lt (kas_count n (List.toArray (List.range n)))).1 1) else KasT.ret (Run lt (kas_count n (List.toArray (List.range n)))).2) := by
    unfold kas_sort
    rw [Run.bind]
  rw [e]
  generalize Run lt (kas_count n (List.toArray (List.range n))) = r at a b c d
  have mx : max r.1 1 = r.1 := by omega
  by_cases z : r.1 < n
  · rw [if_pos z, mx]
    exact run_bin L _ _ _ a (by omega) b
  · rw [if_neg z]
    have : r.1 = n := by omega
    refine ⟨a, ?_⟩
    rw [this] at b
    exact b
end
def LexLt (p q : Int × Int) : Prop := p.1 < q.1 ∨ (p.1 = q.1 ∧ p.2 < q.2)
def ltB (p q : Int × Int) : Bool := if p.1 = q.1 then decide (p.2 < q.2) else decide (p.1 < q.1)
theorem ltB_iff {p q : Int × Int} : ltB p q = true ↔ LexLt p q := by
  unfold ltB LexLt
  by_cases e : p.1 = q.1
  · rw [if_pos e, decide_eq_true_iff]; omega
  · rw [if_neg e, decide_eq_true_iff]; omega
def ltK (ps : List (Int × Int)) (i j : Nat) : Bool := ltB (ps.getD i (0, 0)) (ps.getD j (0, 0))
theorem lin_of {ps : List (Int × Int)} (nd : ps.Nodup) : Lin ps.length (ltK ps) := by
  have fl : ∀ {p q : Int × Int}, ltB p q = false → ¬ LexLt p q := fun {p q} h z => by rw [ltB_iff.mpr z] at h; cases h
  refine ⟨fun i j k _ _ _ h1 h2 => ?_, fun i j hi hj ne h => ?_, fun i j _ _ h => ?_⟩
  · have a := ltB_iff.mp h1
    have b := ltB_iff.mp h2
    refine ltB_iff.mpr ?_
    unfold LexLt at *
    omega
  · refine ltB_iff.mpr ?_
    have a := fl h
    have e : ps.getD i (0, 0) ≠ ps.getD j (0, 0) := by
      rw [List.getD_eq_getElem?_getD, List.getD_eq_getElem?_getD, List.getElem?_eq_getElem hi, List.getElem?_eq_getElem hj]
      have pw := List.pairwise_iff_getElem.mp nd
      by_cases h : i < j
      · exact pw i j hi hj h
      · exact fun z => pw j i hj hi (by omega) z.symm
    have e' : ¬ ((ps.getD i (0, 0)).1 = (ps.getD j (0, 0)).1 ∧ (ps.getD i (0, 0)).2 = (ps.getD j (0, 0)).2) := fun z => e (Prod.ext z.1 z.2)
    unfold LexLt at *
    omega
  · cases z : ltK ps j i with
    | false => rfl
    | true =>
      have a := ltB_iff.mp h
      have b := ltB_iff.mp z
      unfold LexLt at a b
      omega
def TupsQ (h : Heap) (vs : List Value) (ps : List (Int × Int)) : Prop := Paired (fun v (p : Int × Int) => ∃ (a : Addr) (o : Obj) (n : Nat) (t u : Tok), v = .ref a ∧ h.get? a = some o ∧ o.cls = .type "tuple" ∧ o.data = .seq #[.int p.1 t, .int p.2 u] n) vs ps
theorem TupsQ.tups {h : Heap} {vs : List Value} {ps : List (Int × Int)} (q : TupsQ h vs ps) : TupsAt h vs := by
  intro v hv
  induction q with
  | nil => cases hv
  | cons f _ ih =>
    rcases List.mem_cons.mp hv with rfl | hv
    · obtain ⟨a, o, n, t, u, e, h1, h2, h3⟩ := f
      exact ⟨a, o, n, _, _, t, u, e, h1, h2, h3⟩
    · exact ih hv
theorem paired_getD {α β : Type} {F : α → β → Prop} {xs : List α} {ys : List β} (h : Paired F xs ys) {i : Nat} (hi : i < xs.length) (x : α) (y : β) : F (xs.getD i x) (ys.getD i y) := by
  obtain ⟨b, e, f⟩ := paired_get h (List.getElem?_eq_getElem hi)
  rw [List.getD_eq_getElem?_getD, List.getD_eq_getElem?_getD, List.getElem?_eq_getElem hi, e]
  exact f
section
variable {prog : Program} {w : World} {A : Around} {E : Value → Shared → Prop} {s : Shared}
theorem tup_askQ {vs : List Value} {ps : List (Int × Int)} (tv : TupsQ s.heap vs ps) {i j : Nat} {C : Bool → Shared → Prop} (hi : i < vs.length) (hj : j < vs.length) (hC : C (ltK ps i j) s) : kas_ask prog w A (tuples' true) vs i j C s := by
  unfold kas_ask
  obtain ⟨a, o, n, t, u, e1, h1, h2, h3⟩ := paired_getD tv hi Value.none (0, 0)
  obtain ⟨a', o', n', t', u', e1', h1', h2', h3'⟩ := paired_getD tv hj Value.none (0, 0)
  unfold ltK at hC
  rw [e1, e1']
  generalize ps.getD i (0, 0) = p at hC h3
  generalize ps.getD j (0, 0) = q at hC h3'
  refine kat_lt h1 h3 h1' h3' ?_
  show KatLex prog w A true _ C [(Value.int p.1 t, Value.int q.1 t'), (Value.int p.2 u, Value.int q.2 u')] 0 s
  unfold ltB at hC
  refine kat_cons (SeqAt.EqAt.int_int p.1 t q.1 t' prog w _ _ (kat_go (fun b1 => kat_yes (kat_cons (SeqAt.EqAt.int_int p.2 u q.2 u' prog w _ _ (kat_go (fun b2 => kat_yes (kat_nil ?_)) fun b2 => kat_no ?_)))) fun b1 => kat_no ?_))
  · rw [if_pos (beq_iff_eq.mp b1), decide_eq_false (by have := beq_iff_eq.mp b2; omega)] at hC
    exact hC
  · rw [if_pos (beq_iff_eq.mp b1)] at hC
    refine kat_one _ _ ?_
    exact lt_int hC
  · rw [if_neg (fun z => by rw [beq_iff_eq.mpr z] at b1; cases b1)] at hC
    show wpAny _ _ (oneLt' true _ _) _ _ _
    rw [← keyLt'_oneType]
    exact kat_lt_int hC
theorem runs64 {κ : SortKind} {it : Array Keyed} {Q : Unit → SortSt → Shared → Prop}
    (hQ : ∀ st' : SortSt, arrOf st' = (List.toArray (List.range 64)).map (kas_item it) → failedOf st' = none → Q () st' s)
    (h : (kas_count 64 (List.toArray (List.range 64))).kasWp (kas_cmp prog w A κ it) (fun r s' => r = (64, List.toArray (List.range 64)) ∧ s' = s) s) : kasC (model prog w) A E sortRuns' Q (kas_st κ it (List.toArray (List.range 64))) s := by
  have sz64 : (List.toArray (List.range 64)).size = 64 := rfl
  have szA : (arrOf (kas_st κ it (List.toArray (List.range 64)))).size = 64 := (Array.size_map (f := kas_item it)).trans sz64
  have mr : minRun' 64 64 0 = 32 := by decide +kernel
  rw [sortRuns'_eq]; refine kasC_bind (kasC_get ?_); (try dsimp only); simp only [szA, mr]
  refine kasC_bind (kasC_range ?_); show kasC _ _ _ (forIn (0 :: 1 :: List.range' 2 62) _ _) _ _ _
  refine kasC_cons ?_; (try dsimp only); rw [if_neg (show ¬ (0 : Nat) ≥ 64 by omega)]; simp only [Nat.sub_zero]
  refine kasC_bind (kas_count_ (show 1 ≤ 64 by omega) (Nat.le_of_eq sz64.symm) (fun m p' s' _ _ _ hg => ?_) h)
  obtain ⟨e, rfl⟩ := hg; cases e; (try dsimp only); rw [if_neg (show ¬ (64 : Nat) < 32 by omega)]
  refine kasC_bind (kasC_get ?_); rw [show (pendingOf (kas_st κ it (List.toArray (List.range 64)))).back? = none from rfl]; (try dsimp only)
  refine kasC_bind (kasC_modify (kasC_pure ?_)); show kasC _ _ _ (forIn (1 :: List.range' 2 62) _ _) _ _ _
  refine kasC_cons ?_; (try dsimp only); rw [if_pos (show (0 : Nat) + 64 ≥ 64 by omega)]; refine kasC_pure ?_; (try dsimp only)
  refine kasC_bind (kasC_range ?_); show kasC _ _ _ (forIn (0 :: 1 :: List.range' 2 62) _ _) _ _ _
  refine kasC_cons ?_; refine kasC_bind (kasC_get ?_); (try dsimp only)
  rw [if_pos (show (pendingOf (setPending (kas_st κ it (List.toArray (List.range 64))) ((pendingOf (kas_st κ it (List.toArray (List.range 64)))).push (0, 64, 0)))).size ≤ 1 from Nat.le_refl 1)]
  refine kasC_pure ?_; (try dsimp only); exact kasC_pure (hQ _ rfl rfl)
theorem list_sort_gen {R : Array Nat → Prop} {a : Addr} {vs : List Value} {n : Nat} {P : PySem.Fin → Shared → Prop} (ho : s.heap.get? a = some (seqObj "list" vs.toArray n)) (h64 : vs.length ≤ 64)
    (hk : 2 ≤ vs.length → ∀ h' : Heap, (∀ b o, b ≠ a → s.heap.get? b = some o → h'.get? b = some o) → ∃ κ : SortKind, (∀ (Q : SortKind → Shared → Prop), Q κ { s with heap := h' } → wpAny (model prog w) A (keyKind' vs.toArray) Q E { s with heap := h' }) ∧
      ∀ Q' : SortSt → Shared → Prop, (∀ (p : Array Nat) (st' : SortSt), p.size = vs.length → arrOf st' = p.map (kas_item (vs.toArray.zip vs.toArray)) → failedOf st' = none → Good vs.length p → R p → Q' st' { s with heap := h' }) → wpAny (model prog w) A (sortRuns'.run (SortSt.mk' κ (vs.toArray.zip vs.toArray) #[] 7 none)) (fun r s' => Q' r.2 s') E { s with heap := h' })
    (h : ∀ out : List Value, out.Perm vs → (2 ≤ vs.length → ∃ p : Array Nat, Good vs.length p ∧ R p ∧ out = p.toList.map fun i => vs.getD i Value.none) → P (.done (.ret .none)) { s with heap := sortedHeap s.heap a vs out.toArray }) :
    wpAny (model prog w) A (Builtin.«list.sort» ⟨[.ref a], []⟩) P E s := by
  rw [list_sort_plain]
  have ha : a < s.heap.objs.size := Heap.lt_size ho
  refine wpAny_bind (listItems_at ho rfl ?_)
  refine wpAny_bind (listUpdate_at ho rfl ?_)
  obtain ⟨e1, ho1⟩ : ∃ e1, (s.heap.update a (Obj.mapSeq fun _ => #[])).get? a = some (seqObj "list" #[] e1) := ⟨_, get?_update_seq ho (fun _ => #[])⟩
  refine wpAny_bind (seqEpoch_at ho1 rfl ?_)
  refine wpAny_bind (wpAny_newTuple ?_)
  refine wpAny_bind (wpAny_newList ?_)
  refine wpAny_holding ?_
  have ho6 : (((s.heap.update a (Obj.mapSeq fun _ => #[])).push (seqObj "tuple" vs.toArray 0)).push (seqObj "list" #[] 0)).get? a = some (seqObj "list" #[] e1) := by
    rw [Heap.get?_push_ne _ _ _ (by rw [size_push', Heap.size_update]; exact Nat.ne_of_lt (Nat.lt_succ_of_lt ha)), Heap.get?_push_ne _ _ _ (by rw [Heap.size_update]; exact Nat.ne_of_lt ha)]
    exact ho1
  have keep : ∀ b o, b ≠ a → s.heap.get? b = some o → (((s.heap.update a (Obj.mapSeq fun _ => #[])).push (seqObj "tuple" vs.toArray 0)).push (seqObj "list" #[] 0)).get? b = some o := fun b o nb e =>
    Heap.get?_push_of_some _ (Heap.get?_push_of_some _ (by rw [Heap.get?_update_ne _ _ _ _ nb]; exact e))
  show wpAny (model prog w) A _ P E { s with heap := ((s.heap.update a (Obj.mapSeq fun _ => #[])).push (seqObj "tuple" vs.toArray 0)).push (seqObj "list" #[] 0) }
  dsimp only
  have hsz : vs.toArray.size = vs.length := by simp
  by_cases h2 : vs.toArray.size < 2
  · rw [if_pos h2, if_pos h2]
    refine wpAny_bind (wpAny_pure ?_)
    rw [StateT.run_pure]
    refine wpAny_bind (wpAny_pure ?_)
    dsimp only
    refine wpAny_bind (seqEpoch_at ho6 rfl ?_)
    refine wpAny_bind (listUpdate_at ho6 rfl ?_ (hsz2 := by rw [Array.size_map]; show (pairsOf vs).size ≤ _; rw [pairsOf_size, sizeLine_eq]; omega))
    simp only [bne_self_eq_false, Bool.false_eq_true, if_false]
    have e : (arrOf (SortSt.mk' general' (vs.toArray.zip vs.toArray) #[] 7 none)).map (·.2) = vs.toArray := by
      show (vs.toArray.zip vs.toArray).map (·.2) = vs.toArray
      simp
      exact List.map_snd_zip (Nat.le_refl _)
    have := h vs (List.Perm.refl _) (fun z => by omega)
    rw [← e] at this
    exact wpAny_pure this
  · rw [if_neg h2, if_neg h2]
    have h2' : 2 ≤ vs.length := by omega
    obtain ⟨κ, kk, cmp⟩ := hk h2' _ keep
    refine wpAny_bind (kk _ ?_)
    refine wpAny_bind (wpAny_mono (cmp (fun st' s' => s' = { s with heap := ((s.heap.update a (Obj.mapSeq fun _ => #[])).push (seqObj "tuple" vs.toArray 0)).push (seqObj "list" #[] 0) } ∧ ∃ p : Array Nat, p.size = vs.length ∧ arrOf st' = p.map (kas_item (vs.toArray.zip vs.toArray)) ∧ failedOf st' = none ∧ R p ∧ Good vs.length p) fun p st' a1 a2 a3 a4 a5 => ⟨rfl, p, a1, a2, a3, a5, a4⟩) ?_ fun _ _ e => e)
    rintro ⟨⟨⟩, st'⟩ s' ⟨rfl, p, hp, har, hf, ep, g⟩
    dsimp only
    have hout := kat_snds rfl har
    have perm : (p.toList.map fun i => vs.getD i Value.none).Perm vs := by
      have e1 : p.toList.Perm (List.range vs.length) := by
        have := Array.perm_iff_toList_perm.mp g.2
        simpa using this
      have e2 := e1.map fun i => vs.getD i Value.none
      rw [range_getD] at e2
      exact e2
    refine wpAny_bind (seqEpoch_at ho6 rfl ?_)
    refine wpAny_bind (listUpdate_at ho6 rfl ?_ (hsz2 := by rw [hout, List.size_toArray, perm.length_eq, sizeLine_eq]; omega))
    rw [hf]
    simp only [bne_self_eq_false, Bool.false_eq_true, if_false]
    have := h _ perm (fun _ => ⟨p, g, ep, rfl⟩)
    rw [← hout] at this
    exact wpAny_pure this
theorem range_sd {ps : List (Int × Int)} (h : ps.Pairwise LexLt) : Sd (ltK ps) (List.toArray (List.range ps.length)) ps.length := fun i j hij hj => by
  have e : ∀ k, k < ps.length → (List.toArray (List.range ps.length)).getD k 0 = k := fun k hk => by
    rw [Array.getD_eq_getD_getElem?, List.getElem?_toArray, List.getElem?_range hk]; rfl
  rw [e i (by omega), e j hj]
  refine ltB_iff.mpr ?_
  rw [List.getD_eq_getElem?_getD, List.getD_eq_getElem?_getD, List.getElem?_eq_getElem (by omega), List.getElem?_eq_getElem hj]
  exact List.pairwise_iff_getElem.mp h i j (by omega) hj hij
theorem run64 {κ : SortKind} {its : List Value} {ps : List (Int × Int)} {Q' : SortSt → Shared → Prop} (e64 : its.length = 64) (lp : its.length = ps.length) (L : Lin its.length (ltK ps)) (pw : ps.Pairwise LexLt) (ask : ∀ i j (C : Bool → Shared → Prop), i < its.length → j < its.length → C (ltK ps i j) s → kas_ask prog w A κ its i j C s)
    (hQ' : ∀ (p : Array Nat) (st' : SortSt), p.size = its.length → arrOf st' = p.map (kas_item (its.toArray.zip its.toArray)) → failedOf st' = none → Good its.length p → Sd (ltK ps) p its.length → Q' st' s) : wpAny (model prog w) A (sortRuns'.run (SortSt.mk' κ (its.toArray.zip its.toArray) #[] 7 none)) (fun r s' => Q' r.2 s') E s := by
  have gR : Good its.length (List.toArray (List.range its.length)) := ⟨by omega, Array.Perm.refl _⟩
  have sdR : Sd (ltK ps) (List.toArray (List.range its.length)) its.length := by rw [lp]; exact range_sd pw
  have cnt := count_all L gR sdR
  rw [kat_ask_eq (vs := its) rfl] at ask
  have sz0 : (its.toArray.zip its.toArray).size = its.length := by simp
  have st0 : SortSt.mk' κ (its.toArray.zip its.toArray) #[] 7 none = kas_st κ (its.toArray.zip its.toArray) (List.toArray (List.range its.length)) := by
    unfold kas_st; rw [← sz0, kas_range]
  rw [st0]
  have wp := Leaf.run (G := fun r s' => r = (its.length, List.toArray (List.range its.length)) ∧ s' = s) ask (leaf_count gR (k := its.length)) ⟨cnt, rfl⟩
  have hQ2 : ∀ st' : SortSt, arrOf st' = (List.toArray (List.range its.length)).map (kas_item (its.toArray.zip its.toArray)) → failedOf st' = none → Q' st' s := fun st' a b => hQ' _ st' (by simp) a b gR sdR
  rw [e64] at wp hQ2 ⊢
  exact runs64 (Q := fun _ st' s' => Q' st' s') hQ2 wp
theorem sorted_tupsQ {ps : List (Int × Int)} {l : Addr} {o : Obj} {its : List Value} {n : Nat} {Q : Value → Shared → Prop} (ho : s.heap.get? l = some o) (hc : o.cls = .type "list") (hd : o.data = .seq its.toArray n) (tv : TupsQ s.heap its ps) (nd : ps.Nodup) (h64 : its.length < 64 ∨ (its.length = 64 ∧ ps.Pairwise LexLt)) (hsz : its.toArray.size ≤ sizeLine)
    (h : ∀ (h1 h' : Heap) (out : List Value) (e : Nat), (∀ b o, s.heap.get? b = some o → h1.get? b = some o) → (∀ b o, h1.get? b = some o → h'.get? b = some o) → h'.get? h1.objs.size = some (seqObj "list" out.toArray e) → out.Perm its → (2 ≤ its.length → ∃ p : Array Nat, Good its.length p ∧ Sd (ltK ps) p its.length ∧ out = p.toList.map fun i => its.getD i Value.none) → Q (.ref h1.objs.size) { s with heap := h' }) :
    wpAny (model prog w) A (call (.builtin "sorted") [.ref l]) Q E s := by
  refine Calls.call_function_entry kind_sorted plain_sorted entry_sorted (args_sorted1 _) ?_
  unfold Builtin.«sorted»
  refine wpAny_bind (m := checkCount "sorted" 1 1 _) (wpAny_pure ?_)
  refine wpAny_bind (wpAny_collect_seq l (.inl rfl) ho hc hd (fun h1 kp => ?_) hsz)
  refine wpAny_bind (wpAny_newList ?_)
  have e1 : its.toArray.toList = its := by simp
  rw [e1]
  have hoL : (h1.push (seqObj "list" its.toArray 0)).get? h1.objs.size = some (seqObj "list" its.toArray 0) := Heap.get?_push_size _ rfl
  show wpAny _ _ _ _ _ { s with heap := h1.push (seqObj "list" its.toArray 0) }
  refine wpAny_bind (wpAny_holding (wpAny_call_entry slot_list_sort ⟨_, hoL, rfl⟩ entry_list_sort (list_sort_gen (R := fun p => Sd (ltK ps) p its.length) hoL (by omega) (fun h2 h' kp' => ?_) fun out pm eo => ⟨_, rfl, ?_⟩) (args_list_sort _)))
  · have tv' : TupsQ h' its ps := L2.Paired.mapP tv fun v p ⟨a, o, n, t, u, e, q1, q2, q3⟩ => by
      have q1' := kp _ _ q1
      exact ⟨a, o, n, t, u, e, kp' _ _ (Nat.ne_of_lt (Heap.lt_size q1')) (Heap.get?_push_of_some _ q1'), q2, q3⟩
    obtain ⟨fs, k1, k2, k3⟩ := tv'.tups.kat
    have lp := paired_len tv'
    have ask : ∀ (B : Around) i j (C : Bool → Shared → Prop), i < its.length → j < its.length → C (ltK ps i j) { s with heap := h' } → kas_ask prog w B (tuples' true) its i j C { s with heap := h' } := fun B i j C hi hj hC => tup_askQ (s := { s with heap := h' }) tv' hi hj hC
    have L := lin_of nd
    rw [← lp] at L
    refine ⟨tuples' true, fun Q hQ => ?_, fun Q' hQ' => ?_⟩
    rotate_left
    · rcases h64 with lt | ⟨e64, pw⟩
      · obtain ⟨g, sd⟩ := run_sort L (by omega)
        refine kat_run (ks := its) (vs := its) (G := fun p s' => s' = { s with heap := h' } ∧ p = Run (ltK ps) (kas_sort its.length)) rfl h2 lt (fun p st' s' a1 a2 a3 a4 => ?_) (Leaf.run (ask _) (leaf_sort (by omega)) ⟨rfl, rfl⟩)
        obtain ⟨rfl, rfl⟩ := a4
        exact hQ' _ _ a1 a2 a3 g sd
      · exact run64 (s := { s with heap := h' }) e64 lp L pw (ask _) hQ'
    refine kat_kind (s := { s with heap := h' }) (T := .type "int") k1 (by omega) (fun v hv => ?_) (by decide) hQ
    obtain ⟨x, t, rfl⟩ := k3 v hv
    exact .now
  · obtain ⟨e, he⟩ := sortedHeap_at (out := out.toArray) hoL
    exact wpAny_pure ⟨_, rfl, h h1 _ out e kp (fun b ob hb => by
      have hlt := Heap.lt_size hb
      rw [sortedHeap_old (Nat.ne_of_lt hlt) (by rw [size_push']; exact Nat.lt_succ_of_lt hlt), Heap.get?_push_ne _ _ _ (Nat.ne_of_lt hlt)]
      exact hb) he pm eo⟩
end
def rSortedQ (K : PySem.W.Frag) : List V → Hp → VK → Prop := fun xs H Q => ∃ (p : Addr) (as : List Addr) (prs : List (Int × Int)), xs = [.ref p] ∧ SqL K H p (as.map V.ref) ∧ Paired (fun a (p : Int × Int) => H a = some (.tup [.int p.1, .int p.2])) as prs ∧ prs.Nodup ∧ (as.length < 64 ∨ (as.length = 64 ∧ prs.Pairwise LexLt)) ∧
  ∀ (as' : List Addr) (prs' : List (Int × Int)), Paired (fun a (p : Int × Int) => H a = some (.tup [.int p.1, .int p.2])) as' prs' → prs'.Perm prs → prs'.Pairwise LexLt → Nw H (.lst (as'.map V.ref)) Q
theorem paired_map2 {α β γ : Type} {F : α → β → Prop} {f : γ → α} {g : γ → β} : ∀ {zs : List γ}, (∀ z ∈ zs, F (f z) (g z)) → Paired F (zs.map f) (zs.map g)
  | [], _ => .nil
  | z :: zs, h => .cons (h z List.mem_cons_self) (paired_map2 fun z hz => h z (List.mem_cons_of_mem _ hz))
theorem sortedQK {X : Cx} {K : PySem.W.Frag} (hK : X.K = K) : CallR X (.builtin "sorted") (rSortedQ K) := by
  subst hK
  intro pins s σ H xs us Q I r h
  obtain ⟨p, as, prs, rfl, hq, ht, nd, h64, q⟩ := h
  obtain ⟨u, rfl, rx⟩ := vals1 r
  cases rx
  obtain ⟨its, r', pl, hz⟩ := I.list hq
  obtain ⟨o, n, ho, hc, _, hd⟩ := pl
  have ei := vals_refs r'
  subst ei
  rw [List.length_map] at hz
  have lp := paired_len ht
  have tq : TupsQ s.heap (as.map Value.ref) prs := by
    have aux : ∀ {as : List Addr} {prs : List (Int × Int)}, Paired (fun a (p : Int × Int) => H a = some (.tup [.int p.1, .int p.2])) as prs → TupsQ s.heap (as.map Value.ref) prs := fun {as prs} h => by
      induction h with
      | nil => exact .nil
      | cons h1 _ ih =>
        refine .cons ?_ ih
        obtain ⟨its2, r2, ⟨o2, g1, g2, n2, g3⟩, _⟩ := I.tuple (SqT.of h1)
        obtain ⟨u1, u2, rfl, ⟨t1, rfl⟩, ⟨t2, rfl⟩⟩ := vals2 r2
        exact ⟨_, o2, n2, t1, t2, rfl, g1, g2, g3⟩
    exact aux ht
  refine sorted_tupsQ (ps := prs) ho hc hd tq nd (by rw [List.length_map]; exact h64) (by rw [List.size_toArray, List.length_map]; exact hz) fun h1 h' out e kp kp2 he pm eo => ?_
  have I1 : Inv X pins σ H { s with heap := h1 } := I.kept (t' := s.toks) kp
  obtain ⟨as', prs', eout, pa, pr, pw⟩ : ∃ (as' : List Addr) (prs' : List (Int × Int)), out = as'.map Value.ref ∧ Paired (fun a (p : Int × Int) => H a = some (.tup [.int p.1, .int p.2])) as' prs' ∧ prs'.Perm prs ∧ prs'.Pairwise LexLt := by
    by_cases z : 2 ≤ (as.map Value.ref).length
    · have eo := eo z
      rw [List.length_map] at eo z
      obtain ⟨P, g, sd, eo⟩ := eo
      rw [lp] at g sd
      have e1 : P.toList.Perm (List.range prs.length) := by
        have := Array.perm_iff_toList_perm.mp g.2
        simpa using this
      have inb : ∀ i ∈ P.toList, i < prs.length := fun i hi => List.mem_range.mp (e1.subset hi)
      refine ⟨P.toList.map fun i => as.getD i 0, P.toList.map fun i => prs.getD i (0, 0), ?_, paired_map2 fun i hi => paired_getD ht (by rw [lp]; exact inb i hi) 0 (0, 0), ?_, ?_⟩
      · rw [eo, List.map_map]
        refine List.map_congr_left fun i hi => ?_
        have := inb i hi
        show (as.map Value.ref).getD i Value.none = Value.ref (as.getD i 0)
        rw [List.getD_eq_getElem?_getD, List.getElem?_map, List.getElem?_eq_getElem (by omega), List.getD_eq_getElem?_getD, List.getElem?_eq_getElem (by omega)]
        rfl
      · have := e1.map fun i => prs.getD i (0, 0)
        rw [range_getD] at this
        exact this
      · rw [List.pairwise_map, List.pairwise_iff_getElem]
        intro i j hi hj hij
        have sz := g.size
        have gi : P.toList[i] = P.getD i 0 := by
          rw [Array.length_toList] at hi
          rw [Array.getD_eq_getD_getElem?, Array.getElem?_eq_getElem hi]; rfl
        have gj : P.toList[j] = P.getD j 0 := by
          rw [Array.length_toList] at hj
          rw [Array.getD_eq_getD_getElem?, Array.getElem?_eq_getElem hj]; rfl
        rw [gi, gj]
        rw [Array.length_toList] at hj
        exact ltB_iff.mp (sd i j hij (by omega))
    · rw [List.length_map] at z
      have eq : out = as.map Value.ref := by
        match as, out, z, pm with
        | [], out, _, pm => exact List.Perm.eq_nil pm
        | [a], out, _, pm => exact List.Perm.eq_singleton pm
        | _ :: _ :: _, _, z, _ => exact absurd (by simp) z
      refine ⟨as, prs, eq, ht, List.Perm.refl _, ?_⟩
      match prs, lp with
      | [], _ => exact .nil
      | [a], _ => exact List.pairwise_singleton _ _
      | _ :: _ :: _, lp => exact absurd lp (by simp; omega)
  refine ⟨.ref h1.objs.size, _, I1.laid (t' := s.toks) (o := .lst (as'.map V.ref)) kp2 (Nat.le_refl _) ⟨?_, out, e, by rw [eout]; exact refs_vals as', by simpa [seqObj] using he⟩, rfl, (q as' prs' pa pr pw).at _ (I1.hok.fresh (Nat.le_refl _))⟩
  rw [List.length_map, paired_len pa, pr.length_eq]
  exact Nat.le_of_lt (small1000 (by omega))
end L2
namespace L2
open PySem PySem.Spec PyProof.Rows
def tieK (k : Nat) : Str := "tie" ++ Str.ofString (toString (k : Int))
theorem tieK_ne : ∀ k ∈ List.range 64, tieK k ≠ "said" ∧ tieK k ≠ "sibling" ∧ ("tie" : Str).length + (Str.ofString (toString (k : Int))).length ≤ 100 := by decide +kernel
theorem tieK_inj' : ∀ j ∈ List.range 64, ∀ k ∈ List.range 64, tieK j = tieK k → j = k := by decide +kernel
theorem tieK_inj {j k : Nat} (hj : j < 64) (hk : k < 64) (e : tieK j = tieK k) : j = k := tieK_inj' j (List.mem_range.mpr hj) k (List.mem_range.mpr hk) e
theorem pe_bmK {X : Cx} {K : PySem.W.Frag} {ex : Expr} {T : String} {r : V → List V → Hp → VK → Prop} {to : TE} {t : TA} (h : X.K = K) (p : PE X ex (tBM X.K T r to t)) : PE X ex (tBM K T r to t) := h ▸ p
theorem pt_truthK {X : Cx} {K : PySem.W.Frag} {a : Expr} {ta : TE} (h : X.K = K) (p : PT X a (fun σ H Q => ta σ H fun x H' => ∃ k, TruV X.K x H' k ∧ Q k H')) : PT X a (fun σ H Q => ta σ H fun x H' => ∃ k, TruV K x H' k ∧ Q k H') := h ▸ p
theorem op_eqEK {X : Cx} {K : PySem.W.Frag} {f : Value → Value → Sem Value} {b : Bool} (h : X.K = K) (p : OpR X f (rEqE X.K b)) : OpR X f (rEqE K b) := h ▸ p
theorem setK {te : TE} {i : Nat} {u : TS} {D : Ends} {σ : St} {H : Hp} (h : ∀ k : St → Hp → Prop, (∀ σ' H', u D σ' H' → k σ' H') → te σ H fun x H1 => k (σ.set i (some x)) H1) : tSeq (tAsg te (gName i)) u D σ H := h _ fun _ _ h => h
theorem seqK {t u : TS} {D : Ends} {σ : St} {H : Hp} (h : ∀ k : St → Hp → Prop, (∀ σ' H', u D σ' H' → k σ' H') → t { D with nx := k } σ H) : tSeq t u D σ H := h _ fun _ _ h => h
theorem hideD {t : TS} {D : Ends} {σ : St} {H : Hp} (h : ∀ D' : Ends, (∀ σ' H', D.nx σ' H' → D'.nx σ' H') → (∀ v H', D.rt v H' → D'.rt v H') → (∀ σ' H', D.ct σ' H' → D'.ct σ' H') → t D' σ H) : t D σ H := h D (fun _ _ h => h) (fun _ _ h => h) fun _ _ h => h
end L2
namespace L2
open PySem PySem.Spec PyProof.Rows
def NoFix (H0 : Hp) (d : Addr) : Prop := (∀ xs, H0 d ≠ some (.tup xs)) ∧ (∀ o u, H0 d ≠ some (.frz o u)) ∧ ∀ ps, H0 d ≠ some (.tbl ps)
section
variable {X : Cx} {pins : List (Addr × Obj)} {σ : St} {H : Hp} {s : Shared} {d : Addr} {kvs : List (Key × V)}
theorem Inv.noFix (I : Inv X pins σ H s) (e : H d = some (.dK kvs)) : NoFix X.H₀ d :=
  ⟨(fun xs z => by have := I.base.tups d xs z; rw [e] at this; cases this), (fun o u z => by have := I.base.frzs d o u z; rw [e] at this; cases this), (fun ps z => by obtain ⟨m, h⟩ := I.base.tbls d ps z; rw [e] at h; cases h)⟩
theorem Inv.swap {o o' : HO} (I : Inv X pins σ H s) (e : H d = some o) (nf : NoFix X.H₀ d) (no : ∀ a, o ≠ .own a) (nt : ∀ xs, o ≠ .tup xs) (ok : ObjOk X.prog X.w H s.heap d o') : Inv X pins σ (upd H d o') s := by
  have stay : ∀ {a : Addr} {o1 : HO}, ObjOk X.prog X.w H s.heap a o1 → ObjOk X.prog X.w (upd H d o') s.heap a o1 := fun {a o1} x => x.stay (fun _ _ _ z => z)
    (fun b z => by rw [upd_ne (fun q => no a (Option.some.inj (e.symm.trans (by rw [← q]; exact z))))]; exact z)
    (fun b xs z => by rw [upd_ne (fun q => nt xs (Option.some.inj (e.symm.trans (by rw [← q]; exact z))))]; exact z)
  have ne : ∀ {b : Addr}, H b = none → b ≠ d := fun {b} hb z => by rw [z, e] at hb; cases hb
  refine ⟨I.ok, I.os, I.bare, ⟨I.base.keep, I.base.slot, fun b ob q n hx => ?_, I.base.there, fun b xs q => ?_, fun b ob u q => ?_, fun b ps q => ?_⟩, I.loc, I.cell, ?_, fun x c ec => ?_, fun p hp => ?_, fun a o1 e1 => ?_, I.len⟩
  · have h := I.base.free b ob q n hx
    rw [upd_ne (ne h)]; exact h
  · rw [upd_ne (fun z => nf.1 xs (by rw [← z]; exact q))]; exact I.base.tups b xs q
  · rw [upd_ne (fun z => nf.2.1 ob u (by rw [← z]; exact q))]; exact I.base.frzs b ob u q
  · rw [upd_ne (fun z => nf.2.2 ps (by rw [← z]; exact q))]; exact I.base.tbls b ps q
  · rw [upd_ne (ne I.free)]; exact I.free
  · rw [upd_ne (ne (I.freeC x c ec))]; exact I.freeC x c ec
  · obtain ⟨p1, p2, p3⟩ := I.pin p hp
    exact ⟨p1, by rw [upd_ne (ne p2)]; exact p2, p3⟩
  · by_cases z : a = d
    · subst z
      rw [upd_same] at e1
      cases e1
      exact stay ok
    · rw [upd_ne z] at e1
      exact stay (I.hok a o1 e1)
end
def Itd (d : Addr) (od : Obj) (kvs : List (Key × V)) : It := ⟨fun i H => H d = some (.frz od (.dK kvs)) ∧ i < kvs.length, fun i H v H' => ∃ a k y, kvs[i]? = some (k, y) ∧ H a = none ∧ v = .ref a ∧ H' = upd H a (.tup [kV k, y]), fun i H => H d = some (.frz od (.dK kvs)) ∧ kvs.length ≤ i⟩
theorem is_kV {P : Program} {w : World} {k : Key} {u : Value} (h : (mixKind P w).is k u = true) : RelV (kV k) u := by
  rcases keyIs_shape h with ⟨i, t, rfl, rfl⟩ | ⟨x, t, rfl, rfl⟩
  · exact ⟨t, rfl⟩
  · exact ⟨t, rfl⟩
theorem kv_get : ∀ {kvs : List (Key × V)} {vs : List (Key × Value)} {i : Nat} {k : Key} {y : V}, KV kvs vs → kvs[i]? = some (k, y) → ∃ v, vs[i]? = some (k, v) ∧ RelV y v := fun {kvs vs i k y} r h => by
  obtain ⟨q, e, h1, h2⟩ := paired_get (F := fun (p : Key × V) (q : Key × Value) => p.1 = q.1 ∧ RelV p.2 q.2) r h
  obtain ⟨k', v⟩ := q
  cases h1
  exact ⟨v, e, h2⟩
theorem frz_at {X : Cx} {pins : List (Addr × Obj)} {σ : St} {H : Hp} {s : Shared} {d : Addr} {kvs : List (Key × V)} {od : Obj} {es : Array DictEntry} {ep : Nat} (I : Inv X pins σ H s) (e : H d = some (.frz od (.dK kvs))) (hep : od.data = .dict es ep) : ∃ vs, KV kvs vs ∧ s.heap.DictAt (mixKind X.prog X.w) d vs ep := by
  obtain ⟨g, _, _, vs, rel, o, es', ep', h1, h2, h3, h4⟩ := (show ObjOk X.prog X.w H s.heap d (.frz od (.dK kvs)) from I.hok d _ e)
  rw [g] at h1
  cases h1
  rw [hep] at h3
  cases h3
  exact ⟨vs, rel, od, es, g, h2, hep, h4⟩
theorem entry_itemiter_iter : entryFor table "dict_itemiterator.__iter__" = some Builtin.«dict_keyiterator.__iter__» := entryFor_alias (id' := "dict_keyiterator.__iter__") (by kernel_rfl) rfl (by decide +kernel) (by kernel_rfl)
theorem turn_items {P : Program} {w : World} {K : PySem.W.Frag} {elts : List Expr} {x1 : Nat} {pos : Pos} (it d : Addr) (od : Obj) (es : Array DictEntry) (ep : Nat) (hep : od.data = .dict es ep) (kvs : List (Key × V)) : Turn P w K (.Tuple elts x1 pos) (Itd d od kvs) [it] it (fun i h => ∃ ok ov, IsItemIter h it d i kvs.length ep ok ov) where
  mem := by simp
  obj := fun i h st b hb => by
    have e : b = it := by simpa using hb
    subst e
    obtain ⟨ok, ov, e⟩ := st
    exact ⟨_, e, fun v z => by cases z⟩
  keep := fun i h h' st k => let ⟨ok, ov, e⟩ := st; ⟨ok, ov, k it (by simp) _ e⟩
  item := by
    intro X hP hw hK hc i pins s σ H E I hf st hg
    subst hP hw hK
    obtain ⟨f0, f1, f2, f3, f4, f5⟩ := hf it (by simp)
    obtain ⟨ok, ov, st⟩ := st
    obtain ⟨hz, hlt⟩ := hg
    obtain ⟨vs, rel, da⟩ := frz_at I hz hep
    have ll := rel.length
    obtain ⟨k, y, hk⟩ : ∃ k y, kvs[i]? = some (k, y) := ⟨kvs[i].1, kvs[i].2, List.getElem?_eq_getElem hlt⟩
    obtain ⟨v, hv, ry⟩ := kv_get rel hk
    rw [ll] at st
    have itlt : it < s.heap.objs.size := Heap.lt_size st
    refine wpAny_pyNext_items_item st da hv fun key h' hkey out htup hsz keep => ⟨_, rfl, ?_⟩
    refine wpAny_letOwnedTupleGo_items out fun h'' it'' sb => ?_
    have sz : (2 : Nat) ≤ sizeLine := by rw [sizeLine_eq]; omega
    have I0 : Inv X pins σ (upd H s.heap.objs.size (.tup [kV k, y])) { s with heap := s.heap.push { cls := .type "tuple", data := .seq #[key, v] }, toks := s.toks } := I.laid (t' := s.toks) (fun b o e => Heap.get?_push_of_some _ e) (Nat.le_refl _) ⟨sz, [key, v], .cons (is_kV hkey) (.cons ry .nil), IsTupN.new _ _⟩
    have I1 : Inv X pins σ (upd H s.heap.objs.size (.tup [kV k, y])) { s with heap := h'', toks := s.toks } := Inv.turned (s := { s with heap := s.heap.push { cls := .type "tuple", data := .seq #[key, v] }, toks := s.toks }) (t' := s.toks) (it := it) I0 (fun b o hb e => by
      refine (sb.2 b hb).trans ?_
      by_cases z : b = s.heap.objs.size
      · subst z
        rw [Heap.get?_push_size _ rfl] at e
        rw [← e]; exact htup
      · rw [Heap.get?_push_ne _ _ _ z] at e
        exact keep b o hb e) (by rw [upd_ne (Nat.ne_of_lt itlt)]; exact f0) f1 f3 f4 f5
    refine ⟨.ref s.heap.objs.size, _, I1, rfl, ⟨_, k, y, hk, I.hok.fresh (Nat.le_refl _), rfl, rfl⟩, ⟨key, v, by rw [ll]; exact it''⟩, fun b hb => ?_⟩
    have e : b = it := by simpa using hb
    subst e
    rw [upd_ne (Nat.ne_of_lt itlt)]; exact f0
  done := by
    intro X hP hw hK hc i pins s σ H E I hf st hg
    subst hP hw hK
    obtain ⟨f0, f1, f2, f3, f4, f5⟩ := hf it (by simp)
    obtain ⟨ok, ov, st⟩ := st
    obtain ⟨hz, hle⟩ := hg
    obtain ⟨vs, rel, da⟩ := frz_at I hz hep
    have ll := rel.length
    rw [ll] at st
    exact wpAny_pyNext_items_end (I.ok.hd hc) st da (List.getElem?_eq_none (by omega)) fun h' eb => ⟨rfl, I.turned (t' := s.toks) (fun b o hb e => eb b o hb e) f0 f1 f3 f4 f5⟩
  self := fun A i s Q E st h => by
    obtain ⟨ok, ov, st⟩ := st
    have hT : s.TypeIs (.ref it) "dict_itemiterator" := ⟨_, st, rfl⟩
    refine wpAny_pyIter_slot hT PySem.F.slot_dict_itemiterator_iter (wpAny_call_entry PySem.F.slot_dict_itemiterator_iter hT entry_itemiter_iter ?_ (PySem.F.args_dict_itemiterator_iter_1 _))
    show wpAny _ _ (ret (.ref it)) _ _ s
    exact wpAny_pure ⟨_, rfl, "dict_itemiterator", _, hT, PySem.F.slot_dict_itemiterator_next.lookup, h⟩
def iItems (H0 : Hp) (td : TE) : TI := fun σ H R => td σ H fun x H1 => ∃ d kvs, x = .ref d ∧ H1 d = some (.dK kvs) ∧ ∀ od, NoFix H0 d → R (Itd d od kvs) (upd H1 d (.frz od (.dK kvs)))
theorem pi_items {X : Cx} {H0 : Hp} {elts : List Expr} {x1 : Nat} {pos apos cpos : Pos} {o : Expr} {td : TE} (h0 : X.H₀ = H0) (ho : PE X o td) (hbase : attributeBase o "items" X.env (eval o X.env) = eval o X.env := by rfl) (hline : (apos.endLine == cpos.line) = true := by rfl) : PI X (.Tuple elts x1 pos) (.Call (.Attribute o "items" apos) [] [] cpos) (iItems H0 td) := by
  subst h0
  intro pins s σ H R I h
  refine wpAny_Call_method0_late hbase hline (thn (ho pins s σ H _ I h) fun v s1 zq => ?_)
  obtain ⟨x, H1, I1, r1, d, kvs, ex, hd, q⟩ := zq
  subst ex
  obtain rfl : v = Value.ref d := r1
  obtain ⟨t1, t2, hsm⟩ := isD_at I1 (.inl ⟨kvs, .inl hd⟩)
  refine ⟨"dict", "dict.items", PySem.F.plainAttrs_dict, PySem.F.slot_dict_items, PySem.F.type_dict_items, t1, t2, Calls.callWith_builtin rfl (PySem.evalArgs_none ?_)⟩
  obtain ⟨zz, _, vs, rel, dd⟩ := dk_of I1.hok hd
  refine call_meetsIn PySem.F.slot_dict_items dd.typeIs PySem.F.entry_dict_items (PySem.F.args_dict_items_1 _) (meets_dict_items (mixKind X.prog X.w) d hsm) ⟨⟨vs, dd⟩, ?_⟩
  obtain ⟨od, es, ep, hod, hx, hep, hrest⟩ := id dd
  have nf := I1.noFix hd
  have up : ∀ b o, s1.heap.get? b = some o → (s1.heap.push { cls := .type "dict_items", data := .fields #[.ref d] }).get? b = some o := fun b o e => Heap.get?_push_of_some _ e
  refine wpAny_pyIter_items (knd := mixKind X.prog X.w) (d := d) (kvs := vs) (ep := ep) ⟨_, Heap.get?_push_size _ rfl, rfl, rfl⟩ ⟨od, es, up _ _ hod, hx, hep, hrest⟩ ?_
  generalize hG : s1.heap.push { cls := .type "dict_items", data := .fields #[.ref d] } = G at up ⊢
  have I2 : Inv X pins σ H1 { s1 with heap := G.push { cls := .type "dict_itemiterator", data := .fields #[.none, .bool false, .ref d, .int 0 0, .int vs.length 0, .int ep 0, .none, .none] }, toks := s1.toks } := I1.kept (t' := s1.toks) fun b o e => Heap.get?_push_of_some _ (up b o e)
  have hdk : ObjOk X.prog X.w H1 _ d (.dK kvs) := I2.hok d _ hd
  have I3 := I2.swap (o' := .frz od (.dK kvs)) hd nf (fun a z => by cases z) (fun xs z => by cases z) ⟨Heap.get?_push_of_some _ (up _ _ hod), hdk⟩
  have gsz : s1.heap.objs.size ≤ G.objs.size := by rw [← hG, Heap.size_push]; omega
  refine ⟨G.objs.size, [G.objs.size], _, Itd d od kvs, _, rfl, I3, turn_items _ d od es ep hep kvs, ⟨.none, .none, ?_⟩, fun b hb => ?_, q od nf⟩
  · show (G.push _).get? G.objs.size = _
    rw [rel.length]
    exact Heap.get?_push_size _ rfl
  · have e : b = G.objs.size := by simpa using hb
    subst e
    have dlt : d < s1.heap.objs.size := Heap.lt_size hod
    exact I1.fpOk gsz (by rw [upd_ne (Nat.ne_of_gt (Nat.lt_of_lt_of_le dlt gsz))]; exact I1.hok.fresh gsz)
def tForIt (H0 : Hp) (td : TE) (g : TG) (tb : TS) : TS := fun D σ H => tFor (iItems H0 td) g tb ⟨fun σ' H' => ∃ d od kvs, NoFix H0 d ∧ H' d = some (.frz od (.dK kvs)) ∧ D.nx σ' (upd H' d (.dK kvs)), fun v H' => ∃ d od kvs, NoFix H0 d ∧ H' d = some (.frz od (.dK kvs)) ∧ D.rt v (upd H' d (.dK kvs)), fun _ _ => False, fun _ _ => False⟩ σ H
theorem Inv.thaw {X : Cx} {pins : List (Addr × Obj)} {σ : St} {H : Hp} {s : Shared} {d : Addr} {od : Obj} {kvs : List (Key × V)} (I : Inv X pins σ H s) (nf : NoFix X.H₀ d) (e : H d = some (.frz od (.dK kvs))) : Inv X pins σ (upd H d (.dK kvs)) s :=
  I.swap e nf (fun a z => by cases z) (fun xs z => by cases z) (show ObjOk X.prog X.w H s.heap d (.frz od (.dK kvs)) from I.hok d _ e).2
theorem ps_forItems {X : Cx} {H0 : Hp} {elts : List Expr} {x1 : Nat} {tpos apos cpos pos : Pos} {o : Expr} {td : TE} {g : TG} {tb : TS} {body : List Stmt} (h0 : X.H₀ = H0) (hp : PassesOwn (model X.prog X.w) X.A X.env X.xe) (hc : X.calm = true) (hi : PI X (.Tuple elts x1 tpos) (.Call (.Attribute o "items" apos) [] [] cpos) (iItems H0 td)) (hg : PG X (.Tuple elts x1 tpos) g) (hb : PSs X body tb) :
    PS X (.For (.Tuple elts x1 tpos) (.Call (.Attribute o "items" apos) [] [] cpos) body [] pos) (tForIt H0 td g tb) := by
  subst h0
  intro pins s σ H D I h
  refine thn (ps_for hp hc hi hg hb (fun _ => rfl) pins s σ H _ I h) fun f s1 q => ?_
  cases f with
  | next => obtain ⟨σ', H', I', d, od, kvs, nf, e, q⟩ := q; exact ⟨σ', _, I'.thaw nf e, q⟩
  | brk => obtain ⟨_, _, _, q⟩ := q; exact False.elim q
  | cont => obtain ⟨_, _, _, q⟩ := q; exact False.elim q
  | ret u => obtain ⟨v, σ', H', I', r, d, od, kvs, nf, e, q⟩ := q; exact ⟨v, σ', _, I'.thaw nf e, r, q⟩
theorem for_items {H0 : Hp} {td : TE} {g : TG} {tb : TS} {D : Ends} {σ : St} {H : Hp} {d : Addr} {kvs : List (Key × V)} (htd : ∀ Q : VK, Q (.ref d) H → td σ H Q) (hd : H d = some (.dK kvs)) (Pv : Nat → St → Prop) (p0 : Pv 0 σ)
    (hs : ∀ i k y σ' H' a (N : St → Hp → Prop) (rt : VK) (bk : St → Hp → Prop), kvs[i]? = some (k, y) → Pv i σ' → (∀ b o, H b = some o → b ≠ d → H' b = some o) → H' a = some (.tup [kV k, y]) → (∀ σ3, Pv (i + 1) σ3 → N σ3 H') → g (.ref a) σ' H' fun σ2 H2 => tb ⟨N, rt, bk, N⟩ σ2 H2)
    (hend : ∀ σ' H', Pv kvs.length σ' → Same H H' → D.nx σ' H') : tForIt H0 td g tb D σ H := by
  refine htd _ ⟨d, kvs, rfl, hd, fun od nf => ⟨fun i m σ' H' => m = kvs.length - i ∧ i ≤ kvs.length ∧ Pv i σ' ∧ (∀ b o, H b = some o → b ≠ d → H' b = some o) ∧ H' d = some (.frz od (.dK kvs)), ⟨kvs.length, by omega, Nat.zero_le _, p0, fun b o e n => by rw [upd_ne n]; exact e, upd_same⟩, ?_⟩⟩
  rintro i m σ' H' ⟨rfl, hi, p, kp, fz⟩
  by_cases hlt : i < kvs.length
  · refine .inr ⟨⟨fz, hlt⟩, fun σ3 H3 => Pv (i + 1) σ3 ∧ (∀ b o, H b = some o → b ≠ d → H3 b = some o) ∧ H3 d = some (.frz od (.dK kvs)), fun σ3 H3 ⟨a, b, c⟩ => ⟨kvs.length - (i + 1), by omega, rfl, hlt, a, b, c⟩, ?_⟩
    rintro x H4 ⟨a, k, y, hk, na, rfl, rfl⟩
    have nad : d ≠ a := fun z => by rw [← z, fz] at na; cases na
    have kp4 : ∀ b o, H b = some o → b ≠ d → upd H' a (.tup [kV k, y]) b = some o := fun b o e n => by rw [upd_ne (fun z => by rw [← z, kp b o e n] at na; cases na)]; exact kp b o e n
    exact hs i k y σ' _ a (fun σ3 H3 => Pv (i + 1) σ3 ∧ (∀ b o, H b = some o → b ≠ d → H3 b = some o) ∧ H3 d = some (.frz od (.dK kvs))) _ _ hk p kp4 upd_same fun σ3 p3 => ⟨p3, kp4, by rw [upd_ne nad]; exact fz⟩
  · have e : i = kvs.length := by omega
    subst e
    refine .inl ⟨⟨fz, Nat.le_refl _⟩, d, od, kvs, nf, fz, hend _ _ p fun b o e => ?_⟩
    by_cases z : b = d
    · subst z; rw [upd_same]; rw [hd] at e; exact e
    · rw [upd_ne z]; exact kp b o e z
end L2
namespace L2
open PySem PySem.Spec PyProof.Rows
theorem ip_mul {X : Cx} : PIp X .Mult (fun x y H Q => ∃ i j, x = .int i ∧ y = .int j ∧ CMul i j ∧ Q (.int (i * j)) H) := by
  intro pins s σ H x y v u Q I r1 r2 h
  obtain ⟨i, j, e1, e2, hc, q⟩ := h
  subst e1; subst e2
  obtain ⟨t, rfl⟩ := r1
  obtain ⟨t', rfl⟩ := r2
  exact imul_int ⟨.int _, H, I.tok _, ⟨_, rfl⟩, q⟩ hc.ok
end L2
namespace L2
open PySem PySem.Spec PyProof.Rows
def Itk (d : Addr) (od : Obj) (kvs : List (Key × V)) : It := ⟨fun i H => H d = some (.frz od (.dK kvs)) ∧ i < kvs.length, fun i H v H' => H' = H ∧ ∃ k y, kvs[i]? = some (k, y) ∧ v = kV k, fun i H => H d = some (.frz od (.dK kvs)) ∧ kvs.length ≤ i⟩
theorem turn_keys {P : Program} {w : World} {K : PySem.W.Frag} {tg : Expr} (it d : Addr) (od : Obj) (es : Array DictEntry) (ep : Nat) (hep : od.data = .dict es ep) (kvs : List (Key × V)) : Turn P w K tg (Itk d od kvs) [it] it (fun i h => h.IsKeyIter it d i kvs.length ep) where
  mem := by simp
  obj := fun i h st b hb => by
    have e : b = it := by simpa using hb
    subst e
    obtain ⟨o, e, c, dd⟩ := st
    exact ⟨o, e, fun v z => by rw [dd] at z; cases z⟩
  keep := fun i h h' st k => let ⟨o, e, r⟩ := st; ⟨o, k it (by simp) o e, r⟩
  item := by
    intro X hP hw hK hc i pins s σ H E I hf st hg
    subst hP hw hK
    obtain ⟨f0, f1, f2, f3, f4, f5⟩ := hf it (by simp)
    obtain ⟨hz, hlt⟩ := hg
    obtain ⟨vs, rel, da⟩ := frz_at I hz hep
    have ll := rel.length
    obtain ⟨k, y, hk⟩ : ∃ k y, kvs[i]? = some (k, y) := ⟨kvs[i].1, kvs[i].2, List.getElem?_eq_getElem hlt⟩
    obtain ⟨v, hv, ry⟩ := kv_get rel hk
    rw [ll] at st
    refine wpAny_pyNext_dict_item st da hv fun key h' hkey st' sb => ?_
    have I1 : Inv X pins σ H { s with heap := h', toks := s.toks } := I.turned (t' := s.toks) (fun b o hb e => sb.extBut b o hb e) f0 f1 f3 f4 f5
    obtain ⟨o, e, c, dd⟩ := id st'
    exact ⟨_, rfl, go_of (s := { s with heap := h' }) e c dd (by decide) ⟨kV k, H, I1, is_kV hkey, ⟨rfl, k, y, hk, rfl⟩, by rw [ll]; exact st', fun b hb => (hf b hb).1⟩⟩
  done := by
    intro X hP hw hK hc i pins s σ H E I hf st hg
    subst hP hw hK
    obtain ⟨f0, f1, f2, f3, f4, f5⟩ := hf it (by simp)
    obtain ⟨hz, hle⟩ := hg
    obtain ⟨vs, rel, da⟩ := frz_at I hz hep
    have ll := rel.length
    rw [ll] at st
    exact wpAny_pyNext_dict_end (I.ok.hd hc) st da (List.getElem?_eq_none (by omega)) fun h' eb => ⟨rfl, I.turned (t' := s.toks) (fun b o hb e => eb b o hb e) f0 f1 f3 f4 f5⟩
  self := fun A i s Q E st h => wpAny_pyIter_keyiter st h
def iKeys (H0 : Hp) (td : TE) : TI := fun σ H R => td σ H fun x H1 => ∃ d kvs, x = .ref d ∧ H1 d = some (.dK kvs) ∧ ∀ od, NoFix H0 d → R (Itk d od kvs) (upd H1 d (.frz od (.dK kvs)))
theorem pi_keys {X : Cx} {H0 : Hp} {tg l : Expr} {td : TE} (h0 : X.H₀ = H0) (hl : PE X l td) : PI X tg l (iKeys H0 td) := by
  subst h0
  intro pins s σ H R I h
  refine thn (hl pins s σ H _ I h) fun v s1 zq => ?_
  obtain ⟨x, H1, I1, r1, d, kvs, ex, hd, q⟩ := zq
  subst ex
  obtain rfl : v = Value.ref d := r1
  obtain ⟨zz, hsm, vs, rel, dd⟩ := dk_of I1.hok hd
  obtain ⟨od, es, ep, hod, hx, hep, hrest⟩ := id dd
  have nf := I1.noFix hd
  refine wpAny_pyIter_dict (knd := mixKind X.prog X.w) (kvs := vs) (ep := ep) hsm ⟨od, es, hod, hx, hep, hrest⟩ ?_
  have I2 : Inv X pins σ H1 { s1 with heap := s1.heap.push { cls := .type "dict_keyiterator", data := .fields #[.ref d, .int 0 0, .int vs.length 0, .int ep 0] }, toks := s1.toks } := I1.kept (t' := s1.toks) fun b o e => Heap.get?_push_of_some _ e
  have hdk : ObjOk X.prog X.w H1 _ d (.dK kvs) := I2.hok d _ hd
  have I3 := I2.swap (o' := .frz od (.dK kvs)) hd nf (fun a z => by cases z) (fun xs z => by cases z) ⟨Heap.get?_push_of_some _ hod, hdk⟩
  refine ⟨s1.heap.objs.size, [s1.heap.objs.size], _, Itk d od kvs, _, rfl, I3, turn_keys _ d od es ep hep kvs, ⟨_, Heap.get?_push_size _ rfl, rfl, by rw [rel.length]; rfl⟩, fun b hb => ?_, q od nf⟩
  have e : b = s1.heap.objs.size := by simpa using hb
  subst e
  have dlt : d < s1.heap.objs.size := Heap.lt_size hod
  exact I1.fpOk (Nat.le_refl _) (by rw [upd_ne (Nat.ne_of_gt dlt)]; exact I1.hok.fresh (Nat.le_refl _))
def tForK (H0 : Hp) (td : TE) (g : TG) (tb : TS) : TS := fun D σ H => tFor (iKeys H0 td) g tb ⟨fun σ' H' => ∃ d od kvs, NoFix H0 d ∧ H' d = some (.frz od (.dK kvs)) ∧ D.nx σ' (upd H' d (.dK kvs)), fun v H' => ∃ d od kvs, NoFix H0 d ∧ H' d = some (.frz od (.dK kvs)) ∧ D.rt v (upd H' d (.dK kvs)), fun _ _ => False, fun _ _ => False⟩ σ H
theorem ps_forKeys {X : Cx} {H0 : Hp} {tg l : Expr} {pos : Pos} {td : TE} {g : TG} {tb : TS} {body : List Stmt} (h0 : X.H₀ = H0) (hp : PassesOwn (model X.prog X.w) X.A X.env X.xe) (hc : X.calm = true) (hi : PI X tg l (iKeys H0 td)) (hg : PG X tg g) (hb : PSs X body tb) (hs : ∀ x, foldedSetIterable l X.env x = pure x := by intro _; rfl) : PS X (.For tg l body [] pos) (tForK H0 td g tb) := by
  subst h0
  intro pins s σ H D I h
  refine thn (ps_for hp hc hi hg hb hs pins s σ H _ I h) fun f s1 q => ?_
  cases f with
  | next => obtain ⟨σ', H', I', d, od, kvs, nf, e, q⟩ := q; exact ⟨σ', _, I'.thaw nf e, q⟩
  | brk => obtain ⟨_, _, _, q⟩ := q; exact False.elim q
  | cont => obtain ⟨_, _, _, q⟩ := q; exact False.elim q
  | ret u => obtain ⟨v, σ', H', I', r, d, od, kvs, nf, e, q⟩ := q; exact ⟨v, σ', _, I'.thaw nf e, r, q⟩
theorem for_keys {H0 : Hp} {td : TE} {g : TG} {tb : TS} {D : Ends} {σ : St} {H : Hp} {d : Addr} {kvs : List (Key × V)} {H1 : Hp} (htd : ∀ R : VK, R (.ref d) H1 → td σ H R) (hd : H1 d = some (.dK kvs)) (Pv : Nat → St → Hp → Prop)
    (p0 : ∀ od, Pv 0 σ (upd H1 d (.frz od (.dK kvs))))
    (hs : ∀ od i k y σ' H' (N : St → Hp → Prop) (rt : VK) (bk : St → Hp → Prop), kvs[i]? = some (k, y) → Pv i σ' H' → H' d = some (.frz od (.dK kvs)) → (∀ σ3 H3, Pv (i + 1) σ3 H3 → H3 d = some (.frz od (.dK kvs)) → N σ3 H3) → g (kV k) σ' H' fun σ2 H2 => tb ⟨N, rt, bk, N⟩ σ2 H2)
    (hend : ∀ od σ' H', Pv kvs.length σ' H' → H' d = some (.frz od (.dK kvs)) → D.nx σ' (upd H' d (.dK kvs))) : tForK H0 td g tb D σ H := by
  refine htd _ ⟨d, kvs, rfl, hd, fun od nf => ⟨fun i m σ' H' => m = kvs.length - i ∧ i ≤ kvs.length ∧ Pv i σ' H' ∧ H' d = some (.frz od (.dK kvs)), ⟨kvs.length, by omega, Nat.zero_le _, p0 od, upd_same⟩, ?_⟩⟩
  rintro i m σ' H' ⟨rfl, hi, p, fz⟩
  by_cases hlt : i < kvs.length
  · refine .inr ⟨⟨fz, hlt⟩, fun σ3 H3 => Pv (i + 1) σ3 H3 ∧ H3 d = some (.frz od (.dK kvs)), fun σ3 H3 ⟨a, c⟩ => ⟨kvs.length - (i + 1), by omega, rfl, hlt, a, c⟩, ?_⟩
    rintro x H4 ⟨rfl, k, y, hk, rfl⟩
    exact hs od i k y σ' H4 (fun σ3 H3 => Pv (i + 1) σ3 H3 ∧ H3 d = some (.frz od (.dK kvs))) _ _ hk p fz fun σ3 H3 p3 f3 => ⟨p3, f3⟩
  · have e : i = kvs.length := by omega
    subst e
    exact .inl ⟨⟨fz, Nat.le_refl _⟩, d, od, kvs, nf, fz, hend od _ _ p fz⟩
theorem for_keysG {H0 : Hp} {td : TE} {g : TG} {tb : TS} {D : Ends} {σ : St} {H : Hp} (G : Addr → Hp → List (Key × V) → Prop) (htd : ∀ R : VK, (∀ d H1 kvs, G d H1 kvs → R (.ref d) H1) → td σ H R)
    (hb : ∀ d H1 kvs, G d H1 kvs → H1 d = some (.dK kvs) ∧ ∃ Pv : Nat → St → Hp → Prop, (∀ od, Pv 0 σ (upd H1 d (.frz od (.dK kvs)))) ∧
      (∀ od i k y σ' H' (N : St → Hp → Prop) (rt : VK) (bk : St → Hp → Prop), kvs[i]? = some (k, y) → Pv i σ' H' → H' d = some (.frz od (.dK kvs)) → (∀ σ3 H3, Pv (i + 1) σ3 H3 → H3 d = some (.frz od (.dK kvs)) → N σ3 H3) → g (kV k) σ' H' fun σ2 H2 => tb ⟨N, rt, bk, N⟩ σ2 H2) ∧
      ∀ od σ' H', Pv kvs.length σ' H' → H' d = some (.frz od (.dK kvs)) → D.nx σ' (upd H' d (.dK kvs))) : tForK H0 td g tb D σ H :=
  htd _ fun d H1 kvs gd => by
    obtain ⟨hd, Pv, p0, hs, hend⟩ := hb d H1 kvs gd
    exact for_keys (H0 := H0) (td := fun _ _ R => R (.ref d) H1) (g := g) (tb := tb) (D := D) (σ := σ) (H := H) (fun _ h => h) hd Pv p0 hs hend
end L2
namespace K19
open PySem L2
def top (i : Nat) : Stmt := PySem.Challenge.pw_kinhearth_k19_dealings_counted.main.body.getD i (.Pass ⟨0, 0, 0, 0⟩)
abbrev s_still : Stmt := top 2
abbrev s_followed : Stmt := top 3
abbrev s_turned_back : Stmt := top 4
abbrev s_law_cell : Stmt := top 8
abbrev s_law_draws : Stmt := top 9
abbrev s_law_turn : Stmt := top 10
abbrev s_law_row : Stmt := top 11
abbrev s_law_inverse : Stmt := top 12
abbrev s_law_same : Stmt := top 13
abbrev s_law_nets : Stmt := top 14
abbrev s_law_carried : Stmt := top 15
abbrev s_law_room : Stmt := top 17
abbrev s_law_good : Stmt := top 16
abbrev s_law_base : Stmt := top 18
abbrev s_law_joined : Stmt := top 19
abbrev s_law_dealt : Stmt := top 20
abbrev s_law : Stmt := top 21
abbrev s_Joins_init : Stmt := inClass (top 6) 0
abbrev s_Joins_add : Stmt := inClass (top 6) 1
abbrev s_Joins_tie : Stmt := inClass (top 6) 2
abbrev s_Joins_say : Stmt := inClass (top 6) 3
abbrev s_Joins_open_at : Stmt := inClass (top 6) 4
abbrev s_Joins_left : Stmt := inClass (top 6) 5
abbrev s_Joins_together : Stmt := inClass (top 6) 6
abbrev s_Joins_pairs : Stmt := inClass (top 6) 8
abbrev s_Joins_narrow : Stmt := inClass (top 6) 12
abbrev s_Joins_bring_together : Stmt := inClass (top 6) 13
abbrev s_Joins_move : Stmt := inClass (top 6) 14
abbrev s_Joins_dealt : Stmt := inClass (top 6) 9
abbrev s_Joins_dealt_with : Stmt := inClass (top 6) 10
abbrev s_Joins_dealt_beside : Stmt := inClass (top 6) 11
abbrev sCell : Stmt := s_law_cell
abbrev sDraws : Stmt := s_law_draws
abbrev sTurn : Stmt := s_law_turn
section
variable {P : Program} {w : World} {K : PySem.W.Frag} {mg : Str → Option Value} {base : Heap} {f : Addr} {fd : FuncData}
theorem scCell : FnScope ["_law_script", "_law_k"] ["_law_script", "_law_k"] (defScope sCell) := ⟨rfl, rfl, rfl, by decide +kernel, rfl, by decide +kernel, by decide +kernel⟩
theorem ok_cell (F : Fun K "_law_cell" "_law_cell" sCell f fd) (ml : mg "len" = none) : FnOk P w K mg base CX0 1 f fd ["_law_script", "_law_k"] (spCell K) := by
  refine F.ok scCell (fun vs H Q E h => ?_) (fun cdv A outer s H vs Q E hr h => ?_)
  · obtain ⟨a, ns, k, rfl, _⟩ := h
    rfl
  obtain ⟨a, ns, k, rfl, hS, h0, q⟩ := h
  refine ⟨_, pss_cons (ps_if (pt_cmpR op_lt (pv 1) (pe_callB call_len_seq rfl ml bt_len (pa_cons (pv 0) pa_nil)) (nomark _)) (pss_one (ps_ret (pe_ix ix_list (pv 0) (pv 1) (fun _ _ => rfl)))) pss_nil)
    (pss_one (ps_ret pe_int)), ?_⟩
  have hl : (ns.map V.int).length = ns.length := List.length_map _
  refine ⟨_, rfl, _, rfl, a, _, rfl, .inl hS, _, _, rfl, rfl, _, rfl, ?_⟩
  refine ite2 (fun c => ?_) (fun c => ?_)
  · have c' : k < (((ns.map V.int).length : Nat) : Int) := of_decide_eq_true c
    rw [hl] at c'
    exact ⟨_, rfl, _, rfl, a, _, _, _, rfl, rfl, hS, atI_in h0 c', q _⟩
  · exact q _
theorem scDraws : FnScope ["_law_cell_here", "_law_parts", "_law_one", "_law_two", "_law_six", "_law_found", "_law_part"] ["_law_cell_here", "_law_parts"] (defScope sDraws) := ⟨rfl, rfl, rfl, by decide +kernel, rfl, by decide +kernel, by decide +kernel⟩
theorem ok_draws (F : Fun K "_law_draws" "_law_draws" sDraws f fd) (ma : mg "abs" = none) : FnOk P w K mg base CX0 1 f fd ["_law_cell_here", "_law_parts"] (spDraws K) := by
  refine F.ok scDraws (fun vs H Q E h => ?_) (fun cdv A outer s H vs Q E hr h => ?_)
  · obtain ⟨c, a, ps, rfl, _⟩ := h
    rfl
  obtain ⟨c, a, ps, rfl, hS, hps, hlen, q⟩ := h
  refine ⟨_, pss_cons (ps_if (pt_cmpR op_lt (pe_callB call_abs rfl ma bt_abs (pa_cons (pv 0) pa_nil)) (pe_op op_pow pe_int pe_int) (nomark _))
      (pss_cons (ps_set (i := 2) scDraws.nd rfl (Or.inl rfl) (pe_op op_mod (pe_op op_add (pe_op op_mul (pv 0) pe_int) pe_int) pe_int))
      (pss_cons (ps_set (i := 3) scDraws.nd rfl (Or.inl rfl) (pe_op op_mod (pe_op op_add (pe_op op_add (pe_op op_mul (pv 2) (pv 2)) (pe_op op_mul pe_int (pv 2))) (pv 0)) pe_int))
      (pss_cons (ps_set (i := 4) scDraws.nd rfl (Or.inl rfl) (pe_op op_mod (pe_op op_add (pe_op op_mul (pv 3) pe_int) (pv 2)) pe_int))
      (pss_one (ps_set (i := 0) scDraws.nd rfl (Or.inl rfl) (pe_op op_add (pv 3) (pe_op op_mul pe_int (pe_op op_add (pv 4) (pe_op op_mul pe_int (pv 2))))))))))
      (pss_one (ps_set (i := 0) scDraws.nd rfl (Or.inl rfl) (pe_op op_sub (pe_callB call_abs rfl ma bt_abs (pa_cons (pv 0) pa_nil)) (pe_op op_pow pe_int pe_int)))))
    (pss_cons (ps_set (i := 5) scDraws.nd rfl (Or.inl rfl) (pe_lst pa_nil))
    (pss_cons (ps_for PassesOwn.never rfl (pi_list (pv 1)) (pg_name (i := 6) scDraws.nd rfl (Or.inl rfl))
      (pss_cons (ps_expr (pe_bm PySem.F.plainAttrs_list PySem.F.slot_list_append PySem.F.type_list_append mt_append (pv 5) (pa_cons (pe_op op_mod (pv 0) (pv 6)) pa_nil)))
      (pss_one (ps_set (i := 0) scDraws.nd rfl (Or.inl rfl) (pe_op op_fdiv (pv 0) (pv 6))))))
    (pss_one (ps_ret (pv 5))))), ?_⟩
  refine seq_mid (fun σ H' => H' = H ∧ ∃ c' o2 o3 o4, σ = [some (.int c'), some (.ref a), o2, o3, o4, none, none]) (fun nx k => ?_) ?_
  · refine ⟨_, rfl, c, rfl, _, _, rfl, rfl, ⟨by decide, by decide, by decide⟩, _, _, rfl, rfl, _, rfl, ?_⟩
    refine ite2 (fun _ => ?_) (fun _ => ?_)
    · refine ⟨_, rfl, _, _, rfl, rfl, .inr ⟨by decide, by decide⟩, _, _, rfl, rfl, _, _, rfl, rfl, (by show (0 : Int) < 2147483647; decide), ?_⟩
      refine ⟨_, rfl, _, rfl, _, _, rfl, rfl, .inl (mod_bd _ (by decide) (by decide)), _, rfl, _, _, rfl, rfl, .inl ⟨by decide, by decide⟩, _, _, rfl, rfl, _, rfl, _, _, rfl, rfl, _, _, rfl, rfl, (by show (0 : Int) < 2147483399; decide), ?_⟩
      refine ⟨_, rfl, _, _, rfl, rfl, .inr ⟨by decide, by decide⟩, _, rfl, _, _, rfl, rfl, _, _, rfl, rfl, (by show (0 : Int) < 1000000007; decide), ?_⟩
      refine ⟨_, rfl, _, rfl, _, rfl, _, _, rfl, rfl, .inl ⟨by decide, by decide⟩, _, _, rfl, rfl, _, _, rfl, rfl, .inl ⟨by decide, by decide⟩, _, _, rfl, rfl, k _ _ ⟨rfl, _, _, _, _, rfl⟩⟩
    · exact ⟨_, rfl, c, rfl, _, _, rfl, rfl, ⟨by decide, by decide, by decide⟩, _, _, rfl, rfl, k _ _ ⟨rfl, _, _, _, _, rfl⟩⟩
  · rintro σ H0 ⟨rfl, c', o2, o3, o4, rfl⟩
    refine ⟨(by show 0 ≤ sizeLine; decide), fun l hl => ?_⟩
    have s1 : Same H0 (upd H0 l (.lst [])) := same_new hl _
    refine ⟨_, rfl, a, rfl, ⟨_, s1.seq hS⟩, for_list (K := K) (a := a) (xs := ps.map V.int) (fun i σ H2 => ∃ c o2 o3 o4 o6 ds, σ = [some (.int c), some (.ref a), o2, o3, o4, some (.ref l), o6] ∧ Same H0 H2 ∧ H2 l = some (.lst (ds.map V.int)) ∧ Paired Bd ds (ps.take i))
      ⟨c', o2, o3, o4, none, [], rfl, s1, upd_same, by rw [List.take_zero]; exact .nil⟩ (fun i σ H2 _ ⟨_, _, _, _, _, _, _, s2, _⟩ => s2.seq hS) ?_ ?_⟩
    · rintro i y σ H2 hi ⟨c, o2, o3, o4, o6, ds, rfl, s2, h2, b2⟩
      obtain ⟨p, rfl, hp⟩ := get_int hi
      have hil : i < ps.length := (List.getElem?_eq_some_iff.mp hp).1
      obtain ⟨p0, p1⟩ := hps p (List.mem_of_getElem? hp)
      have dl := b2.length
      rw [List.length_take] at dl
      refine ⟨_, rfl, .inl ⟨rfl, _, SqL.of h2⟩, _, rfl, _, rfl, _, _, rfl, rfl, p0, l, _, _, rfl, rfl, h2, (by rw [List.length_map]; exact small1000 (by omega)), ?_⟩
      refine ⟨_, rfl, _, rfl, _, _, rfl, rfl, ⟨p0, p1⟩, ?_⟩
      refine ⟨_, o2, o3, o4, _, ds ++ [c % p], rfl, fun b o e => ?_, ?_, ?_⟩
      · rw [upd_ne (ne_of_none e hl)]
        exact s2 b o e
      · rw [upd_same, snoc_int]
      · rw [List.take_add_one, hp]
        exact b2.snoc ⟨Int.emod_nonneg _ (Int.ne_of_gt p0), Int.emod_lt_of_pos _ p0⟩
    · rintro σ H2 ⟨c, o2, o3, o4, o6, ds, rfl, s2, h2, b2⟩
      rw [List.length_map, List.take_length] at b2
      exact ⟨_, rfl, q l ds H2 hl s2 h2 b2⟩
theorem scTurn : FnScope ["_law_code", "_law_size", "_law_free", "_law_found", "_law_k"] ["_law_code", "_law_size"] (defScope sTurn) := ⟨rfl, rfl, rfl, by decide +kernel, rfl, by decide +kernel, by decide +kernel⟩
theorem ok_turn (F : Fun K "_law_turn" "_law_turn" sTurn f fd) (mL : mg "list" = none) (mR : mg "range" = none) (mT : mg "tuple" = none) : FnOk P w K mg base CX0 1 f fd ["_law_code", "_law_size"] spTurn := by
  refine F.ok scTurn (fun vs H Q E h => ?_) (fun cdv A outer s H vs Q E hr h => ?_)
  · obtain ⟨c, n, rfl, _⟩ := h
    rfl
  obtain ⟨c, n, rfl, hn, q⟩ := h
  refine ⟨_, pss_cons (ps_set (i := 2) scTurn.nd rfl (Or.inl rfl) (pe_callTy (call_list_rng rfl) rfl mL bt_list (pa_cons (pe_callTy call_range1 rfl mR bt_range (pa_cons (pv 1) pa_nil)) pa_nil)))
    (pss_cons (ps_set (i := 3) scTurn.nd rfl (Or.inl rfl) (pe_lst pa_nil))
    (pss_cons (ps_for PassesOwn.never rfl (pi_range1 rfl mR (pa_cons (pv 1) pa_nil)) (pg_name (i := 4) scTurn.nd rfl (Or.inl rfl))
      (pss_cons (ps_expr (pe_bm PySem.F.plainAttrs_list PySem.F.slot_list_append PySem.F.type_list_append mt_append (pv 3) (pa_cons (pe_bm PySem.F.plainAttrs_list PySem.F.slot_list_pop PySem.F.type_list_pop mt_popAt (pv 2) (pa_cons (pe_op op_mod (pv 0) (pe_op op_sub (pv 1) (pv 4))) pa_nil)) pa_nil)))
      (pss_one (ps_set (i := 0) scTurn.nd rfl (Or.inl rfl) (pe_op op_fdiv (pv 0) (pe_op op_sub (pv 1) (pv 4)))))))
    (pss_one (ps_ret (pe_callTy call_tuple_of rfl mT bt_tuple (pa_cons (pv 3) pa_nil)))))), ?_⟩
  refine ⟨_, rfl, _, rfl, fun r hr' => ?_⟩
  refine ⟨r, n, rfl, upd_same, by omega, fun u hu => ?_⟩
  refine ⟨(by show 0 ≤ sizeLine; decide), fun l hl => ?_⟩
  have g1 : Same H (upd H r (.rng 0 (n : Int))) := same_new hr' _
  have g2 := g1.trans (same_new hu (.lst ((upto n).map V.int)))
  have g3 := g2.trans (same_new hl (.lst []))
  have hul : u ≠ l := ne_of_none upd_same hl
  refine ⟨_, rfl, (n : Int), rfl, by omega, by omega, for_range (lo := 0) (n := n) (fun i σ H2 => ∃ c o4 ds fs, σ = [some (.int c), some (.int (n : Int)), some (.ref u), some (.ref l), o4] ∧ Same H H2 ∧ H2 u = some (.lst (fs.map V.int)) ∧ H2 l = some (.lst (ds.map V.int)) ∧ (ds ++ fs).Perm (upto n) ∧ ds.length = i)
    ⟨c, none, [], upto n, rfl, g3, by rw [upd_ne hul]; exact upd_same, upd_same, by rw [List.nil_append], rfl⟩ ?_ ?_⟩
  · rintro i σ H2 hi ⟨c, o4, ds, fs, rfl, s2, hu2, hl2, pm, dl⟩
    have pl := pm.length_eq
    rw [List.length_append, upto_length, dl] at pl
    have hpos : (0 : Int) < (n : Int) - (0 + (i : Int)) := by omega
    have m0 := Int.emod_nonneg c (Int.ne_of_gt hpos)
    have m1 := Int.emod_lt_of_pos c hpos
    have hk : (c % ((n : Int) - (0 + (i : Int)))).toNat < fs.length := by omega
    have hix : seqIndex? (c % ((n : Int) - (0 + (i : Int)))) (fs.map V.int).length = some (c % ((n : Int) - (0 + (i : Int)))).toNat := (ixN_seq (ixN_in m0 (by rw [List.length_map]; omega))).1
    refine ⟨_, rfl, .inl ⟨rfl, _, SqL.of hl2⟩, _, rfl, .inl ⟨rfl, _, SqL.of hu2⟩, _, rfl, _, rfl, _, rfl, _, _, rfl, rfl, _, _, rfl, rfl, hpos, u, _, _, _, .int fs[(c % ((n : Int) - (0 + (i : Int)))).toNat], rfl, rfl, hu2, by omega, by omega, hix, by rw [List.getElem?_map, List.getElem?_eq_getElem hk]; rfl, ?_⟩
    refine ⟨l, _, _, rfl, rfl, by rw [upd_ne hul.symm]; exact hl2, (by rw [List.length_map]; exact small1000 (by omega)), ?_⟩
    refine ⟨_, rfl, _, rfl, _, rfl, _, _, rfl, rfl, _, _, rfl, rfl, ⟨hpos, by omega⟩, ?_⟩
    refine ⟨_, _, ds ++ [fs[(c % ((n : Int) - (0 + (i : Int)))).toNat]], fs.eraseIdx (c % ((n : Int) - (0 + (i : Int)))).toNat, rfl, fun b o e => ?_, ?_, ?_, ?_, ?_⟩
    · have nl : b ≠ l := ne_of_none (g2 b o e) hl
      have nu : b ≠ u := ne_of_none (g1 b o e) hu
      rw [upd_ne nl, upd_ne nu]
      exact s2 b o e
    · rw [upd_ne hul, upd_same, map_erase]
    · rw [upd_same, snoc_int]
    · refine List.Perm.trans ?_ pm
      rw [List.append_assoc]
      refine List.Perm.append_left ds ?_
      exact (perm_erase fs _ hk).symm
    · rw [List.length_append, List.length_singleton, dl]
  · rintro σ H2 ⟨c, o4, ds, fs, rfl, s2, hu2, hl2, pm, dl⟩
    have pl := pm.length_eq
    rw [List.length_append, upto_length, dl] at pl
    have e : fs = [] := List.eq_nil_of_length_eq_zero (by omega)
    rw [e, List.append_nil] at pm
    refine ⟨_, rfl, l, _, rfl, .inl ⟨SqL.of hl2, fun t ht => ?_⟩⟩
    exact q t ds _ (s2.free ht) (s2.trans (same_new ht _)) upd_same pm
end
theorem paired5 {ds : List Int} {a b c d e : Int} (h : Paired Bd ds [a, b, c, d, e]) : ∃ v w x y z, ds = [v, w, x, y, z] ∧ Bd v a ∧ Bd w b ∧ Bd x c ∧ Bd y d ∧ Bd z e := by
  cases h with | cons h1 h => cases h with | cons h2 h => cases h with | cons h3 h => cases h with | cons h4 h => cases h with | cons h5 h =>
    cases h
    exact ⟨_, _, _, _, _, rfl, h1, h2, h3, h4, h5⟩
theorem nameE {q : St → Hp → Prop} {i : Nat} {x : V} {σ : St} {H : Hp} (h : q (σ.set i (some x)) H) : gName i x σ H q := h
theorem ix_any {K : PySem.W.Frag} {H : Hp} {p : Addr} {xs : List V} {i : Nat} {x : V} {Q : VK} (hp : SqL K H p xs ∨ SqT K H p xs) (h : xs[i]? = some x) (q : Q x H) : rIx K (.ref p) (.int (0 + (i : Int))) H Q := by
  rcases hp with hp | hp
  · exact .inl ⟨p, _, _, _, rfl, rfl, hp, atI_some h, q⟩
  · exact .inr (.inl ⟨p, _, _, _, rfl, rfl, hp, atI_some h, q⟩)
theorem dec_self (v : V) : decide (v = v) = true := decide_eq_true rfl
theorem all_true (n : Nat) : (List.replicate n true).all id = true := by
  induction n with
  | zero => rfl
  | succ n ih => rw [List.replicate_succ, List.all_cons, ih]; rfl
inductive IspSame (m : Nat) (vs : List V) (H : Hp) (Q : VK) : Prop
  | mk (x y : V) (d : Dt) (k : Nat) (h0_ : vs = [x, y]) (h1_ : m = k + 1) (h2_ : At H k x d) (h3_ : At H k y d) (h4_ : ∀ H', Same H H' → Q (.bl true) H') : IspSame m vs H Q
def spSame (m : Nat) : Sp := fun vs H Q _ => IspSame m vs H Q
section
variable {P : Program} {w : World} {K : PySem.W.Frag} {mg : Str → Option Value} {base : Heap} {f : Addr} {fd : FuncData}
theorem sc_law_same : FnScope ["_law_found", "_law_due"] ["_law_found", "_law_due"] (defScope s_law_same) := ⟨rfl, rfl, rfl, by decide +kernel, rfl, by decide +kernel, by decide +kernel⟩
theorem ok_same1 {n : Nat} (F : Fun K "_law_same" "_law_same" s_law_same f fd) (h_law_same : HasFn P w K mg base n "_law_same" ["_law_found", "_law_due"] (spSame n)) (bl : Bl mg) : FnOk P w K mg base CX0 (n + 1) f fd ["_law_found", "_law_due"] (spSame (n + 1)) := by
  refine F.ok sc_law_same (fun vs H Q E h => ?_) (fun cdv A outer s H vs Q E hr h => ?_)
  · obtain ⟨x, y, d, k, rfl, _⟩ := h
    rfl
  obtain ⟨x, y, d, k, rfl, ek, hx, hy, q⟩ := h
  obtain rfl : k = n := by omega
  have hu := hr.units0
  refine ⟨_, (pss_cons (ps_if (pt_cmpR op_isN (pv 1) pe_non (nomark _)) (pss_one (ps_ret (pe_cmpR op_isN (pv 0) pe_non (nomark _)))) pss_nil) (pss_cons (ps_if (pt_val (pe_callB (isinstK (K := K) rfl) rfl bl.n_isinstance bt_isinstance (pa_cons (pv 1) (pa_cons (pe_ty rfl bl.n_bool bt_bool) pa_nil)))) (pss_one (ps_ret (pe_and (pe_callB (isinstK (K := K) rfl) rfl bl.n_isinstance bt_isinstance (pa_cons (pv 0) (pa_cons (pe_ty rfl bl.n_bool bt_bool) pa_nil))) (pe_one (pe_cmpR op_eq (pv 0) (pv 1) (nomark _)))))) pss_nil) (pss_cons (ps_if (pt_val (pe_callB (isinstK (K := K) rfl) rfl bl.n_isinstance bt_isinstance (pa_cons (pv 1) (pa_cons (pe_ty rfl bl.n_int bt_int) pa_nil)))) (pss_one (ps_ret (pe_and (pe_callB (isinstK (K := K) rfl) rfl bl.n_isinstance bt_isinstance (pa_cons (pv 0) (pa_cons (pe_ty rfl bl.n_int bt_int) pa_nil))) (pe_and (pe_not (pe_callB (isinstK (K := K) rfl) rfl bl.n_isinstance bt_isinstance (pa_cons (pv 0) (pa_cons (pe_ty rfl bl.n_bool bt_bool) pa_nil)))) (pe_one (pe_cmpR op_eq (pv 0) (pv 1) (nomark _))))))) pss_nil) (pss_cons (ps_if (pt_val (pe_callB (isinstK (K := K) rfl) rfl bl.n_isinstance bt_isinstance (pa_cons (pv 1) (pa_cons (pe_ty rfl bl.n_str bt_str) pa_nil)))) (pss_one (ps_ret (pe_and (pe_callB (isinstK (K := K) rfl) rfl bl.n_isinstance bt_isinstance (pa_cons (pv 0) (pa_cons (pe_ty rfl bl.n_str bt_str) pa_nil))) (pe_one (pe_cmpR op_eq (pv 0) (pv 1) (nomark _)))))) pss_nil) (pss_cons (ps_if (PW.pt (pw_or (pt_cmpR op_ne (pe_callB (isinstK (K := K) rfl) rfl bl.n_isinstance bt_isinstance (pa_cons (pv 1) (pa_cons (pe_ty rfl bl.n_list bt_list) pa_nil))) (pe_callB (isinstK (K := K) rfl) rfl bl.n_isinstance bt_isinstance (pa_cons (pv 0) (pa_cons (pe_ty rfl bl.n_list bt_list) pa_nil))) (nomark _)) (pw_or1 (pt_cmpR op_ne (pe_callB (isinstK (K := K) rfl) rfl bl.n_isinstance bt_isinstance (pa_cons (pv 1) (pa_cons (pe_ty rfl bl.n_tuple bt_tuple) pa_nil))) (pe_callB (isinstK (K := K) rfl) rfl bl.n_isinstance bt_isinstance (pa_cons (pv 0) (pa_cons (pe_ty rfl bl.n_tuple bt_tuple) pa_nil))) (nomark _))))) (pss_one (ps_ret pe_bl)) pss_nil) (pss_cons (ps_if (pt_cmpR op_ne (pe_callB (lenK (K := K) rfl) rfl bl.n_len bt_len (pa_cons (pv 0) pa_nil)) (pe_callB (lenK (K := K) rfl) rfl bl.n_len bt_len (pa_cons (pv 1) pa_nil)) (nomark _)) (pss_one (ps_ret pe_bl)) pss_nil) (pss_one (ps_ret (pe_callB (allK (K := K) rfl rfl) rfl bl.n_all bt_all (pa_cons (pe_comp (x := "_law_k") (fr := [("_law_found", 0), ("_law_due", 1)]) (cl := [("_law_found", s.heap.objs.size + 1), ("_law_due", s.heap.objs.size + 1 + 1)]) rfl ⟨by with_unfolding_all rfl, ⟨rfl, ⟨rfl, trivial⟩⟩, rfl, by decide +kernel, rfl, by decide +kernel, rfl, ⟨⟨rfl, .inl rfl, .inl rfl, rfl⟩, ⟨⟨rfl, .inl rfl, .inl rfl, rfl⟩, trivial⟩⟩, by decide +kernel⟩ (pi_range1 rfl bl.n_range (pa_cons (pe_callB (lenK (K := K) rfl) rfl bl.n_len bt_len (pa_cons (pv 1) pa_nil)) pa_nil)) (fun _ _ _ _ => ptl_nil) (fun _ _ _ _ => (pe_fn h_law_same hr (by omega) rfl (pa_cons (pe_ix (ix_seqK (K := K) rfl) (pv 1) (pv 0) (fun _ _ => rfl)) (pa_cons (pe_ix (ix_seqK (K := K) rfl) (pv 2) (pv 0) (fun _ _ => rfl)) pa_nil))))) pa_nil)))))))))), ?_⟩
  have sq : (∃ (p r : Addr) (xs ys : List V) (ds : List Dt) (t : Value) (b1 b2 : Bool) (m : Nat), x = .ref p ∧ y = .ref r ∧ TyOf K H (.ref p) t ∧ TyOf K H (.ref r) t ∧ PySem.W.kitOne K t (.type "bool") = some false ∧ PySem.W.kitOne K t (.type "int") = some false ∧ PySem.W.kitOne K t (.type "str") = some false ∧
      PySem.W.kitOne K t (.type "list") = some b1 ∧ PySem.W.kitOne K t (.type "tuple") = some b2 ∧ (SqL K H p xs ∨ SqT K H p xs) ∧ (SqL K H r ys ∨ SqT K H r ys) ∧ ds.length ≤ 1000 ∧ Paired (At H m) xs ds ∧ Paired (At H m) ys ds ∧ k = m + 1) ∨
      (x = .non ∧ y = .non) ∨ (∃ b, x = .bl b ∧ y = .bl b) ∨ (∃ i, x = .int i ∧ y = .int i) ∨ ∃ z, x = .str z ∧ y = .str z := by
    cases d with
    | non => unfold At at hx hy; exact .inr (.inl ⟨hx, hy⟩)
    | bl b => unfold At at hx hy; exact .inr (.inr (.inl ⟨b, hx, hy⟩))
    | int i => unfold At at hx hy; exact .inr (.inr (.inr (.inl ⟨i, hx, hy⟩)))
    | str z => unfold At at hx hy; exact .inr (.inr (.inr (.inr ⟨z, hx, hy⟩)))
    | lst ds =>
      cases k with
      | zero => unfold At at hx; exact hx.elim
      | succ m =>
        unfold At at hx hy
        obtain ⟨a, xs, e0, e1, lz, p1⟩ := hx
        obtain ⟨b, ys, e0', e2, _, p2⟩ := hy
        exact .inl ⟨a, b, xs, ys, ds, .type "list", true, false, m, e0, e0', .lst e1, .lst e2, kit_lb, kit_li, kit_ls, kit_ll, kit_lt, .inl (SqL.of e1), .inl (SqL.of e2), lz, p1, p2, rfl⟩
    | tup ds =>
      cases k with
      | zero => unfold At at hx; exact hx.elim
      | succ m =>
        unfold At at hx hy
        obtain ⟨a, xs, e0, e1, lz, p1⟩ := hx
        obtain ⟨b, ys, e0', e2, _, p2⟩ := hy
        exact .inl ⟨a, b, xs, ys, ds, .type "tuple", false, true, m, e0, e0', .tup e1, .tup e2, kit_tb, kit_ti, kit_ts, kit_tl, kit_tt, .inr (SqT.of e1), .inr (SqT.of e2), lz, p1, p2, rfl⟩
  clear hx hy
  rcases sq with ⟨p, r, xs, ys, ds, t, b1, b2, m, rfl, rfl, T1, T2, kb, ki, ksr, kl, kt, hp, hq, hz, p1, p2, ek⟩ | ⟨rfl, rfl⟩ | ⟨b, rfl, rfl⟩ | ⟨i, rfl, rfl⟩ | ⟨z, rfl, rfl⟩
  · have l1 := paired_len p1
    have l2 := paired_len p2
    refine ⟨_, rfl, rfl, _, rfl, ?_⟩
    refine ite2 (fun c => absurd (of_decide_eq_true c) (fun z => nomatch z)) (fun _ => nextE ?_)
    refine ⟨_, rfl, _, _, _, false, rfl, T2, kb, _, rfl, iteF (nextE ?_)⟩
    refine ⟨_, rfl, _, _, _, false, rfl, T2, ki, _, rfl, iteF (nextE ?_)⟩
    refine ⟨_, rfl, _, _, _, false, rfl, T2, ksr, _, rfl, iteF (nextE ?_)⟩
    refine ⟨_, rfl, _, _, _, b1, rfl, T2, kl, _, rfl, _, _, _, b1, rfl, T1, kl, rfl, _, rfl, iteNS rfl ?_⟩
    refine ⟨_, rfl, _, _, _, b2, rfl, T2, kt, _, rfl, _, _, _, b2, rfl, T1, kt, rfl, _, rfl, iteNS rfl (nextE ?_)⟩
    refine ⟨_, rfl, p, _, rfl, hp, _, rfl, r, _, rfl, hq, rfl, _, rfl, iteNS (by rw [l1, l2]) (nextE ?_)⟩
    refine ⟨_, rfl, r, _, rfl, hq, _, rfl, by omega, by omega, fun D hD => comp_range (lo := 0) (n := ((ys.length : Nat) : Int).toNat)
      (fun i zs H1 => Same H H1 ∧ H1 D = some (.lst zs) ∧ zs = (List.replicate i true).map V.bl) ⟨same_new hD _, upd_same, rfl⟩ ?_ ?_⟩
    · rintro i zs H1 hi ⟨g, h1, rfl⟩
      rw [Int.toNat_natCast] at hi
      have sq : ∀ {a : Addr} {us : List V}, (SqL K H a us ∨ SqT K H a us) → (SqL K H1 a us ∨ SqT K H1 a us) := fun {a us} z => by
        rcases z with z | z
        · exact .inl (g.seq z)
        · exact .inr (g.sqt z)
      have gx : xs[i]? = some xs[i] := List.getElem?_eq_getElem (by omega)
      have gy : ys[i]? = some ys[i] := List.getElem?_eq_getElem (by omega)
      obtain ⟨d1, e1, a1⟩ := paired_get p1 gx
      obtain ⟨d2, e2, a2⟩ := paired_get p2 gy
      rw [e1] at e2
      cases e2
      refine yesT (iteT ?_)
      refine ⟨_, rfl, _, rfl, ix_any (sq hp) gx ?_⟩
      refine ⟨_, rfl, _, rfl, ix_any (sq hq) gy ?_⟩
      refine ⟨_, _, d1, m, rfl, ek, a1.same g, a2.same g, fun H2 g2 => ?_⟩
      refine ⟨g2 _ _ h1, by rw [List.length_map, List.length_replicate]; exact small1000 (by omega), fun b o e => ?_, upd_same, ?_⟩
      · rw [upd_ne (ne_of_none e hD)]
        exact g2 b o (g b o e)
      · rw [List.replicate_succ', List.map_append]
        rfl
    · rintro zs H1 ⟨g, h1, e⟩
      refine ⟨D, _, rfl, SqL.of (by rw [h1, e]), ?_⟩
      rw [all_true]
      exact q H1 g
  · refine ⟨_, rfl, rfl, _, rfl, ?_⟩
    refine ite2 (fun c => ?_) (fun c => absurd (dec_self _) c)
    exact ⟨_, rfl, rfl, q H (Same.refl H)⟩
  · refine ⟨_, rfl, rfl, _, rfl, ?_⟩
    refine ite2 (fun c => absurd (of_decide_eq_true c) (fun z => nomatch z)) (fun _ => nextE ?_)
    refine ⟨_, rfl, _, _, _, true, rfl, .bl b, kit_bb, _, rfl, iteT ?_⟩
    refine ⟨_, rfl, _, _, _, true, rfl, .bl b, kit_bb, _, rfl, iteT ?_⟩
    refine ⟨_, rfl, _, rfl, rfl, ?_⟩
    rw [dec_self]
    exact q H (Same.refl H)
  · refine ⟨_, rfl, rfl, _, rfl, ?_⟩
    refine ite2 (fun c => absurd (of_decide_eq_true c) (fun z => nomatch z)) (fun _ => nextE ?_)
    refine ⟨_, rfl, _, _, _, false, rfl, .int i, kit_ib, _, rfl, iteF (nextE ?_)⟩
    refine ⟨_, rfl, _, _, _, true, rfl, .int i, kit_ii, _, rfl, iteT ?_⟩
    refine ⟨_, rfl, _, _, _, true, rfl, .int i, kit_ii, _, rfl, iteT ?_⟩
    refine ⟨_, rfl, _, _, _, false, rfl, .int i, kit_ib, _, rfl, _, rfl, iteT ?_⟩
    refine ⟨_, rfl, _, rfl, rfl, ?_⟩
    rw [dec_self]
    exact q H (Same.refl H)
  · refine ⟨_, rfl, rfl, _, rfl, ?_⟩
    refine ite2 (fun c => absurd (of_decide_eq_true c) (fun z => nomatch z)) (fun _ => nextE ?_)
    refine ⟨_, rfl, _, _, _, false, rfl, .str z, kit_sb, _, rfl, iteF (nextE ?_)⟩
    refine ⟨_, rfl, _, _, _, false, rfl, .str z, kit_si, _, rfl, iteF (nextE ?_)⟩
    refine ⟨_, rfl, _, _, _, true, rfl, .str z, kit_ss, _, rfl, iteT ?_⟩
    refine ⟨_, rfl, _, _, _, true, rfl, .str z, kit_ss, _, rfl, iteT ?_⟩
    refine ⟨_, rfl, _, rfl, rfl, ?_⟩
    rw [dec_self]
    exact q H (Same.refl H)
theorem same_none : FnOk P w K mg base CX0 0 f fd ["_law_found", "_law_due"] (spSame 0) := by
  have no : ∀ vs H Q E, ¬ spSame 0 vs H Q E := fun vs H Q E h => by
    obtain ⟨_, _, _, _, _, z, _⟩ := h
    omega
  exact ⟨fun vs H Q E h => absurd h (no vs H Q E), fun A outer s H args us vs Q E _ _ _ _ h => absurd h (no vs H Q E)⟩
theorem ok_same (F : Fun K "_law_same" "_law_same" s_law_same f fd) (bS : Binds K fd ["_law_found", "_law_due"] []) (kS : PySem.W.keepIn K (.ref f) = true) (m : mg "_law_same" = some (.ref f)) (bl : Bl mg) :
    ∀ n : Nat, FnOk P w K mg base CX0 n f fd ["_law_found", "_law_due"] (spSame n)
  | 0 => same_none
  | n + 1 => ok_same1 F ⟨f, fd, ok_same F bS kS m bl n, bS, kS, m⟩ bl
end
def aft (ys xs : List Int) : List Int := xs.map fun x => ys.getD x.toNat 0
theorem full_in {ys : List Int} (h : full ys = true) {x : Int} (hx : x ∈ ys) : 0 ≤ x ∧ x < ys.length := by
  have hm := (full_perm h).subset hx
  unfold upto at hm
  obtain ⟨i, hi, rfl⟩ := List.mem_map.mp hm
  have := List.mem_range.mp hi
  omega
def spFol (K : PySem.W.Frag) : Sp := fun vs H Q _ => ∃ (a b : Addr) (xs ys : List Int), vs = [.ref a, .ref b] ∧ SqT K H a (xs.map V.int) ∧ SqT K H b (ys.map V.int) ∧ (∀ x ∈ xs, 0 ≤ x ∧ x < ys.length) ∧ xs.length < 64 ∧
  ∀ (t : Addr) (H' : Hp), H t = none → Same H H' → H' t = some (.tup ((aft ys xs).map V.int)) → Q (.ref t) H'
section
variable {P : Program} {w : World} {K : PySem.W.Frag} {mg : Str → Option Value} {base : Heap} {f : Addr} {fd : FuncData}
theorem sc_followed : FnScope ["first", "then"] ["first", "then"] (defScope s_followed) := ⟨rfl, rfl, rfl, by decide +kernel, rfl, by decide +kernel, by decide +kernel⟩
theorem ok_followed (F : Fun K "followed" "followed" s_followed f fd) (bl : Bl mg) : FnOk P w K mg base CX0 1 f fd ["first", "then"] (spFol K) := by
  refine F.ok sc_followed (fun vs H Q E h => ?_) (fun cdv A outer s H vs Q E hr h => ?_)
  · obtain ⟨a, b, xs, ys, rfl, _⟩ := h
    rfl
  obtain ⟨a, b, xs, ys, rfl, hA, hB, hin, hl, q⟩ := h
  have al : (aft ys xs).length = xs.length := by unfold aft; rw [List.length_map]
  refine ⟨_, (pss_one (ps_ret (pe_callTy (call_tuple_of) rfl bl.n_tuple bt_tuple (pa_cons (pe_comp (x := "section") (fr := [("then", 1)]) (cl := [("then", s.heap.objs.size + 1)]) rfl ⟨by with_unfolding_all rfl, ⟨rfl, trivial⟩, rfl, by decide +kernel, rfl, by decide +kernel, rfl, ⟨⟨rfl, .inl rfl, .inl rfl, rfl⟩, trivial⟩, by decide +kernel⟩ (pi_tup (pv 0)) (fun _ _ _ _ => ptl_nil) (fun _ _ _ _ => (pe_ix (ix_tupK (K := K) rfl) (pv 1) (pv 0) (fun _ _ => rfl)))) pa_nil)))), ?_⟩
  refine ⟨_, rfl, a, rfl, ⟨_, hA⟩, fun D hD => comp_tup (xs := xs.map V.int) (fun i zs H3 => Same H H3 ∧ H3 D = some (.lst zs) ∧ zs = ((aft ys xs).take i).map V.int) ⟨same_new hD _, upd_same, rfl⟩ (fun i zs H3 _ ⟨g3, _, _⟩ => g3.sqt hA) ?_ ?_⟩
  · rintro i v zs H3 hi ⟨g3, h3, e3⟩
    obtain ⟨z, rfl, hz⟩ := get_int hi
    have hil : i < xs.length := (List.getElem?_eq_some_iff.mp hz).1
    have bz := hin z (List.mem_of_getElem? hz)
    refine yesT (iteT ⟨_, rfl, _, rfl, b, _, _, _, rfl, rfl, g3.sqt hB, atI_in bz.1 bz.2, h3, ?_, fun d o qd => ?_, upd_same, ?_⟩)
    · rw [e3, List.length_map, List.length_take, al]
      exact small1000 (by omega)
    · rw [upd_ne (ne_of_none qd hD)]
      exact g3 d o qd
    · rw [e3, List.take_add_one, snoc_int']
      unfold aft
      rw [List.getElem?_map, hz]
      rfl
  · rintro zs H3 ⟨g3, h3, e3⟩
    refine ⟨D, _, rfl, .inl ⟨SqL.of h3, fun t ht => q t _ (g3.free ht) (g3.trans (same_new ht _)) ?_⟩⟩
    show upd H3 t (.tup zs) t = _
    rw [upd_same, e3, List.length_map, List.take_of_length_le (by rw [al]; omega)]
end
def ixOf (x : Int) : List Int → Nat
  | [] => 0
  | y :: r => if y = x then 0 else ixOf x r + 1
theorem ixOf_get {x : Int} : ∀ {l : List Int}, x ∈ l → l[ixOf x l]? = some x ∧ ∀ m, m < ixOf x l → l[m]? ≠ some x
  | [], h => by cases h
  | y :: r, h => by
    unfold ixOf
    by_cases e : y = x
    · rw [if_pos e]
      exact ⟨by rw [e]; rfl, fun m hm => absurd hm (Nat.not_lt_zero _)⟩
    · rw [if_neg e]
      have hx : x ∈ r := (List.mem_cons.mp h).resolve_left fun z => e z.symm
      obtain ⟨h1, h2⟩ := ixOf_get hx
      refine ⟨by rw [List.getElem?_cons_succ]; exact h1, fun m hm => ?_⟩
      cases m with
      | zero => exact fun z => e (Option.some.inj z)
      | succ m => rw [List.getElem?_cons_succ]; exact h2 m (by omega)
theorem ixOf_uniq {l : List Int} (nd : l.Nodup) {k : Nat} {x : Int} (h : l[k]? = some x) : ixOf x l = k := by
  obtain ⟨h1, h2⟩ := ixOf_get (List.mem_of_getElem? h)
  have hk : k < l.length := (List.getElem?_eq_some_iff.mp h).1
  exact (List.getElem?_inj (by rcases List.getElem?_eq_some_iff.mp h1 with ⟨z, _⟩; exact z) nd).mp (h1.trans h.symm)
def inv (xs : List Int) : List Int := (upto xs.length).map fun i => (ixOf i xs : Int)
theorem inv_length (xs : List Int) : (inv xs).length = xs.length := by unfold inv; rw [List.length_map, upto_length]
theorem inv_get {xs : List Int} {i : Nat} (h : i < xs.length) : (inv xs)[i]? = some (ixOf (i : Int) xs : Int) := by
  unfold inv
  rw [List.getElem?_map, upto_get h]
  rfl
theorem full_nodup {xs : List Int} (h : full xs = true) : xs.Nodup := (full_perm h).nodup_iff.mpr (Orb.upto_nodup _)
theorem full_mem {xs : List Int} (h : full xs = true) {i : Nat} (hi : i < xs.length) : (i : Int) ∈ xs := (full_perm h).symm.subset (List.mem_of_getElem? (upto_get hi))
theorem inv_full {xs : List Int} (h : full xs = true) : full (inv xs) = true := by
  have p : (xs.map fun i => (ixOf i xs : Int)).Perm (inv xs) := (full_perm h).map _
  have e : xs.map (fun i => (ixOf i xs : Int)) = upto xs.length := by
    refine List.ext_getElem? fun i => ?_
    rw [List.getElem?_map]
    by_cases hi : i < xs.length
    · rw [upto_get hi, List.getElem?_eq_getElem hi]
      show some (ixOf xs[i] xs : Int) = some (i : Int)
      rw [ixOf_uniq (full_nodup h) (List.getElem?_eq_getElem hi)]
    · rw [List.getElem?_eq_none (by omega), List.getElem?_eq_none (by rw [upto_length]; omega)]
      rfl
  rw [e] at p
  exact full_of p.symm
theorem inv_inv {xs : List Int} (h : full xs = true) : inv (inv xs) = xs := by
  refine List.ext_getElem? fun i => ?_
  by_cases hi : i < xs.length
  · rw [inv_get (by rw [inv_length]; exact hi), List.getElem?_eq_getElem hi]
    have b := full_in h (List.getElem_mem hi)
    have hk : (xs[i]).toNat < xs.length := by omega
    have e : ((xs[i].toNat : Nat) : Int) = xs[i] := by omega
    have g : (inv xs)[(xs[i]).toNat]? = some (i : Int) := by rw [inv_get hk, e, ixOf_uniq (full_nodup h) (List.getElem?_eq_getElem hi)]
    rw [ixOf_uniq (full_nodup (inv_full h)) g, e]
  · rw [List.getElem?_eq_none (by rw [inv_length, inv_length]; omega), List.getElem?_eq_none (by omega)]
theorem inv_take {xs : List Int} {i : Nat} (hi : i < xs.length) : (inv xs).take (i + 1) = (inv xs).take i ++ [(ixOf (i : Int) xs : Int)] := by
  rw [List.take_add_one, inv_get hi]
  rfl
def spTb : Sp := fun vs H Q _ => ∃ (a : Addr) (xs : List Int), vs = [.ref a] ∧ H a = some (.tup (xs.map V.int)) ∧ xs.length < 64 ∧ full xs = true ∧
  ∀ (t : Addr) (H' : Hp), H t = none → Same H H' → H' t = some (.tup ((inv xs).map V.int)) → Q (.ref t) H'
section
variable {P : Program} {w : World} {K : PySem.W.Frag} {mg : Str → Option Value} {base : Heap} {f : Addr} {fd : FuncData}
theorem sc_turned_back : FnScope ["turn"] ["turn"] (defScope s_turned_back) := ⟨rfl, rfl, rfl, by decide +kernel, rfl, by decide +kernel, by decide +kernel⟩
theorem ok_turned_back (F : Fun K "turned_back" "turned_back" s_turned_back f fd) (bl : Bl mg) : FnOk P w K mg base CX0 1 f fd ["turn"] spTb := by
  refine F.ok sc_turned_back (fun vs H Q E h => ?_) (fun cdv A outer s H1 vs Q E hr h => ?_)
  · obtain ⟨a, xs, rfl, _⟩ := h
    rfl
  obtain ⟨a, xs, rfl, hA, lx, fx, q⟩ := h
  refine ⟨_, (pss_one (ps_ret (pe_callTy (call_tuple_of) rfl bl.n_tuple bt_tuple (pa_cons (pe_comp (x := "section") (fr := [("turn", 0)]) (cl := [("turn", s.heap.objs.size + 1)]) rfl ⟨by with_unfolding_all rfl, ⟨rfl, trivial⟩, rfl, by decide +kernel, rfl, by decide +kernel, rfl, ⟨⟨rfl, .inl rfl, .inl rfl, rfl⟩, trivial⟩, by decide +kernel⟩ (pi_range1 rfl bl.n_range (pa_cons (pe_callB (lenK (K := K) rfl) rfl bl.n_len bt_len (pa_cons (pv 0) pa_nil)) pa_nil)) (fun _ _ _ _ => ptl_nil) (fun _ _ _ _ => (pe_tupindex (pv 1) (pa_cons (pv 0) pa_nil)))) pa_nil)))), ?_⟩
  have el : (xs.map V.int).length = xs.length := List.length_map _
  refine ⟨_, rfl, a, _, rfl, .inr (SqT.of hA), _, rfl, by rw [el]; omega, by rw [el]; omega, fun D hD => comp_range (lo := 0) (n := (((xs.map V.int).length : Nat) : Int).toNat)
      (fun i zs H2 => Same H1 H2 ∧ H2 D = some (.lst zs) ∧ zs = ((inv xs).take i).map V.int) ⟨same_new hD _, upd_same, rfl⟩ ?_ ?_⟩
  · rintro i zs H2 hi ⟨g2, h2, e2⟩
    rw [Int.toNat_natCast, el] at hi
    rw [Int.zero_add]
    have hx := ixOf_get (full_mem fx hi)
    have h2A := g2 _ _ hA
    refine yesT (iteT ⟨_, rfl, a, xs, rfl, h2A, _, rfl, (i : Int), ixOf (i : Int) xs, rfl, h2A, hx.1, hx.2, h2, ?_, fun d o qd => ?_, upd_same, ?_⟩)
    · rw [e2, List.length_map, List.length_take, inv_length]
      exact small1000 (by omega)
    · rw [upd_ne (ne_of_none qd hD)]
      exact g2 d o qd
    · rw [e2, inv_take hi, List.map_append]
      rfl
  · rintro zs H2 ⟨g2, h2, e2⟩
    refine ⟨D, _, rfl, .inl ⟨SqL.of h2, fun t ht => q t _ (g2.free ht) (g2.trans (same_new ht _)) ?_⟩⟩
    rw [upd_same, e2, Int.toNat_natCast, el, List.take_of_length_le (by rw [inv_length]; omega)]
end
def spStill : Sp := fun vs H Q _ => ∃ n : Nat, vs = [.int (n : Int)] ∧ n ≤ 1000 ∧ ∀ (t : Addr) (H' : Hp), H t = none → Same H H' → H' t = some (.tup ((upto n).map V.int)) → Q (.ref t) H'
section
variable {P : Program} {w : World} {K : PySem.W.Frag} {mg : Str → Option Value} {base : Heap} {f c : Addr} {fd : FuncData}
theorem sc_still : FnScope ["size"] ["size"] (defScope s_still) := ⟨rfl, rfl, rfl, by decide +kernel, rfl, by decide +kernel, by decide +kernel⟩
theorem ok_still (F : Fun K "still" "still" s_still f fd) (bl : Bl mg) : FnOk P w K mg base CX0 1 f fd ["size"] spStill := by
  refine F.ok sc_still (fun vs H Q E h => ?_) (fun cdv A outer s H vs Q E hr h => ?_)
  · obtain ⟨n, rfl, _⟩ := h
    rfl
  obtain ⟨n, rfl, hn, q⟩ := h
  refine ⟨_, (pss_one (ps_ret (pe_callTy (call_tuple_rng rfl) rfl bl.n_tuple bt_tuple (pa_cons (pe_callTy call_range1 rfl bl.n_range bt_range (pa_cons (pv 0) pa_nil)) pa_nil)))), ?_⟩
  exact ⟨_, rfl, _, rfl, fun r hr' => ⟨r, n, rfl, upd_same, hn, fun t ht => q t _ ((same_new hr' _).free ht) ((same_new hr' _).trans (same_new ht _)) upd_same⟩⟩
end
structure JS where
  hd : List Nat
  ld : List (List Int)
  mem : List (Nat × List Nat)
  fr : List (Nat × List Int)
structure JL where
  J : Addr
  ha : Addr
  la : Addr
  md : Addr
  fd : Addr
  las : List Addr
  mas : List Addr
  fas : List Addr
def JL.fp (l : JL) : List Addr := l.J :: l.ha :: l.la :: l.md :: l.fd :: l.mas
abbrev JF (n : Nat) (ha la md fd : Addr) : List (Str × V) := [("size", .int (n : Int)), ("heads", .ref ha), ("leads", .ref la), ("members", .ref md), ("free", .ref fd)]
theorem jf5 (a b c d e : V) : putF "free" e (putF "members" d (putF "leads" c (putF "heads" b (putF "size" a [])))) = ([("size", a), ("heads", b), ("leads", c), ("members", d), ("free", e)] : List (Str × V)) := rfl
abbrev nsV (is : List Nat) : List V := is.map fun i : Nat => V.int (i : Int)
def dictN (ks : List Nat) (as : List Addr) : List (Key × V) := (ks.zip as).map fun p => (.inl (p.1 : Int), .ref p.2)
structure JAt (H : Hp) (C : Addr) (n : Nat) (l : JL) (st : JS) : Prop where
  obj : ∃ dx, H l.J = some (.ins C dx (JF n l.ha l.la l.md l.fd))
  heads : H l.ha = some (.lst (nsV st.hd))
  leads : H l.la = some (.lst (l.las.map V.ref))
  lead : Paired (fun a xs => H a = some (.tup (xs.map V.int))) l.las st.ld
  mems : H l.md = some (.dK (dictN (st.mem.map (·.1)) l.mas))
  mem : Paired (fun a p => H a = some (.lst (nsV p.2))) l.mas st.mem
  frees : H l.fd = some (.dK (dictN (st.fr.map (·.1)) l.fas))
  free : Paired (fun a p => H a = some (.lst (p.2.map V.int))) l.fas st.fr
  nd : l.fp.Nodup
  out : ∀ a ∈ l.fas, a ∉ l.fp
theorem JAt.same {H H' : Hp} {C : Addr} {n : Nat} {l : JL} {st : JS} (g : Same H H') (a : JAt H C n l st) : JAt H' C n l st :=
  ⟨let ⟨dx, h⟩ := a.obj; ⟨dx, g _ _ h⟩, g _ _ a.heads, g _ _ a.leads, L2.Paired.mapP a.lead fun _ _ h => g _ _ h, g _ _ a.mems, L2.Paired.mapP a.mem fun _ _ h => g _ _ h, g _ _ a.frees, L2.Paired.mapP a.free fun _ _ h => g _ _ h, a.nd, a.out⟩
theorem paired_mem {α β : Type} {F : α → β → Prop} : ∀ {xs : List α} {ys : List β} {x : α}, Paired F xs ys → x ∈ xs → ∃ y, F x y := by
  intro xs ys x p
  induction p with
  | nil => intro h; cases h
  | cons f t ih =>
    intro h
    rcases List.mem_cons.mp h with rfl | h
    · exact ⟨_, f⟩
    · exact ih h
theorem JAt.ne {H : Hp} {C p : Addr} {n : Nat} {l : JL} {st : JS} (a : JAt H C n l st) (h : H p = none) : p ∉ l.fp := by
  intro z
  unfold JL.fp at z
  simp only [List.mem_cons] at z
  rcases z with rfl | rfl | rfl | rfl | rfl | z
  · obtain ⟨dx, e⟩ := a.obj
    rw [e] at h; cases h
  · rw [a.heads] at h; cases h
  · rw [a.leads] at h; cases h
  · rw [a.mems] at h; cases h
  · rw [a.frees] at h; cases h
  · obtain ⟨y, e⟩ := paired_mem a.mem z
    rw [e] at h; cases h
theorem valV_dict {α : Type} {H : Hp} {f : α → HO} : ∀ {as : List Addr} {ps : List (Nat × α)} {k : Nat} {v : α}, Paired (fun a p => H a = some (f p.2)) as ps → ps.lookup k = some v → ∃ a, a ∈ as ∧ valV (dictN (ps.map (·.1)) as) (.inl (k : Int)) = some (.ref a) ∧ H a = some (f v) := by
  intro as ps k v pr
  induction pr with
  | nil => intro h; simp at h
  | @cons a p as ps e t ih =>
    intro h
    have e0 : dictN ((p :: ps).map (·.1)) (a :: as) = (Sum.inl (p.1 : Int), V.ref a) :: dictN (ps.map (·.1)) as := rfl
    rw [List.lookup_cons] at h
    by_cases ek : k = p.1
    · have eb : (k == p.1) = true := beq_iff_eq.mpr ek
      rw [eb] at h
      have ev : p.2 = v := Option.some.inj h
      refine ⟨a, List.mem_cons_self, ?_, by rw [← ev]; exact e⟩
      rw [e0]
      exact valV_pos (p := ((Sum.inl (p.1 : Int) : Key), V.ref a)) (by rw [ek])
    · have eb : (k == p.1) = false := beq_eq_false_iff_ne.mpr ek
      rw [eb] at h
      obtain ⟨b, hb, q, w⟩ := ih h
      refine ⟨b, List.mem_cons_of_mem _ hb, ?_, w⟩
      rw [e0, valV_neg (p := ((Sum.inl (p.1 : Int) : Key), V.ref a)) (fun z => ek (by have := Sum.inl.inj z; omega))]
      exact q
theorem nat_head {q k : Nat} {ks : List Nat} {v : V} (z : ((Sum.inl (q : Int) : Key), v).1 = .inl (k : Int)) : k ∈ q :: ks := by
  have e1 := Sum.inl.inj z
  have e : k = q := by omega
  rw [e]
  exact List.mem_cons_self
theorem valV_none : ∀ {as : List Addr} {ks : List Nat} {k : Nat}, k ∉ ks → valV (dictN ks as) (.inl (k : Int)) = none
  | [], ks, k, _ => by unfold dictN; rw [List.zip_nil_right]; rfl
  | a :: as, [], k, _ => rfl
  | a :: as, q :: ks, k, h => by
    have e0 : dictN (q :: ks) (a :: as) = (Sum.inl (q : Int), V.ref a) :: dictN ks as := rfl
    rw [e0, valV_neg (p := ((Sum.inl (q : Int) : Key), V.ref a)) (fun z => h (nat_head z))]
    exact valV_none fun z => h (List.mem_cons_of_mem _ z)
theorem dictN_snoc : ∀ {ks : List Nat} {as : List Addr} (k : Nat) (a : Addr), ks.length = as.length → dictN ks as ++ [(.inl (k : Int), .ref a)] = dictN (ks ++ [k]) (as ++ [a])
  | [], [], _, _, _ => rfl
  | q :: ks, b :: as, k, a, h => by
    have e0 : dictN (q :: ks) (b :: as) = (Sum.inl (q : Int), V.ref b) :: dictN ks as := rfl
    have ih := dictN_snoc (ks := ks) (as := as) k a (by simpa using h)
    rw [e0, List.cons_append, ih]
    rfl
  | [], _ :: _, _, _, h => by simp at h
  | _ :: _, [], _, _, h => by simp at h
structure JoinsC (K : PySem.W.Frag) (C : Addr) : Prop where
  cls : Cls K C
  n_size : NoAttr K C "size"
  n_heads : NoAttr K C "heads"
  n_leads : NoAttr K C "leads"
  n_members : NoAttr K C "members"
  n_free : NoAttr K C "free"
def JS.more (n : Nat) (st : JS) : JS := ⟨st.hd ++ [st.hd.length], st.ld ++ [upto n], st.mem ++ [(st.hd.length, [st.hd.length])], st.fr ++ [(st.hd.length, upto n)]⟩
inductive IspJInit (C : Addr) (vs : List V) (H : Hp) (Q : VK) : Prop
  | mk (x dx : Addr) (n : Nat) (h0_ : vs = [.ref x, .int (n : Int)]) (h1_ : H x = some (.ins C dx [])) (h2_ : ∀ (l : JL) (H' : Hp), l.J = x → l.mas = [] → (∀ b ∈ l.fp, b ≠ x → H b = none) → Bar x H H' → JAt H' C n l ⟨[], [], [], []⟩ → Q .non H') : IspJInit C vs H Q
def spJInit (C : Addr) : Sp := fun vs H Q _ => IspJInit C vs H Q
inductive IspTogether (C : Addr) (vs : List V) (H : Hp) (Q : VK) : Prop
  | mk (l : JL) (st : JS) (n i j a b : Nat) (h0_ : vs = [.ref l.J, .int (i : Int), .int (j : Int)]) (h1_ : JAt H C n l st) (h2_ : st.hd[i]? = some a) (h3_ : st.hd[j]? = some b) (h4_ : Q (.bl (decide (a = b))) H) : IspTogether C vs H Q
def spTogether (C : Addr) : Sp := fun vs H Q _ => IspTogether C vs H Q
inductive IspOpenAt (C : Addr) (vs : List V) (H : Hp) (Q : VK) : Prop
  | mk (l : JL) (st : JS) (n i h : Nat) (t secs : List Int) (h0_ : vs = [.ref l.J, .int (i : Int)]) (h1_ : JAt H C n l st) (h2_ : st.hd[i]? = some h) (h3_ : st.ld[i]? = some t) (h4_ : st.fr.lookup h = some secs) (h5_ : (∀ z ∈ secs, 0 ≤ z ∧ z < t.length)) (h6_ : secs.length < 64) (h7_ : ∀ (p : Addr) (ns : List Int) (H' : Hp), H p = none → Same H H' → ns.Perm (secs.map fun z => t.getD z.toNat 0) → ns.Pairwise (· ≤ ·) → H' p = some (.lst (ns.map V.int)) → Q (.ref p) H') : IspOpenAt C vs H Q
def spOpenAt (C : Addr) : Sp := fun vs H Q _ => IspOpenAt C vs H Q
inductive IspAdd (C : Addr) (vs : List V) (H : Hp) (Q : VK) : Prop
  | mk (l : JL) (st : JS) (n : Nat) (h0_ : vs = [.ref l.J]) (h1_ : JAt H C n l st) (h2_ : n ≤ 1000) (h3_ : st.hd.length < 1000) (h4_ : st.mem.length ≤ st.hd.length) (h5_ : st.fr.length ≤ st.hd.length) (h6_ : st.ld.length = st.hd.length) (h7_ : st.hd.length ∉ st.mem.map (·.1)) (h8_ : st.hd.length ∉ st.fr.map (·.1)) (h9_ : ∀ (l' : JL) (H' : Hp), l'.J = l.J → Out l.fp H H' → (∀ b ∈ l'.fp, b ∈ l.fp ∨ H b = none) → JAt H' C n l' (st.more n) → Q (.int (st.hd.length : Int)) H') : IspAdd C vs H Q
def spAdd (C : Addr) : Sp := fun vs H Q _ => IspAdd C vs H Q
theorem nsV_get {is : List Nat} {i h : Nat} (e : is[i]? = some h) : atI (nsV is) (i : Int) = some (.int (h : Int)) := atI_nat (by rw [List.getElem?_map, e]; rfl)
section
variable {P : Program} {w : World} {K : PySem.W.Frag} {mg : Str → Option Value} {base : Heap} {f C : Addr} {fd : FuncData}
theorem sc_Joins_init : FnScope ["self", "size"] ["self", "size"] (defScope s_Joins_init) := ⟨rfl, rfl, rfl, by decide +kernel, rfl, by decide +kernel, by decide +kernel⟩
theorem ok_jinit (F : Fun K "__init__" "Joins.__init__" s_Joins_init f fd) (jc : JoinsC K C) (bl : Bl mg) : FnOk P w K mg base CX0 1 f fd ["self", "size"] (spJInit C) := by
  refine F.ok sc_Joins_init (fun vs H Q E h => ?_) (fun cdv A outer s H vs Q E hr h => ?_)
  · obtain ⟨x, dx, n, rfl, _⟩ := h
    rfl
  obtain ⟨x, dx, n, rfl, hx, q⟩ := h
  refine ⟨_, (pss_cons (ps_fldN (K := K) rfl (pv 0) (pv 1)) (pss_cons (ps_fldN (K := K) rfl (pv 0) (pe_lstN pa_nil)) (pss_cons (ps_fldN (K := K) rfl (pv 0) (pe_lstN pa_nil)) (pss_cons (ps_fldN (K := K) rfl (pv 0) pe_dnewKN) (pss_one (ps_fldN (K := K) rfl (pv 0) pe_dnewKN)))))), ?_⟩
  refine ⟨_, rfl, _, rfl, x, C, dx, [], rfl, hx, jc.cls, jc.n_size, by show 0 < 1000; omega, fun H1 b1 h1 => ?_⟩
  refine ⟨by show 0 ≤ sizeLine; exact Nat.zero_le _, fun ha H2 n2 g2 e2 => ⟨_, rfl, x, C, dx, _, rfl, g2 _ _ h1, jc.cls, jc.n_heads, by show 1 < 1000; omega, fun H3 b3 h3 => ?_⟩⟩
  refine ⟨by show 0 ≤ sizeLine; exact Nat.zero_le _, fun la H4 n4 g4 e4 => ⟨_, rfl, x, C, dx, _, rfl, g4 _ _ h3, jc.cls, jc.n_leads, by show 2 < 1000; omega, fun H5 b5 h5 => ?_⟩⟩
  refine fun md H6 n6 g6 e6 => ⟨_, rfl, x, C, dx, _, rfl, g6 _ _ h5, jc.cls, jc.n_members, by show 3 < 1000; omega, fun H7 b7 h7 => ?_⟩
  refine fun fe H8 n8 g8 e8 => ⟨_, rfl, x, C, dx, _, rfl, g8 _ _ h7, jc.cls, jc.n_free, by show 4 < 1000; omega, fun H9 b9 h9 => ?_⟩
  rw [jf5] at h9
  have k8 : Bar x H8 H9 := b9
  have k6 : Bar x H6 H9 := b7.trans ((Bar.of g8).trans k8)
  have k4 : Bar x H4 H9 := b5.trans ((Bar.of g6).trans k6)
  have k2 : Bar x H2 H9 := b3.trans ((Bar.of g4).trans k4)
  have k0 : Bar x H H9 := b1.trans ((Bar.of g2).trans k2)
  have d2 : ha ≠ x := fun z => by rw [z, h1] at n2; cases n2
  have d4 : la ≠ x := fun z => by rw [z, h3] at n4; cases n4
  have d6 : md ≠ x := fun z => by rw [z, h5] at n6; cases n6
  have d8 : fe ≠ x := fun z => by rw [z, h7] at n8; cases n8
  have i3 := b3 _ _ e2 d2
  have i5 := b5 _ _ (g4 _ _ i3) d2
  have i7 := b7 _ _ (g6 _ _ i5) d2
  have j5 := b5 _ _ e4 d4
  have j7 := b7 _ _ (g6 _ _ j5) d4
  have l7 := b7 _ _ e6 d6
  have a1 : ha ≠ la := fun z => by rw [← z, i3] at n4; cases n4
  have a2 : ha ≠ md := fun z => by rw [← z, i5] at n6; cases n6
  have a3 : ha ≠ fe := fun z => by rw [← z, i7] at n8; cases n8
  have a4 : la ≠ md := fun z => by rw [← z, j5] at n6; cases n6
  have a5 : la ≠ fe := fun z => by rw [← z, j7] at n8; cases n8
  have a6 : md ≠ fe := fun z => by rw [← z, l7] at n8; cases n8
  have fre : ∀ {b : Addr} {H' : Hp}, Bar x H H' → b ≠ x → H' b = none → H b = none := fun {b H'} k d n => by
    cases e : H b with
    | none => rfl
    | some o => rw [k b o e d] at n; cases n
  have t3 : Bar x H H3 := b1.trans ((Bar.of g2).trans b3)
  have t5 : Bar x H H5 := t3.trans ((Bar.of g4).trans b5)
  have t7 : Bar x H H7 := t5.trans ((Bar.of g6).trans b7)
  refine q ⟨x, ha, la, md, fe, [], [], []⟩ H9 rfl rfl (fun b hb nb => ?_) k0 ⟨⟨dx, h9⟩, k2 _ _ e2 d2, k4 _ _ e4 d4, .nil, k6 _ _ e6 d6, .nil, k8 _ _ e8 d8, .nil, ?_, fun a ha' => by cases ha'⟩
  · simp only [JL.fp, List.mem_cons, List.not_mem_nil, or_false] at hb
    rcases hb with rfl | rfl | rfl | rfl | rfl
    · exact absurd rfl nb
    · exact fre b1 d2 n2
    · exact fre t3 d4 n4
    · exact fre t5 d6 n6
    · exact fre t7 d8 n8
  · simp only [JL.fp, List.nodup_cons, List.mem_cons, List.not_mem_nil, or_false, not_or, not_false_eq_true, List.nodup_nil, and_true]
    exact ⟨⟨fun z => d2 z.symm, fun z => d4 z.symm, fun z => d6 z.symm, fun z => d8 z.symm⟩, ⟨a1, a2, a3⟩, ⟨a4, a5⟩, a6⟩
theorem sc_Joins_together : FnScope ["self", "one", "other"] ["self", "one", "other"] (defScope s_Joins_together) := ⟨rfl, rfl, rfl, by decide +kernel, rfl, by decide +kernel, by decide +kernel⟩
theorem ok_together (F : Fun K "together" "Joins.together" s_Joins_together f fd) (jc : JoinsC K C) (bl : Bl mg) : FnOk P w K mg base CX0 1 f fd ["self", "one", "other"] (spTogether C) := by
  refine F.ok sc_Joins_together (fun vs H Q E h => ?_) (fun cdv A outer s H vs Q E hr h => ?_)
  · obtain ⟨l, st, n, i, j, a, b, rfl, _⟩ := h
    rfl
  obtain ⟨l, st, n, i, j, a, b, rfl, ja, hi, hj, q⟩ := h
  refine ⟨_, (pss_one (ps_ret (pe_cmpR op_eq (pe_ix (ix_listK (K := K) rfl) (pe_fldK (K := K) rfl (pv 0) rfl) (pv 1) (fun _ _ => rfl)) (pe_ix (ix_listK (K := K) rfl) (pe_fldK (K := K) rfl (pv 0) rfl) (pv 2) (fun _ _ => rfl)) (nomark _)))), ?_⟩
  obtain ⟨dx, ho⟩ := ja.obj
  have q' : Q (.bl (decide (V.int (a : Int) = V.int (b : Int)))) H := by
    have e : decide (V.int (a : Int) = V.int (b : Int)) = decide (a = b) := by
      rw [Bool.eq_iff_iff, decide_eq_true_iff, decide_eq_true_iff]
      exact ⟨fun z => by have := V.int.inj z; omega, fun z => by rw [z]⟩
    rw [e]
    exact q
  exact ⟨_, rfl, l.J, C, dx, _, _, rfl, ho, jc.cls, jc.n_heads, rfl, _, rfl, l.ha, _, _, _, rfl, rfl, SqL.of ja.heads, nsV_get hi, _, rfl, l.J, C, dx, _, _, rfl, ho, jc.cls, jc.n_heads, rfl, _, rfl, l.ha, _, _, _, rfl, rfl, SqL.of ja.heads, nsV_get hj, rfl, q'⟩
end
theorem ne_kind {H : Hp} {a b : Addr} {o o' : HO} (h : H a = some o) (h' : H b = some o') (ne : o ≠ o') : a ≠ b := fun z => by
  rw [z, h'] at h
  exact ne (Option.some.inj h).symm
theorem nsV_snoc (is : List Nat) (k : Nat) : nsV (is ++ [k]) = nsV is ++ [.int (k : Int)] := List.map_append
theorem ne_of_none' {H : Hp} {a b : Addr} {o : HO} (h : H a = some o) (h' : H b = none) : b ≠ a := fun z => by
  rw [z, h] at h'
  cases h'
theorem paired_snoc {α β : Type} {F : α → β → Prop} {x : α} {y : β} (f : F x y) : ∀ {xs : List α} {ys : List β}, Paired F xs ys → Paired F (xs ++ [x]) (ys ++ [y])
  | _, _, .nil => .cons f .nil
  | _, _, .cons g t => .cons g (paired_snoc f t)
theorem paired_in {α β : Type} {F : α → β → Prop} : ∀ {xs : List α} {ys : List β}, Paired F xs ys → Paired (fun a b => F a b ∧ a ∈ xs) xs ys
  | _, _, .nil => .nil
  | _, _, .cons g t => .cons ⟨g, List.mem_cons_self⟩ (L2.Paired.mapP (paired_in t) fun _ _ h => ⟨h.1, List.mem_cons_of_mem _ h.2⟩)
theorem dget_i {H : Hp} {a : Addr} {kvs : List (Key × V)} {k : Nat} {o : Option V} (h : H a = some (.dK kvs)) (e : valV kvs (.inl (k : Int)) = o) : DGet H a (.int (k : Int)) o := .inl ⟨kvs, .inl (k : Int), .inl h, rfl, e.symm⟩
section
variable {P : Program} {w : World} {K : PySem.W.Frag} {mg : Str → Option Value} {base : Heap} {f C : Addr} {fd : FuncData}
theorem sc_Joins_open_at : FnScope ["self", "one", "lead"] ["self", "one"] (defScope s_Joins_open_at) := ⟨rfl, rfl, rfl, by decide +kernel, rfl, by decide +kernel, by decide +kernel⟩
theorem ok_open_at (F : Fun K "open_at" "Joins.open_at" s_Joins_open_at f fd) (jc : JoinsC K C) (bl : Bl mg) : FnOk P w K mg base CX0 2 f fd ["self", "one"] (spOpenAt C) := by
  refine F.ok sc_Joins_open_at (fun vs H Q E h => ?_) (fun cdv A outer s H vs Q E hr h => ?_)
  · obtain ⟨l, st, n, i, h, t, secs, rfl, _⟩ := h
    rfl
  obtain ⟨l, st, n, i, h, t, secs, rfl, ja, hi, ht, hf, hin, h64, q⟩ := h
  refine ⟨_, (pss_cons (ps_set (i := 2) sc_Joins_open_at.nd rfl (Or.inr rfl) (pe_ix (ix_listK (K := K) rfl) (pe_fldK (K := K) rfl (pv 0) rfl) (pv 1) (fun _ _ => rfl))) (pss_one (ps_ret (pe_callB (sortedKN (K := K) rfl) rfl bl.n_sorted bt_sorted (pa_cons (pe_comp (x := "section") (fr := [("lead", 2)]) (cl := [("lead", s.heap.objs.size + 1)]) rfl ⟨by with_unfolding_all rfl, ⟨rfl, trivial⟩, rfl, by decide +kernel, rfl, by decide +kernel, rfl, ⟨⟨rfl, .inl rfl, .inl rfl, rfl⟩, trivial⟩, by decide +kernel⟩ (pi_listK (K := K) rfl (pe_dget (hu_of hr) (pe_fldK (K := K) rfl (pv 0) rfl) (pe_ix (ix_listK (K := K) rfl) (pe_fldK (K := K) rfl (pv 0) rfl) (pv 1) (fun _ _ => rfl)) (fun _ _ => rfl))) (fun _ _ _ _ => ptl_nil) (fun _ _ _ _ => (pe_ix (ix_tupK (K := K) rfl) (pv 1) (pv 0) (fun _ _ => rfl)))) pa_nil))))), ?_⟩
  obtain ⟨dx, ho⟩ := ja.obj
  obtain ⟨fa, mfa, vf, hfa⟩ := valV_dict (f := fun v : List Int => HO.lst (v.map V.int)) ja.free hf
  obtain ⟨ta, eta, hta⟩ : ∃ ta, l.las[i]? = some ta ∧ H ta = some (.tup (t.map V.int)) := by
    have hl := paired_len ja.lead
    have hil : i < l.las.length := by rw [hl]; exact (List.getElem?_eq_some_iff.mp ht).1
    obtain ⟨y, ey, hy⟩ := paired_get ja.lead (List.getElem?_eq_getElem hil)
    rw [ht] at ey
    cases ey
    exact ⟨_, List.getElem?_eq_getElem hil, hy⟩
  have atl : atI (l.las.map V.ref) (i : Int) = some (.ref ta) := atI_nat (by rw [List.getElem?_map, eta]; rfl)
  refine setT ?_
  refine ⟨_, rfl, l.J, C, dx, _, _, rfl, ho, jc.cls, jc.n_leads, rfl, _, rfl, l.la, _, _, _, rfl, rfl, SqL.of ja.leads, atl, ?_⟩
  refine ⟨_, rfl, l.J, C, dx, _, _, rfl, ho, jc.cls, jc.n_free, rfl, _, rfl, l.J, C, dx, _, _, rfl, ho, jc.cls, jc.n_heads, rfl, _, rfl, l.ha, _, _, _, rfl, rfl, SqL.of ja.heads, nsV_get hi, l.fd, _, rfl, dget_i ja.frees vf, fa, rfl, ⟨_, SqL.of hfa⟩, fun D hD => comp_listM (xs := secs.map V.int) (SqL.of hfa) (by rw [List.length_map]; omega) hD (fun v => match v with | .int z => .int (t.getD z.toNat 0) | _ => .non) (fun j v hj H1 g1 Kt k => ?_) fun H1 g1 h1 => ?_⟩
  · obtain ⟨z, rfl, hz⟩ := get_int hj
    have bz := hin z (List.mem_of_getElem? hz)
    exact ⟨_, rfl, _, rfl, ta, _, _, _, rfl, rfl, SqT.of (g1 _ _ hta), atI_in bz.1 bz.2, k H1 (Same.refl _)⟩
  · have hy : H1 D = some (.lst ((secs.map fun z => t.getD z.toNat 0).map V.int)) := by
      rw [h1, List.map_map, List.map_map]
      rfl
    exact ⟨D, _, rfl, .inl (SqL.of hy), by rw [List.length_map]; exact h64, fun ns' pm so p H2 np g2 h2 => q p ns' H2 (g1.free np) (g1.trans g2) pm so h2⟩
theorem sc_Joins_add : FnScope ["self", "number"] ["self"] (defScope s_Joins_add) := ⟨rfl, rfl, rfl, by decide +kernel, rfl, by decide +kernel, by decide +kernel⟩
theorem ok_add (F : Fun K "add" "Joins.add" s_Joins_add f fd) (jc : JoinsC K C) (h_still : HasFn P w K mg base 1 "still" ["size"] spStill) (bl : Bl mg) : FnOk P w K mg base CX0 2 f fd ["self"] (spAdd C) := by
  refine F.ok sc_Joins_add (fun vs H Q E h => ?_) (fun cdv A outer s H vs Q E hr h => ?_)
  · obtain ⟨l, st, n, rfl, _⟩ := h
    rfl
  obtain ⟨l, st, n, rfl, ja, hn, lh, lm, lf, ll, nm, nf, q⟩ := h
  refine ⟨_, (pss_cons (ps_set (i := 1) sc_Joins_add.nd rfl (Or.inl rfl) (pe_callB (lenK (K := K) rfl) rfl bl.n_len bt_len (pa_cons (pe_fldK (K := K) rfl (pv 0) rfl) pa_nil))) (pss_cons (ps_expr (pe_bmK (K := K) rfl (pe_bm PySem.F.plainAttrs_list PySem.F.slot_list_append PySem.F.type_list_append mt_appendN (pe_fldK (K := K) rfl (pv 0) rfl) (pa_cons (pv 1) pa_nil)))) (pss_cons (ps_expr (pe_bmK (K := K) rfl (pe_bm PySem.F.plainAttrs_list PySem.F.slot_list_append PySem.F.type_list_append mt_appendN (pe_fldK (K := K) rfl (pv 0) rfl) (pa_cons (pe_fn h_still hr (by omega) rfl (pa_cons (pe_fldK (K := K) rfl (pv 0) rfl) pa_nil)) pa_nil)))) (pss_cons (ps_dputN (hu_of hr) (pe_fldK (K := K) rfl (pv 0) rfl) (pv 1) (pe_lstN (pa_cons (pv 1) pa_nil))) (pss_cons (ps_dputN (hu_of hr) (pe_fldK (K := K) rfl (pv 0) rfl) (pv 1) (pe_callTy (call_list_rngN rfl) rfl bl.n_list bt_list (pa_cons (pe_callTy call_range1N rfl bl.n_range bt_range (pa_cons (pe_fldK (K := K) rfl (pv 0) rfl) pa_nil)) pa_nil))) (pss_one (ps_ret (pv 1)))))))), ?_⟩
  have sz : (10000 : Nat) ≤ sizeLine := by rw [sizeLine_eq]; omega
  obtain ⟨dx, ho⟩ := ja.obj
  have hl : (nsV st.hd).length = st.hd.length := List.length_map _
  have pl1 := paired_len ja.lead
  have pl2 := paired_len ja.mem
  have pl3 := paired_len ja.free
  have nd := ja.nd
  simp only [JL.fp, List.nodup_cons, List.mem_cons, not_or] at nd
  obtain ⟨⟨x1, x2, x3, x4, x5⟩, ⟨y1, y2, y3, y4⟩, ⟨z1, z2, z3⟩, ⟨w1, w2⟩, v1, v2⟩ := nd
  have dl : ∀ {ks : List Nat} {as : List Addr}, (dictN ks as).length ≤ as.length := fun {ks as} => by unfold dictN; rw [List.length_map, List.length_zip]; exact Nat.min_le_right _ _
  refine setT ?_
  refine ⟨_, rfl, l.J, C, dx, _, _, rfl, ho, jc.cls, jc.n_heads, rfl, l.ha, _, rfl, .inl (SqL.of ja.heads), ?_⟩
  rw [hl]
  refine ⟨_, rfl, l.J, C, dx, _, _, rfl, ho, jc.cls, jc.n_heads, rfl, .inl ⟨rfl, _, SqL.of ja.heads⟩, _, rfl, l.ha, _, _, rfl, rfl, ja.heads, by rw [hl]; omega, fun H1 b1 e1 => ?_⟩
  have o1 := b1 _ _ ho x1
  have l1 := b1 _ _ ja.leads (fun z => y1 z.symm)
  refine ⟨_, rfl, l.J, C, dx, _, _, rfl, o1, jc.cls, jc.n_leads, rfl, .inl ⟨rfl, _, SqL.of l1⟩, _, rfl, l.J, C, dx, _, _, rfl, o1, jc.cls, jc.n_size, rfl, n, rfl, hn, fun t H2 nt g2 ht => ?_⟩
  refine ⟨l.la, _, _, rfl, rfl, g2 _ _ l1, by rw [List.length_map]; omega, fun H3 b3 e3 => ?_⟩
  have o3 := b3 _ _ (g2 _ _ o1) x2
  have m3 := b3 _ _ (g2 _ _ (b1 _ _ ja.mems (fun z => y2 z.symm))) (fun z => z1 z.symm)
  refine ⟨_, rfl, by show 1 ≤ sizeLine; omega, fun m H4 nm4 g4 em => ?_⟩
  have o4 := g4 _ _ o3
  refine ⟨_, rfl, l.J, C, dx, _, _, rfl, o4, jc.cls, jc.n_members, rfl, _, rfl, l.md, _, .inl (st.hd.length : Int), rfl, g4 _ _ m3, rfl, ?_, fun H5 b5 e5 => ?_⟩
  · have := dl (ks := st.mem.map (·.1)) (as := l.mas)
    omega
  have o5 := b5 _ _ o4 x3
  refine ⟨_, rfl, l.J, C, dx, _, _, rfl, o5, jc.cls, jc.n_size, rfl, (n : Int), rfl, fun r H6 nr g6 er => ⟨r, n, rfl, er, hn, fun fa H7 nfa g7 ef => ?_⟩⟩
  have g67 := g6.trans g7
  have f5 := b5 _ _ (g4 _ _ (b3 _ _ (g2 _ _ (b1 _ _ ja.frees (fun z => y3 z.symm))) (fun z => z2 z.symm))) (fun z => w1 z.symm)
  refine ⟨_, rfl, l.J, C, dx, _, _, rfl, g67 _ _ o5, jc.cls, jc.n_free, rfl, _, rfl, l.fd, _, .inl (st.hd.length : Int), rfl, g67 _ _ f5, rfl, ?_, fun H8 b8 e8 => ?_⟩
  · have := dl (ks := st.fr.map (·.1)) (as := l.fas)
    omega
  have keep : ∀ b o, H b = some o → b ≠ l.ha → b ≠ l.la → b ≠ l.md → b ≠ l.fd → H8 b = some o := fun b o e n1 n2 n3 n4 => b8 _ _ (g67 _ _ (b5 _ _ (g4 _ _ (b3 _ _ (g2 _ _ (b1 _ _ e n1)) n2)) n3)) n4
  rw [putK_new _ (valV_none nm), dictN_snoc _ _ (by rw [List.length_map]; omega)] at e5
  rw [putK_new _ (valV_none nf), dictN_snoc _ _ (by rw [List.length_map]; omega)] at e8
  have hm0 : H m = none := by
    cases e : H m with
    | none => rfl
    | some o =>
      have hm1 : m ≠ l.ha := fun z => by rw [z, b3 _ _ (g2 _ _ e1) y1] at nm4; cases nm4
      have hm2 : m ≠ l.la := fun z => by rw [z, e3] at nm4; cases nm4
      rw [b3 _ _ (g2 _ _ (b1 _ _ e hm1)) hm2] at nm4
      cases nm4
  have en := ja.ne hm0
  have hf0 : fa ∉ l.fp ∧ fa ≠ m := by
    have e6 : H6 fa = none := nfa
    have h5 : ∀ b o, H b = some o → b ≠ l.ha → b ≠ l.la → b ≠ l.md → H6 b = some o := fun b o e n1 n2 n3 => g6 _ _ (b5 _ _ (g4 _ _ (b3 _ _ (g2 _ _ (b1 _ _ e n1)) n2)) n3)
    have f1 : H6 l.ha = some _ := g6 _ _ (b5 _ _ (g4 _ _ (b3 _ _ (g2 _ _ e1) y1)) y2)
    have f2 : H6 l.la = some _ := g6 _ _ (b5 _ _ (g4 _ _ e3) z1)
    have f3 : H6 l.md = some _ := g6 _ _ e5
    have f4 : H6 m = some _ := g6 _ _ (b5 _ _ em (fun z => en (by rw [z]; simp [JL.fp])))
    have f5' : H6 l.fd = some _ := g6 _ _ f5
    have f6 : H6 l.J = some _ := g6 _ _ o5
    refine ⟨fun z => ?_, ne_of_none' f4 e6⟩
    simp only [JL.fp, List.mem_cons] at z
    rcases z with z | z | z | z | z | z
    · exact ne_of_none' f6 e6 z
    · exact ne_of_none' f1 e6 z
    · exact ne_of_none' f2 e6 z
    · exact ne_of_none' f3 e6 z
    · exact ne_of_none' f5' e6 z
    · obtain ⟨y, ey⟩ := paired_mem ja.mem z
      refine ne_of_none' (h5 _ _ ey ?_ ?_ ?_) e6 rfl
      · exact fun q => y4 (by rw [← q]; exact z)
      · exact fun q => z3 (by rw [← q]; exact z)
      · exact fun q => w2 (by rw [← q]; exact z)
  have kt : ∀ a ∈ l.las, ∀ xs : List Int, H a = some (.tup (xs.map V.int)) → H8 a = some (.tup (xs.map V.int)) := fun a _ xs e => keep a _ e (ne_kind e ja.heads (fun z => by cases z)) (ne_kind e ja.leads (fun z => by cases z)) (ne_kind e ja.mems (fun z => by cases z)) (ne_kind e ja.frees (fun z => by cases z))
  have k8 : ∀ b o, H5 b = some o → b ≠ l.fd → H8 b = some o := fun b o e n => b8 _ _ (g67 _ _ e) n
  have nmd : m ≠ l.md := fun z => en (by rw [z]; simp [JL.fp])
  have nmf : m ≠ l.fd := fun z => en (by rw [z]; simp [JL.fp])
  have ntf : t ≠ l.fd := fun z => by
    have := b1 _ _ ja.frees (fun z => y3 z.symm)
    rw [← z, nt] at this
    cases this
  have ntl : t ≠ l.la := fun z => by rw [← z, nt] at l1; cases l1
  have ntm : t ≠ l.md := fun z => by
    have := b1 _ _ ja.mems (fun z => y2 z.symm)
    rw [← z, nt] at this
    cases this
  refine ⟨_, rfl, q ⟨l.J, l.ha, l.la, l.md, l.fd, l.las ++ [t], l.mas ++ [m], l.fas ++ [fa]⟩ H8 rfl (fun b o e nb => ?_) (fun b hb => ?_) ⟨⟨dx, k8 _ _ o5 x4⟩, ?_, ?_, ?_, ?_, ?_, ?_, ?_, ?_, ?_⟩⟩
  · simp only [JL.fp, List.mem_cons, not_or] at nb
    exact keep b o e nb.2.1 nb.2.2.1 nb.2.2.2.1 nb.2.2.2.2.1
  · simp only [JL.fp, List.mem_cons, List.mem_append, List.not_mem_nil, or_false] at hb ⊢
    rcases hb with h | h | h | h | h | h | h
    · exact .inl (.inl h)
    · exact .inl (.inr (.inl h))
    · exact .inl (.inr (.inr (.inl h)))
    · exact .inl (.inr (.inr (.inr (.inl h))))
    · exact .inl (.inr (.inr (.inr (.inr (.inl h)))))
    · exact .inl (.inr (.inr (.inr (.inr (.inr h)))))
    · rw [h]; exact .inr hm0
  · show H8 l.ha = some (.lst (nsV (st.hd ++ [st.hd.length])))
    rw [k8 _ _ (b5 _ _ (g4 _ _ (b3 _ _ (g2 _ _ e1) y1)) y2) y3, nsV_snoc]
  · show H8 l.la = some (.lst ((l.las ++ [t]).map V.ref))
    rw [k8 _ _ (b5 _ _ (g4 _ _ e3) z1) z2, List.map_append]
    rfl
  · exact paired_snoc (F := fun a (xs : List Int) => H8 a = some (.tup (xs.map V.int))) (k8 _ _ (b5 _ _ (g4 _ _ (b3 _ _ ht ntl)) ntm) ntf) (L2.Paired.mapP (paired_in ja.lead) fun a xs h => kt a h.2 xs h.1)
  · show H8 l.md = some (.dK (dictN ((st.mem ++ [(st.hd.length, [st.hd.length])]).map (·.1)) (l.mas ++ [m])))
    rw [k8 _ _ e5 w1, List.map_append]
    rfl
  · refine paired_snoc (F := fun a (p : Nat × List Nat) => H8 a = some (.lst (nsV p.2))) (k8 _ _ (b5 _ _ em nmd) nmf) (L2.Paired.mapP (paired_in ja.mem) fun a p h => keep a _ h.1 ?_ ?_ ?_ ?_)
    · exact fun z => y4 (by rw [← z]; exact h.2)
    · exact fun z => z3 (by rw [← z]; exact h.2)
    · exact fun z => w2 (by rw [← z]; exact h.2)
    · exact fun z => v1 (by rw [← z]; exact h.2)
  · show H8 l.fd = some (.dK (dictN ((st.fr ++ [(st.hd.length, upto n)]).map (·.1)) (l.fas ++ [fa])))
    rw [e8, List.map_append]
    rfl
  · have nfd : fa ≠ l.fd := fun z => hf0.1 (by rw [z]; simp [JL.fp])
    refine paired_snoc (F := fun a (p : Nat × List Int) => H8 a = some (.lst (p.2.map V.int))) (b8 _ _ ef nfd) (L2.Paired.mapP (paired_in ja.free) fun a p h => ?_)
    have no := ja.out a h.2
    simp only [JL.fp, List.mem_cons, not_or] at no
    exact keep a _ h.1 no.2.1 no.2.2.1 no.2.2.2.1 no.2.2.2.2.1
  · have nd := ja.nd
    have e0 : JL.fp ⟨l.J, l.ha, l.la, l.md, l.fd, l.las ++ [t], l.mas ++ [m], l.fas ++ [fa]⟩ = l.fp ++ [m] := rfl
    rw [e0, List.nodup_append]
    refine ⟨nd, by simp, fun a ha b hb => ?_⟩
    have eb : b = m := by simpa using hb
    intro z
    rw [z, eb] at ha
    exact en ha
  · intro a ha
    have e0 : JL.fp ⟨l.J, l.ha, l.la, l.md, l.fd, l.las ++ [t], l.mas ++ [m], l.fas ++ [fa]⟩ = l.fp ++ [m] := rfl
    rw [e0, List.mem_append]
    have ha' : a ∈ l.fas ++ [fa] := ha
    rcases List.mem_append.mp ha' with h | h
    · rintro (z | z)
      · exact ja.out a h z
      · have e : a = m := by simpa using z
        obtain ⟨y, ey⟩ := paired_mem ja.free h
        rw [e, hm0] at ey
        cases ey
    · have e : a = fa := by simpa using h
      rw [e]
      rintro (z | z)
      · exact hf0.1 z
      · exact hf0.2 (by simpa using z)
end
theorem comp_listI {K : PySem.W.Frag} {a : Addr} {ns : List Int} {tt : TT} {te : TE} {fv : St} {D : Addr} {H : Hp} {Q : VK} (hs : SqL K H a (ns.map V.int)) (hn : ns.length ≤ 1000) (hD : H D = none) (p : Int → Bool) (g : Int → V)
    (turn : ∀ z ∈ ns, ∀ H1, Same H H1 → ∀ (Kt : VK) (Kf : Hp → Prop), (p z = true → ∀ H3, Same H1 H3 → Kt (g z) H3) → (p z = false → ∀ H3, Same H1 H3 → Kf H3) → tt (some (.int z) :: fv) H1 fun c H2 => if c = true then te (some (.int z) :: fv) H2 Kt else Kf H2)
    (fin : ∀ H', Same H H' → H' D = some (.lst ((ns.filter p).map g)) → Q (.ref D) H') : CompW (Itl K a) tt te fv D H Q := by
  refine comp_list (xs := ns.map V.int) (fun i ys H1 => i ≤ ns.length ∧ Same H H1 ∧ H1 D = some (.lst ys) ∧ ys = ((ns.take i).filter p).map g) ⟨Nat.zero_le _, same_new hD _, upd_same, rfl⟩ (fun i ys H1 _ ⟨_, g1, _, _⟩ => g1.seq hs) ?_ ?_
  · rintro i v ys H1 hi ⟨_, g1, h1, e⟩
    obtain ⟨z, rfl, hz⟩ := get_int hi
    have hil : i < ns.length := (List.getElem?_eq_some_iff.mp hz).1
    have yl : ys.length < sizeLine := by
      have := List.length_filter_le p (ns.take i)
      rw [List.length_take] at this
      rw [e, List.length_map, sizeLine_eq]
      omega
    refine turn z (List.mem_of_getElem? hz) H1 g1 _ _ (fun pz H3 g3 => ⟨g3 _ _ h1, yl, hil, fun b o q => ?_, upd_same, ?_⟩) (fun pz H3 g3 => ⟨hil, g1.trans g3, g3 _ _ h1, ?_⟩)
    · rw [upd_ne (ne_of_none q hD)]
      exact g3 _ _ (g1 _ _ q)
    · rw [e, List.take_add_one, hz, List.filter_append, List.map_append]
      show _ = _ ++ (([z].filter p).map g)
      rw [List.filter_cons, if_pos pz]
      rfl
    · rw [e, List.take_add_one, hz, List.filter_append, List.map_append]
      show _ = _ ++ (([z].filter p).map g)
      rw [List.filter_cons, if_neg (by rw [pz]; exact Bool.false_ne_true)]
      simp
  · rintro ys H1 ⟨_, g1, h1, e⟩
    rw [List.length_map, List.take_length] at e
    exact fin H1 g1 (by rw [h1, e])
theorem inV_int (x : Int) : ∀ ss : List Int, inV (.int x) (ss.map V.int) = decide (x ∈ ss)
  | [] => rfl
  | s :: ss => by
    have ih := inV_int x ss
    unfold inV at ih ⊢
    rw [List.map_cons, List.any_cons, ih]
    show ((s == x) || decide (x ∈ ss)) = _
    by_cases e : s = x
    · rw [beq_iff_eq.mpr e, Bool.true_or]
      exact (decide_eq_true (by rw [e]; exact List.mem_cons_self)).symm
    · rw [beq_eq_false_iff_ne.mpr e, Bool.false_or, Bool.eq_iff_iff, decide_eq_true_iff, decide_eq_true_iff, List.mem_cons]
      exact ⟨.inr, fun z => z.resolve_left fun w => e w.symm⟩
theorem flat_int (ss : List Int) : (ss.map V.int).all flatV = true := by
  rw [List.all_map, List.all_eq_true]
  intro p _
  rfl
def updA (ks : List Nat) (as : List Addr) (h : Nat) (a' : Addr) : List Addr := (ks.zip as).map fun p => if p.1 = h then a' else p.2
theorem dictN_upd (h : Nat) (a' : Addr) : ∀ {ks : List Nat} {as : List Addr}, ks.length = as.length → (dictN ks as).map (fun kv => if kv.1 = (.inl (h : Int) : Key) then (kv.1, V.ref a') else kv) = dictN ks (updA ks as h a')
  | [], [], _ => rfl
  | k :: ks, a :: as, e => by
    have ih := dictN_upd h a' (ks := ks) (as := as) (by simpa using e)
    have e0 : dictN (k :: ks) (a :: as) = (Sum.inl (k : Int), V.ref a) :: dictN ks as := rfl
    have e1 : updA (k :: ks) (a :: as) h a' = (if k = h then a' else a) :: updA ks as h a' := rfl
    have e2 : dictN (k :: ks) ((if k = h then a' else a) :: updA ks as h a') = (Sum.inl (k : Int), V.ref (if k = h then a' else a)) :: dictN ks (updA ks as h a') := rfl
    rw [e0, List.map_cons, ih, e1, e2]
    congr 1
    by_cases z : k = h
    · rw [if_pos z, if_pos (by rw [z])]
    · rw [if_neg z, if_neg (fun w => z (by have := Sum.inl.inj w; omega))]
  | [], _ :: _, e => by simp at e
  | _ :: _, [], e => by simp at e
theorem putK_upd {ks : List Nat} {as : List Addr} {h : Nat} {a a' : Addr} (e : ks.length = as.length) (hv : valV (dictN ks as) (.inl (h : Int)) = some (.ref a)) : putK (dictN ks as) (.inl (h : Int)) (.ref a') = dictN ks (updA ks as h a') := by
  unfold putK
  rw [if_pos (by rw [valV_any, hv]; rfl)]
  exact dictN_upd h a' e
def setF {α : Type} (h : Nat) (v : α) (ps : List (Nat × α)) : List (Nat × α) := ps.map fun p => if p.1 = h then (p.1, v) else p
theorem setF_keys {α : Type} (h : Nat) (v : α) : ∀ ps : List (Nat × α), (setF h v ps).map (·.1) = ps.map (·.1)
  | [] => rfl
  | p :: ps => by
    have ih := setF_keys h v ps
    show (if p.1 = h then (p.1, v) else p).1 :: (setF h v ps).map (·.1) = _
    rw [ih, List.map_cons]
    congr 1
    split <;> rfl
theorem paired_upd {α : Type} {F G : Addr → Nat × α → Prop} {h : Nat} {a' : Addr} {v : α} (new : ∀ k, G a' (k, v)) : ∀ {as : List Addr} {ps : List (Nat × α)}, Paired F as ps → (∀ a p, F a p → a ∈ as → G a p) → Paired G (updA (ps.map (·.1)) as h a') (setF h v ps) := by
  intro as ps pr
  induction pr with
  | nil => intro _; exact .nil
  | @cons a p as ps f t ih =>
    intro k
    have e1 : updA ((p :: ps).map (·.1)) (a :: as) h a' = (if p.1 = h then a' else a) :: updA (ps.map (·.1)) as h a' := rfl
    have e2 : setF h v (p :: ps) = (if p.1 = h then (p.1, v) else p) :: setF h v ps := rfl
    rw [e1, e2]
    refine .cons ?_ (ih fun b q fb hb => k b q fb (List.mem_cons_of_mem _ hb))
    by_cases z : p.1 = h
    · rw [if_pos z, if_pos z]
      exact new p.1
    · rw [if_neg z, if_neg z]
      exact k a p f List.mem_cons_self
theorem updA_mem {h : Nat} {a' b : Addr} : ∀ {ks : List Nat} {as : List Addr}, b ∈ updA ks as h a' → b = a' ∨ b ∈ as
  | [], _, m => by unfold updA at m; simp at m
  | _ :: _, [], m => by unfold updA at m; simp at m
  | k :: ks, a :: as, m => by
    have e1 : updA (k :: ks) (a :: as) h a' = (if k = h then a' else a) :: updA ks as h a' := rfl
    rw [e1] at m
    rcases List.mem_cons.mp m with z | z
    · by_cases w : k = h
      · rw [if_pos w] at z; exact .inl z
      · rw [if_neg w] at z; exact .inr (by rw [z]; exact List.mem_cons_self)
    · rcases updA_mem z with w | w
      · exact .inl w
      · exact .inr (List.mem_cons_of_mem _ w)
def JS.setFr (st : JS) (h : Nat) (v : List Int) : JS := { st with fr := setF h v st.fr }
structure JOne (st : JS) (i h : Nat) (t secs : List Int) : Prop where
  hd : st.hd[i]? = some h
  ld : st.ld[i]? = some t
  fr : st.fr.lookup h = some secs
  inb : ∀ z ∈ secs, 0 ≤ z ∧ z < t.length
  few : secs.length < 64
  dist : (secs.map fun z => t.getD z.toNat 0).Nodup
inductive IspNarrow (K : PySem.W.Frag) (C : Addr) (vs : List V) (H : Hp) (Q : VK) : Prop
  | mk (l : JL) (st : JS) (n i h : Nat) (t secs ss : List Int) (sl : Addr) (h0_ : vs = [.ref l.J, .int (i : Int), .ref sl]) (h1_ : JAt H C n l st) (h2_ : JOne st i h t secs) (h3_ : st.fr.length < 1000) (h4_ : SqL K H sl (ss.map V.int)) (h5_ : ∀ (l' : JL) (H' : Hp), l'.J = l.J → l'.fp = l.fp → Out l.fp H H' → JAt H' C n l' (st.setFr h (secs.filter fun z => decide (t.getD z.toNat 0 ∈ ss))) → Q .non H') : IspNarrow K C vs H Q
def spNarrow (K : PySem.W.Frag) (C : Addr) : Sp := fun vs H Q _ => IspNarrow K C vs H Q
section
variable {P : Program} {w : World} {K : PySem.W.Frag} {mg : Str → Option Value} {base : Heap} {f C : Addr} {fd : FuncData}
theorem sc_Joins_narrow : FnScope ["self", "one", "sections", "lead", "head"] ["self", "one", "sections"] (defScope s_Joins_narrow) := ⟨rfl, rfl, rfl, by decide +kernel, rfl, by decide +kernel, by decide +kernel⟩
theorem ok_narrow (F : Fun K "narrow" "Joins.narrow" s_Joins_narrow f fd) (jc : JoinsC K C) (bl : Bl mg) : FnOk P w K mg base CX0 2 f fd ["self", "one", "sections"] (spNarrow K C) := by
  refine F.ok sc_Joins_narrow (fun vs H Q E h => ?_) (fun cdv A outer s H vs Q E hr h => ?_)
  · obtain ⟨l, st, n, i, h, t, secs, ss, sl, rfl, _⟩ := h
    rfl
  obtain ⟨l, st, n, i, h, t, secs, ss, sl, rfl, ja, one, lf, hss, q⟩ := h
  refine ⟨_, (pss_cons (ps_set (i := 3) sc_Joins_narrow.nd rfl (Or.inr rfl) (pe_ix (ix_listK (K := K) rfl) (pe_fldK (K := K) rfl (pv 0) rfl) (pv 1) (fun _ _ => rfl))) (pss_cons (ps_set (i := 4) sc_Joins_narrow.nd rfl (Or.inl rfl) (pe_ix (ix_listK (K := K) rfl) (pe_fldK (K := K) rfl (pv 0) rfl) (pv 1) (fun _ _ => rfl))) (pss_one (ps_dputN (hu_of hr) (pe_fldK (K := K) rfl (pv 0) rfl) (pv 4) (pe_comp (x := "section") (fr := [("sections", 2), ("lead", 3)]) (cl := [("sections", s.heap.objs.size + 1), ("lead", s.heap.objs.size + 1 + 1)]) rfl ⟨by with_unfolding_all rfl, ⟨rfl, ⟨rfl, trivial⟩⟩, rfl, by decide +kernel, rfl, by decide +kernel, rfl, ⟨⟨rfl, .inl rfl, .inl rfl, rfl⟩, ⟨⟨rfl, .inl rfl, .inl rfl, rfl⟩, trivial⟩⟩, by decide +kernel⟩ (pi_listK (K := K) rfl (pe_dget (hu_of hr) (pe_fldK (K := K) rfl (pv 0) rfl) (pv 4) (fun _ _ => rfl))) (fun _ _ _ _ => ptl_one (pt_cmpR (inK (K := K) rfl) (pe_ix (ix_tupK (K := K) rfl) (pv 2) (pv 0) (fun _ _ => rfl)) (pv 1) (by with_unfolding_all rfl))) (fun _ _ _ _ => (pv 0))))))), ?_⟩
  have sz : (10000 : Nat) ≤ sizeLine := by rw [sizeLine_eq]; omega
  obtain ⟨dx, ho⟩ := ja.obj
  obtain ⟨fa, mfa, vf, hfa⟩ := valV_dict (f := fun v : List Int => HO.lst (v.map V.int)) ja.free one.fr
  obtain ⟨ta, eta, hta⟩ : ∃ ta, l.las[i]? = some ta ∧ H ta = some (.tup (t.map V.int)) := by
    have hl := paired_len ja.lead
    have hil : i < l.las.length := by rw [hl]; exact (List.getElem?_eq_some_iff.mp one.ld).1
    obtain ⟨y, ey, hy⟩ := paired_get ja.lead (List.getElem?_eq_getElem hil)
    rw [one.ld] at ey
    cases ey
    exact ⟨_, List.getElem?_eq_getElem hil, hy⟩
  have atl : atI (l.las.map V.ref) (i : Int) = some (.ref ta) := atI_nat (by rw [List.getElem?_map, eta]; rfl)
  have pl3 := paired_len ja.free
  refine setT ?_
  refine ⟨_, rfl, l.J, C, dx, _, _, rfl, ho, jc.cls, jc.n_leads, rfl, _, rfl, l.la, _, _, _, rfl, rfl, SqL.of ja.leads, atl, ?_⟩
  refine setT ?_
  refine ⟨_, rfl, l.J, C, dx, _, _, rfl, ho, jc.cls, jc.n_heads, rfl, _, rfl, l.ha, _, _, _, rfl, rfl, SqL.of ja.heads, nsV_get one.hd, ?_⟩
  refine ⟨_, rfl, l.J, C, dx, _, _, rfl, ho, jc.cls, jc.n_free, rfl, _, rfl, l.fd, _, rfl, dget_i ja.frees vf, fa, rfl, ⟨_, SqL.of hfa⟩, fun D hD => comp_listI (ns := secs) (SqL.of hfa) (by have := one.few; omega) hD (fun z => decide (t.getD z.toNat 0 ∈ ss)) V.int (fun z hz H1 g1 Kt Kf kt kf => ?_) fun H1 g1 h1 => ?_⟩
  · have bz := one.inb z hz
    refine ⟨_, rfl, _, rfl, ta, _, _, _, rfl, rfl, SqT.of (g1 _ _ hta), atI_in bz.1 bz.2, _, rfl, sl, _, rfl, .inl (g1.seq hss), rfl, flat_int ss, _, rfl, ?_⟩
    rw [if_neg Bool.false_ne_true, inV_int]
    refine ite2 (fun c => ?_) (fun c => ?_)
    · exact ⟨_, rfl, kt c H1 (Same.refl _)⟩
    · exact kf (by cases e : decide (t.getD z.toNat 0 ∈ ss) with | true => exact absurd e c | false => rfl) H1 (Same.refl _)
  · refine ⟨_, rfl, l.J, C, dx, _, _, rfl, g1 _ _ ho, jc.cls, jc.n_free, rfl, _, rfl, l.fd, _, .inl (h : Int), rfl, g1 _ _ ja.frees, rfl, ?_, fun H2 b2 e2 => ?_⟩
    · unfold dictN
      rw [List.length_map, List.length_zip, List.length_map]
      omega
    rw [putK_upd (by rw [List.length_map]; exact pl3.symm) vf] at e2
    have nd := ja.nd
    have mfp : l.fd ∈ l.fp := by simp [JL.fp]
    simp only [JL.fp, List.nodup_cons, List.mem_cons, not_or] at nd
    obtain ⟨⟨x1, x2, x3, x4, x5⟩, ⟨y1, y2, y3, y4⟩, ⟨z1, z2, z3⟩, ⟨w1, w2⟩, v1, v2⟩ := nd
    have keep : ∀ b o, H b = some o → b ≠ l.fd → H2 b = some o := fun b o e nb => b2 _ _ (g1 _ _ e) nb
    have nD : D ∉ l.fp := ja.ne hD
    have nDf : D ≠ l.fd := fun z => nD (by rw [z]; exact mfp)
    refine q ⟨l.J, l.ha, l.la, l.md, l.fd, l.las, l.mas, updA (st.fr.map (·.1)) l.fas h D⟩ H2 rfl rfl ((Out.of g1).trans (Out.bar b2 mfp)) ⟨⟨dx, keep _ _ ho x4⟩, keep _ _ ja.heads y3, keep _ _ ja.leads z2, L2.Paired.mapP ja.lead fun a xs e => keep a _ e (ne_kind e ja.frees (fun z => by cases z)), keep _ _ ja.mems w1, L2.Paired.mapP (paired_in ja.mem) fun a p e => keep a _ e.1 (fun z => v1 (by rw [← z]; exact e.2)), ?_, ?_, ja.nd, fun a ha => ?_⟩
    · show H2 l.fd = some (.dK (dictN ((setF h _ st.fr).map (·.1)) _))
      rw [setF_keys]
      exact e2
    · exact paired_upd (fun k => b2 _ _ h1 nDf) ja.free fun a p e ma => keep a _ e (fun z => ja.out a ma (by rw [z]; exact mfp))
    · rcases updA_mem ha with rfl | z
      · exact nD
      · exact ja.out a z
end
inductive IspSay (C : Addr) (vs : List V) (H : Hp) (Q : VK) : Prop
  | mk (l : JL) (st : JS) (n i h : Nat) (t secs : List Int) (a : Int) (h0_ : vs = [.ref l.J, .int (i : Int), .int a]) (h1_ : JAt H C n l st) (h2_ : JOne st i h t secs) (h3_ : st.fr.length < 1000) (h4_ : (a ∈ secs.map (fun z => t.getD z.toNat 0) → ∀ (l' : JL) (H' : Hp), l'.J = l.J → l'.fp = l.fp → Out l.fp H H' → JAt H' C n l' (st.setFr h (secs.filter fun z => decide (t.getD z.toNat 0 ∈ [a]))) → Q (.bl true) H')) (h5_ : (a ∉ secs.map (fun z => t.getD z.toNat 0) → ∀ H', Same H H' → Q (.bl false) H')) : IspSay C vs H Q
def spSay (C : Addr) : Sp := fun vs H Q _ => IspSay C vs H Q
section
variable {P : Program} {w : World} {K : PySem.W.Frag} {mg : Str → Option Value} {base : Heap} {f C : Addr} {fd : FuncData}
theorem sc_Joins_say : FnScope ["self", "one", "section"] ["self", "one", "section"] (defScope s_Joins_say) := ⟨rfl, rfl, rfl, by decide +kernel, rfl, by decide +kernel, by decide +kernel⟩
theorem ok_say (F : Fun K "say" "Joins.say" s_Joins_say f fd) (h_Joins_open_at : HasMt P w K mg base 2 "open_at" C ["self", "one"] (spOpenAt C)) (h_Joins_narrow : HasMt P w K mg base 2 "narrow" C ["self", "one", "sections"] (spNarrow K C)) (bl : Bl mg) : FnOk P w K mg base CX0 3 f fd ["self", "one", "section"] (spSay C) := by
  refine F.ok sc_Joins_say (fun vs H Q E h => ?_) (fun cdv A outer s H vs Q E hr h => ?_)
  · obtain ⟨l, st, n, i, h, t, secs, a, rfl, _⟩ := h
    rfl
  obtain ⟨l, st, n, i, h, t, secs, a, rfl, ja, one, lf, q1, q2⟩ := h
  refine ⟨_, (pss_cons (ps_if (pt_cmpR (notInK (K := K) rfl) (pv 2) (pe_mt h_Joins_open_at hr (by omega) (pv 0) (pa_cons (pv 1) pa_nil)) (by with_unfolding_all rfl)) (pss_one (ps_ret pe_bl)) pss_nil) (pss_cons (ps_expr (pe_mt h_Joins_narrow hr (by omega) (pv 0) (pa_cons (pv 1) (pa_cons (pe_lstN (pa_cons (pv 2) pa_nil)) pa_nil)))) (pss_one (ps_ret pe_bl)))), ?_⟩
  obtain ⟨dx, ho⟩ := ja.obj
  refine ⟨_, rfl, _, rfl, l.J, dx, _, rfl, ho, rfl, _, rfl, l, st, n, i, h, t, secs, rfl, ja, one.hd, one.ld, one.fr, one.inb, one.few, fun p ns H1 np g1 pm so hp => ⟨p, _, rfl, .inl (SqL.of hp), rfl, flat_int ns, _, rfl, ?_⟩⟩
  rw [if_pos rfl, inV_int]
  refine ite2 (fun c => ?_) (fun c => nextE ?_)
  · refine q2 (fun z => ?_) H1 g1
    rw [decide_eq_true (pm.symm.subset z)] at c
    cases c
  · have hin : a ∈ ns := by
      by_cases z : a ∈ ns
      · exact z
      · rw [decide_eq_false z] at c
        exact absurd rfl c
    refine ⟨_, rfl, l.J, dx, _, rfl, g1 _ _ ho, rfl, _, rfl, _, rfl, by show 1 ≤ sizeLine; rw [sizeLine_eq]; omega, fun sl H2 n2 g2 e2 => ?_⟩
    exact ⟨l, st, n, i, h, t, secs, [a], sl, rfl, (ja.same g1).same g2, one, lf, SqL.of e2, fun l' H3 k1 k2 o3 j3 => q1 (pm.subset hin) l' H3 k1 k2 ((Out.of (g1.trans g2)).trans o3) j3⟩
end
def drpA (ks : List Nat) (as : List Addr) (h : Nat) : List Addr := ((ks.zip as).filter fun p => decide (p.1 ≠ h)).map (·.2)
def drp {α : Type} (h : Nat) (ps : List (Nat × α)) : List (Nat × α) := ps.filter fun p => decide (p.1 ≠ h)
theorem dropK_dict (h : Nat) : ∀ {ks : List Nat} {as : List Addr}, ks.length = as.length → dropK (dictN ks as) (.inl (h : Int)) = dictN (ks.filter fun k => decide (k ≠ h)) (drpA ks as h)
  | [], [], _ => rfl
  | k :: ks, a :: as, e => by
    have ih := dropK_dict h (ks := ks) (as := as) (by simpa using e)
    have e0 : dictN (k :: ks) (a :: as) = (Sum.inl (k : Int), V.ref a) :: dictN ks as := rfl
    unfold dropK at ih ⊢
    rw [e0, List.filter_cons, List.filter_cons]
    have e1 : drpA (k :: ks) (a :: as) h = (if decide (k ≠ h) = true then (a :: drpA ks as h) else drpA ks as h) := by
      unfold drpA
      rw [List.zip_cons_cons, List.filter_cons]
      split <;> rfl
    rw [e1, ih]
    by_cases z : k = h
    · rw [if_neg (by simp [z]), if_neg (by simp [z]), if_neg (by simp [z])]
    · have z' : ¬ ((Sum.inl (k : Int) : Key) = .inl (h : Int)) := fun w => z (by have := Sum.inl.inj w; omega)
      rw [if_pos (by simp [z']), if_pos (by simp [z]), if_pos (by simp [z])]
      rfl
  | [], _ :: _, e => by simp at e
  | _ :: _, [], e => by simp at e
theorem drp_keys {α : Type} (h : Nat) : ∀ ps : List (Nat × α), (drp h ps).map (·.1) = (ps.map (·.1)).filter fun k => decide (k ≠ h)
  | [] => rfl
  | p :: ps => by
    have ih := drp_keys h ps
    unfold drp at ih ⊢
    rw [List.filter_cons, List.map_cons, List.filter_cons]
    by_cases z : p.1 = h
    · rw [if_neg (by simp [z]), if_neg (by simp [z]), ih]
    · rw [if_pos (by simp [z]), if_pos (by simp [z]), List.map_cons, ih]
theorem paired_drp {α : Type} {F G : Addr → Nat × α → Prop} {h : Nat} : ∀ {as : List Addr} {ps : List (Nat × α)}, Paired F as ps → (∀ a p, F a p → a ∈ as → p.1 ≠ h → G a p) → Paired G (drpA (ps.map (·.1)) as h) (drp h ps) := by
  intro as ps pr
  induction pr with
  | nil => intro _; exact .nil
  | @cons a p as ps f t ih =>
    intro k
    have ih := ih fun b q fb hb nq => k b q fb (List.mem_cons_of_mem _ hb) nq
    have e1 : drpA ((p :: ps).map (·.1)) (a :: as) h = (if decide (p.1 ≠ h) = true then (a :: drpA (ps.map (·.1)) as h) else drpA (ps.map (·.1)) as h) := by
      unfold drpA
      rw [List.map_cons, List.zip_cons_cons, List.filter_cons]
      split <;> rfl
    have e2 : drp h (p :: ps) = (if decide (p.1 ≠ h) = true then (p :: drp h ps) else drp h ps) := by
      unfold drp
      rw [List.filter_cons]
    rw [e1, e2]
    by_cases z : p.1 = h
    · rw [if_neg (by simp [z]), if_neg (by simp [z])]
      exact ih
    · rw [if_pos (by simp [z]), if_pos (by simp [z])]
      exact .cons (k a p f List.mem_cons_self z) ih
theorem drpA_sub {h : Nat} : ∀ {ks : List Nat} {as : List Addr}, (drpA ks as h).Sublist as
  | [], as => by
    unfold drpA
    rw [List.zip_nil_left]
    exact List.nil_sublist _
  | _ :: _, [] => by
    unfold drpA
    rw [List.zip_nil_right]
    exact List.Sublist.refl _
  | k :: ks, a :: as => by
    have ih := drpA_sub (h := h) (ks := ks) (as := as)
    have e1 : drpA (k :: ks) (a :: as) h = (if decide (k ≠ h) = true then (a :: drpA ks as h) else drpA ks as h) := by
      unfold drpA
      rw [List.zip_cons_cons, List.filter_cons]
      split <;> rfl
    rw [e1]
    split
    · exact ih.cons₂ a
    · exact ih.cons a
theorem lookup_drp {α : Type} {h k : Nat} (ne : k ≠ h) : ∀ {ps : List (Nat × α)}, (drp h ps).lookup k = ps.lookup k
  | [] => rfl
  | p :: ps => by
    have ih := lookup_drp ne (ps := ps)
    have e2 : drp h (p :: ps) = (if decide (p.1 ≠ h) = true then (p :: drp h ps) else drp h ps) := by
      unfold drp
      rw [List.filter_cons]
    rw [e2]
    by_cases z : p.1 = h
    · rw [if_neg (by simp [z]), ih, List.lookup_cons, beq_eq_false_iff_ne.mpr (fun w => ne (w.trans z))]
    · rw [if_pos (by simp [z]), List.lookup_cons, List.lookup_cons, ih]
theorem paired_ext {α : Type} {F G : Addr → Nat × α → Prop} {h : Nat} {m : Addr} {v : α} (new : ∀ k, G m (k, v)) : ∀ {as : List Addr} {ps : List (Nat × α)}, Paired F as ps → as.Nodup → (ps.map (·.1)).Nodup → valV (dictN (ps.map (·.1)) as) (.inl (h : Int)) = some (.ref m) → (∀ a p, F a p → a ∈ as → a ≠ m → G a p) → Paired G as (setF h v ps) := by
  intro as ps pr
  induction pr with
  | nil => intro _ _ e _; cases e
  | @cons a p as ps f t ih =>
    intro n1 n2 e k
    have e0 : dictN ((p :: ps).map (·.1)) (a :: as) = (Sum.inl (p.1 : Int), V.ref a) :: dictN (ps.map (·.1)) as := rfl
    have e2 : setF h v (p :: ps) = (if p.1 = h then (p.1, v) else p) :: setF h v ps := rfl
    rw [List.nodup_cons] at n1
    rw [List.map_cons, List.nodup_cons] at n2
    rw [e2]
    by_cases z : p.1 = h
    · rw [e0, valV_pos (p := ((Sum.inl (p.1 : Int) : Key), V.ref a)) (by rw [z])] at e
      have ea : a = m := V.ref.inj (Option.some.inj e)
      have same : setF h v ps = ps := by
        unfold setF
        refine (List.map_congr_left fun q hq => ?_).trans (List.map_id _)
        rw [if_neg fun w => n2.1 (by rw [z, ← w]; exact List.mem_map.mpr ⟨q, hq, rfl⟩)]
        rfl
      rw [if_pos z, same, ea]
      refine .cons (new p.1) (L2.Paired.mapP (paired_in t) fun b q hb => k b q hb.1 (List.mem_cons_of_mem _ hb.2) fun w => n1.1 (by rw [ea, ← w]; exact hb.2))
    · rw [e0, valV_neg (p := ((Sum.inl (p.1 : Int) : Key), V.ref a)) (fun w => z (by have := Sum.inl.inj w; omega))] at e
      rw [if_neg z]
      have am : a ≠ m := fun w => by
        have : ∀ {ks : List Nat} {bs : List Addr}, valV (dictN ks bs) (.inl (h : Int)) = some (.ref m) → m ∈ bs := fun {ks} => by
          induction ks with
          | nil => intro bs q; unfold dictN at q; rw [List.zip_nil_left] at q; cases q
          | cons x xs ih =>
            intro bs q
            cases bs with
            | nil => unfold dictN at q; rw [List.zip_nil_right] at q; cases q
            | cons b bs =>
              have e0 : dictN (x :: xs) (b :: bs) = (Sum.inl (x : Int), V.ref b) :: dictN xs bs := rfl
              rw [e0] at q
              by_cases y : x = h
              · rw [valV_pos (p := ((Sum.inl (x : Int) : Key), V.ref b)) (by rw [y])] at q
                have eb : b = m := V.ref.inj (Option.some.inj q)
                rw [eb]
                exact List.mem_cons_self
              · rw [valV_neg (p := ((Sum.inl (x : Int) : Key), V.ref b)) (fun w => y (by have := Sum.inl.inj w; omega))] at q
                exact List.mem_cons_of_mem _ (ih q)
        exact n1.1 (by rw [w]; exact this e)
      exact .cons (k a p f List.mem_cons_self am) (ih n1.2 n2.2 e fun b q fb hb nb => k b q fb (List.mem_cons_of_mem _ hb) nb)
def mvL (toh : List Int) (ld : List (List Int)) (i : Nat) : List (List Int) := ld.set i (aft (ld.getD i []) toh)
theorem aft_len (xs ys : List Int) : (aft xs ys).length = ys.length := by unfold aft; rw [List.length_map]
theorem aft_in {xs ys : List Int} {n : Nat} (hx : ∀ x ∈ xs, 0 ≤ x ∧ x < n) (hy : ∀ y ∈ ys, 0 ≤ y ∧ y < xs.length) : ∀ z ∈ aft xs ys, 0 ≤ z ∧ z < n := fun z hz => by
  unfold aft at hz
  obtain ⟨y, my, rfl⟩ := List.mem_map.mp hz
  obtain ⟨y0, y1⟩ := hy y my
  have hl : y.toNat < xs.length := by omega
  have e : xs.getD y.toNat 0 = xs[y.toNat] := by rw [List.getD_eq_getElem?_getD, List.getElem?_eq_getElem hl]; rfl
  rw [e]
  exact hx _ (List.getElem_mem hl)
def hdAll (hb : Nat) (mv : List Nat) (hd : List Nat) : List Nat := mv.foldl (fun acc i => acc.set i hb) hd
def ldAll (toh : List Int) (mv : List Nat) (ld : List (List Int)) : List (List Int) := mv.foldl (mvL toh) ld
def JS.mv (st : JS) (hb hm : Nat) (mb mv : List Nat) (toh : List Int) : JS := ⟨hdAll hb mv st.hd, ldAll toh mv st.ld, setF hb (mb ++ mv) (drp hm st.mem), drp hm st.fr⟩
inductive IspMove (C : Addr) (vs : List V) (H : Hp) (Q : VK) : Prop
  | mk (l : JL) (st : JS) (n a b ha hb : Nat) (ta tb tn fm : List Int) (tu : Addr) (ma mb : List Nat) (h0_ : vs = [.ref l.J, .int (a : Int), .int (b : Int), .ref tu]) (h1_ : JAt H C n l st) (h2_ : H tu = some (.tup (tn.map V.int))) (h3_ : n ≤ 8) (h4_ : tn.length = n) (h5_ : full tn = true) (h6_ : st.hd[a]? = some ha) (h7_ : st.hd[b]? = some hb) (h8_ : st.ld[a]? = some ta) (h9_ : st.ld[b]? = some tb) (h10_ : (∀ t ∈ st.ld, full t = true ∧ t.length = n)) (h11_ : st.ld.length = st.hd.length) (h12_ : st.mem.lookup ha = some ma) (h13_ : st.mem.lookup hb = some mb) (h14_ : st.fr.lookup ha = some fm) (h15_ : ha ≠ hb) (h16_ : (∀ i ∈ ma, i < st.hd.length)) (h17_ : ma.length + mb.length ≤ 1000) (h18_ : (st.mem.map (·.1)).Nodup) (h19_ : ∀ (l' : JL) (H' : Hp), l'.J = l.J → (∀ c ∈ l'.fp, c ∈ l.fp) → Out l.fp H H' → JAt H' C n l' (st.mv hb ha mb ma (aft (inv ta) (aft tn tb))) → Q .non H') : IspMove C vs H Q
def spMove (C : Addr) : Sp := fun vs H Q _ => IspMove C vs H Q
theorem len_foldl_set {α β : Type} {g : List α → β → List α} (hg : ∀ acc i, (g acc i).length = acc.length) : ∀ (is : List β) (xs : List α), (is.foldl g xs).length = xs.length
  | [], _ => rfl
  | i :: is, xs => by
    rw [List.foldl_cons, len_foldl_set hg is, hg]
theorem take_foldl {α β : Type} {g : List α → β → List α} {is : List β} {j : Nat} {i : β} (h : is[j]? = some i) (xs : List α) : (is.take (j + 1)).foldl g xs = g ((is.take j).foldl g xs) i := by
  rw [List.take_add_one, h, List.foldl_append]
  rfl
theorem nsV_set (is : List Nat) (i k : Nat) : (nsV is).set i (.int (k : Int)) = nsV (is.set i k) := by
  unfold nsV
  rw [List.map_set]
theorem paired_set {α β : Type} {F : α → β → Prop} {x : α} {y : β} (f : F x y) : ∀ {xs : List α} {ys : List β} (i : Nat), Paired F xs ys → Paired F (xs.set i x) (ys.set i y)
  | _, _, _, .nil => .nil
  | _, _, 0, .cons _ t => .cons f t
  | _, _, i + 1, .cons g t => .cons g (paired_set f i t)
theorem full_aft {xs ys : List Int} (fx : full xs = true) (fy : full ys = true) (e : xs.length = ys.length) : full (aft xs ys) = true := by
  have px := full_perm fx
  have py := full_perm fy
  have p1 : (aft xs ys).Perm ((upto ys.length).map fun x => xs.getD x.toNat 0) := py.map _
  have e2 : ((upto ys.length).map fun x => xs.getD x.toNat 0) = xs := by
    refine List.ext_getElem? fun i => ?_
    rw [List.getElem?_map]
    by_cases hi : i < ys.length
    · rw [upto_get hi]
      show some (xs.getD ((i : Int)).toNat 0) = xs[i]?
      rw [Int.toNat_natCast, List.getD_eq_getElem?_getD, List.getElem?_eq_getElem (by omega)]
      rfl
    · rw [List.getElem?_eq_none (by rw [upto_length]; omega), List.getElem?_eq_none (by omega)]
      rfl
  rw [e2] at p1
  exact full_of (p1.trans px)
inductive MvInv (H5 : Hp) (l : JL) (hd : List Nat) (ld : List (List Int)) (n : Nat) (sg : Option V → St) (σ : St) (H6 : Hp) : Prop
  | mk (las' : List Addr) (o9 : Option V) (k1 : H6 l.ha = some (.lst (nsV hd))) (k2 : H6 l.la = some (.lst (las'.map V.ref))) (k3 : Paired (fun a (xs : List Int) => H6 a = some (.tup (xs.map V.int))) las' ld) (k4 : ∀ t ∈ ld, full t = true ∧ t.length = n) (kp : ∀ c o, H5 c = some o → c ≠ l.ha → c ≠ l.la → H6 c = some o) (e : σ = sg o9) : MvInv H5 l hd ld n sg σ H6
def sgMv (l : JL) (a b hb ha : Int) (tu tm to mo : Addr) (o9 : Option V) : St := [some (.ref l.J), some (.int a), some (.int b), some (.ref tu), some (.int hb), some (.int ha), some (.ref tm), some (.ref to), some (.ref mo), o9]
section
variable {P : Program} {w : World} {K : PySem.W.Frag} {mg : Str → Option Value} {base : Heap} {f C : Addr} {fd : FuncData}
theorem sc_Joins_move : FnScope ["self", "mover", "stayer", "turn", "head", "old_head", "to_mover", "to_old_head", "moved", "number"] ["self", "mover", "stayer", "turn"] (defScope s_Joins_move) := ⟨rfl, rfl, rfl, by decide +kernel, rfl, by decide +kernel, by decide +kernel⟩
theorem ok_move (F : Fun K "move" "Joins.move" s_Joins_move f fd) (jc : JoinsC K C) (h_followed : HasFn P w K mg base 1 "followed" ["first", "then"] (spFol K)) (h_turned_back : HasFn P w K mg base 1 "turned_back" ["turn"] spTb) (bl : Bl mg) : FnOk P w K mg base CX0 2 f fd ["self", "mover", "stayer", "turn"] (spMove C) := by
  refine F.ok sc_Joins_move (fun vs H Q E h => ?_) (fun cdv A outer s H vs Q E hr h => ?_)
  · obtain ⟨l, st, n, a, b, ha, hb, ta, tb, tn, fm, tu, ma, mb, rfl, _⟩ := h
    rfl
  obtain ⟨l, st, n, a, b, ha, hb, ta, tb, tn, fm, tu, ma, mb, rfl, ja, hu, n8, tl, ft, hA, hB, lA, lB, fl, ll, mA, mB, fA, neq, min, lm, ndk, q⟩ := h
  refine ⟨_, (pss_cons (ps_set (i := 4) sc_Joins_move.nd rfl (Or.inl rfl) (pe_ix (ix_listK (K := K) rfl) (pe_fldK (K := K) rfl (pv 0) rfl) (pv 2) (fun _ _ => rfl))) (pss_cons (ps_set (i := 5) sc_Joins_move.nd rfl (Or.inl rfl) (pe_ix (ix_listK (K := K) rfl) (pe_fldK (K := K) rfl (pv 0) rfl) (pv 1) (fun _ _ => rfl))) (pss_cons (ps_set (i := 6) sc_Joins_move.nd rfl (Or.inl rfl) (pe_fn h_followed hr (by omega) rfl (pa_cons (pe_ix (ix_listK (K := K) rfl) (pe_fldK (K := K) rfl (pv 0) rfl) (pv 2) (fun _ _ => rfl)) (pa_cons (pv 3) pa_nil)))) (pss_cons (ps_set (i := 7) sc_Joins_move.nd rfl (Or.inl rfl) (pe_fn h_followed hr (by omega) rfl (pa_cons (pv 6) (pa_cons (pe_fn h_turned_back hr (by omega) rfl (pa_cons (pe_ix (ix_listK (K := K) rfl) (pe_fldK (K := K) rfl (pv 0) rfl) (pv 1) (fun _ _ => rfl)) pa_nil)) pa_nil)))) (pss_cons (ps_set (i := 8) sc_Joins_move.nd rfl (Or.inl rfl) (pe_dpop1N (pe_fldK (K := K) rfl (pv 0) rfl) (pv 5) ⟨rfl, rfl, rfl, rfl⟩)) (pss_cons (ps_expr (pe_dpop1N (pe_fldK (K := K) rfl (pv 0) rfl) (pv 5) ⟨rfl, rfl, rfl, rfl⟩)) (pss_cons (ps_for PassesOwn.never rfl (pi_listK (K := K) rfl (pv 8)) (pg_name (i := 9) sc_Joins_move.nd rfl (Or.inl rfl)) (pss_cons (ps_asgS (pe_fldK (K := K) rfl (pv 0) rfl) (pv 9) set_listN (pv 4)) (pss_one (ps_asgS (pe_fldK (K := K) rfl (pv 0) rfl) (pv 9) set_listN (pe_fn h_followed hr (by omega) rfl (pa_cons (pv 7) (pa_cons (pe_ix (ix_listK (K := K) rfl) (pe_fldK (K := K) rfl (pv 0) rfl) (pv 9) (fun _ _ => rfl)) pa_nil))))))) (pss_one (ps_expr (pe_bmK (K := K) rfl (pe_bm PySem.F.plainAttrs_list PySem.F.slot_list_extend PySem.F.type_list_extend mt_extendN (pe_dget (hu_of hr) (pe_fldK (K := K) rfl (pv 0) rfl) (pv 4) (fun _ _ => rfl)) (pa_cons (pv 8) pa_nil)))))))))))), ?_⟩
  have sz : (10000 : Nat) ≤ sizeLine := by rw [sizeLine_eq]; omega
  obtain ⟨dx, ho⟩ := ja.obj
  have ld_at : ∀ {i : Nat} {t : List Int}, st.ld[i]? = some t → ∃ x, l.las[i]? = some x ∧ H x = some (.tup (t.map V.int)) := fun {i t} ht => by
    have hl := paired_len ja.lead
    have hil : i < l.las.length := by rw [hl]; exact (List.getElem?_eq_some_iff.mp ht).1
    obtain ⟨y, ey, hy⟩ := paired_get ja.lead (List.getElem?_eq_getElem hil)
    rw [ht] at ey
    cases ey
    exact ⟨_, List.getElem?_eq_getElem hil, hy⟩
  obtain ⟨xa, exa, hxa⟩ := ld_at lA
  obtain ⟨xb, exb, hxb⟩ := ld_at lB
  have ata : atI (l.las.map V.ref) (a : Int) = some (.ref xa) := atI_nat (by rw [List.getElem?_map, exa]; rfl)
  have atb : atI (l.las.map V.ref) (b : Int) = some (.ref xb) := atI_nat (by rw [List.getElem?_map, exb]; rfl)
  obtain ⟨fta, lta⟩ := fl ta (List.mem_of_getElem? lA)
  obtain ⟨ftb, ltb⟩ := fl tb (List.mem_of_getElem? lB)
  obtain ⟨mo, mmo, vmo, hmo⟩ := valV_dict (f := fun v : List Nat => HO.lst (nsV v)) ja.mem mA
  obtain ⟨ms, mms, vms, hms⟩ := valV_dict (f := fun v : List Nat => HO.lst (nsV v)) ja.mem mB
  obtain ⟨fo, mfo, vfo, hfo⟩ := valV_dict (f := fun v : List Int => HO.lst (v.map V.int)) ja.free fA
  have pl2 := paired_len ja.mem
  have pl3 := paired_len ja.free
  have nd := ja.nd
  have mfp : ∀ {x : Addr}, x ∈ l.mas → x ∈ l.fp := fun {x} h => by simp [JL.fp, h]
  simp only [JL.fp, List.nodup_cons, List.mem_cons, not_or] at nd
  obtain ⟨⟨x1, x2, x3, x4, x5⟩, ⟨y1, y2, y3, y4⟩, ⟨z1, z2, z3⟩, ⟨w1, w2⟩, v1, v2⟩ := nd
  refine setT ?_
  refine ⟨_, rfl, l.J, C, dx, _, _, rfl, ho, jc.cls, jc.n_heads, rfl, _, rfl, l.ha, _, _, _, rfl, rfl, SqL.of ja.heads, nsV_get hB, ?_⟩
  refine setT ?_
  refine ⟨_, rfl, l.J, C, dx, _, _, rfl, ho, jc.cls, jc.n_heads, rfl, _, rfl, l.ha, _, _, _, rfl, rfl, SqL.of ja.heads, nsV_get hA, ?_⟩
  refine setT ?_
  refine ⟨_, rfl, l.J, C, dx, _, _, rfl, ho, jc.cls, jc.n_leads, rfl, _, rfl, l.la, _, _, _, rfl, rfl, SqL.of ja.leads, atb, _, rfl, xb, tu, tb, tn, rfl, SqT.of hxb, SqT.of hu, fun x hx => by rw [tl, ← ltb]; exact full_in ftb hx, by omega, fun tm H1 ntm g1 htm => ?_⟩
  refine setT ?_
  refine ⟨_, rfl, _, rfl, l.J, C, dx, _, _, rfl, g1 _ _ ho, jc.cls, jc.n_leads, rfl, _, rfl, l.la, _, _, _, rfl, rfl, SqL.of (g1 _ _ ja.leads), ata, xa, ta, rfl, g1 _ _ hxa, by omega, fta, fun ti H2 nti g2 hti => ?_⟩
  refine ⟨tm, ti, aft tn tb, inv ta, rfl, SqT.of (g2 _ _ htm), SqT.of hti, ?_, by rw [aft_len]; omega, fun to H3 nto g3 hto => ?_⟩
  · rw [inv_length, lta]
    exact aft_in (n := n) (fun x hx => by rw [← tl]; exact full_in ft hx) (fun y hy => by rw [tl, ← ltb]; exact full_in ftb hy)
  have g03 := (g1.trans g2).trans g3
  generalize etoh : aft (inv ta) (aft tn tb) = toh at hto q
  have ftoh : full toh = true ∧ toh.length = n := by
    rw [← etoh]
    refine ⟨full_aft (inv_full fta) (full_aft ft ftb (by omega)) (by rw [inv_length, aft_len]; omega), by rw [aft_len, aft_len]; exact ltb⟩
  refine setT ?_
  refine ⟨_, rfl, l.J, C, dx, _, _, rfl, g03 _ _ ho, jc.cls, jc.n_members, rfl, l.md, rfl, .inl ⟨_, .inl (g03 _ _ ja.mems)⟩, _, rfl, _, .inl (ha : Int), .ref mo, g03 _ _ ja.mems, rfl, vmo, fun H4 b4 e4 => ?_⟩
  rw [dropK_dict ha (by rw [List.length_map]; exact pl2.symm)] at e4
  have o4 := b4 _ _ (g03 _ _ ho) x3
  have f4 := b4 _ _ (g03 _ _ ja.frees) (fun z => w1 z.symm)
  refine ⟨_, rfl, l.J, C, dx, _, _, rfl, o4, jc.cls, jc.n_free, rfl, l.fd, rfl, .inl ⟨_, .inl f4⟩, _, rfl, _, .inl (ha : Int), .ref fo, f4, rfl, vfo, fun H5 b5 e5 => ?_⟩
  rw [dropK_dict ha (by rw [List.length_map]; exact pl3.symm)] at e5
  have keep5 : ∀ c o, H c = some o → c ≠ l.md → c ≠ l.fd → H5 c = some o := fun c o e n1 n2 => b5 _ _ (b4 _ _ (g03 _ _ e) n1) n2
  have e45 : H5 l.md = some _ := b5 _ _ e4 w1
  have ne_m : ∀ {x : Addr}, x ∈ l.mas → x ≠ l.ha ∧ x ≠ l.la ∧ x ≠ l.md ∧ x ≠ l.fd := fun {x} hx => ⟨fun z => y4 (by rw [← z]; exact hx), fun z => z3 (by rw [← z]; exact hx), fun z => w2 (by rw [← z]; exact hx), fun z => v1 (by rw [← z]; exact hx)⟩
  have mo5 := keep5 _ _ hmo (ne_m mmo).2.2.1 (ne_m mmo).2.2.2
  have to5 : H5 to = some (.tup (toh.map V.int)) := by
    have n1 : to ≠ l.md := fun z => by rw [z, g1.trans g2 _ _ ja.mems] at nto; cases nto
    have n2 : to ≠ l.fd := fun z => by rw [z, g1.trans g2 _ _ ja.frees] at nto; cases nto
    exact b5 _ _ (b4 _ _ hto n1) n2
  dsimp only
  have nsl : (nsV ma).length = ma.length := List.length_map _
  have hlen : ∀ is : List Nat, (hdAll hb is st.hd).length = st.hd.length := fun is => len_foldl_set (fun _ _ => List.length_set) is st.hd
  have llen : ∀ is : List Nat, (ldAll toh is st.ld).length = st.ld.length := fun is => len_foldl_set (fun _ _ => by unfold mvL; exact List.length_set) is st.ld
  refine seq_mid (MvInv H5 l (hdAll hb ma st.hd) (ldAll toh ma st.ld) n (sgMv l a b hb ha tu tm to mo)) (fun nx0 hn0 => ?_) ?_
  · refine ⟨_, rfl, mo, rfl, ⟨_, SqL.of mo5⟩, for_list (K := K) (a := mo) (xs := nsV ma) (fun j => MvInv H5 l (hdAll hb (ma.take j) st.hd) (ldAll toh (ma.take j) st.ld) n (sgMv l a b hb ha tu tm to mo))
      ⟨l.las, none, keep5 _ _ ja.heads y2 y3, keep5 _ _ ja.leads z1 z2, L2.Paired.mapP ja.lead fun c xs e => keep5 c _ e (ne_kind e ja.mems (fun z => by cases z)) (ne_kind e ja.frees (fun z => by cases z)), fl, fun c o e _ _ => e, rfl⟩
      (fun j σ H6 _ ⟨_, _, _, _, _, _, kp, _⟩ => SqL.of (kp _ _ mo5 (ne_m mmo).1 (ne_m mmo).2.1)) ?_ ?_⟩
    · rintro j v σ H6 hj ⟨las', o9, k1, k2, k3, k4, kp, rfl⟩
      rw [List.getElem?_map] at hj
      obtain ⟨i, mi, rfl⟩ : ∃ i, ma[j]? = some i ∧ V.int (i : Int) = v := by
        cases e : ma[j]? with
        | none => rw [e] at hj; cases hj
        | some i => rw [e] at hj; exact ⟨i, rfl, Option.some.inj hj⟩
      have hi := min i (List.mem_of_getElem? mi)
      have il : i < (ldAll toh (ma.take j) st.ld).length := by rw [llen]; omega
      have las_l := paired_len k3
      obtain ⟨t, et, hti⟩ := paired_get k3 (List.getElem?_eq_getElem (show i < las'.length by omega))
      obtain ⟨ftt, ltt⟩ := k4 t (List.mem_of_getElem? et)
      have oJ := kp _ _ (keep5 _ _ ho x3 x4) x1 x2
      have ixh : ixN (nsV (hdAll hb (ma.take j) st.hd)).length (i : Int) = some i := by
        rw [ixN_in (by omega) (by rw [List.length_map, hlen]; omega), Int.toNat_natCast]
      have ixl : ixN (las'.map V.ref).length (i : Int) = some i := by
        rw [ixN_in (by omega) (by rw [List.length_map]; omega), Int.toNat_natCast]
      refine nameE ?_
      refine ⟨_, rfl, _, rfl, l.J, C, dx, _, _, rfl, oJ, jc.cls, jc.n_heads, rfl, _, rfl, l.ha, _, _, i, rfl, rfl, k1, ixh, fun H7 b7 e7 => ?_⟩
      have oJ7 := b7 _ _ oJ x1
      have la7 := b7 _ _ k2 (fun z => y1 z.symm)
      have to7 : H7 to = some (.tup (toh.map V.int)) := b7 _ _ (kp _ _ to5 (ne_kind to5 (keep5 _ _ ja.heads y2 y3) (fun z => by cases z)) (ne_kind to5 (keep5 _ _ ja.leads z1 z2) (fun z => by cases z))) (ne_kind (kp _ _ to5 (ne_kind to5 (keep5 _ _ ja.heads y2 y3) (fun z => by cases z)) (ne_kind to5 (keep5 _ _ ja.leads z1 z2) (fun z => by cases z))) k1 (fun z => by cases z))
      have x7 : H7 las'[i] = some (.tup (t.map V.int)) := b7 _ _ hti (ne_kind hti k1 (fun z => by cases z))
      have atx : atI (las'.map V.ref) (i : Int) = some (.ref las'[i]) := atI_nat (by rw [List.getElem?_map, List.getElem?_eq_getElem (show i < las'.length by omega)]; rfl)
      refine ⟨_, rfl, _, rfl, l.J, C, dx, _, _, rfl, oJ7, jc.cls, jc.n_leads, rfl, _, rfl, l.la, _, _, _, rfl, rfl, SqL.of la7, atx, to, las'[i], toh, t, rfl, SqT.of to7, SqT.of x7, fun x hx => by rw [ltt, ← ftoh.2]; exact full_in ftoh.1 hx, by have := ftoh.2; omega, fun tt H8 ntt g8 htt => ?_⟩
      refine ⟨_, rfl, l.J, C, dx, _, _, rfl, g8 _ _ oJ7, jc.cls, jc.n_leads, rfl, _, rfl, l.la, _, _, i, rfl, rfl, g8 _ _ la7, ixl, fun H9 b9 e9 => ?_⟩
      have gt : (ldAll toh (ma.take j) st.ld).getD i [] = t := by rw [List.getD_eq_getElem?_getD, et]; rfl
      have eh : hdAll hb (ma.take (j + 1)) st.hd = (hdAll hb (ma.take j) st.hd).set i hb := take_foldl mi st.hd
      have el : ldAll toh (ma.take (j + 1)) st.ld = (ldAll toh (ma.take j) st.ld).set i (aft t toh) := by
        have e1 : ldAll toh (ma.take (j + 1)) st.ld = mvL toh (ldAll toh (ma.take j) st.ld) i := take_foldl mi st.ld
        rw [e1, ← gt]
        rfl
      have ntl : tt ≠ l.la := fun z => by rw [z, la7] at ntt; cases ntt
      have h9 : ∀ c o, H6 c = some o → c ≠ l.ha → c ≠ l.la → H9 c = some o := fun c o e n1 n2 => b9 _ _ (g8 _ _ (b7 _ _ e n1)) n2
      refine ⟨las'.set i tt, _, ?_, ?_, ?_, ?_, fun c o e n1 n2 => h9 c o (kp c o e n1 n2) n1 n2, rfl⟩
      · rw [eh, ← nsV_set]
        exact b9 _ _ (g8 _ _ e7) y1
      · rw [e9, List.map_set]
      · rw [el]
        exact paired_set (F := fun a (xs : List Int) => H9 a = some (.tup (xs.map V.int))) (b9 _ _ htt ntl) i (L2.Paired.mapP k3 fun c xs e => h9 c _ e (ne_kind e k1 (fun z => by cases z)) (ne_kind e k2 (fun z => by cases z)))
      · intro u hu'
        rw [el] at hu'
        rcases List.mem_or_eq_of_mem_set hu' with z | z
        · exact k4 u z
        · rw [z]
          exact ⟨full_aft ftt ftoh.1 (by rw [ltt, ftoh.2]), by rw [aft_len]; exact ftoh.2⟩
    · rintro σ H6 ⟨las', o9, k1, k2, k3, k4, kp, rfl⟩
      rw [nsl, List.take_length] at k1 k3 k4
      exact hn0 _ _ ⟨las', o9, k1, k2, k3, k4, kp, rfl⟩
  rintro σ H6 ⟨las', o9, k1, k2, k3, k4, kp, rfl⟩
  have oJ := kp _ _ (keep5 _ _ ho x3 x4) x1 x2
  have md6 := kp _ _ e45 (fun z => y2 z.symm) (fun z => z1 z.symm)
  have fd6 := kp _ _ e5 (fun z => y3 z.symm) (fun z => z2 z.symm)
  have nms := ne_m mms
  have nmo := ne_m mmo
  have keep6 : ∀ c o, H c = some o → c ≠ l.ha → c ≠ l.la → c ≠ l.md → c ≠ l.fd → H6 c = some o := fun c o e n1 n2 n3 n4 => kp _ _ (keep5 _ _ e n3 n4) n1 n2
  have ms6 := keep6 _ _ hms nms.1 nms.2.1 nms.2.2.1 nms.2.2.2
  have mo6 := keep6 _ _ hmo nmo.1 nmo.2.1 nmo.2.2.1 nmo.2.2.2
  have pm6 : Paired (fun c (p : Nat × List Nat) => H6 c = some (.lst (nsV p.2)) ∧ c ∈ l.mas) (drpA (st.mem.map (·.1)) l.mas ha) (drp ha st.mem) := paired_drp ja.mem fun c p e mc _ => by
    obtain ⟨q1, q2, q3, q4⟩ := ne_m mc
    exact ⟨keep6 _ _ e q1 q2 q3 q4, mc⟩
  have lkB : (drp ha st.mem).lookup hb = some mb := by rw [lookup_drp (fun z => neq z.symm)]; exact mB
  obtain ⟨ms2, mms2, vms2, hms2⟩ := valV_dict (f := fun v : List Nat => HO.lst (nsV v)) (L2.Paired.mapP pm6 fun _ _ h => h.1) lkB
  rw [drp_keys] at vms2
  have mms2' : ms2 ∈ l.mas := drpA_sub.subset mms2
  refine ⟨_, rfl, l.J, C, dx, _, _, rfl, oJ, jc.cls, jc.n_members, rfl, _, rfl, l.md, .ref ms2, rfl, dget_i md6 vms2, .inl ⟨rfl, _, SqL.of hms2⟩, _, rfl, ms2, mo, _, _, rfl, rfl, hms2, mo6, by rw [nsl, List.length_map]; omega, fun H7 b7 e7 => ?_⟩
  obtain ⟨r1, r2, r3, r4⟩ := ne_m mms2'
  have sub := drpA_sub (h := ha) (ks := st.mem.map (·.1)) (as := l.mas)
  have subf := drpA_sub (h := ha) (ks := st.fr.map (·.1)) (as := l.fas)
  have fps : ∀ c ∈ JL.fp ⟨l.J, l.ha, l.la, l.md, l.fd, las', drpA (st.mem.map (·.1)) l.mas ha, drpA (st.fr.map (·.1)) l.fas ha⟩, c ∈ l.fp := fun c hc => by
    simp only [JL.fp, List.mem_cons] at hc ⊢
    rcases hc with h | h | h | h | h | h
    · exact .inl h
    · exact .inr (.inl h)
    · exact .inr (.inr (.inl h))
    · exact .inr (.inr (.inr (.inl h)))
    · exact .inr (.inr (.inr (.inr (.inl h))))
    · exact .inr (.inr (.inr (.inr (.inr (sub.subset h)))))
  have h7 : ∀ c o, H6 c = some o → c ≠ ms2 → H7 c = some o := fun c o e n1 => b7 _ _ e n1
  refine q ⟨l.J, l.ha, l.la, l.md, l.fd, las', drpA (st.mem.map (·.1)) l.mas ha, drpA (st.fr.map (·.1)) l.fas ha⟩ H7 rfl fps (fun c o e nc => ?_) ⟨⟨dx, h7 _ _ oJ (fun z => x5 (by rw [z]; exact mms2'))⟩, h7 _ _ k1 (fun z => r1 z.symm), h7 _ _ k2 (fun z => r2 z.symm), L2.Paired.mapP k3 fun c xs e => h7 c _ e (ne_kind e hms2 (fun z => by cases z)), ?_, ?_, ?_, ?_, ?_, fun c hc z => ?_⟩
  · simp only [JL.fp, List.mem_cons, not_or] at nc
    exact h7 _ _ (keep6 _ _ e nc.2.1 nc.2.2.1 nc.2.2.2.1 nc.2.2.2.2.1) (fun z => nc.2.2.2.2.2 (by rw [z]; exact mms2'))
  · show H7 l.md = some (.dK (dictN ((setF hb (mb ++ ma) (drp ha st.mem)).map (·.1)) _))
    rw [setF_keys, drp_keys]
    exact h7 _ _ md6 (fun z => r3 z.symm)
  · refine paired_ext (F := fun c (p : Nat × List Nat) => H6 c = some (.lst (nsV p.2)) ∧ c ∈ l.mas) (m := ms2) (fun k => ?_) pm6 (sub.nodup v2) ?_ (by rw [drp_keys]; exact vms2) fun c p e _ nc => h7 _ _ e.1 nc
    · show H7 ms2 = some (.lst (nsV (mb ++ ma)))
      rw [e7, nsV, nsV, nsV, List.map_append]
    · rw [drp_keys]
      exact ndk.filter _
  · show H7 l.fd = some (.dK (dictN ((drp ha st.fr).map (·.1)) _))
    rw [drp_keys]
    exact h7 _ _ fd6 (fun z => r4 z.symm)
  · refine paired_drp ja.free fun c p e mc _ => ?_
    have no := ja.out c mc
    simp only [JL.fp, List.mem_cons, not_or] at no
    exact h7 _ _ (keep6 _ _ e no.2.1 no.2.2.1 no.2.2.2.1 no.2.2.2.2.1) (fun z => no.2.2.2.2.2 (by rw [z]; exact mms2'))
  · have e0 : (JL.fp ⟨l.J, l.ha, l.la, l.md, l.fd, las', drpA (st.mem.map (·.1)) l.mas ha, drpA (st.fr.map (·.1)) l.fas ha⟩).Sublist l.fp := (((((sub.cons₂ l.fd).cons₂ l.md).cons₂ l.la).cons₂ l.ha).cons₂ l.J)
    exact e0.nodup ja.nd
  · exact ja.out c (subf.subset hc) (fps c z)
end
structure JTwo (st : JS) (n a b ha hb : Nat) (ta tb fma fmb : List Int) (ma mb : List Nat) : Prop where
  hA : st.hd[a]? = some ha
  hB : st.hd[b]? = some hb
  lA : st.ld[a]? = some ta
  lB : st.ld[b]? = some tb
  fl : ∀ t ∈ st.ld, full t = true ∧ t.length = n
  ll : st.ld.length = st.hd.length
  mA : st.mem.lookup ha = some ma
  mB : st.mem.lookup hb = some mb
  fA : st.fr.lookup ha = some fma
  fB : st.fr.lookup hb = some fmb
  ne : ha ≠ hb
  iA : ∀ i ∈ ma, i < st.hd.length
  iB : ∀ i ∈ mb, i < st.hd.length
  lm : ma.length + mb.length ≤ 1000
  nd : (st.mem.map (·.1)).Nodup
inductive IspBring (C : Addr) (vs : List V) (H : Hp) (Q : VK) : Prop
  | mk (l : JL) (st : JS) (n a b ha hb : Nat) (ta tb tn fma fmb : List Int) (tu : Addr) (ma mb : List Nat) (h0_ : vs = [.ref l.J, .int (a : Int), .int (b : Int), .ref tu]) (h1_ : JAt H C n l st) (h2_ : H tu = some (.tup (tn.map V.int))) (h3_ : n ≤ 8) (h4_ : tn.length = n) (h5_ : full tn = true) (h6_ : JTwo st n a b ha hb ta tb fma fmb ma mb) (h7_ : ∀ (l' : JL) (st' : JS) (H' : Hp), l'.J = l.J → (∀ c ∈ l'.fp, c ∈ l.fp) → Out l.fp H H' → JAt H' C n l' st' → (st' = st.mv hb ha mb ma (aft (inv ta) (aft (inv tn) tb)) ∨ st' = st.mv ha hb ma mb (aft (inv tb) (aft tn ta))) → Q .non H') : IspBring C vs H Q
def spBring (C : Addr) : Sp := fun vs H Q _ => IspBring C vs H Q
section
variable {P : Program} {w : World} {K : PySem.W.Frag} {mg : Str → Option Value} {base : Heap} {f C : Addr} {fd : FuncData}
theorem sc_Joins_bring_together : FnScope ["self", "one", "other", "turn"] ["self", "one", "other", "turn"] (defScope s_Joins_bring_together) := ⟨rfl, rfl, rfl, by decide +kernel, rfl, by decide +kernel, by decide +kernel⟩
theorem ok_bring (F : Fun K "bring_together" "Joins.bring_together" s_Joins_bring_together f fd) (jc : JoinsC K C) (h_turned_back : HasFn P w K mg base 1 "turned_back" ["turn"] spTb) (h_Joins_move : HasMt P w K mg base 2 "move" C ["self", "mover", "stayer", "turn"] (spMove C)) (bl : Bl mg) : FnOk P w K mg base CX0 3 f fd ["self", "one", "other", "turn"] (spBring C) := by
  refine F.ok sc_Joins_bring_together (fun vs H Q E h => ?_) (fun cdv A outer s H vs Q E hr h => ?_)
  · obtain ⟨l, st, n, a, b, ha, hb, ta, tb, tn, fma, fmb, tu, ma, mb, rfl, _⟩ := h
    rfl
  obtain ⟨l, st, n, a, b, ha, hb, ta, tb, tn, fma, fmb, tu, ma, mb, rfl, ja, hu, n8, tl, ft, two, q⟩ := h
  refine ⟨_, (pss_one (ps_if (pt_cmpR op_lt (pe_callB (lenK (K := K) rfl) rfl bl.n_len bt_len (pa_cons (pe_dget (hu_of hr) (pe_fldK (K := K) rfl (pv 0) rfl) (pe_ix (ix_listK (K := K) rfl) (pe_fldK (K := K) rfl (pv 0) rfl) (pv 1) (fun _ _ => rfl)) (fun _ _ => rfl)) pa_nil)) (pe_callB (lenK (K := K) rfl) rfl bl.n_len bt_len (pa_cons (pe_dget (hu_of hr) (pe_fldK (K := K) rfl (pv 0) rfl) (pe_ix (ix_listK (K := K) rfl) (pe_fldK (K := K) rfl (pv 0) rfl) (pv 2) (fun _ _ => rfl)) (fun _ _ => rfl)) pa_nil)) (nomark _)) (pss_one (ps_expr (pe_mt h_Joins_move hr (by omega) (pv 0) (pa_cons (pv 1) (pa_cons (pv 2) (pa_cons (pe_fn h_turned_back hr (by omega) rfl (pa_cons (pv 3) pa_nil)) pa_nil)))))) (pss_one (ps_expr (pe_mt h_Joins_move hr (by omega) (pv 0) (pa_cons (pv 2) (pa_cons (pv 1) (pa_cons (pv 3) pa_nil)))))))), ?_⟩
  obtain ⟨dx, ho⟩ := ja.obj
  obtain ⟨xa, mxa, vxa, hxa⟩ := valV_dict (f := fun v : List Nat => HO.lst (nsV v)) ja.mem two.mA
  obtain ⟨xb, mxb, vxb, hxb⟩ := valV_dict (f := fun v : List Nat => HO.lst (nsV v)) ja.mem two.mB
  refine ⟨_, rfl, l.J, C, dx, _, _, rfl, ho, jc.cls, jc.n_members, rfl, _, rfl, l.J, C, dx, _, _, rfl, ho, jc.cls, jc.n_heads, rfl, _, rfl, l.ha, _, _, _, rfl, rfl, SqL.of ja.heads, nsV_get two.hA, l.md, .ref xa, rfl, dget_i ja.mems vxa, xa, _, rfl, .inl (SqL.of hxa), ?_⟩
  refine ⟨_, rfl, l.J, C, dx, _, _, rfl, ho, jc.cls, jc.n_members, rfl, _, rfl, l.J, C, dx, _, _, rfl, ho, jc.cls, jc.n_heads, rfl, _, rfl, l.ha, _, _, _, rfl, rfl, SqL.of ja.heads, nsV_get two.hB, l.md, .ref xb, rfl, dget_i ja.mems vxb, xb, _, rfl, .inl (SqL.of hxb), _, _, rfl, rfl, _, rfl, ite2 (fun _ => ?_) (fun _ => ?_)⟩
  · refine ⟨_, rfl, l.J, dx, _, rfl, ho, rfl, _, rfl, _, rfl, _, rfl, tu, tn, rfl, hu, by omega, ft, fun tv H1 ntv g1 htv => ?_⟩
    refine ⟨l, st, n, a, b, ha, hb, ta, tb, inv tn, fma, tv, ma, mb, rfl, ja.same g1, htv, n8, by rw [inv_length]; exact tl, inv_full ft, two.hA, two.hB, two.lA, two.lB, two.fl, two.ll, two.mA, two.mB, two.fA, two.ne, two.iA, two.lm, two.nd, fun l' H2 k1 k2 o2 j2 => q l' _ H2 k1 k2 ((Out.of g1).trans o2) j2 (.inl rfl)⟩
  · refine ⟨_, rfl, l.J, dx, _, rfl, ho, rfl, _, rfl, _, rfl, _, rfl, ?_⟩
    exact ⟨l, st, n, b, a, hb, ha, tb, ta, tn, fmb, tu, mb, ma, rfl, ja, hu, n8, tl, ft, two.hB, two.hA, two.lB, two.lA, two.fl, two.ll, two.mB, two.mA, two.fB, (fun z => two.ne z.symm), two.iB, by have := two.lm; omega, two.nd, fun l' H2 k1 k2 o2 j2 => q l' _ H2 k1 k2 o2 j2 (.inr rfl)⟩
end
def PrsAt (H : Hp) (as : List Addr) (prs : List (Int × Int)) : Prop := Paired (fun a (p : Int × Int) => H a = some (.tup [.int p.1, .int p.2])) as prs
def prsOf (hi hj : Nat) (ti tj si sj : List Int) : List (Int × Int) := if hi = hj then si.map fun z => (ti.getD z.toNat 0, tj.getD z.toNat 0) else (si.map fun z => ti.getD z.toNat 0).flatMap fun x => sj.map fun z => (x, tj.getD z.toNat 0)
inductive IspPairs (C : Addr) (vs : List V) (H : Hp) (Q : VK) : Prop
  | mk (l : JL) (st : JS) (n i j hi hj : Nat) (ti tj si sj : List Int) (h0_ : vs = [.ref l.J, .int (i : Int), .int (j : Int)]) (h1_ : JAt H C n l st) (h2_ : JOne st i hi ti si) (h3_ : JOne st j hj tj sj) (h4_ : ∀ (p : Addr) (as : List Addr) (prs : List (Int × Int)) (H' : Hp), H p = none → Same H H' → H' p = some (.lst (as.map V.ref)) → PrsAt H' as prs → prs.Perm (prsOf hi hj ti tj si sj) → prs.Pairwise LexLt → Q (.ref p) H') : IspPairs C vs H Q
def spPairs (C : Addr) : Sp := fun vs H Q _ => IspPairs C vs H Q
inductive IspLeft (C : Addr) (vs : List V) (H : Hp) (Q : VK) : Prop
  | mk (l : JL) (st : JS) (n i j hi hj : Nat) (ti tj si sj tn : List Int) (tu : Addr) (h0_ : vs = [.ref l.J, .int (i : Int), .int (j : Int), .ref tu]) (h1_ : JAt H C n l st) (h2_ : JOne st i hi ti si) (h3_ : JOne st j hj tj sj) (h4_ : H tu = some (.tup (tn.map V.int))) (h5_ : (∀ q ∈ prsOf hi hj ti tj si sj, 0 ≤ q.1 ∧ q.1 < tn.length)) (h6_ : (prsOf hi hj ti tj si sj).length ≤ 1000) (h7_ : ∀ (p : Addr) (ns : List Int) (H' : Hp), H p = none → Same H H' → H' p = some (.lst (ns.map V.int)) → ns.Perm (((prsOf hi hj ti tj si sj).filter fun q => decide (tn.getD q.1.toNat 0 = q.2)).map (·.1)) → ns.Pairwise (· < ·) → Q (.ref p) H') : IspLeft C vs H Q
def spLeft (C : Addr) : Sp := fun vs H Q _ => IspLeft C vs H Q
section
variable {P : Program} {w : World} {K : PySem.W.Frag} {mg : Str → Option Value} {base : Heap} {f C : Addr} {fd : FuncData}
theorem sc_Joins_left : FnScope ["self", "one", "other", "turn"] ["self", "one", "other", "turn"] (defScope s_Joins_left) := ⟨rfl, rfl, rfl, by decide +kernel, rfl, by decide +kernel, by decide +kernel⟩
theorem ok_left (F : Fun K "left" "Joins.left" s_Joins_left f fd) (h_Joins_pairs : HasMt P w K mg base 3 "pairs" C ["self", "one", "other"] (spPairs C)) (bl : Bl mg) : FnOk P w K mg base CX0 4 f fd ["self", "one", "other", "turn"] (spLeft C) := by
  refine F.ok sc_Joins_left (fun vs H Q E h => ?_) (fun cdv A outer s H vs Q E hr h => ?_)
  · obtain ⟨l, st, n, i, j, hi, hj, ti, tj, si, sj, tn, tu, rfl, _⟩ := h
    rfl
  obtain ⟨l, st, n, i, j, hi, hj, ti, tj, si, sj, tn, tu, rfl, ja, o1, o2, hu, inb, few, q⟩ := h
  refine ⟨_, (pss_one (ps_ret (pe_compL (xs := ["first", "second"]) (fr := [("turn", 3)]) (cl := [("turn", s.heap.objs.size + 1)]) rfl ⟨by with_unfolding_all rfl, ⟨rfl, trivial⟩, rfl, by decide +kernel, by decide +kernel, rfl, ⟨⟨rfl, .inl rfl, .inl rfl, rfl⟩, trivial⟩, by decide +kernel⟩ (fun _ _ _ _ => (pg_tupK (K := K) (n := 2) rfl rfl (pgs_cons (pg_name (i := 0) (show (["first", "second", "turn"] : List Str).Nodup by decide +kernel) rfl (Or.inl rfl)) (pgs_cons (pg_name (i := 1) (show (["first", "second", "turn"] : List Str).Nodup by decide +kernel) rfl (Or.inl rfl)) pgs_nil)))) (pi_listK (K := K) rfl (pe_mt h_Joins_pairs hr (by omega) (pv 0) (pa_cons (pv 1) (pa_cons (pv 2) pa_nil)))) (fun _ _ _ _ => ptl_one (pt_cmpR op_eq (pe_ix (ix_tupK (K := K) rfl) (pv 2) (pv 0) (fun _ _ => rfl)) (pv 1) (nomark _))) (fun _ _ _ _ => (pv 0))))), ?_⟩
  obtain ⟨dx, ho⟩ := ja.obj
  refine ⟨_, rfl, l.J, dx, _, rfl, ho, rfl, _, rfl, _, rfl, l, st, n, i, j, hi, hj, ti, tj, si, sj, rfl, ja, o1, o2, fun p as prs H1 np g1 hp pr pm pw => ?_⟩
  have pl := paired_len pr
  have al : (as.map V.ref).length = prs.length := by rw [List.length_map]; exact pl
  have plen := pm.length_eq
  refine ⟨p, rfl, ⟨_, SqL.of hp⟩, fun D hD => comp_listL (xs := as.map V.ref) (fun k ys H2 => k ≤ prs.length ∧ Same H1 H2 ∧ H2 D = some (.lst ys) ∧ ys = ((prs.take k).filter fun q => decide (tn.getD q.1.toNat 0 = q.2)).map fun q => V.int q.1) ⟨Nat.zero_le _, same_new hD _, upd_same, rfl⟩ (fun k ys H2 _ ⟨_, g2, _, _⟩ => SqL.of (g2 _ _ hp)) ?_ ?_⟩
  · rintro k v ys H2 hk ⟨_, g2, h2, ey⟩ os los
    obtain ⟨u1, u2, rfl⟩ : ∃ u1 u2, os = [u1, u2] := by
      match os, los with
      | [u1, u2], _ => exact ⟨u1, u2, rfl⟩
    rw [List.getElem?_map] at hk
    obtain ⟨c, ec, rfl⟩ : ∃ c, as[k]? = some c ∧ V.ref c = v := by
      cases e : as[k]? with
      | none => rw [e] at hk; cases hk
      | some c => rw [e] at hk; exact ⟨c, rfl, Option.some.inj hk⟩
    obtain ⟨⟨x, y⟩, exy, hxy⟩ := paired_get pr ec
    have kl : k < prs.length := (List.getElem?_eq_some_iff.mp exy).1
    have bx := inb (x, y) (pm.subset (List.mem_of_getElem? exy))
    have hx2 := g2 _ _ hxy
    have yl : ys.length < sizeLine := by
      have := List.length_filter_le (fun q : Int × Int => decide (tn.getD q.1.toNat 0 = q.2)) (prs.take k)
      rw [List.length_take] at this
      rw [ey, List.length_map, sizeLine_eq]
      omega
    refine ⟨c, _, rfl, SqT.of hx2, rfl, _, _, rfl, nameE ⟨_, _, rfl, nameE ⟨rfl, ⟨[some (.int x), some (.int y)], rfl, rfl⟩, ?_⟩⟩⟩
    refine ⟨_, rfl, _, rfl, tu, _, _, _, rfl, rfl, SqT.of (g2 _ _ (g1 _ _ hu)), atI_in bx.1 bx.2, _, rfl, rfl, _, rfl, ?_⟩
    have ed : decide (V.int (tn.getD x.toNat 0) = V.int y) = decide (tn.getD x.toNat 0 = y) := by
      rw [Bool.eq_iff_iff, decide_eq_true_iff, decide_eq_true_iff]
      exact ⟨V.int.inj, fun z => by rw [z]⟩
    rw [ed]
    have et : ∀ (b : Bool), decide (tn.getD x.toNat 0 = y) = b → ((prs.take (k + 1)).filter fun q => decide (tn.getD q.1.toNat 0 = q.2)).map (fun q => V.int q.1) = ys ++ (if b = true then [V.int x] else []) := fun b eb => by
      rw [ey, List.take_add_one, exy, List.filter_append, List.map_append]
      congr 1
      show ([((x, y) : Int × Int)].filter _).map _ = _
      rw [List.filter_cons, eb]
      cases b <;> rfl
    refine ite2 (fun cc => ?_) (fun cc => ?_)
    · refine ⟨_, rfl, h2, yl, kl, fun b o e => ?_, upd_same, ?_⟩
      · rw [upd_ne (ne_of_none e hD)]
        exact g2 _ _ e
      · rw [et true cc]
        rfl
    · refine ⟨kl, g2, h2, ?_⟩
      rw [et false (by cases e : decide (tn.getD x.toNat 0 = y) with | true => exact absurd e cc | false => rfl)]
      simp
  · rintro ys H2 ⟨_, g2, h2, ey⟩
    rw [al, List.take_length] at ey
    refine q D ((prs.filter fun q => decide (tn.getD q.1.toNat 0 = q.2)).map (·.1)) H2 (g1.free hD) (g1.trans g2) (by rw [h2, ey, List.map_map]; rfl) ((pm.filter _).map _) ?_
    rw [List.pairwise_map]
    refine (List.Pairwise.and_mem.mp (pw.filter _)).imp ?_
    rintro a b ⟨ma, mb, lt⟩
    have e1 : tn.getD a.1.toNat 0 = a.2 := of_decide_eq_true (List.mem_filter.mp ma).2
    have e2 : tn.getD b.1.toNat 0 = b.2 := of_decide_eq_true (List.mem_filter.mp mb).2
    rcases lt with lt | ⟨e, lt⟩
    · exact lt
    · rw [← e1, ← e2, e] at lt
      exact absurd lt (Int.lt_irrefl _)
end
theorem prs_of {H : Hp} {g : Nat → Int × Int} : ∀ {ys : List V} {ks : List Nat}, Paired (fun y k => ∃ a, y = V.ref a ∧ H a = some (.tup [.int (g k).1, .int (g k).2])) ys ks → ∃ as : List Addr, ys = as.map V.ref ∧ PrsAt H as (ks.map g) := by
  intro ys ks pr
  induction pr with
  | nil => exact ⟨[], rfl, .nil⟩
  | cons z t ih =>
    obtain ⟨a, e, h⟩ := z
    obtain ⟨as, e2, h2⟩ := ih
    exact ⟨a :: as, by rw [e, e2]; rfl, .cons h h2⟩
theorem map_range {α : Type} (g : Int → α) (si : List Int) : (List.range si.length).map (fun k => g (si.getD k 0)) = si.map g := by
  have e := range_getD si 0
  have e2 : (List.range si.length).map (fun k => g (si.getD k 0)) = ((List.range si.length).map fun k => si.getD k 0).map g := by rw [List.map_map]; rfl
  rw [e2, e]
def PrsD (D : Addr) (H : Hp) (as : List Addr) (prs : List (Int × Int)) : Prop := Paired (fun a (p : Int × Int) => a ≠ D ∧ H a = some (.tup [.int p.1, .int p.2])) as prs
theorem len_grid {α β γ : Type} (g : α → β → γ) (ys : List β) : ∀ xs : List α, (xs.flatMap fun x => ys.map (g x)).length = xs.length * ys.length
  | [] => by simp
  | x :: xs => by rw [List.flatMap_cons, List.length_append, len_grid g ys xs, List.length_map, List.length_cons, Nat.succ_mul]; omega
theorem take_grid {α β γ : Type} {g : α → List γ} {xs : List α} {i : Nat} {x : α} (h : xs[i]? = some x) : (xs.take (i + 1)).flatMap g = (xs.take i).flatMap g ++ g x := by
  rw [List.take_add_one, h, List.flatMap_append]
  simp
theorem strict_of {ns : List Int} (so : ns.Pairwise (· ≤ ·)) (nd : ns.Nodup) : ns.Pairwise (· < ·) := by
  refine (List.Pairwise.and so (List.nodup_iff_pairwise_ne.mp nd)).imp ?_
  rintro a b ⟨h1, h2⟩
  omega
theorem row_lex (x : Int) {ns : List Int} (st : ns.Pairwise (· < ·)) : (ns.map fun y => ((x, y) : Int × Int)).Pairwise LexLt := by
  rw [List.pairwise_map]
  exact st.imp fun h => .inr ⟨rfl, h⟩
theorem take_lt {ns : List Int} (st : ns.Pairwise (· < ·)) {k : Nat} {x y : Int} (hx : ns[k]? = some x) (my : y ∈ ns.take k) : y < x := by
  obtain ⟨i, hi, rfl⟩ := List.mem_iff_getElem.mp my
  obtain ⟨hk, rfl⟩ := List.getElem?_eq_some_iff.mp hx
  rw [List.length_take] at hi
  rw [List.getElem_take]
  exact List.pairwise_iff_getElem.mp st i k (by omega) hk (by omega)
section
variable {P : Program} {w : World} {K : PySem.W.Frag} {mg : Str → Option Value} {base : Heap} {f C : Addr} {fd : FuncData}
theorem sc_Joins_pairs : FnScope ["self", "one", "other", "here", "there"] ["self", "one", "other"] (defScope s_Joins_pairs) := ⟨rfl, rfl, rfl, by decide +kernel, rfl, by decide +kernel, by decide +kernel⟩
theorem ok_pairs (F : Fun K "pairs" "Joins.pairs" s_Joins_pairs f fd) (jc : JoinsC K C) (h_Joins_together : HasMt P w K mg base 1 "together" C ["self", "one", "other"] (spTogether C)) (h_Joins_open_at : HasMt P w K mg base 2 "open_at" C ["self", "one"] (spOpenAt C)) (bl : Bl mg) : FnOk P w K mg base CX0 3 f fd ["self", "one", "other"] (spPairs C) := by
  refine F.ok sc_Joins_pairs (fun vs H Q E h => ?_) (fun cdv A outer s H vs Q E hr h => ?_)
  · obtain ⟨l, st, n, i, j, hi, hj, ti, tj, si, sj, rfl, _⟩ := h
    rfl
  obtain ⟨l, st, n, i, j, hi, hj, ti, tj, si, sj, rfl, ja, o1, o2, q⟩ := h
  refine ⟨_, (pss_cons (ps_if (pt_not (pt_val (pe_mt h_Joins_together hr (by omega) (pv 0) (pa_cons (pv 1) (pa_cons (pv 2) pa_nil))))) (pss_one (ps_ret (pe_comp2 (xs := ["first", "second"]) (fr := [("self", 0), ("other", 2)]) (cl := [("self", s.heap.objs.size + 1), ("other", s.heap.objs.size + 1 + 1)]) rfl ⟨by with_unfolding_all rfl, ⟨rfl, ⟨rfl, trivial⟩⟩, rfl, by decide +kernel, by decide +kernel, rfl, ⟨⟨rfl, .inl rfl, .inl rfl, rfl⟩, ⟨⟨rfl, .inl rfl, .inl rfl, rfl⟩, trivial⟩⟩, by decide +kernel⟩ (fun _ _ _ _ => (pg_name (i := 0) (show (["first", "second", "self", "other"] : List Str).Nodup by decide +kernel) rfl (Or.inl rfl))) (pi_listK (K := K) rfl (pe_mt h_Joins_open_at hr (by omega) (pv 0) (pa_cons (pv 1) pa_nil))) (fun _ _ _ _ => (pi_listK (K := K) rfl (pe_mt h_Joins_open_at hr (by omega) (pv 2) (pa_cons (pv 3) pa_nil)))) (fun _ _ _ _ => (pg_name (i := 1) (show (["first", "second", "self", "other"] : List Str).Nodup by decide +kernel) rfl (Or.inl rfl))) (fun _ _ _ _ => (pe_tupN (pa_cons (pv 0) (pa_cons (pv 1) pa_nil))))))) pss_nil) (pss_cons (ps_set (i := 3) sc_Joins_pairs.nd rfl (Or.inr rfl) (pe_ix (ix_listK (K := K) rfl) (pe_fldK (K := K) rfl (pv 0) rfl) (pv 1) (fun _ _ => rfl))) (pss_cons (ps_set (i := 4) sc_Joins_pairs.nd rfl (Or.inr rfl) (pe_ix (ix_listK (K := K) rfl) (pe_fldK (K := K) rfl (pv 0) rfl) (pv 2) (fun _ _ => rfl))) (pss_one (ps_ret (pe_callB (sortedQK (K := K) rfl) rfl bl.n_sorted bt_sorted (pa_cons (pe_comp (x := "section") (fr := [("there", 4), ("here", 3)]) (cl := [("there", s.heap.objs.size + 1 + 1 + 1 + 1), ("here", s.heap.objs.size + 1 + 1 + 1)]) rfl ⟨by with_unfolding_all rfl, ⟨rfl, ⟨rfl, trivial⟩⟩, rfl, by decide +kernel, rfl, by decide +kernel, rfl, ⟨⟨rfl, .inl rfl, .inl rfl, rfl⟩, ⟨⟨rfl, .inl rfl, .inl rfl, rfl⟩, trivial⟩⟩, by decide +kernel⟩ (pi_listK (K := K) rfl (pe_dget (hu_of hr) (pe_fldK (K := K) rfl (pv 0) rfl) (pe_ix (ix_listK (K := K) rfl) (pe_fldK (K := K) rfl (pv 0) rfl) (pv 1) (fun _ _ => rfl)) (fun _ _ => rfl))) (fun _ _ _ _ => ptl_nil) (fun _ _ _ _ => (pe_tupN (pa_cons (pe_ix (ix_tupK (K := K) rfl) (pv 2) (pv 0) (fun _ _ => rfl)) (pa_cons (pe_ix (ix_tupK (K := K) rfl) (pv 1) (pv 0) (fun _ _ => rfl)) pa_nil))))) pa_nil))))))), ?_⟩
  obtain ⟨dx, ho⟩ := ja.obj
  have f1 := o1.few
  have f2 := o2.few
  refine ⟨_, rfl, l.J, dx, _, rfl, ho, rfl, _, rfl, _, rfl, l, st, n, i, j, hi, hj, rfl, ja, o1.hd, o2.hd, _, rfl, ?_⟩
  by_cases eh : hi = hj
  · rw [decide_eq_true eh]
    refine iteF (nextE ?_)
    have es : si = sj := by have a := o1.fr; have b := o2.fr; rw [eh, b] at a; exact (Option.some.inj a).symm
    have ld_at : ∀ {k : Nat} {t : List Int}, st.ld[k]? = some t → ∃ x, l.las[k]? = some x ∧ H x = some (.tup (t.map V.int)) := fun {k t} ht => by
      have hl := paired_len ja.lead
      have hil : k < l.las.length := by rw [hl]; exact (List.getElem?_eq_some_iff.mp ht).1
      obtain ⟨y, ey, hy⟩ := paired_get ja.lead (List.getElem?_eq_getElem hil)
      rw [ht] at ey
      cases ey
      exact ⟨_, List.getElem?_eq_getElem hil, hy⟩
    obtain ⟨xi, exi, hxi⟩ := ld_at o1.ld
    obtain ⟨xj, exj, hxj⟩ := ld_at o2.ld
    have ati : atI (l.las.map V.ref) (i : Int) = some (.ref xi) := atI_nat (by rw [List.getElem?_map, exi]; rfl)
    have atj : atI (l.las.map V.ref) (j : Int) = some (.ref xj) := atI_nat (by rw [List.getElem?_map, exj]; rfl)
    obtain ⟨fa, mfa, vf, hfa⟩ := valV_dict (f := fun v : List Int => HO.lst (v.map V.int)) ja.free o1.fr
    refine setT ?_
    refine ⟨_, rfl, l.J, C, dx, _, _, rfl, ho, jc.cls, jc.n_leads, rfl, _, rfl, l.la, _, _, _, rfl, rfl, SqL.of ja.leads, ati, ?_⟩
    refine setT ?_
    refine ⟨_, rfl, l.J, C, dx, _, _, rfl, ho, jc.cls, jc.n_leads, rfl, _, rfl, l.la, _, _, _, rfl, rfl, SqL.of ja.leads, atj, ?_⟩
    refine ⟨_, rfl, l.J, C, dx, _, _, rfl, ho, jc.cls, jc.n_free, rfl, _, rfl, l.J, C, dx, _, _, rfl, ho, jc.cls, jc.n_heads, rfl, _, rfl, l.ha, _, _, _, rfl, rfl, SqL.of ja.heads, nsV_get o1.hd, l.fd, _, rfl, dget_i ja.frees vf, fa, rfl, ⟨_, SqL.of hfa⟩, fun D hD => comp_listF (xs := si.map V.int) (SqL.of hfa) (by rw [List.length_map]; omega) hD (fun _ => true) (fun k y H1 => ∃ a, y = V.ref a ∧ a ≠ D ∧ H1 a = some (.tup [.int (ti.getD (si.getD k 0).toNat 0), .int (tj.getD (si.getD k 0).toNat 0)])) (fun k y H1 H2 b ⟨a, e1, e2, e3⟩ => ⟨a, e1, e2, b _ _ e3 e2⟩) (fun k v hk H1 g1 hys Kt Kf kt kf => ?_) fun ys H1 g1 h1 pr => ?_⟩
    · obtain ⟨z, rfl, hz⟩ := get_int hk
      have gz : si.getD k 0 = z := by rw [List.getD_eq_getElem?_getD, hz]; rfl
      have b1 := o1.inb z (List.mem_of_getElem? hz)
      have b2 := o2.inb z (by rw [← es]; exact List.mem_of_getElem? hz)
      refine yesT (iteT ?_)
      refine ⟨_, rfl, _, rfl, xi, _, _, _, rfl, rfl, SqT.of (g1 _ _ hxi), atI_in b1.1 b1.2, _, rfl, _, rfl, xj, _, _, _, rfl, rfl, SqT.of (g1 _ _ hxj), atI_in b2.1 b2.2, by show 2 ≤ sizeLine; rw [sizeLine_eq]; omega, fun a H2 na g2 ha => ?_⟩
      obtain ⟨ys, hys⟩ := hys
      exact kt _ H2 rfl g2 ⟨a, rfl, (fun z => by rw [z, hys] at na; cases na), by rw [gz]; exact ha⟩
    · rw [filter_yes, List.length_map] at pr
      obtain ⟨as, eas, pas⟩ := prs_of (g := fun k => (ti.getD (si.getD k 0).toNat 0, tj.getD (si.getD k 0).toNat 0)) (L2.Paired.mapP pr fun y k ⟨a, e1, e2, e3⟩ => ⟨a, e1, e3⟩)
      have em : (List.range si.length).map (fun k => ((ti.getD (si.getD k 0).toNat 0, tj.getD (si.getD k 0).toNat 0) : Int × Int)) = si.map fun z => (ti.getD z.toNat 0, tj.getD z.toNat 0) := map_range (fun z => (ti.getD z.toNat 0, tj.getD z.toNat 0)) si
      rw [em] at pas
      have al := paired_len pas
      rw [List.length_map] at al
      rw [eas] at h1
      have ndp : (si.map fun z => ((ti.getD z.toNat 0, tj.getD z.toNat 0) : Int × Int)).Nodup := by
        have d := o1.dist
        rw [List.nodup_iff_pairwise_ne, List.pairwise_map] at d ⊢
        exact d.imp fun h e => h (congrArg (·.1) e)
      refine ⟨D, as, _, rfl, SqL.of h1, pas, ndp, .inl (by omega), fun as' prs' pr2 p2 pw p H2 np g2 hp => ?_⟩
      refine q p as' prs' H2 (g1.free np) (g1.trans g2) hp (L2.Paired.mapP pr2 fun _ _ e => g2 _ _ e) ?_ pw
      unfold prsOf
      rw [if_pos eh]
      exact p2
  · rw [decide_eq_false eh]
    refine iteT ?_
    refine ⟨_, rfl, l.J, dx, _, rfl, ho, rfl, _, rfl, l, st, n, i, hi, ti, si, rfl, ja, o1.hd, o1.ld, o1.fr, o1.inb, o1.few, fun p ns H1 np g1 pm srt hp => ?_⟩
    have nl := pm.length_eq
    rw [List.length_map] at nl
    have sns := strict_of srt (pm.nodup_iff.mpr o1.dist)
    refine ⟨p, rfl, ⟨_, SqL.of hp⟩, fun D hD => comp_2L (xs := ns.map V.int) (fun k ys H2 => k ≤ ns.length ∧ Same H1 H2 ∧ H2 D = some (.lst ys) ∧ ∃ (as : List Addr) (prs : List (Int × Int)), ys = as.map V.ref ∧ PrsD D H2 as prs ∧ prs.Perm ((ns.take k).flatMap fun x => sj.map fun z => (x, tj.getD z.toNat 0)) ∧ prs.Pairwise LexLt ∧ ∀ p ∈ prs, p.1 ∈ ns.take k) ⟨Nat.zero_le _, same_new hD _, upd_same, [], [], rfl, .nil, .nil, .nil, fun _ h => (nomatch h)⟩ (fun k ys H2 _ ⟨_, g2, _⟩ => SqL.of (g2 _ _ hp)) ?_ ?_ ?_ (fun v σ H R R' m h => m _ _ h)⟩
    · rintro k v ys H2 hk ⟨kl, g2, h2, as, prs, ey, pa, pp, pw, pin⟩ os los
      obtain ⟨u1, u2, rfl⟩ : ∃ u1 u2, os = [u1, u2] := by
        match os, los with
        | [u1, u2], _ => exact ⟨u1, u2, rfl⟩
      obtain ⟨x, rfl, hx⟩ := get_int hk
      have kl' : k < ns.length := (List.getElem?_eq_some_iff.mp hx).1
      refine nameE ⟨⟨[some (.int x), u2], rfl, rfl⟩, ?_⟩
      refine ⟨_, rfl, l.J, dx, _, rfl, g2 _ _ (g1 _ _ ho), rfl, _, rfl, l, st, n, j, hj, tj, sj, rfl, ja.same (g1.trans g2), o2.hd, o2.ld, o2.fr, o2.inb, o2.few, fun p2 ns2 H3 np2 g3 pm2 srt2 hp2 => ?_⟩
      have nl2 := pm2.length_eq
      rw [List.length_map] at nl2
      have sns2 := strict_of srt2 (pm2.nodup_iff.mpr o2.dist)
      have pD : p2 ≠ D := fun z => by rw [z, h2] at np2; cases np2
      have plen := pp.length_eq
      rw [len_grid (fun x z => ((x, tj.getD z.toNat 0) : Int × Int)) sj (ns.take k), List.length_take] at plen
      have alen := paired_len pa
      have mmul : min k ns.length * sj.length ≤ 64 * 64 := Nat.mul_le_mul (by omega) (by omega)
      refine ⟨p2, rfl, ⟨_, SqL.of hp2⟩, p2, ns2.map V.int, fun k2 ys2 σ H4 => k2 ≤ ns2.length ∧ Same H1 H4 ∧ H4 D = some (.lst ys2) ∧ H4 p2 = some (.lst (ns2.map V.int)) ∧ (∃ o2, σ = [some (.int x), o2] ++ _) ∧ ∃ (as2 : List Addr) (prs2 : List (Int × Int)), ys2 = as2.map V.ref ∧ PrsD D H4 as2 prs2 ∧ prs2 = prs ++ (ns2.take k2).map fun y => (x, y), rfl, ⟨Nat.zero_le _, g2.trans g3, g3 _ _ h2, hp2, ⟨u2, rfl⟩, as, prs, ey, L2.Paired.mapP pa fun _ _ e => ⟨e.1, g3 _ _ e.2⟩, by simp⟩, fun k2 ys2 σ H4 _ ⟨_, _, _, e, _⟩ => SqL.of e, ?_, ?_⟩
      · rintro k2 v2 ys2 σ H4 hk2 ⟨k2l, g4, h4, e4, ⟨o2', rfl⟩, as2, prs2, ey2, pa2, ep2⟩
        obtain ⟨y, rfl, hy⟩ := get_int hk2
        have k2l' : k2 < ns2.length := (List.getElem?_eq_some_iff.mp hy).1
        have al2 := paired_len pa2
        rw [ep2, List.length_append, List.length_map, List.length_take] at al2
        refine nameE ⟨_, rfl, _, rfl, by show 2 ≤ sizeLine; rw [sizeLine_eq]; omega, fun a H5 na g5 ha => ⟨g5 _ _ h4, by rw [ey2, List.length_map, al2, sizeLine_eq]; have := o2.few; omega, k2l', ?_, upd_same, ?_, ⟨some (.int y), rfl⟩, as2 ++ [a], prs2 ++ [(x, y)], by rw [ey2, List.map_append]; rfl, ?_, ?_⟩⟩
        · intro b o e
          rw [upd_ne (ne_of_none e hD)]
          exact g5 _ _ (g4 _ _ e)
        · rw [upd_ne pD]
          exact g5 _ _ e4
        · have aD : a ≠ D := fun z => by rw [z, h4] at na; cases na
          exact paired_snoc (F := fun a (p : Int × Int) => a ≠ D ∧ upd H5 D _ a = some (.tup [.int p.1, .int p.2])) ⟨aD, by rw [upd_ne aD]; exact ha⟩ (L2.Paired.mapP pa2 fun b p e => ⟨e.1, by rw [upd_ne e.1]; exact g5 _ _ e.2⟩)
        · rw [ep2, List.take_add_one, hy, List.map_append, List.append_assoc]
          rfl
      · rintro ys2 σ H4 ⟨_, g4, h4, e4, ⟨o2', rfl⟩, as2, prs2, ey2, pa2, ep2⟩
        rw [List.length_map, List.take_length] at ep2
        refine ⟨⟨[some (.int x), o2'], rfl, rfl⟩, kl', g4, h4, as2, prs2, ey2, pa2, ?_, ?_, fun p mp => ?_⟩
        · rw [ep2, take_grid (β := Int) hx]
          refine pp.append ?_
          have := pm2.map fun y : Int => ((x, y) : Int × Int)
          rw [List.map_map] at this
          exact this
        · rw [ep2]
          refine List.pairwise_append.mpr ⟨pw, row_lex x sns2, fun p mp q' mq => .inl ?_⟩
          obtain ⟨y, _, rfl⟩ := List.mem_map.mp mq
          exact take_lt sns hx (pin p mp)
        · rw [ep2] at mp
          rw [List.take_add_one, hx]
          rcases List.mem_append.mp mp with mp | mp
          · exact List.mem_append_left _ (pin p mp)
          · obtain ⟨y, _, rfl⟩ := List.mem_map.mp mp
            exact List.mem_append_right _ List.mem_cons_self
    · rintro ys H2 ⟨_, g2, h2, as, prs, ey, pa, pp, pw, _⟩
      rw [List.length_map, List.take_length] at pp
      rw [ey] at h2
      refine q D as prs H2 (g1.free hD) (g1.trans g2) h2 (L2.Paired.mapP pa fun _ _ e => e.2) (pp.trans ?_) pw
      unfold prsOf
      rw [if_neg eh]
      exact pm.flatMap_right _
    · rintro σ H R R' m ⟨x1, e1, x2, x3, x4, e2, e3, e4, x5, e5, l, st, n, i, h, t, secs, e6, j1, j2, j3, j4, j5, j6, k⟩
      refine ⟨x1, e1, x2, x3, x4, e2, e3, e4, x5, e5, l, st, n, i, h, t, secs, e6, j1, j2, j3, j4, j5, j6, fun p ns H' a b c d e => ?_⟩
      obtain ⟨a, e, s, r⟩ := k p ns H' a b c d e
      exact ⟨a, e, s, m _ _ r⟩
end
def ap (t : List Int) (z : Int) : Int := t.getD z.toNat 0
theorem ap_get {t : List Int} {z : Int} (h0 : 0 ≤ z) (h : z < t.length) : t[z.toNat]? = some (ap t z) := by
  unfold ap
  rw [List.getD_eq_getElem?_getD, List.getElem?_eq_getElem (by omega)]
  rfl
theorem ap_in {t : List Int} {n : Nat} (ft : full t = true) (lt : t.length = n) {z : Int} (h : 0 ≤ z ∧ z < n) : 0 ≤ ap t z ∧ ap t z < n := by
  have := full_in ft (List.mem_of_getElem? (ap_get h.1 (by omega)))
  omega
theorem ap_inv1 {t : List Int} {n : Nat} (ft : full t = true) (lt : t.length = n) {z : Int} (h : 0 ≤ z ∧ z < n) : ap (inv t) (ap t z) = z := by
  have g := ap_get (t := t) h.1 (by omega)
  have b := ap_in ft lt h
  have e1 : ((ap t z).toNat : Int) = ap t z := Int.toNat_of_nonneg b.1
  have e2 := inv_get (xs := t) (i := (ap t z).toNat) (by omega)
  rw [e1, ixOf_uniq (full_nodup ft) g] at e2
  have e3 : ap (inv t) (ap t z) = ((z.toNat : Nat) : Int) := by
    show (inv t).getD (ap t z).toNat 0 = _
    rw [List.getD_eq_getElem?_getD, e2]
    rfl
  rw [e3, Int.toNat_of_nonneg h.1]
theorem ap_inv2 {t : List Int} {n : Nat} (ft : full t = true) (lt : t.length = n) {z : Int} (h : 0 ≤ z ∧ z < n) : ap t (ap (inv t) z) = z := by
  have := ap_inv1 (t := inv t) (n := n) (inv_full ft) (by rw [inv_length]; exact lt) h
  rw [inv_inv ft] at this
  exact this
theorem ap_inj {t : List Int} {n : Nat} (ft : full t = true) (lt : t.length = n) {z z' : Int} (h : 0 ≤ z ∧ z < n) (h' : 0 ≤ z' ∧ z' < n) (e : ap t z = ap t z') : z = z' := by
  have a := ap_inv1 ft lt h
  rw [e, ap_inv1 ft lt h'] at a
  exact a.symm
theorem ap_aft {xs ys : List Int} {z : Int} (h : 0 ≤ z ∧ z < ys.length) : ap (aft xs ys) z = ap xs (ap ys z) := by
  have g := ap_get (t := ys) h.1 h.2
  show (aft xs ys).getD z.toNat 0 = _
  unfold aft
  rw [List.getD_eq_getElem?_getD, List.getElem?_map, g]
  rfl
def JS.hdO (st : JS) (i : Nat) : Nat := st.hd.getD i 0
def JS.ldO (st : JS) (i : Nat) : List Int := st.ld.getD i []
def JS.frO (st : JS) (h : Nat) : List Int := (st.fr.lookup h).getD []
def Deal (st : JS) (f : Nat → Int) : Prop := ∃ s : Nat → Int, ∀ i, i < st.hd.length → s (st.hdO i) ∈ st.frO (st.hdO i) ∧ f i = ap (st.ldO i) (s (st.hdO i))
structure WF (n : Nat) (st : JS) : Prop where
  ll : st.ld.length = st.hd.length
  fl : ∀ t ∈ st.ld, full t = true ∧ t.length = n
  fr : ∀ i, i < st.hd.length → ∃ secs, st.fr.lookup (st.hdO i) = some secs ∧ secs.Nodup ∧ ∀ z ∈ secs, 0 ≤ z ∧ z < (n : Int)
  mem : ∀ i, i < st.hd.length → ∃ ms, st.mem.lookup (st.hdO i) = some ms ∧ ms.Nodup ∧ ∀ k, k ∈ ms ↔ k < st.hd.length ∧ st.hdO k = st.hdO i
  nm : (st.mem.map (·.1)).Nodup
  lm : ∀ k ∈ st.mem.map (·.1), k < st.hd.length
  nf : (st.fr.map (·.1)).Nodup
  lf : ∀ k ∈ st.fr.map (·.1), k < st.hd.length
  hf : ∀ k ∈ st.fr.map (·.1), ∃ i, i < st.hd.length ∧ st.hdO i = k
theorem nodup_lt_len {xs : List Nat} {m : Nat} (nd : xs.Nodup) (h : ∀ x ∈ xs, x < m) : xs.length ≤ m := by
  have l := nd.length_le_of_subset (l₂ := List.range m) fun x hx => List.mem_range.mpr (h x hx)
  rwa [List.length_range] at l
theorem nodup_in_len {xs : List Int} {n : Nat} (nd : xs.Nodup) (h : ∀ x ∈ xs, 0 ≤ x ∧ x < (n : Int)) : xs.length ≤ n := by
  have l := nd.length_le_of_subset (l₂ := upto n) fun x hx => by
    obtain ⟨a, b⟩ := h x hx
    have := List.mem_of_getElem? (upto_get (n := n) (i := x.toNat) (by omega))
    rwa [Int.toNat_of_nonneg a] at this
  rwa [upto_length] at l
theorem lookup_key {α : Type} : ∀ {ps : List (Nat × α)} {k : Nat} {v : α}, ps.lookup k = some v → k ∈ ps.map (·.1)
  | [], _, _, h => by simp at h
  | p :: ps, k, v, h => by
    rw [List.lookup_cons] at h
    by_cases e : k = p.1
    · rw [e]; exact List.mem_cons_self
    · rw [beq_eq_false_iff_ne.mpr e] at h
      exact List.mem_cons_of_mem _ (lookup_key h)
theorem lookup_setF {α : Type} (h : Nat) (v : α) (k : Nat) : ∀ ps : List (Nat × α), (setF h v ps).lookup k = if k = h then (ps.lookup h).map fun _ => v else ps.lookup k
  | [] => by show ([] : List (Nat × α)).lookup k = _; simp
  | p :: ps => by
    have ih := lookup_setF h v k ps
    have e0 : setF h v (p :: ps) = (if p.1 = h then (p.1, v) else p) :: setF h v ps := rfl
    rw [e0, List.lookup_cons, List.lookup_cons, List.lookup_cons, ih]
    by_cases e : p.1 = h
    · rw [if_pos e]
      show (match k == p.1 with | true => some v | false => _) = _
      by_cases ek : k = h
      · have b1 : (k == p.1) = true := beq_iff_eq.mpr (ek.trans e.symm)
        have b2 : (h == p.1) = true := beq_iff_eq.mpr e.symm
        simp only [b1, b2, if_pos ek, Option.map_some]
      · have b1 : (k == p.1) = false := beq_eq_false_iff_ne.mpr fun z => ek (z.trans e)
        simp only [b1, if_neg ek]
    · rw [if_neg e]
      by_cases ek : k = h
      · have b1 : (k == p.1) = false := beq_eq_false_iff_ne.mpr fun z => e (z.symm.trans ek)
        have b2 : (h == p.1) = false := beq_eq_false_iff_ne.mpr fun z => e z.symm
        simp only [b1, b2, if_pos ek]
      · simp only [if_neg ek]
section
variable {n : Nat} {st : JS}
theorem hdO_get {i : Nat} (h : i < st.hd.length) : st.hd[i]? = some (st.hdO i) := by
  unfold JS.hdO; rw [List.getD_eq_getElem?_getD, List.getElem?_eq_getElem h]; rfl
theorem WF.ld_get (wf : WF n st) {i : Nat} (h : i < st.hd.length) : st.ld[i]? = some (st.ldO i) := by
  unfold JS.ldO; rw [List.getD_eq_getElem?_getD, List.getElem?_eq_getElem (by rw [wf.ll]; exact h)]; rfl
theorem WF.ful (wf : WF n st) {i : Nat} (h : i < st.hd.length) : full (st.ldO i) = true ∧ (st.ldO i).length = n := wf.fl _ (List.mem_of_getElem? (wf.ld_get h))
theorem WF.frGet (wf : WF n st) {i : Nat} (h : i < st.hd.length) : st.fr.lookup (st.hdO i) = some (st.frO (st.hdO i)) ∧ (st.frO (st.hdO i)).Nodup ∧ ∀ z ∈ st.frO (st.hdO i), 0 ≤ z ∧ z < (n : Int) := by
  obtain ⟨secs, e, a, b⟩ := wf.fr i h
  have e2 : st.frO (st.hdO i) = secs := by unfold JS.frO; rw [e]; rfl
  rw [e2]
  exact ⟨e, a, b⟩
theorem WF.dist (wf : WF n st) {i : Nat} (h : i < st.hd.length) : ((st.frO (st.hdO i)).map fun z => (st.ldO i).getD z.toNat 0).Nodup := by
  obtain ⟨e, a, b⟩ := wf.frGet h
  rw [List.nodup_iff_pairwise_ne, List.pairwise_map]
  refine (List.Pairwise.and_mem.mp (List.nodup_iff_pairwise_ne.mp a)).imp ?_
  rintro u v ⟨mu, mv, ne⟩ z
  exact ne (ap_inj (wf.ful h).1 (wf.ful h).2 (b u mu) (b v mv) z)
theorem WF.one (wf : WF n st) (n8 : n ≤ 8) {i : Nat} (h : i < st.hd.length) : JOne st i (st.hdO i) (st.ldO i) (st.frO (st.hdO i)) := by
  obtain ⟨e, a, b⟩ := wf.frGet h
  have := nodup_in_len a b
  refine ⟨hdO_get h, wf.ld_get h, e, fun z hz => by rw [(wf.ful h).2]; exact b z hz, by omega, wf.dist h⟩
theorem WF.two (wf : WF n st) {i j : Nat} (hi : i < st.hd.length) (hj : j < st.hd.length) (m4 : st.hd.length ≤ 400) (ne : st.hdO i ≠ st.hdO j) : ∃ ma mb, JTwo st n i j (st.hdO i) (st.hdO j) (st.ldO i) (st.ldO j) (st.frO (st.hdO i)) (st.frO (st.hdO j)) ma mb ∧ (ma.Nodup ∧ ∀ k, k ∈ ma ↔ k < st.hd.length ∧ st.hdO k = st.hdO i) ∧ (mb.Nodup ∧ ∀ k, k ∈ mb ↔ k < st.hd.length ∧ st.hdO k = st.hdO j) := by
  obtain ⟨ma, e1, a1, b1⟩ := wf.mem i hi
  obtain ⟨mb, e2, a2, b2⟩ := wf.mem j hj
  have l1 := nodup_lt_len a1 fun k hk => ((b1 k).mp hk).1
  have l2 := nodup_lt_len a2 fun k hk => ((b2 k).mp hk).1
  exact ⟨ma, mb, ⟨hdO_get hi, hdO_get hj, wf.ld_get hi, wf.ld_get hj, wf.fl, wf.ll, e1, e2, (wf.frGet hi).1, (wf.frGet hj).1, ne, fun k hk => ((b1 k).mp hk).1, fun k hk => ((b2 k).mp hk).1, by omega, wf.nm⟩, ⟨a1, b1⟩, a2, b2⟩
theorem WF.frLen (wf : WF n st) : st.fr.length ≤ st.hd.length := by
  have := nodup_lt_len wf.nf wf.lf
  rwa [List.length_map] at this
theorem WF.memLen (wf : WF n st) : st.mem.length ≤ st.hd.length := by
  have := nodup_lt_len wf.nm wf.lm
  rwa [List.length_map] at this
theorem wf0 : WF n ⟨[], [], [], []⟩ := ⟨rfl, fun _ h => (nomatch h), fun _ h => absurd h (Nat.not_lt_zero _), fun _ h => absurd h (Nat.not_lt_zero _), .nil, fun _ h => (nomatch h), .nil, fun _ h => (nomatch h), fun _ h => (nomatch h)⟩
theorem setFr_frO (st : JS) (h k : Nat) (v : List Int) (hv : st.fr.lookup h ≠ none) : (st.setFr h v).frO k = if k = h then v else st.frO k := by
  show ((setF h v st.fr).lookup k).getD [] = _
  rw [lookup_setF]
  by_cases e : k = h
  · rw [if_pos e, if_pos e]
    cases e2 : st.fr.lookup h with
    | none => exact absurd e2 hv
    | some x => rfl
  · rw [if_neg e, if_neg e]; rfl
theorem WF.setFr (wf : WF n st) {i : Nat} (hi : i < st.hd.length) {p : Int → Bool} : WF n (st.setFr (st.hdO i) ((st.frO (st.hdO i)).filter p)) := by
  refine ⟨wf.ll, wf.fl, fun k hk => ?_, wf.mem, wf.nm, wf.lm, ?_, ?_, ?_⟩
  · obtain ⟨e, a, b⟩ := wf.frGet (i := k) hk
    obtain ⟨e', a', b'⟩ := wf.frGet hi
    show ∃ secs, (setF _ _ st.fr).lookup (st.hdO k) = some secs ∧ _
    rw [lookup_setF]
    by_cases z : st.hdO k = st.hdO i
    · rw [if_pos z, e']
      exact ⟨_, rfl, a'.filter _, fun z hz => b' z (List.mem_filter.mp hz).1⟩
    · rw [if_neg z]
      exact ⟨_, e, a, b⟩
  · show ((setF _ _ st.fr).map (·.1)).Nodup
    rw [setF_keys]; exact wf.nf
  · show ∀ k ∈ (setF _ _ st.fr).map (·.1), _
    rw [setF_keys]; exact wf.lf
  · show ∀ k ∈ (setF _ _ st.fr).map (·.1), _
    rw [setF_keys]; exact wf.hf
theorem narrow_deal (wf : WF n st) {i : Nat} (hi : i < st.hd.length) (ss : List Int) (f : Nat → Int) : Deal (st.setFr (st.hdO i) ((st.frO (st.hdO i)).filter fun z => decide ((st.ldO i).getD z.toNat 0 ∈ ss))) f ↔ Deal st f ∧ f i ∈ ss := by
  have hv : st.fr.lookup (st.hdO i) ≠ none := by rw [(wf.frGet hi).1]; exact fun z => nomatch z
  constructor
  · rintro ⟨s, h⟩
    have hk : ∀ k, k < st.hd.length → s (st.hdO k) ∈ st.frO (st.hdO k) ∧ f k = ap (st.ldO k) (s (st.hdO k)) := fun k hk => by
      obtain ⟨a, b⟩ := h k hk
      refine ⟨?_, b⟩
      have a' : s (st.hdO k) ∈ (st.setFr (st.hdO i) ((st.frO (st.hdO i)).filter fun z => decide ((st.ldO i).getD z.toNat 0 ∈ ss))).frO (st.hdO k) := a
      rw [setFr_frO st _ _ _ hv] at a'
      by_cases z : st.hdO k = st.hdO i
      · rw [if_pos z] at a'
        rw [z] at a' ⊢
        exact (List.mem_filter.mp a').1
      · rw [if_neg z] at a'
        exact a'
    refine ⟨⟨s, hk⟩, ?_⟩
    obtain ⟨a, b⟩ := h i hi
    have a' : s (st.hdO i) ∈ (st.setFr (st.hdO i) ((st.frO (st.hdO i)).filter fun z => decide ((st.ldO i).getD z.toNat 0 ∈ ss))).frO (st.hdO i) := a
    rw [setFr_frO st _ _ _ hv, if_pos rfl] at a'
    have b' : f i = ap (st.ldO i) (s (st.hdO i)) := b
    rw [b']
    exact of_decide_eq_true (List.mem_filter.mp a').2
  · rintro ⟨⟨s, h⟩, m⟩
    refine ⟨s, fun k hk => ?_⟩
    obtain ⟨a, b⟩ := h k hk
    refine ⟨?_, b⟩
    show s (st.hdO k) ∈ (st.setFr (st.hdO i) ((st.frO (st.hdO i)).filter fun z => decide ((st.ldO i).getD z.toNat 0 ∈ ss))).frO (st.hdO k)
    rw [setFr_frO st _ _ _ hv]
    by_cases z : st.hdO k = st.hdO i
    · rw [if_pos z]
      rw [z] at a ⊢
      refine List.mem_filter.mpr ⟨a, decide_eq_true ?_⟩
      have b' := (h i hi).2
      rw [b'] at m
      exact m
    · rw [if_neg z]; exact a
theorem deal_pick (wf : WF n st) {f : Nat → Int} (d : Deal st f) (h1 h2 : Nat) (z1 z2 : Int) (m1 : z1 ∈ st.frO h1) (m2 : z2 ∈ st.frO h2) (ne : h1 = h2 → z1 = z2) : ∃ f', Deal st f' ∧ ∀ k, k < st.hd.length → (st.hdO k = h1 → f' k = ap (st.ldO k) z1) ∧ (st.hdO k = h2 → f' k = ap (st.ldO k) z2) := by
  obtain ⟨s, h⟩ := d
  refine ⟨fun k => ap (st.ldO k) ((fun q => if q = h1 then z1 else if q = h2 then z2 else s q) (st.hdO k)), ⟨fun q => if q = h1 then z1 else if q = h2 then z2 else s q, fun k hk => ⟨?_, rfl⟩⟩, fun k hk => ⟨fun e => ?_, fun e => ?_⟩⟩
  · show (if st.hdO k = h1 then z1 else if st.hdO k = h2 then z2 else s (st.hdO k)) ∈ _
    by_cases a : st.hdO k = h1
    · rw [if_pos a, a]; exact m1
    · rw [if_neg a]
      by_cases b : st.hdO k = h2
      · rw [if_pos b, b]; exact m2
      · rw [if_neg b]; exact (h k hk).1
  · show ap _ (if st.hdO k = h1 then z1 else _) = _
    rw [if_pos e]
  · show ap _ (if st.hdO k = h1 then z1 else if st.hdO k = h2 then z2 else _) = _
    by_cases a : st.hdO k = h1
    · rw [if_pos a, ne (a.symm.trans e)]
    · rw [if_neg a, if_pos e]
theorem prs_deal (wf : WF n st) {i j : Nat} (hi : i < st.hd.length) (hj : j < st.hd.length) {f : Nat → Int} (d : Deal st f) : (f i, f j) ∈ prsOf (st.hdO i) (st.hdO j) (st.ldO i) (st.ldO j) (st.frO (st.hdO i)) (st.frO (st.hdO j)) := by
  obtain ⟨s, h⟩ := d
  obtain ⟨a1, b1⟩ := h i hi
  obtain ⟨a2, b2⟩ := h j hj
  unfold prsOf
  by_cases e : st.hdO i = st.hdO j
  · rw [if_pos e]
    refine List.mem_map.mpr ⟨s (st.hdO i), a1, ?_⟩
    rw [b1, b2, ← e]; rfl
  · rw [if_neg e]
    refine List.mem_flatMap.mpr ⟨f i, List.mem_map.mpr ⟨_, a1, b1.symm⟩, List.mem_map.mpr ⟨_, a2, ?_⟩⟩
    rw [b2]; rfl
theorem deal_prs (wf : WF n st) {i j : Nat} (hi : i < st.hd.length) (hj : j < st.hd.length) (live : ∃ f, Deal st f) {x y : Int} (m : (x, y) ∈ prsOf (st.hdO i) (st.hdO j) (st.ldO i) (st.ldO j) (st.frO (st.hdO i)) (st.frO (st.hdO j))) : ∃ f, Deal st f ∧ f i = x ∧ f j = y := by
  obtain ⟨f0, d0⟩ := live
  unfold prsOf at m
  by_cases e : st.hdO i = st.hdO j
  · rw [if_pos e] at m
    obtain ⟨z, mz, ez⟩ := List.mem_map.mp m
    obtain ⟨f, d, q⟩ := deal_pick wf d0 (st.hdO i) (st.hdO i) z z mz mz (fun _ => rfl)
    have e1 := congrArg (·.1) ez
    have e2 := congrArg (·.2) ez
    exact ⟨f, d, ((q i hi).1 rfl).trans e1, ((q j hj).1 e.symm).trans e2⟩
  · rw [if_neg e] at m
    obtain ⟨x', mx, my⟩ := List.mem_flatMap.mp m
    obtain ⟨z1, mz1, ez1⟩ := List.mem_map.mp mx
    obtain ⟨z2, mz2, ez2⟩ := List.mem_map.mp my
    have e1 := congrArg (·.1) ez2
    have e2 := congrArg (·.2) ez2
    obtain ⟨f, d, q⟩ := deal_pick wf d0 (st.hdO i) (st.hdO j) z1 z2 mz1 mz2 (fun z => absurd z e)
    exact ⟨f, d, (((q i hi).1 rfl).trans ez1).trans e1, ((q j hj).2 rfl).trans e2⟩
end
theorem hdAll_get (hb : Nat) : ∀ (mv : List Nat) (hd : List Nat) (i : Nat), i < hd.length → (hdAll hb mv hd)[i]? = if i ∈ mv then some hb else hd[i]?
  | [], hd, i, h => by show hd[i]? = _; simp
  | k :: mv, hd, i, h => by
    have ih := hdAll_get hb mv (hd.set k hb) i (by rw [List.length_set]; exact h)
    have e0 : hdAll hb (k :: mv) hd = hdAll hb mv (hd.set k hb) := rfl
    rw [e0, ih]
    by_cases m : i ∈ mv
    · rw [if_pos m, if_pos (List.mem_cons_of_mem _ m)]
    · rw [if_neg m]
      by_cases e : k = i
      · rw [if_pos (by rw [e]; exact List.mem_cons_self), e, List.getElem?_set_self h]
      · rw [if_neg (fun z => by rcases List.mem_cons.mp z with z | z; exact e z.symm; exact m z), List.getElem?_set_ne e]
theorem ldAll_get (toh : List Int) : ∀ (mv : List Nat) (ld : List (List Int)) (i : Nat), mv.Nodup → i < ld.length → (ldAll toh mv ld)[i]? = if i ∈ mv then some (aft (ld.getD i []) toh) else ld[i]?
  | [], ld, i, _, h => by show ld[i]? = _; simp
  | k :: mv, ld, i, nd, h => by
    obtain ⟨n1, n2⟩ := List.nodup_cons.mp nd
    have ih := ldAll_get toh mv (mvL toh ld k) i n2 (by unfold mvL; rw [List.length_set]; exact h)
    have e0 : ldAll toh (k :: mv) ld = ldAll toh mv (mvL toh ld k) := rfl
    rw [e0, ih]
    by_cases m : i ∈ mv
    · have ne : k ≠ i := fun z => n1 (by rw [z]; exact m)
      rw [if_pos m, if_pos (List.mem_cons_of_mem _ m)]
      unfold mvL
      rw [List.getD_eq_getElem?_getD, List.getElem?_set_ne ne, ← List.getD_eq_getElem?_getD]
    · rw [if_neg m]
      unfold mvL
      by_cases e : k = i
      · rw [if_pos (by rw [e]; exact List.mem_cons_self), e, List.getElem?_set_self h]
      · rw [if_neg (fun z => by rcases List.mem_cons.mp z with z | z; exact e z.symm; exact m z), List.getElem?_set_ne e]
theorem hdAll_len (hb : Nat) (mv hd : List Nat) : (hdAll hb mv hd).length = hd.length := len_foldl_set (fun _ _ => List.length_set) mv hd
theorem ldAll_len (toh : List Int) (mv : List Nat) (ld : List (List Int)) : (ldAll toh mv ld).length = ld.length := len_foldl_set (fun _ _ => by unfold mvL; exact List.length_set) mv ld
section
variable {n : Nat} {st : JS} {a b : Nat} {ma mb : List Nat} {tn : List Int}
theorem mv_hdO (wf : WF n st) (im : ∀ k, k ∈ ma ↔ k < st.hd.length ∧ st.hdO k = st.hdO a) (toh : List Int) {i : Nat} (hi : i < st.hd.length) : (st.mv (st.hdO b) (st.hdO a) mb ma toh).hdO i = if st.hdO i = st.hdO a then st.hdO b else st.hdO i := by
  show (hdAll (st.hdO b) ma st.hd).getD i 0 = _
  rw [List.getD_eq_getElem?_getD, hdAll_get _ _ _ _ hi]
  by_cases e : st.hdO i = st.hdO a
  · rw [if_pos ((im i).mpr ⟨hi, e⟩), if_pos e]; rfl
  · rw [if_neg (fun z => e ((im i).mp z).2), if_neg e, ← List.getD_eq_getElem?_getD]; rfl
theorem mv_ldO (wf : WF n st) (nd : ma.Nodup) (im : ∀ k, k ∈ ma ↔ k < st.hd.length ∧ st.hdO k = st.hdO a) (toh : List Int) (hb : Nat) {i : Nat} (hi : i < st.hd.length) : (st.mv hb (st.hdO a) mb ma toh).ldO i = if st.hdO i = st.hdO a then aft (st.ldO i) toh else st.ldO i := by
  show (ldAll toh ma st.ld).getD i [] = _
  rw [List.getD_eq_getElem?_getD, ldAll_get _ _ _ _ nd (by rw [wf.ll]; exact hi)]
  by_cases e : st.hdO i = st.hdO a
  · rw [if_pos ((im i).mpr ⟨hi, e⟩), if_pos e]; rfl
  · rw [if_neg (fun z => e ((im i).mp z).2), if_neg e, ← List.getD_eq_getElem?_getD]; rfl
theorem mv_frO (hb ha : Nat) (toh : List Int) {h : Nat} (ne : h ≠ ha) : (st.mv hb ha mb ma toh).frO h = st.frO h := by
  show ((drp ha st.fr).lookup h).getD [] = _
  rw [lookup_drp ne]; rfl
theorem mv_len (hb ha : Nat) (toh : List Int) : (st.mv hb ha mb ma toh).hd.length = st.hd.length := hdAll_len _ _ _
theorem WF.mv (wf : WF n st) (hA : a < st.hd.length) (hB : b < st.hd.length) (ne : st.hdO a ≠ st.hdO b) (nda : ma.Nodup) (ima : ∀ k, k ∈ ma ↔ k < st.hd.length ∧ st.hdO k = st.hdO a) (ndb : mb.Nodup) (imb : ∀ k, k ∈ mb ↔ k < st.hd.length ∧ st.hdO k = st.hdO b) (eb : st.mem.lookup (st.hdO b) = some mb) {toh : List Int} (ft : full toh = true) (tl : toh.length = n) : WF n (st.mv (st.hdO b) (st.hdO a) mb ma toh) := by
  have len : (st.mv (st.hdO b) (st.hdO a) mb ma toh).hd.length = st.hd.length := mv_len _ _ _
  have nea : ∀ k, k < st.hd.length → (if st.hdO k = st.hdO a then st.hdO b else st.hdO k) ≠ st.hdO a := fun k hk => by
    by_cases e : st.hdO k = st.hdO a
    · rw [if_pos e]; exact fun z => ne z.symm
    · rw [if_neg e]; exact e
  have ky : (st.mv (st.hdO b) (st.hdO a) mb ma toh).mem.map (·.1) = (st.mem.map (·.1)).filter fun k => decide (k ≠ st.hdO a) := by
    show (setF _ _ (drp _ st.mem)).map (·.1) = _
    rw [setF_keys, drp_keys]
  have kf : (st.mv (st.hdO b) (st.hdO a) mb ma toh).fr.map (·.1) = (st.fr.map (·.1)).filter fun k => decide (k ≠ st.hdO a) := drp_keys _ _
  refine ⟨?_, fun t ht => ?_, fun i hi => ?_, fun i hi => ?_, ?_, ?_, ?_, ?_, ?_⟩
  · show (ldAll _ _ _).length = (hdAll _ _ _).length
    rw [ldAll_len, hdAll_len]; exact wf.ll
  · obtain ⟨i, hi, rfl⟩ := List.mem_iff_getElem.mp ht
    have hi' : i < st.hd.length := by
      have : (ldAll toh ma st.ld).length = st.ld.length := ldAll_len _ _ _
      have h2 : i < (ldAll toh ma st.ld).length := hi
      have := wf.ll
      omega
    have e := mv_ldO (mb := mb) wf nda ima toh (st.hdO b) hi'
    have e2 : (st.mv (st.hdO b) (st.hdO a) mb ma toh).ldO i = (st.mv (st.hdO b) (st.hdO a) mb ma toh).ld[i] := by
      unfold JS.ldO; rw [List.getD_eq_getElem?_getD, List.getElem?_eq_getElem hi]; rfl
    rw [← e2, e]
    obtain ⟨f1, f2⟩ := wf.ful hi'
    by_cases z : st.hdO i = st.hdO a
    · rw [if_pos z]; exact ⟨full_aft f1 ft (by omega), by rw [aft_len]; exact tl⟩
    · rw [if_neg z]; exact ⟨f1, f2⟩
  · rw [len] at hi
    rw [mv_hdO (mb := mb) wf ima toh hi]
    show ∃ secs, (drp (st.hdO a) st.fr).lookup _ = some secs ∧ _
    rw [lookup_drp (nea i hi)]
    by_cases e : st.hdO i = st.hdO a
    · rw [if_pos e]; exact ⟨_, wf.frGet hB⟩
    · rw [if_neg e]; exact ⟨_, wf.frGet hi⟩
  · rw [len] at hi
    rw [mv_hdO (mb := mb) wf ima toh hi]
    show ∃ ms, (setF (st.hdO b) (mb ++ ma) (drp (st.hdO a) st.mem)).lookup _ = some ms ∧ _
    rw [lookup_setF, lookup_drp (nea i hi), lookup_drp (fun z => ne z.symm), eb]
    have iff : ∀ k, k < st.hd.length → ((st.mv (st.hdO b) (st.hdO a) mb ma toh).hdO k = (if st.hdO k = st.hdO a then st.hdO b else st.hdO k)) := fun k hk => mv_hdO (mb := mb) wf ima toh hk
    by_cases e : (if st.hdO i = st.hdO a then st.hdO b else st.hdO i) = st.hdO b
    · rw [if_pos e]
      refine ⟨_, rfl, ?_, fun k => ?_⟩
      · refine List.nodup_append.mpr ⟨ndb, nda, fun x hx y hy z => ?_⟩
        have h1 := ((imb x).mp hx).2
        have h2 := ((ima y).mp hy).2
        rw [z] at h1
        exact ne (h2.symm.trans h1)
      · rw [List.mem_append, ima, imb, len, e]
        constructor
        · rintro (⟨h1, h2⟩ | ⟨h1, h2⟩)
          · refine ⟨h1, ?_⟩
            rw [iff k h1, if_neg (fun z => ne (z.symm.trans h2))]; exact h2
          · refine ⟨h1, ?_⟩
            rw [iff k h1, if_pos h2]
        · rintro ⟨h1, h2⟩
          rw [iff k h1] at h2
          by_cases z : st.hdO k = st.hdO a
          · exact .inr ⟨h1, z⟩
          · rw [if_neg z] at h2
            exact .inl ⟨h1, h2⟩
    · have e1 : ¬ st.hdO i = st.hdO a := fun z => e (if_pos z)
      rw [if_neg e1] at e ⊢
      rw [if_neg e]
      obtain ⟨ms, m1, m2, m3⟩ := wf.mem i hi
      refine ⟨ms, m1, m2, fun k => ?_⟩
      rw [m3, len]
      constructor
      · rintro ⟨h1, h2⟩
        refine ⟨h1, ?_⟩
        rw [iff k h1, if_neg (fun z => e1 (h2.symm.trans z))]; exact h2
      · rintro ⟨h1, h2⟩
        rw [iff k h1] at h2
        by_cases z : st.hdO k = st.hdO a
        · rw [if_pos z] at h2; exact absurd h2.symm e
        · rw [if_neg z] at h2; exact ⟨h1, h2⟩
  · rw [ky]; exact wf.nm.filter _
  · rw [ky, len]; exact fun k hk => wf.lm k (List.mem_filter.mp hk).1
  · rw [kf]; exact wf.nf.filter _
  · rw [kf, len]; exact fun k hk => wf.lf k (List.mem_filter.mp hk).1
  · rw [kf, len]
    intro k hk
    obtain ⟨m1, m2⟩ := List.mem_filter.mp hk
    obtain ⟨i, hi, e⟩ := wf.hf k m1
    refine ⟨i, hi, ?_⟩
    rw [mv_hdO (mb := mb) wf ima toh hi, if_neg (fun z => of_decide_eq_true m2 (e.symm.trans z))]
    exact e
theorem mv_deal (wf : WF n st) (hA : a < st.hd.length) (hB : b < st.hd.length) (ne : st.hdO a ≠ st.hdO b) (nda : ma.Nodup) (ima : ∀ k, k ∈ ma ↔ k < st.hd.length ∧ st.hdO k = st.hdO a) (ft : full tn = true) (tl : tn.length = n) (f : Nat → Int) :
    Deal (st.mv (st.hdO b) (st.hdO a) mb ma (aft (inv (st.ldO a)) (aft tn (st.ldO b)))) f ↔ ∃ s : Nat → Int, (∀ i, i < st.hd.length → (0 ≤ s (st.hdO i) ∧ s (st.hdO i) < (n : Int)) ∧ (st.hdO i ≠ st.hdO a → s (st.hdO i) ∈ st.frO (st.hdO i)) ∧ f i = ap (st.ldO i) (s (st.hdO i))) ∧ f a = ap tn (f b) := by
  obtain ⟨fa, la⟩ := wf.ful hA
  obtain ⟨fb, lb⟩ := wf.ful hB
  have fi := inv_full fa
  have li : (inv (st.ldO a)).length = n := by rw [inv_length]; exact la
  generalize et : aft (inv (st.ldO a)) (aft tn (st.ldO b)) = toh
  have apt : ∀ z : Int, 0 ≤ z ∧ z < (n : Int) → ap toh z = ap (inv (st.ldO a)) (ap tn (ap (st.ldO b) z)) := fun z hz => by
    rw [← et, ap_aft (by rw [aft_len, lb]; exact hz), ap_aft (by rw [lb]; exact hz)]
  have apin : ∀ z : Int, 0 ≤ z ∧ z < (n : Int) → 0 ≤ ap toh z ∧ ap toh z < (n : Int) := fun z hz => by
    rw [apt z hz]
    exact ap_in fi li (ap_in ft tl (ap_in fb lb hz))
  have tlen : toh.length = n := by rw [← et, aft_len, aft_len]; exact lb
  constructor
  · rintro ⟨s, h⟩
    have h' : ∀ i, i < st.hd.length → s (if st.hdO i = st.hdO a then st.hdO b else st.hdO i) ∈ st.frO (if st.hdO i = st.hdO a then st.hdO b else st.hdO i) ∧ f i = ap (if st.hdO i = st.hdO a then aft (st.ldO i) toh else st.ldO i) (s (if st.hdO i = st.hdO a then st.hdO b else st.hdO i)) := fun i hi => by
      have x := h i (by rw [mv_len]; exact hi)
      rw [mv_hdO (mb := mb) wf ima toh hi, mv_ldO (mb := mb) wf nda ima toh _ hi, mv_frO] at x
      · exact x
      · by_cases e : st.hdO i = st.hdO a
        · rw [if_pos e]; exact fun z => ne z.symm
        · rw [if_neg e]; exact e
    have hb := h' b hB
    rw [if_neg (fun z => ne z.symm), if_neg (fun z => ne z.symm)] at hb
    have inb := (wf.frGet hB).2.2 _ hb.1
    have eq : ∀ i, i < st.hd.length → f i = ap (st.ldO i) (if st.hdO i = st.hdO a then ap toh (s (st.hdO b)) else s (st.hdO i)) := fun i hi => by
      have x := (h' i hi).2
      by_cases e : st.hdO i = st.hdO a
      · rw [if_pos e, if_pos e, ap_aft (by rw [tlen]; exact inb)] at x
        rw [if_pos e]; exact x
      · rw [if_neg e, if_neg e] at x
        rw [if_neg e]; exact x
    refine ⟨fun q => if q = st.hdO a then ap toh (s (st.hdO b)) else s q, fun i hi => ⟨?_, fun e => ?_, eq i hi⟩, ?_⟩
    · show 0 ≤ (if st.hdO i = st.hdO a then _ else _) ∧ (if st.hdO i = st.hdO a then _ else _) < _
      by_cases e : st.hdO i = st.hdO a
      · rw [if_pos e]; exact apin _ inb
      · rw [if_neg e]
        have x := (h' i hi).1
        rw [if_neg e] at x
        exact (wf.frGet hi).2.2 _ x
    · show (if st.hdO i = st.hdO a then _ else _) ∈ _
      have x := (h' i hi).1
      rw [if_neg e] at x
      rw [if_neg e]; exact x
    · rw [eq a hA, if_pos rfl, apt _ inb, ap_inv2 fa la (ap_in ft tl (ap_in fb lb inb)), hb.2]
  · rintro ⟨s, h, ef⟩
    have sb := (h b hB).1
    have sa := (h a hA).1
    have et2 : ap toh (s (st.hdO b)) = s (st.hdO a) := by
      rw [apt _ sb, ← (h b hB).2.2, ← ef, (h a hA).2.2, ap_inv1 fa la sa]
    refine ⟨s, fun i hi => ?_⟩
    rw [mv_len] at hi
    rw [mv_hdO (mb := mb) wf ima toh hi, mv_ldO (mb := mb) wf nda ima toh _ hi, mv_frO]
    · by_cases e : st.hdO i = st.hdO a
      · rw [if_pos e, if_pos e]
        refine ⟨(h b hB).2.1 (fun z => ne z.symm), ?_⟩
        rw [ap_aft (by rw [tlen]; exact sb), et2, ← e]
        exact (h i hi).2.2
      · rw [if_neg e, if_neg e]
        exact ⟨(h i hi).2.1 e, (h i hi).2.2⟩
    · by_cases e : st.hdO i = st.hdO a
      · rw [if_pos e]; exact fun z => ne z.symm
      · rw [if_neg e]; exact e
end
section
variable {n : Nat} {st : JS} {i j : Nat} {tn ns : List Int}
theorem left_mem {P : List (Int × Int)} (pm : ns.Perm ((P.filter fun q => decide (tn.getD q.1.toNat 0 = q.2)).map (·.1))) (x : Int) : x ∈ ns ↔ (x, ap tn x) ∈ P := by
  rw [pm.mem_iff, List.mem_map]
  constructor
  · rintro ⟨⟨u, v⟩, m, rfl⟩
    obtain ⟨m1, m2⟩ := List.mem_filter.mp m
    have e : ap tn u = v := of_decide_eq_true m2
    rw [e]
    exact m1
  · intro m
    exact ⟨_, List.mem_filter.mpr ⟨m, decide_eq_true rfl⟩, rfl⟩
abbrev JS.prs (st : JS) (i j : Nat) : List (Int × Int) := prsOf (st.hdO i) (st.hdO j) (st.ldO i) (st.ldO j) (st.frO (st.hdO i)) (st.frO (st.hdO j))
theorem prs_apart (ne : st.hdO i ≠ st.hdO j) {x y : Int} (m : (x, y) ∈ st.prs i j) : (∃ z ∈ st.frO (st.hdO i), ap (st.ldO i) z = x) ∧ ∃ z ∈ st.frO (st.hdO j), ap (st.ldO j) z = y := by
  unfold JS.prs prsOf at m
  rw [if_neg ne] at m
  obtain ⟨x', mx, my⟩ := List.mem_flatMap.mp m
  obtain ⟨z1, mz1, ez1⟩ := List.mem_map.mp mx
  obtain ⟨z2, mz2, ez2⟩ := List.mem_map.mp my
  have e1 := congrArg (·.1) ez2
  have e2 := congrArg (·.2) ez2
  exact ⟨⟨z1, mz1, ez1.trans e1⟩, z2, mz2, e2⟩
theorem prs_in (wf : WF n st) (hi : i < st.hd.length) {x y : Int} (m : (x, y) ∈ st.prs i j) : 0 ≤ x ∧ x < (n : Int) := by
  obtain ⟨f1, l1⟩ := wf.ful hi
  by_cases e : st.hdO i = st.hdO j
  · unfold JS.prs prsOf at m
    rw [if_pos e] at m
    obtain ⟨z, mz, ez⟩ := List.mem_map.mp m
    have e1 : ap (st.ldO i) z = x := congrArg (·.1) ez
    rw [← e1]
    exact ap_in f1 l1 ((wf.frGet hi).2.2 z mz)
  · obtain ⟨⟨z, mz, ez⟩, _⟩ := prs_apart e m
    rw [← ez]
    exact ap_in f1 l1 ((wf.frGet hi).2.2 z mz)
theorem prs_few (wf : WF n st) (n8 : n ≤ 8) (hi : i < st.hd.length) (hj : j < st.hd.length) : (st.prs i j).length ≤ 64 := by
  have a := nodup_in_len (wf.frGet hi).2.1 (wf.frGet hi).2.2
  have b := nodup_in_len (wf.frGet hj).2.1 (wf.frGet hj).2.2
  unfold JS.prs prsOf
  by_cases e : st.hdO i = st.hdO j
  · rw [if_pos e, List.length_map]; omega
  · rw [if_neg e, len_grid (fun (x z : Int) => ((x, (st.ldO j).getD z.toNat 0) : Int × Int)), List.length_map]
    exact Nat.le_trans (Nat.mul_le_mul (show _ ≤ 8 by omega) (show _ ≤ 8 by omega)) (by omega)
theorem tie_same (wf : WF n st) (hi : i < st.hd.length) (hj : j < st.hd.length) (e : st.hdO i = st.hdO j) (ms : ∀ x, x ∈ ns ↔ (x, ap tn x) ∈ st.prs i j) (f : Nat → Int) : Deal st f ∧ f i ∈ ns ↔ Deal st f ∧ f j = ap tn (f i) := by
  refine and_congr_right fun d => ?_
  constructor
  · intro m
    have m' := (ms _).mp m
    obtain ⟨s, h⟩ := d
    unfold JS.prs prsOf at m'
    rw [if_pos e] at m'
    obtain ⟨z, mz, ez⟩ := List.mem_map.mp m'
    have e1 : ap (st.ldO i) z = f i := congrArg (·.1) ez
    have e2 : ap (st.ldO j) z = ap tn (f i) := congrArg (·.2) ez
    obtain ⟨f1, l1⟩ := wf.ful hi
    have inb := (wf.frGet hi).2.2
    have ez2 : z = s (st.hdO i) := ap_inj f1 l1 (inb z mz) (inb _ (h i hi).1) (e1.trans (h i hi).2)
    rw [(h j hj).2, ← e, ← ez2, e2]
  · intro m
    have := prs_deal wf hi hj d
    rw [m] at this
    exact (ms _).mpr this
theorem tie_mvA (wf : WF n st) (hi : i < st.hd.length) (hj : j < st.hd.length) (ne : st.hdO i ≠ st.hdO j) {ma mb : List Nat} (nda : ma.Nodup) (ima : ∀ k, k ∈ ma ↔ k < st.hd.length ∧ st.hdO k = st.hdO i) (ft : full tn = true) (tl : tn.length = n) (ms : ∀ x, x ∈ ns ↔ (x, ap tn x) ∈ st.prs i j) (f : Nat → Int) :
    Deal (st.mv (st.hdO j) (st.hdO i) mb ma (aft (inv (st.ldO i)) (aft (inv tn) (st.ldO j)))) f ∧ f i ∈ ns ↔ Deal st f ∧ f j = ap tn (f i) := by
  rw [mv_deal wf hi hj ne nda ima (inv_full ft) (by rw [inv_length]; exact tl)]
  obtain ⟨f1, l1⟩ := wf.ful hi
  obtain ⟨f2, l2⟩ := wf.ful hj
  constructor
  · rintro ⟨⟨s, h, ef⟩, m⟩
    obtain ⟨⟨z, mz, ez⟩, _⟩ := prs_apart ne ((ms _).mp m)
    have e1 : z = s (st.hdO i) := ap_inj f1 l1 ((wf.frGet hi).2.2 z mz) (h i hi).1 (ez.trans (h i hi).2.2)
    refine ⟨⟨s, fun k hk => ⟨?_, (h k hk).2.2⟩⟩, ?_⟩
    · by_cases e : st.hdO k = st.hdO i
      · rw [e, ← e1]; exact mz
      · exact (h k hk).2.1 e
    · have rj : 0 ≤ f j ∧ f j < (n : Int) := by rw [(h j hj).2.2]; exact ap_in f2 l2 (h j hj).1
      rw [ef, ap_inv2 ft tl rj]
  · rintro ⟨d, e⟩
    have m := prs_deal wf hi hj d
    rw [e] at m
    obtain ⟨s, h⟩ := d
    refine ⟨⟨s, fun k hk => ⟨(wf.frGet hk).2.2 _ (h k hk).1, fun _ => (h k hk).1, (h k hk).2⟩, ?_⟩, (ms _).mpr m⟩
    have ri : 0 ≤ f i ∧ f i < (n : Int) := by rw [(h i hi).2]; exact ap_in f1 l1 ((wf.frGet hi).2.2 _ (h i hi).1)
    rw [e, ap_inv1 ft tl ri]
theorem tie_mvB (wf : WF n st) (hi : i < st.hd.length) (hj : j < st.hd.length) (ne : st.hdO i ≠ st.hdO j) {ma mb : List Nat} (ndb : mb.Nodup) (imb : ∀ k, k ∈ mb ↔ k < st.hd.length ∧ st.hdO k = st.hdO j) (ft : full tn = true) (tl : tn.length = n) (ms : ∀ x, x ∈ ns ↔ (x, ap tn x) ∈ st.prs i j) (f : Nat → Int) :
    Deal (st.mv (st.hdO i) (st.hdO j) ma mb (aft (inv (st.ldO j)) (aft tn (st.ldO i)))) f ∧ f i ∈ ns ↔ Deal st f ∧ f j = ap tn (f i) := by
  rw [mv_deal wf hj hi (fun z => ne z.symm) ndb imb ft tl]
  obtain ⟨f2, l2⟩ := wf.ful hj
  constructor
  · rintro ⟨⟨s, h, ef⟩, m⟩
    obtain ⟨_, z, mz, ez⟩ := prs_apart ne ((ms _).mp m)
    have e1 : z = s (st.hdO j) := ap_inj f2 l2 ((wf.frGet hj).2.2 z mz) (h j hj).1 ((ez.trans ef.symm).trans (h j hj).2.2)
    refine ⟨⟨s, fun k hk => ⟨?_, (h k hk).2.2⟩⟩, ef⟩
    by_cases e : st.hdO k = st.hdO j
    · rw [e, ← e1]; exact mz
    · exact (h k hk).2.1 e
  · rintro ⟨d, e⟩
    have m := prs_deal wf hi hj d
    rw [e] at m
    obtain ⟨s, h⟩ := d
    exact ⟨⟨s, fun k hk => ⟨(wf.frGet hk).2.2 _ (h k hk).1, fun _ => (h k hk).1, (h k hk).2⟩, e⟩, (ms _).mpr m⟩
end
def HdJoin (st st' : JS) (i j : Nat) : Prop := ∀ a c, a < st.hd.length → c < st.hd.length → (st'.hdO a = st'.hdO c ↔ st.hdO a = st.hdO c ∨ (st.hdO a = st.hdO i ∧ st.hdO c = st.hdO j) ∨ (st.hdO a = st.hdO j ∧ st.hdO c = st.hdO i))
theorem hdj_same {st : JS} {i j : Nat} (e : st.hdO i = st.hdO j) : HdJoin st st i j := fun a c _ _ => by omega
theorem hdj_mv {n : Nat} {st : JS} (wf : WF n st) {a b : Nat} {ma mb : List Nat} (im : ∀ k, k ∈ ma ↔ k < st.hd.length ∧ st.hdO k = st.hdO a) (toh : List Int) (ne : st.hdO a ≠ st.hdO b) : HdJoin st (st.mv (st.hdO b) (st.hdO a) mb ma toh) a b := fun x y hx hy => by
  rw [mv_hdO (mb := mb) wf im toh hx, mv_hdO (mb := mb) wf im toh hy]
  by_cases e1 : st.hdO x = st.hdO a
  · rw [if_pos e1]
    by_cases e2 : st.hdO y = st.hdO a
    · rw [if_pos e2]; omega
    · rw [if_neg e2]; omega
  · rw [if_neg e1]
    by_cases e2 : st.hdO y = st.hdO a
    · rw [if_pos e2]; omega
    · rw [if_neg e2]; omega
theorem HdJoin.symm {st st' : JS} {i j : Nat} (h : HdJoin st st' j i) : HdJoin st st' i j := fun a c ha hc => by
  rw [h a c ha hc]
  omega
structure TieOut (n : Nat) (st st' : JS) (b : Bool) (i j : Nat) (tn : List Int) : Prop where
  wf : WF n st'
  len : st'.hd.length = st.hd.length
  yes : b = true → (∃ f, Deal st' f) ∧ ∀ f, Deal st' f ↔ Deal st f ∧ f j = ap tn (f i)
  no : b = false → st' = st ∧ ∀ f, Deal st f → f j ≠ ap tn (f i)
  hds : b = true → HdJoin st st' i j
inductive IspTie (C : Addr) (vs : List V) (H : Hp) (Q : VK) : Prop
  | mk (l : JL) (st : JS) (n i j : Nat) (tn : List Int) (tu : Addr) (h0_ : vs = [.ref l.J, .int (i : Int), .int (j : Int), .ref tu]) (h1_ : JAt H C n l st) (h2_ : WF n st) (h3_ : (∃ f, Deal st f)) (h4_ : n ≤ 8) (h5_ : st.hd.length ≤ 400) (h6_ : i < st.hd.length) (h7_ : j < st.hd.length) (h8_ : H tu = some (.tup (tn.map V.int))) (h9_ : full tn = true) (h10_ : tn.length = n) (h11_ : ∀ (b : Bool) (l' : JL) (st' : JS) (H' : Hp), l'.J = l.J → (∀ c ∈ l'.fp, c ∈ l.fp) → Out l.fp H H' → JAt H' C n l' st' → TieOut n st st' b i j tn → Q (.bl b) H') : IspTie C vs H Q
def spTie (C : Addr) : Sp := fun vs H Q _ => IspTie C vs H Q
section
variable {P : Program} {w : World} {K : PySem.W.Frag} {mg : Str → Option Value} {base : Heap} {f C : Addr} {fd : FuncData}
theorem sc_Joins_tie : FnScope ["self", "one", "other", "turn", "sections"] ["self", "one", "other", "turn"] (defScope s_Joins_tie) := ⟨rfl, rfl, rfl, by decide +kernel, rfl, by decide +kernel, by decide +kernel⟩
theorem ok_tie (F : Fun K "tie" "Joins.tie" s_Joins_tie f fd) (jc : JoinsC K C) (h_Joins_left : HasMt P w K mg base 4 "left" C ["self", "one", "other", "turn"] (spLeft C)) (h_Joins_together : HasMt P w K mg base 1 "together" C ["self", "one", "other"] (spTogether C)) (h_Joins_bring_together : HasMt P w K mg base 3 "bring_together" C ["self", "one", "other", "turn"] (spBring C)) (h_Joins_narrow : HasMt P w K mg base 2 "narrow" C ["self", "one", "sections"] (spNarrow K C)) (bl : Bl mg) : FnOk P w K mg base CX0 5 f fd ["self", "one", "other", "turn"] (spTie C) := by
  refine F.ok sc_Joins_tie (fun vs H Q E h => ?_) (fun cdv A outer s H vs Q E hr h => ?_)
  · obtain ⟨l, st, n, i, j, tn, tu, rfl, _⟩ := h
    rfl
  obtain ⟨l, st, n, i, j, tn, tu, rfl, ja, wf, live, n8, m4, hi, hj, hu, ft, tl, q⟩ := h
  refine ⟨_, (pss_cons (ps_set (i := 4) sc_Joins_tie.nd rfl (Or.inl rfl) (pe_mt h_Joins_left hr (by omega) (pv 0) (pa_cons (pv 1) (pa_cons (pv 2) (pa_cons (pv 3) pa_nil))))) (pss_cons (ps_if (pt_not (pt_truthK (K := K) rfl (pt_truth (pv 4) (fun _ => rfl)))) (pss_one (ps_ret pe_bl)) pss_nil) (pss_cons (ps_if (pt_not (pt_val (pe_mt h_Joins_together hr (by omega) (pv 0) (pa_cons (pv 1) (pa_cons (pv 2) pa_nil))))) (pss_one (ps_expr (pe_mt h_Joins_bring_together hr (by omega) (pv 0) (pa_cons (pv 1) (pa_cons (pv 2) (pa_cons (pv 3) pa_nil)))))) pss_nil) (pss_cons (ps_expr (pe_mt h_Joins_narrow hr (by omega) (pv 0) (pa_cons (pv 1) (pa_cons (pv 4) pa_nil)))) (pss_one (ps_ret pe_bl)))))), ?_⟩
  obtain ⟨dx, ho⟩ := ja.obj
  have pf := prs_few wf n8 hi hj
  refine setT ?_
  refine ⟨_, rfl, l.J, dx, _, rfl, ho, rfl, _, rfl, _, rfl, _, rfl, l, st, n, i, j, _, _, _, _, _, _, tn, tu, rfl, ja, wf.one n8 hi, wf.one n8 hj, hu, fun p hp => by rw [tl]; exact prs_in wf hi (x := p.1) (y := p.2) hp, Nat.le_trans pf (by omega), fun p ns H1 np g1 hp pm _ => ?_⟩
  have ms := left_mem pm
  refine if_mid (fun σ H2 => σ = [some (.ref l.J), some (.int (i : Int)), some (.int (j : Int)), some (.ref tu), some (.ref p)] ∧ H2 = H1 ∧ ns ≠ []) (fun nx hn => ?_) ?_
  · refine ⟨_, rfl, _, .inl ⟨_, SqL.of hp, rfl⟩, ?_⟩
    refine ite2 (fun c => ?_) (fun c => nextE (hn _ _ ⟨rfl, rfl, fun z => ?_⟩))
    · have e : ns = [] := by
        cases ns with
        | nil => rfl
        | cons a r => cases c
      refine q false l st H1 rfl (fun _ h => h) (Out.of g1) (ja.same g1) ⟨wf, rfl, (fun z => nomatch z), fun _ => ⟨rfl, fun f d z => ?_⟩, (fun z => nomatch z)⟩
      have m := prs_deal wf hi hj d
      rw [z] at m
      have := (ms _).mpr m
      rw [e] at this
      cases this
    · rw [z] at c
      exact c rfl
  rintro _ _ ⟨rfl, rfl, nne⟩
  refine if_mid (fun σ H2 => σ = [some (.ref l.J), some (.int (i : Int)), some (.int (j : Int)), some (.ref tu), some (.ref p)] ∧ ∃ (l1 : JL) (st1 : JS), l1.J = l.J ∧ (∀ c ∈ l1.fp, c ∈ l.fp) ∧ Out l.fp H H2 ∧ JAt H2 C n l1 st1 ∧ H2 p = some (.lst (ns.map V.int)) ∧ WF n st1 ∧ st1.hd.length = st.hd.length ∧ (∀ f, Deal st1 f ∧ f i ∈ ns ↔ Deal st f ∧ f j = ap tn (f i)) ∧ HdJoin st st1 i j) (fun nx hn => ?_) ?_
  · refine ⟨_, rfl, l.J, dx, _, rfl, g1 _ _ ho, rfl, _, rfl, _, rfl, l, st, n, i, j, _, _, rfl, ja.same g1, hdO_get hi, hdO_get hj, _, rfl, ?_⟩
    refine ite2 (fun c => ?_) (fun c => nextE (hn _ _ ⟨rfl, l, st, rfl, fun _ h => h, Out.of g1, ja.same g1, hp, wf, rfl, ?_, ?_⟩))
    · have ne : st.hdO i ≠ st.hdO j := fun z => by
        rw [decide_eq_true z] at c
        cases c
      obtain ⟨ma, mb, two, ⟨nda, ima⟩, ndb, imb⟩ := wf.two hi hj m4 ne
      refine ⟨_, rfl, l.J, dx, _, rfl, g1 _ _ ho, rfl, _, rfl, _, rfl, _, rfl, l, st, n, i, j, _, _, _, _, tn, _, _, tu, ma, mb, rfl, ja.same g1, g1 _ _ hu, n8, tl, ft, two, fun l1 st1 H2 k1 k2 o2 j2 es => hn _ _ ⟨rfl, l1, st1, k1, k2, (Out.of g1).trans o2, j2, o2 _ _ hp (fun z => ja.ne np z), ?_⟩⟩
      obtain ⟨fi, li⟩ := wf.ful hi
      obtain ⟨fj, lj⟩ := wf.ful hj
      rcases es with rfl | rfl
      · exact ⟨wf.mv hi hj ne nda ima ndb imb two.mB (full_aft (inv_full fi) (full_aft (inv_full ft) fj (by rw [inv_length]; omega)) (by rw [inv_length, aft_len]; omega)) (by rw [aft_len, aft_len]; exact lj), mv_len _ _ _, fun f => tie_mvA wf hi hj ne nda ima ft tl ms f, hdj_mv wf ima _ ne⟩
      · exact ⟨wf.mv hj hi (fun z => ne z.symm) ndb imb nda ima two.mA (full_aft (inv_full fj) (full_aft ft fi (by omega)) (by rw [inv_length, aft_len]; omega)) (by rw [aft_len, aft_len]; exact li), mv_len _ _ _, fun f => tie_mvB wf hi hj ne ndb imb ft tl ms f, (hdj_mv wf imb _ (fun z => ne z.symm)).symm⟩
    · have e : st.hdO i = st.hdO j := by
        by_cases z : st.hdO i = st.hdO j
        · exact z
        · rw [decide_eq_false z] at c
          exact absurd rfl c
      exact fun f => tie_same wf hi hj e ms f
    · have e : st.hdO i = st.hdO j := by
        by_cases z : st.hdO i = st.hdO j
        · exact z
        · rw [decide_eq_false z] at c
          exact absurd rfl c
      exact hdj_same e
  rintro _ H2 ⟨rfl, l1, st1, k1, k2, o2, j2, hp2, wf1, len1, iff, hdj⟩
  obtain ⟨dx1, ho1⟩ := j2.obj
  have hi1 : i < st1.hd.length := by rw [len1]; exact hi
  have fl := wf1.frLen
  refine ⟨_, rfl, l1.J, dx1, _, by rw [k1], ho1, rfl, _, rfl, _, rfl, l1, st1, n, i, _, _, _, ns, p, by rw [k1]; rfl, j2, wf1.one n8 hi1, by omega, SqL.of hp2, fun l2 H3 k3 k4 o3 j3 => ?_⟩
  refine q true l2 _ H3 (k3.trans k1) (fun c hc => k2 c (by rw [← k4]; exact hc)) (fun b o e nb => o3 _ _ (o2 _ _ e nb) fun z => nb (k2 b z)) j3 ⟨wf1.setFr hi1, len1, fun _ => ⟨?_, fun f => ?_⟩, (fun z => nomatch z), fun _ => hdj⟩
  · obtain ⟨x, mx⟩ : ∃ x, x ∈ ns := by
      cases ns with
      | nil => exact absurd rfl nne
      | cons a r => exact ⟨a, List.mem_cons_self⟩
    obtain ⟨f, d, e1, e2⟩ := deal_prs wf hi hj live ((ms x).mp mx)
    refine ⟨f, (narrow_deal wf1 hi1 ns f).mpr ((iff f).mpr ⟨d, ?_⟩)⟩
    rw [e2, e1]
  · exact (narrow_deal wf1 hi1 ns f).trans (iff f)
end
def tupA (H : Hp) (a : Addr) (ns : List Int) : Prop := H a = some (.tup (ns.map V.int))
def spInv : Sp := fun vs H Q _ => ∃ (a : Addr) (xs : List Int), vs = [.ref a] ∧ tupA H a xs ∧ xs.length < 64 ∧ full xs = true ∧ ∀ (t : Addr) (H' : Hp), H t = none → Same H H' → tupA H' t (inv xs) → Q (.ref t) H'
section
variable {P : Program} {w : World} {K : PySem.W.Frag} {mg : Str → Option Value} {base : Heap} {f : Addr} {fd : FuncData}
theorem sc_law_inverse : FnScope ["_law_turn_here"] ["_law_turn_here"] (defScope s_law_inverse) := ⟨rfl, rfl, rfl, by decide +kernel, rfl, by decide +kernel, by decide +kernel⟩
theorem ok_inverse (F : Fun K "_law_inverse" "_law_inverse" s_law_inverse f fd) (bl : Bl mg) : FnOk P w K mg base CX0 1 f fd ["_law_turn_here"] spInv := by
  refine F.ok sc_law_inverse (fun vs H Q E h => ?_) (fun cdv A outer s H vs Q E hr h => ?_)
  · obtain ⟨a, xs, rfl, _⟩ := h
    rfl
  obtain ⟨a, xs, rfl, hA, lx, fx, q⟩ := h
  refine ⟨_, (pss_one (ps_ret (pe_callTy (call_tuple_of) rfl bl.n_tuple bt_tuple (pa_cons (pe_comp (x := "_law_at") (fr := [("_law_turn_here", 0)]) (cl := [("_law_turn_here", s.heap.objs.size + 1)]) rfl ⟨by with_unfolding_all rfl, ⟨rfl, trivial⟩, rfl, by decide +kernel, rfl, by decide +kernel, rfl, ⟨⟨rfl, .inl rfl, .inl rfl, rfl⟩, trivial⟩, by decide +kernel⟩ (pi_range1 rfl bl.n_range (pa_cons (pe_callB (lenK (K := K) rfl) rfl bl.n_len bt_len (pa_cons (pv 0) pa_nil)) pa_nil)) (fun _ _ _ _ => ptl_nil) (fun _ _ _ _ => (pe_tupindex (pv 1) (pa_cons (pv 0) pa_nil)))) pa_nil)))), ?_⟩
  have el : (xs.map V.int).length = xs.length := List.length_map _
  refine ⟨_, rfl, a, _, rfl, .inr (SqT.of hA), _, rfl, by rw [el]; omega, by rw [el]; omega, fun D hD => comp_range (lo := 0) (n := (((xs.map V.int).length : Nat) : Int).toNat)
      (fun i zs H2 => Same H H2 ∧ H2 D = some (.lst zs) ∧ zs = ((inv xs).take i).map V.int) ⟨same_new hD _, upd_same, rfl⟩ ?_ ?_⟩
  · rintro i zs H2 hi ⟨g2, h2, e2⟩
    rw [Int.toNat_natCast, el] at hi
    rw [Int.zero_add]
    have hx := ixOf_get (full_mem fx hi)
    have h2A := g2 _ _ hA
    refine yesT (iteT ⟨_, rfl, a, xs, rfl, h2A, _, rfl, (i : Int), ixOf (i : Int) xs, rfl, h2A, hx.1, hx.2, h2, ?_, fun d o qd => ?_, upd_same, ?_⟩)
    · rw [e2, List.length_map, List.length_take, inv_length]
      exact small1000 (by omega)
    · rw [upd_ne (ne_of_none qd hD)]
      exact g2 d o qd
    · rw [e2, inv_take hi, List.map_append]
      rfl
  · rintro zs H2 ⟨g2, h2, e2⟩
    refine ⟨D, _, rfl, .inl ⟨SqL.of h2, fun t ht => q t _ (g2.free ht) (g2.trans (same_new ht _)) ?_⟩⟩
    show upd H2 t (.tup zs) t = _
    rw [upd_same, e2, Int.toNat_natCast, el, List.take_of_length_le (by rw [inv_length]; omega)]
end
def rot (n : Nat) (d : Int) : List Int := (List.range n).map fun i : Nat => ((i : Int) + d) % (n : Int)
theorem rot_length (n : Nat) (d : Int) : (rot n d).length = n := by simp [rot]
theorem rot_perm {n : Nat} (hn : 0 < n) (d : Int) : (rot n d).Perm (upto n) := by
  have hn' : (0 : Int) < (n : Int) := by omega
  have r0 := Int.emod_nonneg d (Int.ne_of_gt hn')
  have r1 := Int.emod_lt_of_pos d hn'
  obtain ⟨r, er⟩ : ∃ r : Nat, d % (n : Int) = (r : Int) := ⟨(d % (n : Int)).toNat, by omega⟩
  have rn : r < n := by omega
  have e : rot n d = (upto n).drop r ++ (upto n).take r := by
    refine List.ext_getElem? fun i => ?_
    have ul := upto_length n
    by_cases hi : i < n
    · have lhs : (rot n d)[i]? = some (((i : Int) + d) % (n : Int)) := by
        unfold rot
        rw [List.getElem?_map, List.getElem?_range hi]
        rfl
      have em : ((i : Int) + d) % (n : Int) = ((r : Int) + (i : Int)) % (n : Int) := by
        rw [Int.add_comm, ← Int.emod_add_emod, er]
      rw [lhs, em]
      by_cases h : r + i < n
      · rw [List.getElem?_append_left (by rw [List.length_drop, ul]; omega), List.getElem?_drop, upto_get (by omega), Int.emod_eq_of_lt (by omega) (by omega), Int.natCast_add]
      · rw [List.getElem?_append_right (by rw [List.length_drop, ul]; omega), List.length_drop, ul, List.getElem?_take_of_lt (by omega), upto_get (by omega)]
        have e3 : (r : Int) + (i : Int) = ((i - (n - r) : Nat) : Int) + (n : Int) * 1 := by omega
        rw [e3, Int.add_mul_emod_self_left, Int.emod_eq_of_lt (by omega) (by omega)]
    · rw [List.getElem?_eq_none (by rw [rot_length]; omega), List.getElem?_eq_none (by rw [List.length_append, List.length_drop, List.length_take, ul]; omega)]
  rw [e]
  exact List.perm_append_comm.trans (by rw [List.take_append_drop])
def spRow : Sp := fun vs H Q _ => ∃ (c : Int) (n : Nat), vs = [.int c, .int (n : Int)] ∧ 0 < n ∧ n ≤ 60 ∧ ∀ (t : Addr) (ts : List Int) (H' : Hp), H t = none → Same H H' → tupA H' t ts → ts.Perm (upto n) → Q (.ref t) H'
theorem paired2 {ds : List Int} {a b : Int} (h : Paired Bd ds [a, b]) : ∃ v w, ds = [v, w] ∧ Bd v a ∧ Bd w b := by
  cases h with | cons h1 h => cases h with | cons h2 h =>
    cases h
    exact ⟨_, _, rfl, h1, h2⟩
section
variable {P : Program} {w : World} {K : PySem.W.Frag} {mg : Str → Option Value} {base : Heap} {f : Addr} {fd : FuncData}
theorem sc_law_row : FnScope ["_law_cell_here", "_law_size", "_law_drawn"] ["_law_cell_here", "_law_size"] (defScope s_law_row) := ⟨rfl, rfl, rfl, by decide +kernel, rfl, by decide +kernel, by decide +kernel⟩
theorem ok_law_row (F : Fun K "_law_row" "_law_row" s_law_row f fd) (h_law_draws : HasFn P w K mg base 1 "_law_draws" ["_law_cell_here", "_law_parts"] (spDraws K)) (h_law_turn : HasFn P w K mg base 1 "_law_turn" ["_law_code", "_law_size"] spTurn) (bl : Bl mg) :
    FnOk P w K mg base CX0 2 f fd ["_law_cell_here", "_law_size"] spRow := by
  refine F.ok sc_law_row (fun vs H Q E h => ?_) (fun cdv A outer s H vs Q E hr h => ?_)
  · obtain ⟨c, n, rfl, _⟩ := h
    rfl
  obtain ⟨c, n, rfl, n0, n60, q⟩ := h
  refine ⟨_, (pss_cons (ps_set (i := 2) sc_law_row.nd rfl (Or.inr rfl) (pe_fn h_law_draws hr (by omega) rfl (pa_cons (pv 0) (pa_cons (pe_lst (pa_cons pe_int (pa_cons pe_int pa_nil))) pa_nil)))) (pss_cons (ps_if (pt_cmpR op_eq (pe_ix (ix_listK (K := K) rfl) (pv 2) pe_int (fun _ _ => rfl)) pe_int (nomark _)) (pss_one (ps_ret (pe_callTy (call_tuple_of) rfl bl.n_tuple bt_tuple (pa_cons (pe_comp (x := "_law_at") (fr := [("_law_size", 1), ("_law_drawn", 2)]) (cl := [("_law_size", s.heap.objs.size + 1), ("_law_drawn", s.heap.objs.size + 1 + 1)]) rfl ⟨by with_unfolding_all rfl, ⟨rfl, ⟨rfl, trivial⟩⟩, rfl, by decide +kernel, rfl, by decide +kernel, rfl, ⟨⟨rfl, .inl rfl, .inl rfl, rfl⟩, ⟨⟨rfl, .inl rfl, .inl rfl, rfl⟩, trivial⟩⟩, by decide +kernel⟩ (pi_range1 rfl bl.n_range (pa_cons (pv 1) pa_nil)) (fun _ _ _ _ => ptl_nil) (fun _ _ _ _ => (pe_op op_mod (pe_op op_add (pv 0) (pe_ix (ix_listK (K := K) rfl) (pv 2) pe_int (fun _ _ => rfl))) (pv 1)))) pa_nil)))) pss_nil) (pss_one (ps_ret (pe_fn h_law_turn hr (by omega) rfl (pa_cons (pe_ix (ix_listK (K := K) rfl) (pv 2) pe_int (fun _ _ => rfl)) (pa_cons (pv 1) pa_nil))))))), ?_⟩
  refine ⟨_, rfl, by show 2 ≤ sizeLine; decide, fun p np => ?_⟩
  refine ⟨c, p, [3, 40320], rfl, SqL.of upd_same, by decide, by decide, fun dl ds H1 nd g1 h1 bd => ?_⟩
  obtain ⟨d0, d1, rfl, ⟨a0, a0'⟩, ⟨a1, a1'⟩⟩ := paired2 bd
  have g := (same_new np _).trans g1
  have pos : (0 : Int) < (n : Int) := by omega
  refine ⟨_, rfl, dl, _, 0, .int d0, rfl, rfl, SqL.of h1, rfl, rfl, _, rfl, ite2 (fun _ => ?_) (fun _ => nextE ?_)⟩
  · refine ⟨_, rfl, (n : Int), rfl, by omega, by omega, fun D hD => comp_range (lo := 0) (n := (n : Int).toNat) (fun i zs H2 => Same H1 H2 ∧ H2 D = some (.lst zs) ∧ zs = ((rot n d1).take i).map V.int) ⟨same_new hD _, upd_same, rfl⟩ ?_ ?_⟩
    · rintro i zs H2 hi ⟨g2, h2, e2⟩
      rw [Int.toNat_natCast] at hi
      rw [Int.zero_add]
      refine yesT (iteT ⟨_, rfl, _, rfl, dl, _, 1, .int d1, rfl, rfl, SqL.of (g2 _ _ h1), rfl, _, _, rfl, rfl, _, rfl, _, _, rfl, rfl, pos, h2, ?_, fun d o qd => ?_, upd_same, ?_⟩)
      · rw [e2, List.length_map, List.length_take, rot_length]
        exact small1000 (by omega)
      · rw [upd_ne (ne_of_none qd hD)]
        exact g2 d o qd
      · have ge : (rot n d1)[i]? = some (((i : Int) + d1) % (n : Int)) := by
          unfold rot
          rw [List.getElem?_map, List.getElem?_range hi]
          rfl
        rw [e2, List.take_add_one, snoc_int', ge]
        rfl
    · rintro zs H2 ⟨g2, h2, e2⟩
      rw [Int.toNat_natCast, List.take_of_length_le (by rw [rot_length]; omega)] at e2
      refine ⟨D, _, rfl, .inl ⟨SqL.of h2, fun t ht => q t (rot n d1) _ (g.free (g2.free ht)) ((g.trans g2).trans (same_new ht _)) ?_ (rot_perm n0 d1)⟩⟩
      show upd H2 t (.tup zs) t = _
      rw [upd_same, e2]
  · exact ⟨_, rfl, dl, _, 1, .int d1, rfl, rfl, SqL.of h1, rfl, _, rfl, d1, n, rfl, n60, fun t ts H2 nt g2 ht pm => q t ts H2 (g.free nt) (g.trans g2) ht pm⟩
end
structure Fc where
  k : Str
  one : Nat
  oth : Int
  tn : List Int
abbrev saidK : Str := "said"
def Edge (F : List Fc) (x y : Nat) (t : List Int) : Prop := ∃ c ∈ F, c.k ≠ saidK ∧ ((c.one = x ∧ c.oth.toNat = y ∧ t = c.tn) ∨ (c.oth.toNat = x ∧ c.one = y ∧ t = inv c.tn))
def Closed (n : Nat) (F : List Fc) (g : Nat → Option Int) : Prop := (∀ x y t u, Edge F x y t → g x = some u → g y = some (ap t u)) ∧ (∀ c ∈ F, c.k = saidK → ∀ u, g c.one = some u → u = c.oth) ∧ ∀ k v, g k = some v → 0 ≤ v ∧ v < (n : Int)
structure FOk (n m : Nat) (c : Fc) : Prop where
  one : c.one < m
  tie : c.k ≠ saidK → (0 ≤ c.oth ∧ c.oth.toNat < m) ∧ full c.tn = true ∧ c.tn.length = n
structure FAt (H : Hp) (fa td : Addr) (n : Nat) (F : List Fc) : Prop where
  facts : ∃ as : List Addr, H fa = some (.lst (as.map V.ref)) ∧ Paired (fun a (c : Fc) => ∃ z : Int, H a = some (.tup [.int z, .str c.k, .int (c.one : Int), .int c.oth])) as F
  turns : ∃ kvs, H td = some (.dK kvs) ∧ (∀ c ∈ F, c.k ≠ saidK → ∃ u, valV kvs (.inr c.k) = some (.ref u) ∧ tupA H u c.tn) ∧ ∃ u, valV kvs (.inr "sibling") = some (.ref u) ∧ tupA H u (upto n)
theorem FAt.same {H H' : Hp} {fa td : Addr} {n : Nat} {F : List Fc} (g : Same H H') (h : FAt H fa td n F) : FAt H' fa td n F := by
  obtain ⟨⟨as, h1, h2⟩, kvs, h3, h4, u, h5, h6⟩ := h
  exact ⟨⟨as, g _ _ h1, L2.Paired.mapP h2 fun _ _ ⟨z, e⟩ => ⟨z, g _ _ e⟩⟩, kvs, g _ _ h3, fun c m k => by obtain ⟨u, e1, e2⟩ := h4 c m k; exact ⟨u, e1, g _ _ e2⟩, u, h5, g _ _ h6⟩
structure Nets (H0 H : Hp) (d : Addr) (b : Nat) (kvs : List (Key × V)) (L : Nat → List (Nat × List Int)) : Prop where
  dict : H d = some (.dK kvs)
  len : kvs.length ≤ b
  new : H0 d = none
  at_ : ∀ x : Nat, (valV kvs (.inl (x : Int)) = none ∧ L x = []) ∨ ∃ (a : Addr) (es : List Addr), valV kvs (.inl (x : Int)) = some (.ref a) ∧ H0 a = none ∧ H a = some (.lst (es.map V.ref)) ∧ (L x).length ≤ b ∧ Paired (fun e (p : Nat × List Int) => ∃ u, H e = some (.tup [.int (p.1 : Int), .ref u]) ∧ tupA H u p.2) es (L x)
  inj : ∀ (x y : Nat) (a : Addr), valV kvs (.inl (x : Int)) = some (.ref a) → valV kvs (.inl (y : Int)) = some (.ref a) → x = y
theorem Nets.same {H0 H H' : Hp} {d : Addr} {b : Nat} {kvs : List (Key × V)} {L : Nat → List (Nat × List Int)} (g : Same H H') (h : Nets H0 H d b kvs L) : Nets H0 H' d b kvs L := by
  refine ⟨g _ _ h.dict, h.len, h.new, fun x => ?_, h.inj⟩
  rcases h.at_ x with z | ⟨a, es, h1, h2, h3, h4, h5⟩
  · exact .inl z
  · exact .inr ⟨a, es, h1, h2, g _ _ h3, h4, L2.Paired.mapP h5 fun _ _ ⟨u, e1, e2⟩ => ⟨u, g _ _ e1, g _ _ e2⟩⟩
def addN (L : Nat → List (Nat × List Int)) (x : Nat) (p : Nat × List Int) : Nat → List (Nat × List Int) := fun z => if z = x then L x ++ [p] else L z
theorem valV_snoc {kvs : List (Key × V)} {k k' : Key} {v : V} (h : valV kvs k = none) : valV (kvs ++ [(k, v)]) k' = if k' = k then some v else valV kvs k' := by
  rw [← putK_new v h]
  exact valV_put _ _ _ _
theorem Nets.app {H0 H H' : Hp} {d a e u : Addr} {b x y : Nat} {kvs : List (Key × V)} {L : Nat → List (Nat × List Int)} {ys : List V} {t : List Int} (h : Nets H0 H d b kvs L) (hv : valV kvs (.inl (x : Int)) = some (.ref a)) (ha : H a = some (.lst ys)) (he : H e = some (.tup [.int (y : Int), .ref u])) (hu : tupA H u t) (br : Bar a H H') (ha' : H' a = some (.lst (ys ++ [.ref e]))) : Nets H0 H' d (b + 1) kvs (addN L x (y, t)) := by
  have nt : ∀ {c : Addr} {xs : List V}, H c = some (.tup xs) → c ≠ a := fun {c xs} hc => ne_kind hc ha (fun z => by cases z)
  refine ⟨br _ _ h.dict (ne_kind h.dict ha (fun z => by cases z)), by have := h.len; omega, h.new, fun z => ?_, h.inj⟩
  have en : ∀ {es : List Addr} {ps : List (Nat × List Int)}, Paired (fun e (p : Nat × List Int) => ∃ u, H e = some (.tup [.int (p.1 : Int), .ref u]) ∧ tupA H u p.2) es ps → Paired (fun e (p : Nat × List Int) => ∃ u, H' e = some (.tup [.int (p.1 : Int), .ref u]) ∧ tupA H' u p.2) es ps := fun {es ps} hp => L2.Paired.mapP hp fun _ _ ⟨u, e1, e2⟩ => ⟨u, br _ _ e1 (nt e1), br _ _ e2 (nt e2)⟩
  by_cases ez : z = x
  · subst ez
    rcases h.at_ z with ⟨z1, _⟩ | ⟨a1, es, h1, h2, h3, h4, h5⟩
    · rw [z1] at hv; cases hv
    · obtain rfl : a1 = a := V.ref.inj (Option.some.inj (h1.symm.trans hv))
      rw [h3] at ha
      obtain rfl : es.map V.ref = ys := by injection ha with ha; injection ha
      refine .inr ⟨a1, es ++ [e], h1, h2, by rw [ha', List.map_append]; rfl, ?_, ?_⟩
      · unfold addN; rw [if_pos rfl, List.length_append]; show (L z).length + 1 ≤ b + 1; omega
      · unfold addN; rw [if_pos rfl]
        exact paired_snoc (F := fun e (p : Nat × List Int) => ∃ u, H' e = some (.tup [.int (p.1 : Int), .ref u]) ∧ tupA H' u p.2) ⟨u, br _ _ he (nt he), br _ _ (show H u = some (.tup (t.map V.int)) from hu) (nt (show H u = some (.tup (t.map V.int)) from hu))⟩ (en h5)
  · unfold addN
    rw [if_neg ez]
    rcases h.at_ z with z1 | ⟨a1, es, h1, h2, h3, h4, h5⟩
    · exact .inl z1
    · refine .inr ⟨a1, es, h1, h2, br _ _ h3 (fun q => ez (h.inj z x a (by rw [← q]; exact h1) hv)), by omega, en h5⟩
theorem Nets.neu {H0 Hb H H' : Hp} {d p : Addr} {b x : Nat} {kvs : List (Key × V)} {L : Nat → List (Nat × List Int)} (hb : Nets H0 Hb d b kvs L) (g : Same Hb H) (np : Hb p = none) (np0 : H0 p = none) (hv : valV kvs (.inl (x : Int)) = none) (hp : H p = some (.lst [])) (br : Bar d H H') (hd' : H' d = some (.dK (kvs ++ [(.inl (x : Int), .ref p)]))) : Nets H0 H' d (b + 1) (kvs ++ [(.inl (x : Int), .ref p)]) L := by
  have h := hb.same g
  have nt : ∀ {c : Addr} {xs : List V}, H c = some (.tup xs) → c ≠ d := fun {c xs} hc => ne_kind hc h.dict (fun z => by cases z)
  have nl : ∀ {c : Addr} {xs : List V}, H c = some (.lst xs) → c ≠ d := fun {c xs} hc => ne_kind hc h.dict (fun z => by cases z)
  refine ⟨hd', by rw [List.length_append]; have := h.len; show kvs.length + 1 ≤ b + 1; omega, h.new, fun z => ?_, fun z1 z2 a e1 e2 => ?_⟩
  · rw [valV_snoc hv]
    by_cases ez : z = x
    · rw [if_pos (by rw [ez])]
      rcases h.at_ z with ⟨_, z2⟩ | ⟨a1, es, h1, _⟩
      · exact .inr ⟨p, [], rfl, np0, br _ _ hp (nl hp), by rw [z2]; exact Nat.zero_le _, by rw [z2]; exact .nil⟩
      · rw [ez, hv] at h1; cases h1
    · rw [if_neg (fun q => ez (by have := Sum.inl.inj q; omega))]
      rcases h.at_ z with z1 | ⟨a1, es, h1, h2, h3, h4, h5⟩
      · exact .inl z1
      · exact .inr ⟨a1, es, h1, h2, br _ _ h3 (nl h3), by omega, L2.Paired.mapP h5 fun _ _ ⟨u, e1, e2⟩ => ⟨u, br _ _ e1 (nt e1), br _ _ e2 (nt e2)⟩⟩
  · have old : ∀ {z : Nat}, valV kvs (.inl (z : Int)) = some (.ref p) → False := fun {z} e => by
      rcases hb.at_ z with ⟨z1, _⟩ | ⟨a1, es, h1, h2, h3, _⟩
      · rw [z1] at e; cases e
      · rw [e] at h1
        obtain rfl : p = a1 := V.ref.inj (Option.some.inj h1)
        rw [np] at h3; cases h3
    rw [valV_snoc hv] at e1 e2
    by_cases q1 : z1 = x
    · by_cases q2 : z2 = x
      · rw [q1, q2]
      · rw [if_pos (by rw [q1])] at e1
        rw [if_neg (fun q => q2 (by have := Sum.inl.inj q; omega)), ← e1] at e2
        exact absurd e2 old
    · rw [if_neg (fun q => q1 (by have := Sum.inl.inj q; omega))] at e1
      by_cases q2 : z2 = x
      · rw [if_pos (by rw [q2])] at e2
        rw [← e2] at e1
        exact absurd e1 old
      · rw [if_neg (fun q => q2 (by have := Sum.inl.inj q; omega))] at e2
        exact h.inj _ _ a e1 e2
theorem addN_mem {L : Nat → List (Nat × List Int)} {x z : Nat} {p q : Nat × List Int} : q ∈ addN L x p z ↔ q ∈ L z ∨ (z = x ∧ q = p) := by
  unfold addN
  by_cases e : z = x
  · rw [if_pos e, List.mem_append, e]
    simp
  · rw [if_neg e]
    simp [e]
theorem edge_nil {x y : Nat} {t : List Int} : ¬ Edge [] x y t := fun ⟨_, m, _⟩ => nomatch m
theorem edge_app {F : List Fc} {c : Fc} {x y : Nat} {t : List Int} : Edge (F ++ [c]) x y t ↔ Edge F x y t ∨ (c.k ≠ saidK ∧ ((c.one = x ∧ c.oth.toNat = y ∧ t = c.tn) ∨ (c.oth.toNat = x ∧ c.one = y ∧ t = inv c.tn))) := by
  constructor
  · rintro ⟨c', m, h1, h2⟩
    rcases List.mem_append.mp m with m | m
    · exact .inl ⟨c', m, h1, h2⟩
    · rw [List.mem_singleton] at m
      subst m
      exact .inr ⟨h1, h2⟩
  · rintro (⟨c', m, h⟩ | h)
    · exact ⟨c', List.mem_append_left _ m, h⟩
    · exact ⟨c, List.mem_append_right _ List.mem_cons_self, h⟩
theorem nets_step {K : PySem.W.Frag} {tx : TE} {σ : St} {H0 H : Hp} {d : Addr} {b x y i k : Nat} {kvs : List (Key × V)} {L : Nat → List (Nat × List Int)} {t : List Int} {Q : VK} (h2 : ∀ H Q, Q (.ref d) H → tVar 2 σ H Q) (hi : ∀ H Q, Q (.int (x : Int)) H → tVar i σ H Q) (hk : ∀ H Q, Q (.int (y : Int)) H → tVar k σ H Q) (h : Nets H0 H d b kvs L) (g : Same H0 H) (lb : b < 1000)
    (hx : ∀ (H1 : Hp) (Q1 : VK), Same H0 H1 → (∀ (u : Addr) (H2 : Hp), Same H1 H2 → tupA H2 u t → Q1 (.ref u) H2) → tx σ H1 Q1) (q : ∀ (v : V) (kvs' : List (Key × V)) (H' : Hp), Same H0 H' → Nets H0 H' d (b + 2) kvs' (addN L x (y, t)) → Q v H') : tBM K "list" rAppendN (tDSetDef (tVar 2) (tVar i) (tLstN tNil)) (tCons (tTupN (tCons (tVar k) (tCons tx tNil))) tNil) σ H Q := by
  have sz : (10000 : Nat) ≤ sizeLine := by rw [sizeLine_eq]; omega
  have ln := h.len
  unfold tBM tDSetDef
  refine h2 _ _ ?_
  refine ⟨d, rfl, .inl ⟨_, .inl h.dict⟩, hi _ _ ?_⟩
  refine ⟨by show 0 ≤ sizeLine; exact Nat.zero_le _, fun p H1 np g1 hp => ⟨kvs, .inl (x : Int), g1 _ _ h.dict, rfl, by omega, fun v hv => ?_, fun hv H2 b2 e2 => ?_⟩⟩
  · rcases h.at_ x with ⟨z1, _⟩ | ⟨a, es, h3, h4, h5, h6, h7⟩
    · rw [z1] at hv; cases hv
    obtain rfl : v = .ref a := Option.some.inj (hv.symm.trans h3)
    have pl := paired_len h7
    refine ⟨.inl ⟨rfl, _, SqL.of (g1 _ _ h5)⟩, ?_⟩
    unfold tCons tTupN
    dsimp only
    refine hk _ _ ?_
    refine hx _ _ (g.trans g1) fun u H2 g2 hu => ?_
    refine ⟨by show 2 ≤ sizeLine; omega, fun e H3 ne g3 he => ?_⟩
    have g13 := (g1.trans g2).trans g3
    refine ⟨a, _, _, rfl, rfl, g13 _ _ h5, by rw [List.length_map]; omega, fun H4 b4 e4 => ?_⟩
    have nn := (h.same g13).app (y := y) (t := t) h3 (g13 _ _ h5) he (g3 _ _ hu) b4 e4
    exact q _ _ H4 (fun c o e => b4 _ _ (g13 _ _ (g _ _ e)) (ne_of_none e h4)) ⟨nn.dict, by have := nn.len; omega, nn.new, fun z => by
      rcases nn.at_ z with w | ⟨a, es, w1, w2, w3, w4, w5⟩
      · exact .inl w
      · exact .inr ⟨a, es, w1, w2, w3, by omega, w5⟩, nn.inj⟩
  · have np0 := g.free np
    have n2 := h.neu g1 np np0 hv hp b2 e2
    have pd : p ≠ d := ne_kind hp (g1 _ _ h.dict) (fun z => by cases z)
    have hp2 := b2 _ _ hp pd
    have gg : Same H0 H2 := fun c o e => b2 _ _ (g1 _ _ (g _ _ e)) (ne_of_none e h.new)
    refine ⟨.inl ⟨rfl, _, SqL.of (xs := []) hp2⟩, ?_⟩
    unfold tCons tTupN
    dsimp only
    refine hk _ _ ?_
    refine hx _ _ gg fun u H3 g3 hu => ?_
    refine ⟨by show 2 ≤ sizeLine; omega, fun e H4 ne g4 he => ?_⟩
    have g24 := g3.trans g4
    refine ⟨p, _, _, rfl, rfl, g24 _ _ hp2, by show 0 < sizeLine; omega, fun H5 b5 e5 => ?_⟩
    have vx : valV (kvs ++ [(Sum.inl (x : Int), V.ref p)]) (.inl (x : Int)) = some (.ref p) := by rw [valV_snoc hv, if_pos rfl]
    exact q _ _ H5 (fun c o e => b5 _ _ (g24 _ _ (gg _ _ e)) (ne_of_none e np0)) ((n2.same g24).app (y := y) (t := t) vx (g24 _ _ hp2) he (g4 _ _ hu) b5 e5)
inductive IspNets (vs : List V) (H : Hp) (Q : VK) : Prop
  | mk (fa td : Addr) (n m : Nat) (F : List Fc) (h0_ : vs = [.ref fa, .ref td]) (h1_ : FAt H fa td n F) (h2_ : (∀ c ∈ F, FOk n m c)) (h3_ : n ≤ 8) (h4_ : F.length ≤ 64) (h5_ : ∀ (d : Addr) (kvs : List (Key × V)) (L : Nat → List (Nat × List Int)) (H' : Hp), Same H H' → Nets H H' d 300 kvs L → (∀ x y t, (y, t) ∈ L x ↔ Edge F x y t) → Q (.ref d) H') : IspNets vs H Q
def spNets : Sp := fun vs H Q _ => IspNets vs H Q
section
variable {P : Program} {w : World} {K : PySem.W.Frag} {mg : Str → Option Value} {base : Heap} {f : Addr} {fd : FuncData}
theorem sc_law_nets : FnScope ["_law_facts", "_law_turns", "_law_found", "_law_number", "_law_kind", "_law_one", "_law_other"] ["_law_facts", "_law_turns"] (defScope s_law_nets) := ⟨rfl, rfl, rfl, by decide +kernel, rfl, by decide +kernel, by decide +kernel⟩
theorem ok_nets (F : Fun K "_law_nets" "_law_nets" s_law_nets f fd) (h_law_inverse : HasFn P w K mg base 1 "_law_inverse" ["_law_turn_here"] spInv) (bl : Bl mg) : FnOk P w K mg base CX0 2 f fd ["_law_facts", "_law_turns"] spNets := by
  refine F.ok sc_law_nets (fun vs H Q E h => ?_) (fun cdv A outer s H vs Q E hr h => ?_)
  · obtain ⟨fa, td, n, m, F, rfl, _⟩ := h
    rfl
  obtain ⟨fa, td, n, m, F, rfl, fat, fok, n8, l64, q⟩ := h
  refine ⟨_, (pss_cons (ps_set (i := 2) sc_law_nets.nd rfl (Or.inl rfl) pe_dnewKN) (pss_cons (ps_for PassesOwn.never rfl (pi_listK (K := K) rfl (pv 0)) (pg_tupK (K := K) (n := 4) rfl rfl (pgs_cons (pg_name (i := 3) sc_law_nets.nd rfl (Or.inl rfl)) (pgs_cons (pg_name (i := 4) sc_law_nets.nd rfl (Or.inl rfl)) (pgs_cons (pg_name (i := 5) sc_law_nets.nd rfl (Or.inl rfl)) (pgs_cons (pg_name (i := 6) sc_law_nets.nd rfl (Or.inl rfl)) pgs_nil))))) (pss_one (ps_if (pt_cmpR op_ne (pv 4) pe_str (nomark _)) (pss_cons (ps_expr (pe_bmK (K := K) rfl (pe_bm PySem.F.plainAttrs_list PySem.F.slot_list_append PySem.F.type_list_append mt_appendN (pe_dsetdef (pv 2) (pv 5) (pe_lstN pa_nil) ⟨rfl, rfl, rfl, rfl⟩) (pa_cons (pe_tupN (pa_cons (pv 6) (pa_cons (pe_dget (hu_of hr) (pv 1) (pv 4) (fun _ _ => rfl)) pa_nil))) pa_nil)))) (pss_one (ps_expr (pe_bmK (K := K) rfl (pe_bm PySem.F.plainAttrs_list PySem.F.slot_list_append PySem.F.type_list_append mt_appendN (pe_dsetdef (pv 2) (pv 6) (pe_lstN pa_nil) ⟨rfl, rfl, rfl, rfl⟩) (pa_cons (pe_tupN (pa_cons (pv 5) (pa_cons (pe_fn h_law_inverse hr (by omega) rfl (pa_cons (pe_dget (hu_of hr) (pv 1) (pv 4) (fun _ _ => rfl)) pa_nil)) pa_nil))) pa_nil)))))) pss_nil))) (pss_one (ps_ret (pv 2))))), ?_⟩
  refine setT ?_
  refine fun d H1 nd g1 hd => ?_
  obtain ⟨as, hfa, pas⟩ := fat.facts
  obtain ⟨tk, htd, tt, _⟩ := fat.turns
  have al := paired_len pas
  have sz : (10000 : Nat) ≤ sizeLine := by rw [sizeLine_eq]; omega
  refine seq_mid (fun σ H6 => ∃ (kvs : List (Key × V)) (L : Nat → List (Nat × List Int)) (o1 o2 o3 o4 : Option V), Same H H6 ∧ Nets H H6 d 300 kvs L ∧ (∀ x y t, (y, t) ∈ L x ↔ Edge F x y t) ∧ σ = [some (.ref fa), some (.ref td), some (.ref d), o1, o2, o3, o4]) (fun nx0 hn0 => ?_) ?_
  · refine ⟨_, rfl, fa, rfl, ⟨_, SqL.of (g1 _ _ hfa)⟩, for_list (K := K) (a := fa) (xs := as.map V.ref) (fun j σ H6 => ∃ (kvs : List (Key × V)) (L : Nat → List (Nat × List Int)) (o1 o2 o3 o4 : Option V), Same H H6 ∧ Nets H H6 d (4 * j) kvs L ∧ (∀ x y t, (y, t) ∈ L x ↔ Edge (F.take j) x y t) ∧ σ = [some (.ref fa), some (.ref td), some (.ref d), o1, o2, o3, o4])
      ⟨[], fun _ => [], none, none, none, none, g1, ⟨hd, Nat.le_refl _, nd, fun x => .inl ⟨rfl, rfl⟩, fun _ _ _ e => (nomatch e)⟩, fun x y t => ⟨fun z => (nomatch z), fun z => absurd z edge_nil⟩, rfl⟩
      (fun j σ H6 _ ⟨_, _, _, _, _, _, g, _⟩ => SqL.of (g _ _ hfa)) ?_ ?_⟩
    · rintro j v σ H6 hj ⟨kvs, L, o1, o2, o3, o4, g, ne, ed, rfl⟩
      rw [List.getElem?_map] at hj
      obtain ⟨c0, ec, rfl⟩ : ∃ c0, as[j]? = some c0 ∧ V.ref c0 = v := by
        cases e : as[j]? with
        | none => rw [e] at hj; cases hj
        | some c => rw [e] at hj; exact ⟨c, rfl, Option.some.inj hj⟩
      obtain ⟨c, efc, z, hc⟩ := paired_get pas ec
      have mc := List.mem_of_getElem? efc
      have ok := fok c mc
      have jl : j < F.length := (List.getElem?_eq_some_iff.mp efc).1
      have tke : F.take (j + 1) = F.take j ++ [c] := by rw [List.take_add_one, efc]; rfl
      refine ⟨c0, _, rfl, SqT.of (g _ _ hc), rfl, _, _, rfl, nameE ⟨_, _, rfl, nameE ⟨_, _, rfl, nameE ⟨_, _, rfl, nameE ⟨rfl, ?_⟩⟩⟩⟩⟩
      have ev : ∀ b : Bool, decide (V.str c.k = V.str saidK) = b → (b = true ↔ c.k = saidK) := fun b e => by
        rw [← e, decide_eq_true_iff]
        exact ⟨V.str.inj, fun z => by rw [z]⟩
      refine ⟨_, rfl, rfl, _, rfl, ?_⟩
      refine ite2 (fun cc => ?_) (fun cc => nextE ?_)
      · have ns : c.k ≠ saidK := fun z => by
          rw [(ev _ rfl).mpr z] at cc
          cases cc
        obtain ⟨u, vu, hu⟩ := tt c mc ns
        obtain ⟨⟨o0, om⟩, ft, tl⟩ := ok.tie ns
        have eo : c.oth = ((c.oth.toNat : Nat) : Int) := (Int.toNat_of_nonneg o0).symm
        refine nets_step (x := c.one) (y := c.oth.toNat) (t := c.tn) (fun _ _ h => ⟨_, rfl, h⟩) (fun _ _ h => ⟨_, rfl, h⟩) (fun _ _ h => ⟨_, rfl, by rw [eo]; exact h⟩) ne g (by omega) (fun H2 Q2 g2 k2 => ⟨_, rfl, _, rfl, td, .ref u, rfl, dget_s (g2 _ _ htd) vu, k2 u H2 (Same.refl _) (g2 _ _ hu)⟩) fun v2 kvs2 H2 g2 n2 => ?_
        refine nets_step (x := c.oth.toNat) (y := c.one) (t := inv c.tn) (fun _ _ h => ⟨_, rfl, h⟩) (fun _ _ h => ⟨_, rfl, by rw [eo]; exact h⟩) (fun _ _ h => ⟨_, rfl, h⟩) n2 g2 (by omega) (fun H3 Q3 g3 k3 => ⟨_, rfl, _, rfl, td, .ref u, rfl, dget_s (g3 _ _ htd) vu, u, c.tn, rfl, g3 _ _ hu, by omega, ft, fun w H4 _ g4 hw => k3 w H4 g4 hw⟩) fun v3 kvs3 H3 g3 n3 => ?_
        refine ⟨kvs3, _, _, _, _, _, g3, n3, fun x y t => ?_, rfl⟩
        rw [tke, edge_app, addN_mem, addN_mem, ed]
        constructor
        · rintro ((h | ⟨rfl, h⟩) | ⟨rfl, h⟩)
          · exact .inl h
          · cases h; exact .inr ⟨ns, .inl ⟨rfl, rfl, rfl⟩⟩
          · cases h; exact .inr ⟨ns, .inr ⟨rfl, rfl, rfl⟩⟩
        · rintro (h | ⟨_, ⟨rfl, rfl, rfl⟩ | ⟨rfl, rfl, rfl⟩⟩)
          · exact .inl (.inl h)
          · exact .inl (.inr ⟨rfl, rfl⟩)
          · exact .inr ⟨rfl, rfl⟩
      · have sd : c.k = saidK := by
          by_cases z : c.k = saidK
          · exact z
          · cases e : decide (V.str c.k = V.str saidK) with
            | true => exact absurd ((ev _ e).mp rfl) z
            | false => rw [e] at cc; exact absurd rfl cc
        refine ⟨kvs, L, _, _, _, _, g, ⟨ne.dict, by have := ne.len; omega, ne.new, fun z => ?_, ne.inj⟩, fun x y t => ?_, rfl⟩
        · rcases ne.at_ z with w | ⟨a, es, w1, w2, w3, w4, w5⟩
          · exact .inl w
          · exact .inr ⟨a, es, w1, w2, w3, by omega, w5⟩
        · rw [tke, edge_app, ed]
          exact ⟨.inl, fun h => h.elim id fun z => absurd sd z.1⟩
    · rintro σ H6 ⟨kvs, L, o1, o2, o3, o4, g, ne, ed, rfl⟩
      rw [List.length_map, al] at ne
      rw [List.length_map, al, List.take_length] at ed
      refine hn0 _ _ ⟨kvs, L, o1, o2, o3, o4, g, ⟨ne.dict, by have := ne.len; omega, ne.new, fun z => ?_, ne.inj⟩, ed, rfl⟩
      rcases ne.at_ z with w | ⟨a, es, w1, w2, w3, w4, w5⟩
      · exact .inl w
      · exact .inr ⟨a, es, w1, w2, w3, by omega, w5⟩
  rintro σ H6 ⟨kvs, L, o1, o2, o3, o4, g, ne, ed, rfl⟩
  exact ⟨_, rfl, q d kvs L H6 g ne ed⟩
end
abbrev gK (g : List (Nat × Int)) : List (Key × V) := g.map fun p => (.inl (p.1 : Int), .int p.2)
theorem gK_val : ∀ (g : List (Nat × Int)) (k : Nat), valV (gK g) (.inl (k : Int)) = (g.lookup k).map V.int
  | [], _ => rfl
  | p :: g, k => by
    have e0 : gK (p :: g) = (Sum.inl (p.1 : Int), V.int p.2) :: gK g := rfl
    rw [e0, List.lookup_cons]
    by_cases e : k = p.1
    · rw [beq_iff_eq.mpr e, valV_pos (p := ((Sum.inl (p.1 : Int) : Key), V.int p.2)) (by rw [e])]
      rfl
    · rw [beq_eq_false_iff_ne.mpr e, valV_neg (p := ((Sum.inl (p.1 : Int) : Key), V.int p.2)) (fun z => e (by have := Sum.inl.inj z; omega))]
      exact gK_val g k
theorem lookup_mem {α : Type} : ∀ {ps : List (Nat × α)} {k : Nat} {v : α}, ps.lookup k = some v → (k, v) ∈ ps
  | [], _, _, h => by simp at h
  | p :: ps, k, v, h => by
    rw [List.lookup_cons] at h
    by_cases e : k = p.1
    · rw [beq_iff_eq.mpr e] at h
      have : p = (k, v) := by rw [← Option.some.inj h, e]
      rw [this]; exact List.mem_cons_self
    · rw [beq_eq_false_iff_ne.mpr e] at h
      exact List.mem_cons_of_mem _ (lookup_mem h)
theorem mem_lookup {α : Type} : ∀ {ps : List (Nat × α)} {k : Nat} {v : α}, (ps.map (·.1)).Nodup → (k, v) ∈ ps → ps.lookup k = some v
  | p :: ps, k, v, nd, h => by
    obtain ⟨n1, n2⟩ := List.nodup_cons.mp (show (p.1 :: ps.map (·.1)).Nodup from nd)
    rw [List.lookup_cons]
    rcases List.mem_cons.mp h with h | h
    · rw [← h]
      show (match k == k with | true => some v | false => _) = _
      rw [beq_self_eq_true]
    · have e : k ≠ p.1 := fun z => n1 (by rw [← z]; exact List.mem_map.mpr ⟨_, h, rfl⟩)
      rw [beq_eq_false_iff_ne.mpr e]
      exact mem_lookup n2 h
theorem lookup_none_key {α : Type} : ∀ {ps : List (Nat × α)} {k : Nat}, ps.lookup k = none → k ∉ ps.map (·.1)
  | p :: ps, k, h => by
    rw [List.lookup_cons] at h
    by_cases e : k = p.1
    · rw [beq_iff_eq.mpr e] at h; cases h
    · rw [beq_eq_false_iff_ne.mpr e] at h
      intro z
      rcases List.mem_cons.mp (show k ∈ p.1 :: ps.map (·.1) from z) with z | z
      · exact e z
      · exact lookup_none_key h z
  | [], _, _ => fun z => nomatch z
theorem lookup_app {α : Type} {ps : List (Nat × α)} {q : Nat × α} {k : Nat} {v : α} (h : ps.lookup k = some v) : (ps ++ [q]).lookup k = some v := by
  rw [List.lookup_append, h]; rfl
theorem lookup_new {α : Type} {ps : List (Nat × α)} {k : Nat} {v : α} (h : ps.lookup k = none) : (ps ++ [(k, v)]).lookup k = some v := by
  rw [List.lookup_append, h]
  simp
theorem edge_ok {F : List Fc} {n m x y : Nat} {t : List Int} (ok : ∀ c ∈ F, FOk n m c) (e : Edge F x y t) : x < m ∧ y < m ∧ full t = true ∧ t.length = n := by
  obtain ⟨c, mc, ns, h⟩ := e
  obtain ⟨⟨o0, om⟩, ft, tl⟩ := (ok c mc).tie ns
  have o1 := (ok c mc).one
  rcases h with ⟨rfl, rfl, rfl⟩ | ⟨rfl, rfl, rfl⟩
  · exact ⟨o1, om, ft, tl⟩
  · exact ⟨om, o1, inv_full ft, by rw [inv_length]; exact tl⟩
inductive Conn (F : List Fc) (x : Nat) : Nat → Prop
  | refl : Conn F x x
  | step {y z : Nat} {t : List Int} : Conn F x y → Edge F y z t → Conn F x z
structure BF (F : List Fc) (n m x : Nat) (a : Int) (g : List (Nat × Int)) : Prop where
  nd : (g.map (·.1)).Nodup
  lt : ∀ p ∈ g, p.1 < m ∧ 0 ≤ p.2 ∧ p.2 < (n : Int)
  hd : g.lookup x = some a
  snd : ∀ g', Closed n F g' → g' x = some a → ∀ p ∈ g, g' p.1 = some p.2
  conn : ∀ p ∈ g, Conn F x p.1
section
variable {F : List Fc} {n m x : Nat} {a : Int} {g : List (Nat × Int)}
theorem bf0 (hx : x < m) (ha : 0 ≤ a ∧ a < (n : Int)) : BF F n m x a [(x, a)] := by
  refine ⟨by simp, fun p hp => ?_, by simp, fun g' _ h p hp => ?_, fun p hp => ?_⟩
  · rw [List.mem_singleton] at hp; rw [hp]; exact ⟨hx, ha⟩
  · rw [List.mem_singleton] at hp; rw [hp]; exact h
  · rw [List.mem_singleton] at hp; rw [hp]; exact .refl
theorem BF.len (b : BF F n m x a g) : g.length ≤ m := by
  have := nodup_lt_len b.nd (m := m) fun k hk => by
    obtain ⟨p, hp, rfl⟩ := List.mem_map.mp hk
    exact (b.lt p hp).1
  rwa [List.length_map] at this
theorem BF.add (b : BF F n m x a g) (ok : ∀ c ∈ F, FOk n m c) {k y : Nat} {t : List Int} {v : Int} (e : Edge F k y t) (hk : g.lookup k = some v) (hy : g.lookup y = none) : BF F n m x a (g ++ [(y, ap t v)]) := by
  obtain ⟨_, ym, ft, tl⟩ := edge_ok ok e
  have mk := lookup_mem hk
  refine ⟨?_, fun p hp => ?_, lookup_app b.hd, fun g' c h p hp => ?_, fun p hp => ?_⟩
  · rw [List.map_append]
    refine List.nodup_append.mpr ⟨b.nd, by simp, fun u hu w hw z => ?_⟩
    have : w = y := by simpa using hw
    rw [z, this] at hu
    exact lookup_none_key hy hu
  · rcases List.mem_append.mp hp with hp | hp
    · exact b.lt p hp
    · rw [List.mem_singleton] at hp; rw [hp]
      exact ⟨ym, ap_in ft tl (b.lt _ mk).2⟩
  · rcases List.mem_append.mp hp with hp | hp
    · exact b.snd g' c h p hp
    · rw [List.mem_singleton] at hp; rw [hp]
      exact c.1 k y t v e (b.snd g' c h _ mk)
  · rcases List.mem_append.mp hp with hp | hp
    · exact b.conn p hp
    · rw [List.mem_singleton] at hp; rw [hp]
      exact .step (b.conn _ mk) e
theorem BF.clash (b : BF F n m x a g) {k y : Nat} {t : List Int} {v v' : Int} (e : Edge F k y t) (hk : g.lookup k = some v) (hy : g.lookup y = some v') (ne : v' ≠ ap t v) : ¬ ∃ g', Closed n F g' ∧ g' x = some a := by
  rintro ⟨g', c, h⟩
  have h1 := b.snd g' c h _ (lookup_mem hk)
  have h2 := b.snd g' c h _ (lookup_mem hy)
  have h3 := c.1 k y t v e h1
  exact ne (Option.some.inj (h2.symm.trans h3))
theorem BF.clashS (b : BF F n m x a g) {c : Fc} (mc : c ∈ F) (sd : c.k = saidK) {v : Int} (hk : g.lookup c.one = some v) (ne : v ≠ c.oth) : ¬ ∃ g', Closed n F g' ∧ g' x = some a := by
  rintro ⟨g', cl, h⟩
  exact ne (cl.2.1 c mc sd v (b.snd g' cl h _ (lookup_mem hk)))
def Cl (L : Nat → List (Nat × List Int)) (g : List (Nat × Int)) (r : Nat) : Prop := ∀ p, g[r]? = some p → ∀ q ∈ L p.1, g.lookup q.1 = some (ap q.2 p.2)
theorem BF.done (b : BF F n m x a g) {L : Nat → List (Nat × List Int)} (ed : ∀ x y t, (y, t) ∈ L x ↔ Edge F x y t) (cl : ∀ r, r < g.length → Cl L g r) (sd : ∀ c ∈ F, c.k = saidK → ∀ u, g.lookup c.one = some u → u = c.oth) : Closed n F (fun k => g.lookup k) := by
  refine ⟨fun k y t u e hk => ?_, sd, fun k v h => (b.lt _ (lookup_mem h)).2⟩
  obtain ⟨r, hr, er⟩ := List.mem_iff_getElem.mp (lookup_mem hk)
  have := cl r hr (k, u) (by rw [List.getElem?_eq_getElem hr, er]) (y, t) ((ed _ _ _).mpr e)
  exact this
end
theorem lookup_apps {α : Type} {ps qs : List (Nat × α)} {k : Nat} {v : α} (h : ps.lookup k = some v) : (ps ++ qs).lookup k = some v := by
  rw [List.lookup_append, h]; rfl
theorem Cl.app {L : Nat → List (Nat × List Int)} {g tl : List (Nat × Int)} {r : Nat} (hr : r < g.length) (c : Cl L g r) : Cl L (g ++ tl) r := fun p hp q hq => by
  rw [List.getElem?_append_left hr] at hp
  exact lookup_apps (c p hp q hq)
theorem atI_ap {t : List Int} {z : Int} (h0 : 0 ≤ z) (h : z < t.length) : atI (t.map V.int) z = some (.int (ap t z)) := atI_in h0 h
def sgC (d fa fn rw_ : Addr) (x : Nat) (a : Int) (r : Nat) (o7 o8 o9 o10 o11 o12 o13 : Option V) : St := [some (.ref d), some (.ref fa), some (.int (x : Int)), some (.int a), some (.ref fn), some (.ref rw_), some (.int (r : Int)), o7, o8, o9, o10, o11, o12, o13]
def muC (m : Nat) : St → Hp → Nat := fun σ _ => match List.getD (α := Option V) σ 6 none with | some (V.int z) => m + 1 - z.toNat | _ => 0
theorem BF.key {F : List Fc} {n m x : Nat} {a : Int} {g : List (Nat × Int)} (b : BF F n m x a g) (cl : Closed n F (fun k => g.lookup k)) (k : Nat) : (∃ v, g.lookup k = some v) ↔ Conn F x k := by
  constructor
  · rintro ⟨v, h⟩
    exact b.conn _ (lookup_mem h)
  · intro c
    induction c with
    | refl => exact ⟨a, b.hd⟩
    | step _ e ih =>
      obtain ⟨v, h⟩ := ih
      exact ⟨_, cl.1 _ _ _ v e h⟩
inductive ICInv (H : Hp) (F : List Fc) (L : Nat → List (Nat × List Int)) (n m : Nat) (d fa fn rw_ : Addr) (x : Nat) (a : Int) (σ : St) (H6 : Hp) : Prop
  | mk (g : List (Nat × Int)) (r : Nat) (o7 o8 o9 : Option V) (h0_ : Same H H6) (h1_ : H6 fn = some (.dK (gK g))) (h2_ : H6 rw_ = some (.lst (nsV (g.map (·.1))))) (h3_ : BF F n m x a g) (h4_ : r ≤ g.length) (h5_ : (∀ r', r' < r → Cl L g r')) (h6_ : σ = sgC d fa fn rw_ x a r o7 o8 o9 none none none none) : ICInv H F L n m d fa fn rw_ x a σ H6
def CInv (H : Hp) (F : List Fc) (L : Nat → List (Nat × List Int)) (n m : Nat) (d fa fn rw_ : Addr) (x : Nat) (a : Int) (σ : St) (H6 : Hp) : Prop := ICInv H F L n m d fa fn rw_ x a σ H6
inductive ICEnd (H : Hp) (F : List Fc) (L : Nat → List (Nat × List Int)) (n m : Nat) (d fa fn rw_ : Addr) (x : Nat) (a : Int) (σ : St) (H6 : Hp) : Prop
  | mk (g : List (Nat × Int)) (r : Nat) (o7 o8 o9 : Option V) (h0_ : Same H H6) (h1_ : H6 fn = some (.dK (gK g))) (h2_ : BF F n m x a g) (h3_ : (∀ r', r' < g.length → Cl L g r')) (h4_ : σ = sgC d fa fn rw_ x a r o7 o8 o9 none none none none) : ICEnd H F L n m d fa fn rw_ x a σ H6
def CEnd (H : Hp) (F : List Fc) (L : Nat → List (Nat × List Int)) (n m : Nat) (d fa fn rw_ : Addr) (x : Nat) (a : Int) (σ : St) (H6 : Hp) : Prop := ICEnd H F L n m d fa fn rw_ x a σ H6
inductive ICIn (H : Hp) (F : List Fc) (L : Nat → List (Nat × List Int)) (n m : Nat) (d fa fn rw_ : Addr) (x : Nat) (a : Int) (r k : Nat) (v : Int) (g : List (Nat × Int)) (al : Addr) (es : List Addr) (j : Nat) (σ : St) (H8 : Hp) : Prop
  | mk (g' tl : List (Nat × Int)) (o8 o9 : Option V) (h0_ : Same H H8) (h1_ : H8 al = some (.lst (es.map V.ref))) (h2_ : H8 fn = some (.dK (gK g'))) (h3_ : H8 rw_ = some (.lst (nsV (g'.map (·.1))))) (h4_ : BF F n m x a g') (h5_ : g' = g ++ tl) (h6_ : (∀ q ∈ (L k).take j, g'.lookup q.1 = some (ap q.2 v))) (h7_ : σ = sgC d fa fn rw_ x a r (some (.int (k : Int))) o8 o9 none none none none) : ICIn H F L n m d fa fn rw_ x a r k v g al es j σ H8
def CIn (H : Hp) (F : List Fc) (L : Nat → List (Nat × List Int)) (n m : Nat) (d fa fn rw_ : Addr) (x : Nat) (a : Int) (r k : Nat) (v : Int) (g : List (Nat × Int)) (al : Addr) (es : List Addr) (j : Nat) (σ : St) (H8 : Hp) : Prop := ICIn H F L n m d fa fn rw_ x a r k v g al es j σ H8
inductive ICOut (H : Hp) (F : List Fc) (L : Nat → List (Nat × List Int)) (n m : Nat) (d fa fn rw_ : Addr) (x : Nat) (a : Int) (r k : Nat) (v : Int) (g : List (Nat × Int)) (σ : St) (H8 : Hp) : Prop
  | mk (g' tl : List (Nat × Int)) (o8 o9 : Option V) (h0_ : Same H H8) (h1_ : H8 fn = some (.dK (gK g'))) (h2_ : H8 rw_ = some (.lst (nsV (g'.map (·.1))))) (h3_ : BF F n m x a g') (h4_ : g' = g ++ tl) (h5_ : (∀ q ∈ L k, g'.lookup q.1 = some (ap q.2 v))) (h6_ : σ = sgC d fa fn rw_ x a r (some (.int (k : Int))) o8 o9 none none none none) : ICOut H F L n m d fa fn rw_ x a r k v g σ H8
def COut (H : Hp) (F : List Fc) (L : Nat → List (Nat × List Int)) (n m : Nat) (d fa fn rw_ : Addr) (x : Nat) (a : Int) (r k : Nat) (v : Int) (g : List (Nat × Int)) (σ : St) (H8 : Hp) : Prop := ICOut H F L n m d fa fn rw_ x a r k v g σ H8
inductive ICPut (H : Hp) (F : List Fc) (n m : Nat) (d fa fn rw_ : Addr) (x : Nat) (a : Int) (r k y : Nat) (u : Addr) (g' : List (Nat × Int)) (al : Addr) (es : List Addr) (σ : St) (H9 : Hp) : Prop
  | mk (g'' tl2 : List (Nat × Int)) (v' : Int) (h0_ : Same H H9) (h1_ : H9 al = some (.lst (es.map V.ref))) (h2_ : H9 fn = some (.dK (gK g''))) (h3_ : H9 rw_ = some (.lst (nsV (g''.map (·.1))))) (h4_ : BF F n m x a g'') (h5_ : g'' = g' ++ tl2) (h6_ : g''.lookup y = some v') (h7_ : σ = sgC d fa fn rw_ x a r (some (.int (k : Int))) (some (.int (y : Int))) (some (.ref u)) none none none none) : ICPut H F n m d fa fn rw_ x a r k y u g' al es σ H9
def CPut (H : Hp) (F : List Fc) (n m : Nat) (d fa fn rw_ : Addr) (x : Nat) (a : Int) (r k y : Nat) (u : Addr) (g' : List (Nat × Int)) (al : Addr) (es : List Addr) (σ : St) (H9 : Hp) : Prop := ICPut H F n m d fa fn rw_ x a r k y u g' al es σ H9
def CSaid (F : List Fc) (H6 : Hp) (d fa fn rw_ : Addr) (x : Nat) (a : Int) (r : Nat) (g : List (Nat × Int)) (o7 o8 o9 : Option V) (σ : St) (H8 : Hp) : Prop := H8 = H6 ∧ (∀ c ∈ F, c.k = saidK → ∀ u, g.lookup c.one = some u → u = c.oth) ∧ ∃ o10 o11 o12 o13 : Option V, σ = sgC d fa fn rw_ x a r o7 o8 o9 o10 o11 o12 o13
inductive IspCarried (vs : List V) (H : Hp) (Q : VK) : Prop
  | mk (H0 : Hp) (d fa td : Addr) (kvs : List (Key × V)) (L : Nat → List (Nat × List Int)) (n m : Nat) (F : List Fc) (x : Nat) (a : Int) (h0_ : vs = [.ref d, .ref fa, .int (x : Int), .int a]) (h1_ : Nets H0 H d 300 kvs L) (h2_ : (∀ x y t, (y, t) ∈ L x ↔ Edge F x y t)) (h3_ : FAt H fa td n F) (h4_ : (∀ c ∈ F, FOk n m c)) (h5_ : n ≤ 8) (h6_ : m ≤ 100) (h7_ : F.length ≤ 64) (h8_ : x < m) (h9_ : (0 ≤ a ∧ a < (n : Int))) (h10_ : ((¬ ∃ g, Closed n F g ∧ g x = some a) → ∀ H', Same H H' → Q .non H')) (h11_ : ∀ (p : Addr) (g : List (Nat × Int)) (H' : Hp), Same H H' → H' p = some (.dK (gK g)) → BF F n m x a g → Closed n F (fun k => g.lookup k) → Q (.ref p) H') : IspCarried vs H Q
def spCarried : Sp := fun vs H Q _ => IspCarried vs H Q
section
variable {P : Program} {w : World} {K : PySem.W.Frag} {mg : Str → Option Value} {base : Heap} {f : Addr} {fd : FuncData}
theorem sc_law_carried : FnScope ["_law_nets_here", "_law_facts", "_law_name", "_law_section", "_law_found", "_law_row_here", "_law_at", "_law_here", "_law_that", "_law_turn_here", "_law_number", "_law_kind", "_law_one", "_law_said"] ["_law_nets_here", "_law_facts", "_law_name", "_law_section"] (defScope s_law_carried) := ⟨rfl, rfl, rfl, by decide +kernel, rfl, by decide +kernel, by decide +kernel⟩
theorem ok_carried (F : Fun K "_law_carried" "_law_carried" s_law_carried f fd) (bl : Bl mg) : FnOk P w K mg base CX0 1 f fd ["_law_nets_here", "_law_facts", "_law_name", "_law_section"] spCarried := by
  refine F.ok sc_law_carried (fun vs H Q E h => ?_) (fun cdv A outer s H vs Q E hr h => ?_)
  · obtain ⟨H0, d, fa, td, kvs, L, n, m, F, x, a, rfl, _⟩ := h
    rfl
  obtain ⟨H0, d, fa, td, kvs, L, n, m, F, x, a, rfl, nets, ed, fat, fok, n8, m100, l64, hx, hain, q1, q2⟩ := h
  refine ⟨_, (pss_cons (ps_set (i := 4) sc_law_carried.nd rfl (Or.inl rfl) (pe_disp (pps_cons (pv 2) (pv 3) pps_nil) rfl rfl (fun z => nomatch z) (Nat.le_of_ble_eq_true rfl))) (pss_cons (ps_set (i := 5) sc_law_carried.nd rfl (Or.inl rfl) (pe_lstN (pa_cons (pv 2) pa_nil))) (pss_cons (ps_set (i := 6) sc_law_carried.nd rfl (Or.inl rfl) pe_int) (pss_cons (ps_while PassesOwn.never (pt_cmpR op_lt (pv 6) (pe_callB (lenK (K := K) rfl) rfl bl.n_len bt_len (pa_cons (pv 5) pa_nil)) (nomark _)) (pss_cons (ps_set (i := 7) sc_law_carried.nd rfl (Or.inl rfl) (pe_ix (ix_listK (K := K) rfl) (pv 5) (pv 6) (fun _ _ => rfl))) (pss_cons (ps_for PassesOwn.never rfl (pi_listK (K := K) rfl (pe_dget2 (hu_of hr) (pv 0) (pv 7) (pe_lstN pa_nil) ⟨rfl, rfl, rfl, rfl⟩)) (pg_tupK (K := K) (n := 2) rfl rfl (pgs_cons (pg_name (i := 8) sc_law_carried.nd rfl (Or.inl rfl)) (pgs_cons (pg_name (i := 9) sc_law_carried.nd rfl (Or.inl rfl)) pgs_nil))) (pss_cons (ps_if (pt_cmp (pc_dnotin (hu_of hr) (pv 8) (pv 4)) (by with_unfolding_all rfl)) (pss_cons (ps_dputN (hu_of hr) (pv 4) (pv 8) (pe_ix (ix_tupK (K := K) rfl) (pv 9) (pe_dget (hu_of hr) (pv 4) (pv 7) (fun _ _ => rfl)) (fun _ _ => rfl))) (pss_one (ps_expr (pe_bmK (K := K) rfl (pe_bm PySem.F.plainAttrs_list PySem.F.slot_list_append PySem.F.type_list_append mt_appendN (pv 5) (pa_cons (pv 8) pa_nil)))))) pss_nil) (pss_one (ps_if (pt_cmpR op_ne (pe_dget (hu_of hr) (pv 4) (pv 8) (fun _ _ => rfl)) (pe_ix (ix_tupK (K := K) rfl) (pv 9) (pe_dget (hu_of hr) (pv 4) (pv 7) (fun _ _ => rfl)) (fun _ _ => rfl)) (nomark _)) (pss_one (ps_ret pe_non)) pss_nil)))) (pss_one (ps_aug (i := 6) sc_law_carried.nd rfl (Or.inl rfl) pe_int ip_add))))) (pss_cons (ps_for PassesOwn.never rfl (pi_listK (K := K) rfl (pv 1)) (pg_tupK (K := K) (n := 4) rfl rfl (pgs_cons (pg_name (i := 10) sc_law_carried.nd rfl (Or.inl rfl)) (pgs_cons (pg_name (i := 11) sc_law_carried.nd rfl (Or.inl rfl)) (pgs_cons (pg_name (i := 12) sc_law_carried.nd rfl (Or.inl rfl)) (pgs_cons (pg_name (i := 13) sc_law_carried.nd rfl (Or.inl rfl)) pgs_nil))))) (pss_one (ps_if (PW.pt (pw_and (pt_cmpR op_eq (pv 11) pe_str (nomark _)) (pw_and (pt_cmp (pc_din (hu_of hr) (pv 12) (pv 4)) (by with_unfolding_all rfl)) (pw_and1 (pt_cmpR op_ne (pe_dget (hu_of hr) (pv 4) (pv 12) (fun _ _ => rfl)) (pv 13) (nomark _)))))) (pss_one (ps_ret pe_non)) pss_nil))) (pss_one (ps_ret (pv 4)))))))), ?_⟩
  refine setT ?_
  refine fun fn nfn => ⟨_, rfl, _, rfl, upd_same, [(.inl (x : Int), .int a)], rfl, (by show 1 ≤ 15; omega), ?_⟩
  obtain ⟨H1, eH1⟩ : ∃ H1, H1 = upd (upd H fn (.dK [])) fn (.dK (mergeK [] [(.inl (x : Int), .int a)])) := ⟨_, rfl⟩
  have g1 : Same H H1 := fun b o e => by rw [eH1, upd_ne (ne_of_none e nfn), upd_ne (ne_of_none e nfn)]; exact e
  have h1 : H1 fn = some (.dK (gK [(x, a)])) := by rw [eH1, upd_same]; rfl
  rw [← eH1]
  refine setT ?_
  refine ⟨_, rfl, by show 1 ≤ sizeLine; rw [sizeLine_eq]; omega, fun rw_ H2 nrw g2 hrw => ?_⟩
  refine setC ?_
  have nrw0 := g1.free nrw
  have fr_ne : fn ≠ rw_ := fun z => by rw [← z, h1] at nrw; cases nrw
  have sz : (10000 : Nat) ≤ sizeLine := by rw [sizeLine_eq]; omega
  have hdH := nets.dict
  obtain ⟨as, hfa, pas⟩ := fat.facts
  have al := paired_len pas
  refine seq_mid (CEnd H F L n m d fa fn rw_ x a) (fun nx0 hn0 => ?_) ?_
  · refine while_by (CInv H F L n m d fa fn rw_ x a) (muC m)
      ⟨[(x, a)], 0, none, none, none, g1.trans g2, g2 _ _ h1, hrw, bf0 hx hain, Nat.zero_le _, fun _ z => absurd z (Nat.not_lt_zero _), rfl⟩ ?_ ?_
    · rintro σ H6 ⟨g, r, o7, o8, o9, g6, hf6, hr6, bf, rl, cl, rfl⟩
      have kl : (nsV (g.map (·.1))).length = g.length := by rw [List.length_map, List.length_map]
      have gl := bf.len
      refine ⟨_, rfl, _, rfl, rw_, _, rfl, .inl (SqL.of hr6), _, _, rfl, rfl, _, rfl, ?_⟩
      rw [kl]
      refine ite2 (fun c => ?_) (fun c => ?_)
      · have rlt : r < g.length := by have := of_decide_eq_true c; omega
        obtain ⟨k, v, ekv⟩ : ∃ (k : Nat) (v : Int), g[r]? = some (k, v) := ⟨g[r].1, g[r].2, List.getElem?_eq_getElem rlt⟩
        have mkv : (k, v) ∈ g := List.mem_of_getElem? ekv
        have lkv : g.lookup k = some v := mem_lookup bf.nd mkv
        obtain ⟨km, v0, vn⟩ := bf.lt _ mkv
        have hd6 := g6 _ _ hdH
        refine setT ?_
        refine ⟨_, rfl, _, rfl, rw_, _, _, _, rfl, rfl, SqL.of hr6, nsV_get (h := k) (by rw [List.getElem?_map, ekv]; rfl), ?_⟩
        refine seq_mid (COut H F L n m d fa fn rw_ x a r k v g) (fun nx1 hn1 => ?_) ?_
        · refine ⟨_, rfl, d, rfl, .inl ⟨_, .inl hd6⟩, _, rfl, by show 0 ≤ sizeLine; exact Nat.zero_le _, fun e0 H7 ne0 g7 he0 => ?_⟩
          have fn7 := g7 _ _ hf6
          have rw7 := g7 _ _ hr6
          have nf0 : e0 ≠ fn := fun z => by rw [z, hf6] at ne0; cases ne0
          have nr0 : e0 ≠ rw_ := fun z => by rw [z, hr6] at ne0; cases ne0
          obtain ⟨al, es, eal, hal, nal1, nal2, pes⟩ : ∃ (al : Addr) (es : List Addr), (valV kvs (.inl (k : Int))).getD (.ref e0) = .ref al ∧ H7 al = some (.lst (es.map V.ref)) ∧ al ≠ fn ∧ al ≠ rw_ ∧ Paired (fun e (p : Nat × List Int) => ∃ u, H e = some (.tup [.int (p.1 : Int), .ref u]) ∧ tupA H u p.2) es (L k) := by
            rcases nets.at_ k with ⟨z1, z2⟩ | ⟨a1, es, w1, w2, w3, w4, w5⟩
            · exact ⟨e0, [], by rw [z1]; rfl, he0, nf0, nr0, by rw [z2]; exact .nil⟩
            · exact ⟨a1, es, by rw [w1]; rfl, g7 _ _ (g6 _ _ w3), ne_of_none w3 nfn, ne_of_none w3 nrw0, w5⟩
          have esl := paired_len pes
          refine ⟨_, dget_i (g7 _ _ hd6) rfl, al, eal, ⟨_, SqL.of hal⟩, for_list (K := K) (a := al) (xs := es.map V.ref) (CIn H F L n m d fa fn rw_ x a r k v g al es)
            ⟨g, [], o8, o9, g6.trans g7, hal, fn7, rw7, bf, by rw [List.append_nil], fun q hq => (nomatch hq), rfl⟩ (fun j σ H8 _ ⟨_, _, _, _, _, h, _, _, _, _, _, _⟩ => SqL.of h) ?_ ?_⟩
          · rintro j w σ H8 hj ⟨g', tl, p8, p9, g8, hal8, hf8, hr8, bf8, eg, cl8, rfl⟩
            rw [List.getElem?_map] at hj
            obtain ⟨e, ee, rfl⟩ : ∃ e, es[j]? = some e ∧ V.ref e = w := by
              cases z : es[j]? with
              | none => rw [z] at hj; cases hj
              | some c => rw [z] at hj; exact ⟨c, rfl, Option.some.inj hj⟩
            obtain ⟨⟨y, t⟩, eyt, u, he, hu⟩ := paired_get pes ee
            have edge : Edge F k y t := (ed _ _ _).mp (List.mem_of_getElem? eyt)
            obtain ⟨_, ym, ft, tl8⟩ := edge_ok fok edge
            have lk8 : g'.lookup k = some v := by rw [eg]; exact lookup_apps lkv
            have vb : v < (t.length : Int) := by rw [tl8]; exact vn
            have gl8 := bf8.len
            have he8 : H8 e = some (.tup [.int (y : Int), .ref u]) := g8 _ _ he
            have tkj : (L k).take (j + 1) = (L k).take j ++ [(y, t)] := by rw [List.take_add_one, eyt]; rfl
            refine ⟨e, _, rfl, SqT.of he8, rfl, _, _, rfl, nameE ⟨_, _, rfl, nameE ⟨rfl, ?_⟩⟩⟩
            refine if_mid (CPut H F n m d fa fn rw_ x a r k y u g' al es) (fun nx2 hn2 => ?_) ?_
            · refine ⟨_, rfl, _, rfl, fn, _, rfl, dget_i hf8 (gK_val g' y), _, rfl, ?_⟩
              cases ly : g'.lookup y with
              | none =>
                refine iteT ?_
                refine ⟨_, rfl, _, rfl, _, rfl, fn, .int v, rfl, dget_i hf8 (by rw [gK_val, lk8]; rfl), u, _, _, _, rfl, rfl, SqT.of (g8 _ _ hu), atI_ap v0 vb, _, rfl, _, rfl, fn, _, .inl (y : Int), rfl, hf8, rfl, by rw [List.length_map]; omega, fun H9 b9 e9 => ?_⟩
                have vn0 : valV (gK g') (.inl (y : Int)) = none := by rw [gK_val, ly]; rfl
                rw [putK_new _ vn0] at e9
                have hr9 := b9 _ _ hr8 (fun z => fr_ne z.symm)
                refine ⟨_, rfl, .inl ⟨rfl, _, SqL.of hr9⟩, _, rfl, rw_, _, _, rfl, rfl, hr9, by rw [List.length_map, List.length_map]; omega, fun H10 b10 e10 => ?_⟩
                refine hn2 _ _ ⟨g' ++ [(y, ap t v)], [(y, ap t v)], ap t v, fun c o z => b10 _ _ (b9 _ _ (g8 _ _ z) (ne_of_none z nfn)) (ne_of_none z nrw0), b10 _ _ (b9 _ _ hal8 nal1) nal2, ?_, ?_, bf8.add fok edge lk8 ly, rfl, lookup_new ly, rfl⟩
                · rw [b10 _ _ e9 fr_ne, gK, gK, List.map_append]; rfl
                · rw [e10, List.map_append, nsV, nsV, List.map_append]; rfl
              | some v' =>
                refine iteF (nextE ?_)
                exact hn2 _ _ ⟨g', [], v', g8, hal8, hf8, hr8, bf8, by rw [List.append_nil], ly, rfl⟩
            · rintro σ H9 ⟨g'', tl2, v', g9, hal9, hf9, hr9, bf9, eg2, lv, rfl⟩
              have lk9 : g''.lookup k = some v := by rw [eg2]; exact lookup_apps lk8
              refine ⟨_, rfl, _, rfl, fn, .int v', rfl, dget_i hf9 (by rw [gK_val, lv]; rfl), _, rfl, _, rfl, _, rfl, fn, .int v, rfl, dget_i hf9 (by rw [gK_val, lk9]; rfl), u, _, _, _, rfl, rfl, SqT.of (g9 _ _ hu), atI_ap v0 vb, rfl, _, rfl, ?_⟩
              refine ite2 (fun c => ?_) (fun c => nextE ?_)
              · refine q1 (bf9.clash edge lk9 lv fun z => ?_) H9 g9
                rw [z] at c
                simp at c
              · have ev : v' = ap t v := by
                  by_cases z : v' = ap t v
                  · exact z
                  · exact absurd (by simp [z]) c
                refine ⟨g'', tl ++ tl2, _, _, g9, hal9, hf9, hr9, bf9, by rw [eg2, eg, List.append_assoc], fun q hq => ?_, rfl⟩
                rw [tkj] at hq
                rcases List.mem_append.mp hq with hq | hq
                · rw [eg2]; exact lookup_apps (cl8 q hq)
                · rw [List.mem_singleton] at hq; rw [hq, lv, ev]
          · rintro σ H8 ⟨g', tl, p8, p9, g8, hal8, hf8, hr8, bf8, eg, cl8, rfl⟩
            rw [List.length_map, esl, List.take_length] at cl8
            exact hn1 _ _ ⟨g', tl, p8, p9, g8, hf8, hr8, bf8, eg, cl8, rfl⟩
        · rintro σ H8 ⟨g', tl, p8, p9, g8, hf8, hr8, bf8, eg, cl8, rfl⟩
          have rr : r < (g ++ tl).length := by rw [List.length_append]; omega
          have ge : (g ++ tl)[r]? = some (k, v) := by rw [List.getElem?_append_left rlt]; exact ekv
          have h1' : ((r : Int) + 1) = ((r + 1 : Nat) : Int) := by omega
          refine ⟨_, rfl, _, _, rfl, rfl, ?_⟩
          refine ⟨⟨g', r + 1, some (.int (k : Int)), p8, p9, g8, hf8, hr8, bf8, by rw [eg]; exact rr, fun r' h' => ?_, rfl⟩, ?_⟩
          · rw [eg]
            by_cases z : r' = r
            · subst z
              intro p hp qq hq
              rw [ge] at hp
              cases hp
              rw [← eg]
              exact cl8 qq hq
            · exact (cl r' (by omega)).app (by omega)
          · show m + 1 - ((r : Int) + 1).toNat < m + 1 - ((r : Int)).toNat
            omega
      · have re : ¬ ((r : Int) < (g.length : Int)) := fun z => c (decide_eq_true z)
        exact hn0 _ _ ⟨g, r, o7, o8, o9, g6, hf6, bf, fun r' h' => cl r' (by omega), rfl⟩
    · rintro σ H6 Q1 Q2 mo ⟨v1, w1, v2, w2, v3, v4, w3, w4, v5, v6, w5, w6, v7, w7, h⟩
      exact ⟨v1, w1, v2, w2, v3, v4, w3, w4, v5, v6, w5, w6, v7, w7, mo _ _ h⟩
  rintro σ H6 ⟨g, r, o7, o8, o9, g6, hf6, bf, cl, rfl⟩
  refine seq_mid (CSaid F H6 d fa fn rw_ x a r g o7 o8 o9) (fun nx0 hn0 => ?_) ?_
  · refine ⟨_, rfl, fa, rfl, ⟨_, SqL.of (g6 _ _ hfa)⟩, for_list (K := K) (a := fa) (xs := as.map V.ref) (fun j => CSaid (F.take j) H6 d fa fn rw_ x a r g o7 o8 o9)
      ⟨rfl, fun c hc => (nomatch hc), none, none, none, none, rfl⟩ (fun j σ H8 _ ⟨e, _⟩ => by rw [e]; exact SqL.of (g6 _ _ hfa)) ?_ ?_⟩
    · rintro j v σ H8 hj ⟨rfl, sd, o10, o11, o12, o13, rfl⟩
      rw [List.getElem?_map] at hj
      obtain ⟨c0, ec, rfl⟩ : ∃ c0, as[j]? = some c0 ∧ V.ref c0 = v := by
        cases e : as[j]? with
        | none => rw [e] at hj; cases hj
        | some c => rw [e] at hj; exact ⟨c, rfl, Option.some.inj hj⟩
      obtain ⟨c, efc, z, hc⟩ := paired_get pas ec
      have mc := List.mem_of_getElem? efc
      have tke : F.take (j + 1) = F.take j ++ [c] := by rw [List.take_add_one, efc]; rfl
      refine ⟨c0, _, rfl, SqT.of (g6 _ _ hc), rfl, _, _, rfl, nameE ⟨_, _, rfl, nameE ⟨_, _, rfl, nameE ⟨_, _, rfl, nameE ⟨rfl, ?_⟩⟩⟩⟩⟩
      have ev : ∀ b : Bool, decide (V.str c.k = V.str saidK) = b → (b = true ↔ c.k = saidK) := fun b e => by
        rw [← e, decide_eq_true_iff]
        exact ⟨V.str.inj, fun z => by rw [z]⟩
      have nxt : (c.k = saidK → ∀ u, g.lookup c.one = some u → u = c.oth) → ∃ o10 o11 o12 o13 : Option V, (H8 = H8 ∧ ∀ c ∈ F.take (j + 1), c.k = saidK → ∀ u, g.lookup c.one = some u → u = c.oth) ∧ True := fun h => ⟨none, none, none, none, ⟨rfl, fun c' m' => by
        rw [tke] at m'
        rcases List.mem_append.mp m' with m' | m'
        · exact sd c' m'
        · rw [List.mem_singleton] at m'; rw [m']; exact h⟩, trivial⟩
      refine ⟨_, rfl, rfl, _, rfl, ite2 (fun cc => ?_) (fun cc => ?_)⟩
      · have sk := (ev _ rfl).mp cc
        refine ⟨_, rfl, _, rfl, fn, _, rfl, dget_i hf6 (gK_val g c.one), _, rfl, ?_⟩
        cases lk : g.lookup c.one with
        | none =>
          refine iteF (iteF (nextE ?_))
          obtain ⟨_, _, _, _, ⟨_, h⟩, _⟩ := nxt fun _ u e => by rw [lk] at e; cases e
          exact ⟨rfl, h, _, _, _, _, rfl⟩
        | some u =>
          refine iteT ?_
          refine ⟨_, rfl, _, rfl, fn, .int u, rfl, dget_i hf6 (by rw [gK_val, lk]; rfl), _, rfl, rfl, _, rfl, ite2 (fun c2 => ?_) (fun c2 => nextE ?_)⟩
          · refine q1 (bf.clashS mc sk lk fun z => ?_) H8 g6
            rw [z] at c2
            simp at c2
          · have eu : u = c.oth := by
              by_cases z : u = c.oth
              · exact z
              · exact absurd (by simp [z]) c2
            obtain ⟨_, _, _, _, ⟨_, h⟩, _⟩ := nxt fun _ u' e => by rw [lk] at e; rw [← Option.some.inj e]; exact eu
            exact ⟨rfl, h, _, _, _, _, rfl⟩
      · refine iteF (nextE ?_)
        obtain ⟨_, _, _, _, ⟨_, h⟩, _⟩ := nxt fun z => absurd ((ev _ rfl).mpr z) cc
        exact ⟨rfl, h, _, _, _, _, rfl⟩
    · rintro σ H8 ⟨rfl, sd, o10, o11, o12, o13, rfl⟩
      rw [List.length_map, al, List.take_length] at sd
      exact hn0 _ _ ⟨rfl, sd, o10, o11, o12, o13, rfl⟩
  rintro σ H8 ⟨rfl, sd, o10, o11, o12, o13, rfl⟩
  exact ⟨_, rfl, q2 fn g H8 g6 hf6 bf (bf.done ed cl sd)⟩
end
open Classical in
noncomputable def roomL (F : List Fc) (n x : Nat) : List Int := (upto n).filter fun a => decide (∃ g, Closed n F g ∧ g x = some a)
inductive IspRoom (vs : List V) (H : Hp) (Q : VK) : Prop
  | mk (fa td : Addr) (n m : Nat) (F : List Fc) (x : Nat) (h0_ : vs = [.ref fa, .ref td, .int (x : Int)]) (h1_ : FAt H fa td n F) (h2_ : (∀ c ∈ F, FOk n m c)) (h3_ : n ≤ 8) (h4_ : m ≤ 100) (h5_ : F.length ≤ 64) (h6_ : x < m) (h7_ : ∀ (p : Addr) (H' : Hp), H p = none → Same H H' → H' p = some (.lst ((roomL F n x).map V.int)) → Q (.ref p) H') : IspRoom vs H Q
def spRoom : Sp := fun vs H Q _ => IspRoom vs H Q
section
variable {P : Program} {w : World} {K : PySem.W.Frag} {mg : Str → Option Value} {base : Heap} {f : Addr} {fd : FuncData}
theorem sc_law_room : FnScope ["_law_facts", "_law_turns", "_law_name", "_law_nets_here"] ["_law_facts", "_law_turns", "_law_name"] (defScope s_law_room) := ⟨rfl, rfl, rfl, by decide +kernel, rfl, by decide +kernel, by decide +kernel⟩
open Classical in
theorem ok_room (F : Fun K "_law_room" "_law_room" s_law_room f fd) (h_law_nets : HasFn P w K mg base 2 "_law_nets" ["_law_facts", "_law_turns"] spNets) (h_law_carried : HasFn P w K mg base 1 "_law_carried" ["_law_nets_here", "_law_facts", "_law_name", "_law_section"] spCarried) (bl : Bl mg) : FnOk P w K mg base CX0 3 f fd ["_law_facts", "_law_turns", "_law_name"] spRoom := by
  refine F.ok sc_law_room (fun vs H Q E h => ?_) (fun cdv A outer s H vs Q E hr h => ?_)
  · obtain ⟨fa, td, n, m, F, x, rfl, _⟩ := h
    rfl
  obtain ⟨fa, td, n, m, F, x, rfl, fat, fok, n8, m100, l64, hx, q⟩ := h
  refine ⟨_, (pss_cons (ps_set (i := 3) sc_law_room.nd rfl (Or.inr rfl) (pe_fn h_law_nets hr (by omega) rfl (pa_cons (pv 0) (pa_cons (pv 1) pa_nil)))) (pss_one (ps_ret (pe_comp (x := "_law_at") (fr := [("_law_nets_here", 3), ("_law_name", 2), ("_law_facts", 0)]) (cl := [("_law_nets_here", s.heap.objs.size + 1 + 1 + 1), ("_law_name", s.heap.objs.size + 1 + 1), ("_law_facts", s.heap.objs.size + 1)]) rfl ⟨by with_unfolding_all rfl, ⟨rfl, ⟨rfl, ⟨rfl, trivial⟩⟩⟩, rfl, by decide +kernel, rfl, by decide +kernel, rfl, ⟨⟨rfl, .inl rfl, .inl rfl, rfl⟩, ⟨⟨rfl, .inl rfl, .inl rfl, rfl⟩, ⟨⟨rfl, .inl rfl, .inl rfl, rfl⟩, trivial⟩⟩⟩, by decide +kernel⟩ (pi_range1 rfl bl.n_range (pa_cons (pe_callB (lenK (K := K) rfl) rfl bl.n_len bt_len (pa_cons (pe_dget (hu_of hr) (pv 1) pe_str (fun _ _ => rfl)) pa_nil)) pa_nil)) (fun _ _ _ _ => ptl_one (pt_cmpR op_notN (pe_fn h_law_carried hr (by omega) rfl (pa_cons (pv 1) (pa_cons (pv 3) (pa_cons (pv 2) (pa_cons (pv 0) pa_nil))))) pe_non (nomark _))) (fun _ _ _ _ => (pv 0)))))), ?_⟩
  refine setT ?_
  refine ⟨_, rfl, _, rfl, fa, td, n, m, F, rfl, fat, fok, n8, l64, fun d kvs L H1 g1 nets ed => ?_⟩
  obtain ⟨tk, htd, tt, u0, vu0, hu0⟩ := fat.turns
  have ul : ((upto n).map V.int).length = n := by rw [List.length_map, upto_length]
  refine ⟨_, rfl, td, .ref u0, rfl, dget_s (g1 _ _ htd) vu0, u0, _, rfl, .inr (SqT.of (g1 _ _ hu0)), ?_⟩
  rw [ul]
  refine ⟨(n : Int), rfl, by omega, by omega, fun D hD => ?_⟩
  refine comp_rangeV (lo := 0) (by omega) hD (fun i => decide (∃ g, Closed n F g ∧ g x = some (i : Int))) (fun i => V.int (i : Int)) (fun i hi H2 g2 _ Kt Kf kt kf => ?_) fun H2 g2 h2 => ?_
  · rw [Int.zero_add]
    have hin : (i : Nat) < n := by omega
    refine ⟨_, rfl, _, rfl, _, rfl, _, rfl, H, d, fa, td, kvs, L, n, m, F, x, (i : Int), rfl, nets.same g2, ed, (fat.same g1).same g2, fok, n8, m100, l64, hx, ⟨by omega, by omega⟩, fun no H3 g3 => ?_, fun p gg H3 g3 hp3 bf cl => ?_⟩
    · refine ⟨rfl, _, rfl, ?_⟩
      rw [decide_eq_true (show V.non = V.non from rfl)]
      exact iteF (kf H3 (decide_eq_false no) g3)
    · refine ⟨rfl, _, rfl, ?_⟩
      rw [decide_eq_false (show ¬ V.ref p = V.non from fun z => nomatch z)]
      exact iteT ⟨_, rfl, kt _ H3 (decide_eq_true ⟨_, cl, bf.hd⟩) g3 rfl⟩
  · refine q D H2 (g1.free hD) (g1.trans g2) ?_
    rw [h2, Int.toNat_natCast]
    have e : roomL F n x = ((List.range n).filter fun i : Nat => decide (∃ g, Closed n F g ∧ g x = some (i : Int))).map fun i : Nat => (i : Int) := by
      unfold roomL upto
      rw [List.filter_map]
      rfl
    rw [e, List.map_map]
    rfl
end
def SatC (f : Nat → Int) (c : Fc) : Prop := (c.k = saidK → f c.one = c.oth) ∧ (c.k ≠ saidK → f c.oth.toNat = ap c.tn (f c.one))
def InR (n m : Nat) (f : Nat → Int) : Prop := ∀ i, i < m → 0 ≤ f i ∧ f i < (n : Int)
structure Mean (n : Nat) (st : JS) (F : List Fc) : Prop where
  wf : WF n st
  fok : ∀ c ∈ F, FOk n st.hd.length c
  iff : ∀ f, Deal st f ↔ InR n st.hd.length f ∧ ∀ c ∈ F, SatC f c
  live : ∃ f, Deal st f
  conn : ∀ i j, i < st.hd.length → j < st.hd.length → (st.hdO i = st.hdO j ↔ Conn F i j)
theorem room_of_deal' {F : List Fc} {n m : Nat} {f : Nat → Int} (ok : ∀ c ∈ F, FOk n m c) (inr : InR n m f) (sat : ∀ c ∈ F, SatC f c) : ∃ g, Closed n F g ∧ ∀ x, x < m → g x = some (f x) := by
  refine ⟨fun i => if i < m then some (f i) else none, ⟨fun u v t a e hu => ?_, fun c mc sd u hu => ?_, fun k v hk => ?_⟩, fun x hx => if_pos hx⟩
  · obtain ⟨um, vm, _, _⟩ := edge_ok ok e
    obtain ⟨c, mc, ns, h⟩ := e
    have s := (sat c mc).2 ns
    obtain ⟨_, ft, tl⟩ := (ok c mc).tie ns
    have e1 : f u = a := by
      have hu' : (if u < m then some (f u) else none) = some a := hu
      rw [if_pos um] at hu'
      exact Option.some.inj hu'
    show (if v < m then some (f v) else none) = _
    rw [if_pos vm]
    rcases h with ⟨rfl, rfl, rfl⟩ | ⟨rfl, rfl, rfl⟩
    · rw [s, e1]
    · rw [← e1, s, ap_inv1 ft tl (inr _ (ok c mc).one)]
  · have hu' : (if c.one < m then some (f c.one) else none) = some u := hu
    rw [if_pos (ok c mc).one] at hu'
    rw [← Option.some.inj hu']
    exact (sat c mc).1 sd
  · have hk' : (if k < m then some (f k) else none) = some v := hk
    by_cases z : k < m
    · rw [if_pos z] at hk'
      rw [← Option.some.inj hk']
      exact inr k z
    · rw [if_neg z] at hk'; cases hk'
theorem room_of_deal {F : List Fc} {n m x : Nat} {f : Nat → Int} (ok : ∀ c ∈ F, FOk n m c) (hx : x < m) (inr : InR n m f) (sat : ∀ c ∈ F, SatC f c) : ∃ g, Closed n F g ∧ g x = some (f x) := by
  obtain ⟨g, c, h⟩ := room_of_deal' ok inr sat
  exact ⟨g, c, h x hx⟩
theorem deal_of_room' {F : List Fc} {n m x : Nat} {a : Int} {f0 : Nat → Int} {g : Nat → Option Int} (ok : ∀ c ∈ F, FOk n m c) (inr : InR n m f0) (sat : ∀ c ∈ F, c.one = x ∨ SatC f0 c) (cl : Closed n F g) (hx : g x = some a) : ∃ f, InR n m f ∧ (∀ c ∈ F, SatC f c) ∧ f x = a ∧ ∀ i, f i = (g i).getD (f0 i) := by
  refine ⟨fun i => (g i).getD (f0 i), fun i hi => ?_, fun c mc => ⟨fun sd => ?_, fun ns => ?_⟩, by show (g x).getD _ = a; rw [hx]; rfl, fun _ => rfl⟩
  · show 0 ≤ (g i).getD (f0 i) ∧ (g i).getD (f0 i) < _
    cases e : g i with
    | none => exact inr i hi
    | some v => exact cl.2.2 i v e
  · show (g c.one).getD (f0 c.one) = _
    cases e : g c.one with
    | none =>
      rcases sat c mc with h | h
      · rw [h, hx] at e; cases e
      · exact h.1 sd
    | some v => exact cl.2.1 c mc sd v e
  · show (g c.oth.toNat).getD (f0 c.oth.toNat) = ap c.tn ((g c.one).getD (f0 c.one))
    have ed1 : Edge F c.one c.oth.toNat c.tn := ⟨c, mc, ns, .inl ⟨rfl, rfl, rfl⟩⟩
    have ed2 : Edge F c.oth.toNat c.one (inv c.tn) := ⟨c, mc, ns, .inr ⟨rfl, rfl, rfl⟩⟩
    cases e : g c.one with
    | some v =>
      rw [cl.1 _ _ _ v ed1 e]; rfl
    | none =>
      have e2 : g c.oth.toNat = none := by
        cases z : g c.oth.toNat with
        | none => rfl
        | some v => rw [cl.1 _ _ _ v ed2 z] at e; cases e
      rw [e2]
      rcases sat c mc with h | h
      · rw [h, hx] at e; cases e
      · exact h.2 ns
theorem deal_of_room {F : List Fc} {n m x : Nat} {a : Int} {f0 : Nat → Int} {g : Nat → Option Int} (ok : ∀ c ∈ F, FOk n m c) (inr : InR n m f0) (sat : ∀ c ∈ F, c.one = x ∨ SatC f0 c) (cl : Closed n F g) (hx : g x = some a) : ∃ f, InR n m f ∧ (∀ c ∈ F, SatC f c) ∧ f x = a := by
  obtain ⟨f, h1, h2, h3, _⟩ := deal_of_room' ok inr sat cl hx
  exact ⟨f, h1, h2, h3⟩
open Classical in
theorem roomL_mem {F : List Fc} {n x : Nat} {a : Int} : a ∈ roomL F n x ↔ (0 ≤ a ∧ a < (n : Int)) ∧ ∃ g, Closed n F g ∧ g x = some a := by
  unfold roomL
  rw [List.mem_filter, decide_eq_true_iff]
  refine and_congr_left fun _ => ?_
  unfold upto
  rw [List.mem_map]
  constructor
  · rintro ⟨i, hi, rfl⟩
    have := List.mem_range.mp hi
    omega
  · intro h
    exact ⟨a.toNat, List.mem_range.mpr (by omega), Int.toNat_of_nonneg h.1⟩
section
variable {n x : Nat} {st : JS} {F : List Fc}
theorem Mean.room (me : Mean n st F) (hx : x < st.hd.length) (a : Int) : a ∈ roomL F n x ↔ ∃ f, Deal st f ∧ f x = a := by
  rw [roomL_mem]
  constructor
  · rintro ⟨_, g, cl, h⟩
    obtain ⟨f0, d0⟩ := me.live
    obtain ⟨i0, s0⟩ := (me.iff f0).mp d0
    obtain ⟨f, i1, s1, e⟩ := deal_of_room me.fok i0 (fun c mc => .inr (s0 c mc)) cl h
    exact ⟨f, (me.iff f).mpr ⟨i1, s1⟩, e⟩
  · rintro ⟨f, d, rfl⟩
    obtain ⟨i1, s1⟩ := (me.iff f).mp d
    exact ⟨i1 x hx, room_of_deal me.fok hx i1 s1⟩
theorem Mean.no (me : Mean n st F) {c : Fc} (ok : FOk n st.hd.length c) (h : ∀ f, Deal st f → ¬ SatC f c) : roomL (F ++ [c]) n c.one = [] := by
  refine List.eq_nil_iff_forall_not_mem.mpr fun a ha => ?_
  obtain ⟨_, g, cl, hg⟩ := roomL_mem.mp ha
  obtain ⟨f0, d0⟩ := me.live
  obtain ⟨i0, s0⟩ := (me.iff f0).mp d0
  have ok' : ∀ c' ∈ F ++ [c], FOk n st.hd.length c' := fun c' m' => by
    rcases List.mem_append.mp m' with m' | m'
    · exact me.fok c' m'
    · rw [List.mem_singleton] at m'; rw [m']; exact ok
  obtain ⟨f, i1, s1, e⟩ := deal_of_room ok' i0 (fun c' m' => by
    rcases List.mem_append.mp m' with m' | m'
    · exact .inr (s0 c' m')
    · rw [List.mem_singleton] at m'; rw [m']; exact .inl rfl) cl hg
  exact h f ((me.iff f).mpr ⟨i1, fun c' m' => s1 c' (List.mem_append_left _ m')⟩) (s1 c (List.mem_append_right _ List.mem_cons_self))
theorem Mean.yes (me : Mean n st F) (hx : x < st.hd.length) : roomL F n x ≠ [] := by
  obtain ⟨f, d⟩ := me.live
  have := (me.room hx (f x)).mpr ⟨f, d, rfl⟩
  intro z
  rw [z] at this
  cases this
theorem Mean.put {st' : JS} (me : Mean n st F) {c : Fc} (ok : FOk n st.hd.length c) (wf' : WF n st') (len : st'.hd.length = st.hd.length) (live : ∃ f, Deal st' f) (iff : ∀ f, Deal st' f ↔ Deal st f ∧ SatC f c) (cn : ∀ i j, i < st.hd.length → j < st.hd.length → (st'.hdO i = st'.hdO j ↔ Conn (F ++ [c]) i j)) : Mean n st' (F ++ [c]) := by
  refine ⟨wf', fun c' m' => ?_, fun f => ?_, live, by rw [len]; exact cn⟩
  · rw [len]
    rcases List.mem_append.mp m' with m' | m'
    · exact me.fok c' m'
    · rw [List.mem_singleton] at m'; rw [m']; exact ok
  · rw [iff, me.iff, len, and_assoc]
    refine and_congr_right fun _ => ?_
    constructor
    · rintro ⟨h1, h2⟩ c' m'
      rcases List.mem_append.mp m' with m' | m'
      · exact h1 c' m'
      · rw [List.mem_singleton] at m'; rw [m']; exact h2
    · intro h
      exact ⟨fun c' m' => h c' (List.mem_append_left _ m'), h c (List.mem_append_right _ List.mem_cons_self)⟩
theorem roomL_pw (F : List Fc) (n x : Nat) : (roomL F n x).Pairwise (· ≤ ·) ∧ (roomL F n x).Nodup := by
  have pw : (upto n).Pairwise (· ≤ ·) := by
    unfold upto
    rw [List.pairwise_map]
    exact List.pairwise_lt_range.imp fun h => by omega
  exact ⟨pw.filter _, (Orb.upto_nodup n).filter _⟩
theorem Mean.opn (me : Mean n st F) (hx : x < st.hd.length) {ns : List Int} (pm : ns.Perm ((st.frO (st.hdO x)).map fun z => (st.ldO x).getD z.toNat 0)) (so : ns.Pairwise (· ≤ ·)) : ns = roomL F n x := by
  obtain ⟨e, nd, inb⟩ := me.wf.frGet hx
  obtain ⟨ft, tl⟩ := me.wf.ful hx
  have nd2 := (me.wf.dist hx)
  obtain ⟨p1, p2⟩ := roomL_pw F n x
  refine List.Perm.eq_of_pairwise (le := (· ≤ ·)) (fun a b _ _ h1 h2 => by omega) so p1 ?_
  refine pm.trans ((List.perm_ext_iff_of_nodup nd2 p2).mpr fun a => ?_)
  rw [me.room hx, List.mem_map]
  constructor
  · rintro ⟨z, mz, rfl⟩
    obtain ⟨f0, d0⟩ := me.live
    obtain ⟨f, d, q⟩ := deal_pick me.wf d0 (st.hdO x) (st.hdO x) z z mz mz (fun _ => rfl)
    exact ⟨f, d, (q x hx).1 rfl⟩
  · rintro ⟨f, ⟨s, h⟩, rfl⟩
    exact ⟨s (st.hdO x), (h x hx).1, (h x hx).2.symm⟩
theorem more_hdO {i : Nat} (hi : i < st.hd.length) : (st.more n).hdO i = st.hdO i := by
  show (st.hd ++ [_]).getD i 0 = st.hd.getD i 0
  rw [List.getD_eq_getElem?_getD, List.getElem?_append_left hi, ← List.getD_eq_getElem?_getD]
theorem more_hdO' : (st.more n).hdO st.hd.length = st.hd.length := by
  show (st.hd ++ [_]).getD _ 0 = _
  simp
theorem more_ldO (wf : WF n st) {i : Nat} (hi : i < st.hd.length) : (st.more n).ldO i = st.ldO i := by
  show (st.ld ++ [_]).getD i [] = st.ld.getD i []
  rw [List.getD_eq_getElem?_getD, List.getElem?_append_left (by rw [wf.ll]; exact hi), ← List.getD_eq_getElem?_getD]
theorem more_ldO' (wf : WF n st) : (st.more n).ldO st.hd.length = upto n := by
  show (st.ld ++ [_]).getD _ [] = _
  rw [← wf.ll]
  simp
theorem lookup_last {α : Type} {ps : List (Nat × α)} {k : Nat} {v : α} (h : k ∉ ps.map (·.1)) : (ps ++ [(k, v)]).lookup k = some v := by
  refine lookup_new ?_
  cases e : ps.lookup k with
  | none => rfl
  | some x => exact absurd (lookup_key e) h
theorem more_len : (st.more n).hd.length = st.hd.length + 1 := by
  show (st.hd ++ [_]).length = _
  simp
theorem full_upto (n : Nat) : full (upto n) = true ∧ (upto n).length = n := ⟨full_of (List.Perm.refl (upto n)), upto_length n⟩
theorem ap_upto {z : Int} (h : 0 ≤ z ∧ z < (n : Int)) : ap (upto n) z = z := by
  show (upto n).getD z.toNat 0 = z
  rw [List.getD_eq_getElem?_getD, upto_get (by omega)]
  exact Int.toNat_of_nonneg h.1
theorem mem_upto {z : Int} : z ∈ upto n ↔ 0 ≤ z ∧ z < (n : Int) := by
  unfold upto
  rw [List.mem_map]
  constructor
  · rintro ⟨i, hi, rfl⟩
    have := List.mem_range.mp hi
    omega
  · intro h
    exact ⟨z.toNat, List.mem_range.mpr (by omega), Int.toNat_of_nonneg h.1⟩
theorem WF.hdlt (wf : WF n st) {i : Nat} (hi : i < st.hd.length) : st.hdO i < st.hd.length := wf.lf _ (lookup_key (wf.frGet hi).1)
theorem WF.more (wf : WF n st) : WF n (st.more n) := by
  have nm : st.hd.length ∉ st.mem.map (·.1) := fun z => Nat.lt_irrefl _ (wf.lm _ z)
  have nf : st.hd.length ∉ st.fr.map (·.1) := fun z => Nat.lt_irrefl _ (wf.lf _ z)
  have km : (st.more n).mem.map (·.1) = st.mem.map (·.1) ++ [st.hd.length] := by
    show (st.mem ++ [(st.hd.length, [st.hd.length])]).map (·.1) = _
    rw [List.map_append]; rfl
  have kf : (st.more n).fr.map (·.1) = st.fr.map (·.1) ++ [st.hd.length] := by
    show (st.fr ++ [(st.hd.length, upto n)]).map (·.1) = _
    rw [List.map_append]; rfl
  have nd : ∀ {xs : List Nat}, xs.Nodup → st.hd.length ∉ xs → (xs ++ [st.hd.length]).Nodup := fun {xs} h h' => List.nodup_append.mpr ⟨h, by simp, fun u hu w hw z => by
    have : w = st.hd.length := by simpa using hw
    rw [z, this] at hu
    exact h' hu⟩
  refine ⟨?_, fun t ht => ?_, fun i hi => ?_, fun i hi => ?_, ?_, ?_, ?_, ?_, ?_⟩
  · show (st.ld ++ [_]).length = (st.hd ++ [_]).length
    rw [List.length_append, List.length_append, wf.ll]; rfl
  · rcases List.mem_append.mp (show t ∈ st.ld ++ [_] from ht) with h | h
    · exact wf.fl t h
    · rw [List.mem_singleton] at h; rw [h]; exact full_upto n
  · rw [more_len] at hi
    by_cases z : i = st.hd.length
    · rw [z, more_hdO']
      exact ⟨upto n, lookup_last nf, Orb.upto_nodup n, fun z hz => mem_upto.mp hz⟩
    · rw [more_hdO (by omega)]
      exact ⟨_, lookup_app (wf.frGet (i := i) (by omega)).1, (wf.frGet (i := i) (by omega)).2⟩
  · rw [more_len] at hi
    by_cases z : i = st.hd.length
    · rw [z, more_hdO']
      refine ⟨[st.hd.length], lookup_last nm, by simp, fun k => ?_⟩
      rw [List.mem_singleton, more_len]
      constructor
      · rintro rfl
        exact ⟨by omega, more_hdO'⟩
      · rintro ⟨h1, h2⟩
        by_cases w : k = st.hd.length
        · exact w
        · rw [more_hdO (by omega)] at h2
          have := wf.hdlt (i := k) (by omega)
          omega
    · obtain ⟨ms, e, a, b⟩ := wf.mem i (by omega)
      rw [more_hdO (by omega)]
      refine ⟨ms, lookup_app e, a, fun k => ?_⟩
      rw [b, more_len]
      constructor
      · rintro ⟨h1, h2⟩
        exact ⟨by omega, by rw [more_hdO h1]; exact h2⟩
      · rintro ⟨h1, h2⟩
        by_cases w : k = st.hd.length
        · rw [w, more_hdO'] at h2
          have := wf.hdlt (i := i) (by omega)
          omega
        · rw [more_hdO (by omega)] at h2
          exact ⟨by omega, h2⟩
  · rw [km]; exact nd wf.nm nm
  · rw [km, more_len]
    intro k hk
    rcases List.mem_append.mp hk with h | h
    · have := wf.lm k h; omega
    · rw [List.mem_singleton] at h; omega
  · rw [kf]; exact nd wf.nf nf
  · rw [kf, more_len]
    intro k hk
    rcases List.mem_append.mp hk with h | h
    · have := wf.lf k h; omega
    · rw [List.mem_singleton] at h; omega
  · rw [kf, more_len]
    intro k hk
    rcases List.mem_append.mp hk with h | h
    · obtain ⟨i, hi, e⟩ := wf.hf k h
      exact ⟨i, by omega, by rw [more_hdO hi]; exact e⟩
    · rw [List.mem_singleton] at h
      exact ⟨st.hd.length, by omega, by rw [more_hdO', h]⟩
theorem more_deal (wf : WF n st) (f : Nat → Int) : Deal (st.more n) f ↔ Deal st f ∧ (0 ≤ f st.hd.length ∧ f st.hd.length < (n : Int)) := by
  have nf : st.hd.length ∉ st.fr.map (·.1) := fun z => Nat.lt_irrefl _ (wf.lf _ z)
  have frl : (st.more n).frO st.hd.length = upto n := by
    show ((st.fr ++ [(st.hd.length, upto n)]).lookup st.hd.length).getD [] = _
    rw [lookup_last nf]; rfl
  have fro : ∀ i, i < st.hd.length → (st.more n).frO (st.hdO i) = st.frO (st.hdO i) := fun i hi => by
    show ((st.fr ++ [(st.hd.length, upto n)]).lookup _).getD [] = _
    rw [lookup_app (wf.frGet hi).1]; rfl
  constructor
  · rintro ⟨s, h⟩
    refine ⟨⟨s, fun i hi => ?_⟩, ?_⟩
    · have x := h i (by rw [more_len]; omega)
      rw [more_hdO hi, more_ldO wf hi, fro i hi] at x
      exact x
    · have x := h st.hd.length (by rw [more_len]; omega)
      rw [more_hdO', more_ldO' wf, frl] at x
      have b := mem_upto.mp x.1
      rw [x.2, ap_upto b]
      exact b
  · rintro ⟨⟨s, h⟩, b⟩
    refine ⟨fun q => if q = st.hd.length then f st.hd.length else s q, fun i hi => ?_⟩
    rw [more_len] at hi
    by_cases z : i = st.hd.length
    · rw [z, more_hdO', more_ldO' wf, frl]
      show (if st.hd.length = st.hd.length then _ else _) ∈ _ ∧ f st.hd.length = ap _ (if st.hd.length = st.hd.length then _ else _)
      rw [if_pos rfl, ap_upto b]
      exact ⟨mem_upto.mpr b, rfl⟩
    · have hi' : i < st.hd.length := by omega
      have := wf.hdlt hi'
      rw [more_hdO hi', more_ldO wf hi', fro i hi']
      show (if st.hdO i = st.hd.length then _ else _) ∈ _ ∧ f i = ap _ (if st.hdO i = st.hd.length then _ else _)
      rw [if_neg (by omega)]
      exact h i hi'
theorem conn_lt {F : List Fc} {n m x y : Nat} (ok : ∀ c ∈ F, FOk n m c) (h : Conn F x y) (hx : x < m) : y < m := by
  cases h with
  | refl => exact hx
  | step _ e => exact (edge_ok ok e).2.1
theorem Mean.more (me : Mean n st F) (n0 : 0 < n) : Mean n (st.more n) F := by
  refine ⟨me.wf.more, fun c mc => ?_, fun f => ?_, ?_, fun i j hi hj => ?_⟩
  · have ok := me.fok c mc
    rw [more_len]
    exact ⟨Nat.lt_succ_of_lt ok.one, fun ns => ⟨⟨(ok.tie ns).1.1, Nat.lt_succ_of_lt (ok.tie ns).1.2⟩, (ok.tie ns).2⟩⟩
  · rw [more_deal me.wf, me.iff, more_len]
    constructor
    · rintro ⟨⟨h1, h2⟩, h3⟩
      refine ⟨fun i hi => ?_, h2⟩
      by_cases z : i = st.hd.length
      · rw [z]; exact h3
      · exact h1 i (by omega)
    · rintro ⟨h1, h2⟩
      exact ⟨⟨fun i hi => h1 i (by omega), h2⟩, h1 _ (by omega)⟩
  · obtain ⟨f0, s, h⟩ := me.live
    refine ⟨fun i => if i = st.hd.length then 0 else f0 i, (more_deal me.wf _).mpr ⟨⟨s, fun i hi => ?_⟩, ?_⟩⟩
    · refine ⟨(h i hi).1, ?_⟩
      show (if i = st.hd.length then 0 else f0 i) = _
      rw [if_neg (by omega)]
      exact (h i hi).2
    · show 0 ≤ (if st.hd.length = st.hd.length then (0 : Int) else _) ∧ (if st.hd.length = st.hd.length then (0 : Int) else _) < _
      rw [if_pos rfl]
      omega
  · rw [more_len] at hi hj
    by_cases zi : i = st.hd.length
    · by_cases zj : j = st.hd.length
      · rw [zi, zj]; exact ⟨fun _ => .refl, fun _ => rfl⟩
      · rw [zi, more_hdO', more_hdO (by omega)]
        have := me.wf.hdlt (i := j) (by omega)
        refine ⟨fun z => by omega, fun z => ?_⟩
        have b : ∀ {k : Nat}, Conn F st.hd.length k → k = st.hd.length := fun {k} h => by
          induction h with
          | refl => rfl
          | step _ e ih => rw [ih] at e; exact absurd (edge_ok me.fok e).1 (Nat.lt_irrefl _)
        exact absurd (b z) zj
    · by_cases zj : j = st.hd.length
      · rw [zj, more_hdO', more_hdO (by omega)]
        have := me.wf.hdlt (i := i) (by omega)
        refine ⟨fun z => by omega, fun z => ?_⟩
        have := conn_lt me.fok z (by omega)
        omega
      · rw [more_hdO (by omega), more_hdO (by omega)]
        exact me.conn i j (by omega) (by omega)
theorem mean0 : Mean n ⟨[], [], [], []⟩ [] := ⟨wf0, fun _ h => (nomatch h), fun f => ⟨fun _ => ⟨fun _ h => absurd h (Nat.not_lt_zero _), fun _ h => (nomatch h)⟩, fun _ => ⟨fun _ => 0, fun _ h => absurd h (Nat.not_lt_zero _)⟩⟩, ⟨fun _ => 0, fun _ => 0, fun _ h => absurd h (Nat.not_lt_zero _)⟩, fun _ _ h => absurd h (Nat.not_lt_zero _)⟩
end
structure BaseAt (H : Hp) (p : Addr) (n : Nat) (ts : List Addr) : Prop where
  at_ : H p = some (.lst (ts.map V.ref))
  four : ts.length = 4
  zero : ∃ t0, ts[0]? = some t0 ∧ tupA H t0 (upto n)
  all : ∀ t ∈ ts, ∃ r, tupA H t r ∧ full r = true ∧ r.length = n
theorem perm_full {ts : List Int} {n : Nat} (h : ts.Perm (upto n)) : full ts = true ∧ ts.length = n := ⟨full_of h, by rw [h.length_eq, upto_length]⟩
inductive IspBase (K : PySem.W.Frag) (vs : List V) (H : Hp) (Q : VK) : Prop
  | mk (sc : Addr) (ns : List Int) (n : Nat) (h0_ : vs = [.ref sc, .int (n : Int)]) (h1_ : H sc = some (.lst (ns.map V.int))) (h2_ : 0 < n) (h3_ : n ≤ 8) (h4_ : ∀ (p : Addr) (ts : List Addr) (H' : Hp), H p = none → Same H H' → BaseAt H' p n ts → Q (.ref p) H') : IspBase K vs H Q
def spBase (K : PySem.W.Frag) : Sp := fun vs H Q _ => IspBase K vs H Q
section
variable {P : Program} {w : World} {K : PySem.W.Frag} {mg : Str → Option Value} {base : Heap} {f : Addr} {fd : FuncData}
theorem sc_law_base : FnScope ["_law_script", "_law_size", "_law_one", "_law_other"] ["_law_script", "_law_size"] (defScope s_law_base) := ⟨rfl, rfl, rfl, by decide +kernel, rfl, by decide +kernel, by decide +kernel⟩
theorem ok_base (F : Fun K "_law_base" "_law_base" s_law_base f fd) (h_law_cell : HasFn P w K mg base 1 "_law_cell" ["_law_script", "_law_k"] (spCell K)) (h_law_row : HasFn P w K mg base 2 "_law_row" ["_law_cell_here", "_law_size"] spRow) (h_law_inverse : HasFn P w K mg base 1 "_law_inverse" ["_law_turn_here"] spInv) (bl : Bl mg) : FnOk P w K mg base CX0 3 f fd ["_law_script", "_law_size"] (spBase K) := by
  refine F.ok sc_law_base (fun vs H Q E h => ?_) (fun cdv A outer s H vs Q E hr h => ?_)
  · obtain ⟨sc, ns, n, rfl, _⟩ := h
    rfl
  obtain ⟨sc, ns, n, rfl, hs, n0, n8, q⟩ := h
  refine ⟨_, (pss_cons (ps_set (i := 2) sc_law_base.nd rfl (Or.inl rfl) (pe_fn h_law_row hr (by omega) rfl (pa_cons (pe_fn h_law_cell hr (by omega) rfl (pa_cons (pv 0) (pa_cons pe_int pa_nil))) (pa_cons (pv 1) pa_nil)))) (pss_cons (ps_set (i := 3) sc_law_base.nd rfl (Or.inl rfl) (pe_fn h_law_row hr (by omega) rfl (pa_cons (pe_fn h_law_cell hr (by omega) rfl (pa_cons (pv 0) (pa_cons pe_int pa_nil))) (pa_cons (pv 1) pa_nil)))) (pss_one (ps_ret (pe_lstN (pa_cons (pe_callTy (call_tuple_rngN rfl) rfl bl.n_tuple bt_tuple (pa_cons (pe_callTy call_range1N rfl bl.n_range bt_range (pa_cons (pv 1) pa_nil)) pa_nil)) (pa_cons (pv 2) (pa_cons (pv 3) (pa_cons (pe_fn h_law_inverse hr (by omega) rfl (pa_cons (pv 2) pa_nil)) pa_nil))))))))), ?_⟩
  refine setT ?_
  refine ⟨_, rfl, sc, ns, 1, rfl, SqL.of hs, by omega, fun c1 => ⟨_, rfl, c1, n, rfl, n0, by omega, fun t1 r1 H1 m1 g1 h1 p1 => ?_⟩⟩
  refine setT ?_
  refine ⟨_, rfl, sc, ns, 2, rfl, SqL.of (g1 _ _ hs), by omega, fun c2 => ⟨_, rfl, c2, n, rfl, n0, by omega, fun t2 r2 H2 m2 g2 h2 p2 => ?_⟩⟩
  obtain ⟨f1, l1⟩ := perm_full p1
  obtain ⟨f2, l2⟩ := perm_full p2
  refine ⟨_, rfl, (n : Int), rfl, fun r H3 mr g3 hr3 => ⟨r, n, rfl, hr3, by omega, fun t0 H4 m4 g4 h4 => ?_⟩⟩
  have g14 := g2.trans (g3.trans g4)
  have g24 := g3.trans g4
  refine ⟨_, rfl, _, rfl, _, rfl, t1, r1, rfl, g14 _ _ h1, by omega, f1, fun t3 H5 m5 g5 h5 => ?_⟩
  have sz : (10000 : Nat) ≤ sizeLine := by rw [sizeLine_eq]; omega
  refine ⟨by show 4 ≤ sizeLine; omega, fun p H6 mp g6 hp => ?_⟩
  have gA := g1.trans (g14.trans g5)
  refine q p [t0, t1, t2, t3] H6 (gA.free mp) (gA.trans g6) ⟨hp, rfl, ⟨t0, rfl, g6 _ _ (g5 _ _ h4)⟩, fun t mt => ?_⟩
  simp only [List.mem_cons, List.not_mem_nil, or_false] at mt
  rcases mt with rfl | rfl | rfl | rfl
  · exact ⟨_, g6 _ _ (g5 _ _ h4), full_upto n⟩
  · exact ⟨_, g6 _ _ (g5 _ _ (g14 _ _ h1)), f1, l1⟩
  · exact ⟨_, g6 _ _ (g5 _ _ (g24 _ _ h2)), f2, l2⟩
  · exact ⟨_, g6 _ _ h5, inv_full f1, by rw [inv_length]; exact l1⟩
end
theorem paired6 {ds : List Int} {a b c d e g : Int} (h : Paired Bd ds [a, b, c, d, e, g]) : ∃ v w x y z u, ds = [v, w, x, y, z, u] ∧ Bd v a ∧ Bd w b ∧ Bd x c ∧ Bd y d ∧ Bd z e ∧ Bd u g := by
  cases h with | cons h1 h => cases h with | cons h2 h => cases h with | cons h3 h => cases h with | cons h4 h => cases h with | cons h5 h => cases h with | cons h6 h =>
    cases h
    exact ⟨_, _, _, _, _, _, rfl, h1, h2, h3, h4, h5, h6⟩
theorem JAt.notup {H : Hp} {C : Addr} {n : Nat} {l : JL} {st : JS} (a : JAt H C n l st) {b : Addr} {xs : List V} (hb : H b = some (.tup xs)) : b ∉ l.fp := by
  intro z
  unfold JL.fp at z
  simp only [List.mem_cons] at z
  rcases z with rfl | rfl | rfl | rfl | rfl | z
  · obtain ⟨dx, e⟩ := a.obj
    rw [e] at hb; cases hb
  · rw [a.heads] at hb; cases hb
  · rw [a.leads] at hb; cases hb
  · rw [a.mems] at hb; cases hb
  · rw [a.frees] at hb; cases hb
  · obtain ⟨y, e⟩ := paired_mem a.mem z
    rw [e] at hb; cases hb
theorem FAt.out {H H' : Hp} {fa td : Addr} {n : Nat} {F : List Fc} {fp : List Addr} (h : FAt H fa td n F) (o : Out fp H H') (n1 : fa ∉ fp) (n2 : td ∉ fp) (nt : ∀ b xs, H b = some (.tup xs) → b ∉ fp) : FAt H' fa td n F := by
  obtain ⟨⟨as, h1, h2⟩, kvs, h3, h4, u, h5, h6⟩ := h
  exact ⟨⟨as, o _ _ h1 n1, L2.Paired.mapP h2 fun _ _ ⟨z, e⟩ => ⟨z, o _ _ e (nt _ _ e)⟩⟩, kvs, o _ _ h3 n2, fun c m k => by obtain ⟨u, e1, e2⟩ := h4 c m k; exact ⟨u, e1, o _ _ e2 (nt _ _ e2)⟩, u, h5, o _ _ h6 (nt _ _ h6)⟩
theorem FAt.put {H H' : Hp} {fa td : Addr} {n : Nat} {F : List Fc} {kvs : List (Key × V)} {k : Str} {v : V} (h : FAt H fa td n F) (hk : H td = some (.dK kvs)) (br : Bar td H H') (e : H' td = some (.dK (putK kvs (.inr k) v))) (n1 : ∀ c ∈ F, c.k ≠ saidK → c.k ≠ k) (n2 : k ≠ "sibling") : FAt H' fa td n F := by
  obtain ⟨⟨as, h1, h2⟩, kvs', h3, h4, u, h5, h6⟩ := h
  obtain rfl : kvs' = kvs := by rw [h3] at hk; injection hk with hk; injection hk
  have nt : ∀ {b : Addr} {xs : List V}, H b = some (.tup xs) → b ≠ td := fun {b xs} hb => ne_kind hb h3 (fun z => by cases z)
  refine ⟨⟨as, br _ _ h1 (ne_kind h1 h3 (fun z => by cases z)), L2.Paired.mapP h2 fun _ _ ⟨z, e⟩ => ⟨z, br _ _ e (nt e)⟩⟩, _, e, fun c m k' => ?_, u, ?_, br _ _ h6 (nt h6)⟩
  · obtain ⟨u, e1, e2⟩ := h4 c m k'
    refine ⟨u, ?_, br _ _ e2 (nt e2)⟩
    rw [valV_put, if_neg (fun z => n1 c m k' (Sum.inr.inj z))]
    exact e1
  · rw [valV_put, if_neg (fun z => n2 (Sum.inr.inj z).symm)]
    exact h5
def THas (H : Hp) (td : Addr) (c : Fc) : Prop := c.k ≠ saidK → ∃ kvs u, H td = some (.dK kvs) ∧ valV kvs (.inr c.k) = some (.ref u) ∧ tupA H u c.tn
theorem FAt.snoc {H : Hp} {fa fa' td fc : Addr} {n : Nat} {F : List Fc} {c : Fc} {z : Int} {xs : List V} (h : FAt H fa td n F) (hx : H fa = some (.lst xs)) (hc : H fc = some (.tup [.int z, .str c.k, .int (c.one : Int), .int c.oth])) (hf : H fa' = some (.lst (xs ++ [.ref fc]))) (ht : THas H td c) : FAt H fa' td n (F ++ [c]) := by
  obtain ⟨⟨as, h1, h2⟩, kvs, h3, h4, h5⟩ := h
  obtain rfl : as.map V.ref = xs := by rw [h1] at hx; injection hx with hx; injection hx
  refine ⟨⟨as ++ [fc], by rw [hf, List.map_append]; rfl, paired_snoc (F := fun a (c : Fc) => ∃ z : Int, H a = some (.tup [.int z, .str c.k, .int (c.one : Int), .int c.oth])) ⟨z, hc⟩ h2⟩, kvs, h3, fun c' m' k' => ?_, h5⟩
  rcases List.mem_append.mp m' with m' | m'
  · exact h4 c' m' k'
  · rw [List.mem_singleton] at m'
    subst m'
    obtain ⟨kvs2, u, e1, e2, e3⟩ := ht k'
    obtain rfl : kvs = kvs2 := by rw [h3] at e1; injection e1 with e1; injection e1
    exact ⟨u, e2, e3⟩
structure JSt (H0 H : Hp) (C : Addr) (l0 l : JL) (n b : Nat) (st : JS) (F : List Fc) (td fa : Addr) : Prop where
  ja : JAt H C n l st
  fat : FAt H fa td n F
  eJ : l.J = l0.J
  out : Out l0.fp H0 H
  new : ∀ c ∈ l.fp, c ∈ l0.fp ∨ H0 c = none
  ntd : H0 td = none ∧ td ∉ l.fp
  nfa : (fa ∈ l0.fp ∨ H0 fa = none) ∧ fa ∉ l.fp
  keys : ∀ c ∈ F, c.k ≠ saidK → ∃ q, q < F.length ∧ c.k = tieK q
  dl : ∃ kvs, H td = some (.dK kvs) ∧ kvs.length ≤ b
  fl : F.length ≤ b
section
variable {H0 H H' : Hp} {C td fa : Addr} {l0 l l' : JL} {n b : Nat} {st st' : JS} {F : List Fc}
theorem JSt.same (g : Same H H') (h : JSt H0 H C l0 l n b st F td fa) : JSt H0 H' C l0 l n b st F td fa :=
  ⟨h.ja.same g, h.fat.same g, h.eJ, fun c o e nc => g _ _ (h.out c o e nc), h.new, h.ntd, h.nfa, h.keys, let ⟨k, e, e'⟩ := h.dl; ⟨k, g _ _ e, e'⟩, h.fl⟩
theorem JSt.more (h : JSt H0 H C l0 l n b st F td fa) {b' : Nat} (hb : b ≤ b') : JSt H0 H C l0 l n b' st F td fa :=
  ⟨h.ja, h.fat, h.eJ, h.out, h.new, h.ntd, h.nfa, h.keys, let ⟨k, e, e'⟩ := h.dl; ⟨k, e, by omega⟩, by have := h.fl; omega⟩
theorem JSt.step (h : JSt H0 H C l0 l n b st F td fa) (o : Out l.fp H H') (eJ : l'.J = l.J) (nw : ∀ c ∈ l'.fp, c ∈ l.fp ∨ H c = none) (ja : JAt H' C n l' st') : JSt H0 H' C l0 l' n b st' F td fa := by
  obtain ⟨kvs, hk, lk⟩ := h.dl
  obtain ⟨as, hf, _⟩ := h.fat.facts
  have old : ∀ {c : Addr}, c ∉ l.fp → H c ≠ none → c ∉ l'.fp := fun {c} h1 h2 z => by
    rcases nw c z with w | w
    · exact h1 w
    · exact h2 w
  refine ⟨ja, h.fat.out o h.nfa.2 h.ntd.2 (fun b xs hb => h.ja.notup hb), eJ.trans h.eJ, fun c x e nc => ?_, fun c hc => ?_, ⟨h.ntd.1, old h.ntd.2 (by rw [hk]; exact fun z => nomatch z)⟩, ⟨h.nfa.1, old h.nfa.2 (by rw [hf]; exact fun z => nomatch z)⟩, h.keys, ⟨kvs, o _ _ hk h.ntd.2, lk⟩, h.fl⟩
  · refine o _ _ (h.out c x e nc) fun z => ?_
    rcases h.new c z with w | w
    · exact nc w
    · rw [w] at e; cases e
  · rcases nw c hc with w | w
    · exact h.new c w
    · by_cases z : c ∈ l0.fp
      · exact .inl z
      · refine .inr ?_
        cases e : H0 c with
        | none => rfl
        | some x => rw [h.out c x e z] at w; cases w
end
theorem Conn.mono {F G : List Fc} (h : ∀ x y t, Edge F x y t → Edge G x y t) {x y : Nat} (c : Conn F x y) : Conn G x y := by
  induction c with
  | refl => exact .refl
  | step _ e ih => exact .step ih (h _ _ _ e)
theorem Conn.trans {F : List Fc} {x y z : Nat} (c : Conn F x y) (d : Conn F y z) : Conn F x z := by
  induction d with
  | refl => exact c
  | step _ e ih => exact .step ih e
theorem conn_said {F : List Fc} {c : Fc} (h : c.k = saidK) {x y : Nat} : Conn (F ++ [c]) x y ↔ Conn F x y :=
  ⟨Conn.mono fun _ _ _ e => (edge_app.mp e).elim id fun z => absurd h z.1, Conn.mono fun _ _ _ e => edge_app.mpr (.inl e)⟩
theorem conn_tie {F : List Fc} {c : Fc} (h : c.k ≠ saidK) {x y : Nat} : Conn (F ++ [c]) x y ↔ Conn F x y ∨ (Conn F x c.one ∧ Conn F c.oth.toNat y) ∨ (Conn F x c.oth.toNat ∧ Conn F c.one y) := by
  have up : ∀ {x y : Nat}, Conn F x y → Conn (F ++ [c]) x y := fun d => d.mono fun _ _ _ e => edge_app.mpr (.inl e)
  have e1 : Edge (F ++ [c]) c.one c.oth.toNat c.tn := edge_app.mpr (.inr ⟨h, .inl ⟨rfl, rfl, rfl⟩⟩)
  have e2 : Edge (F ++ [c]) c.oth.toNat c.one (inv c.tn) := edge_app.mpr (.inr ⟨h, .inr ⟨rfl, rfl, rfl⟩⟩)
  constructor
  · intro d
    induction d with
    | refl => exact .inl .refl
    | step _ e ih =>
      rcases edge_app.mp e with e | ⟨_, ⟨rfl, rfl, _⟩ | ⟨rfl, rfl, _⟩⟩
      · rcases ih with a | ⟨a, b⟩ | ⟨a, b⟩
        · exact .inl (.step a e)
        · exact .inr (.inl ⟨a, .step b e⟩)
        · exact .inr (.inr ⟨a, .step b e⟩)
      · rcases ih with a | ⟨a, b⟩ | ⟨a, b⟩
        · exact .inr (.inl ⟨a, .refl⟩)
        · exact .inr (.inl ⟨a, .refl⟩)
        · exact .inl a
      · rcases ih with a | ⟨a, b⟩ | ⟨a, b⟩
        · exact .inr (.inr ⟨a, .refl⟩)
        · exact .inl a
        · exact .inr (.inr ⟨a, .refl⟩)
  · rintro (a | ⟨a, b⟩ | ⟨a, b⟩)
    · exact up a
    · exact ((up a).step e1).trans (up b)
    · exact ((up a).step e2).trans (up b)
section
variable {n i j : Nat} {st st2 : JS} {F : List Fc} {k : Str} {tn : List Int} {b : Bool}
theorem tie_mean (me : Mean n st F) (to : TieOut n st st2 b i j tn) (hk : k ≠ saidK) (ok : FOk n st.hd.length ⟨k, i, (j : Int), tn⟩) : (b = true → Mean n st2 (F ++ [⟨k, i, (j : Int), tn⟩])) ∧ (b = false → Mean n st2 F ∧ ∀ f, Deal st2 f → ¬ SatC f ⟨k, i, (j : Int), tn⟩) := by
  have sat : ∀ f, SatC f ⟨k, i, (j : Int), tn⟩ ↔ f j = ap tn (f i) := fun f => ⟨fun h => by have := h.2 hk; rwa [show ((⟨k, i, (j : Int), tn⟩ : Fc).oth.toNat) = j from Int.toNat_natCast j] at this, fun h => ⟨fun z => absurd z hk, fun _ => by rw [show ((⟨k, i, (j : Int), tn⟩ : Fc).oth.toNat) = j from Int.toNat_natCast j]; exact h⟩⟩
  refine ⟨fun e => ?_, fun e => ?_⟩
  · obtain ⟨lv, iff⟩ := to.yes e
    have hi : i < st.hd.length := ok.one
    have hj : j < st.hd.length := by
      have := (ok.tie hk).1.2
      rwa [show ((⟨k, i, (j : Int), tn⟩ : Fc).oth.toNat) = j from Int.toNat_natCast j] at this
    refine me.put ok to.wf to.len lv (fun f => by rw [iff, sat]) fun x y hx hy => ?_
    rw [to.hds e x y hx hy, conn_tie (c := ⟨k, i, (j : Int), tn⟩) hk, show ((⟨k, i, (j : Int), tn⟩ : Fc).oth.toNat) = j from Int.toNat_natCast j, me.conn x y hx hy, me.conn x i hx hi, me.conn x j hx hj, ← me.conn j y hj hy, ← me.conn i y hi hy]
    exact or_congr_right (or_congr (and_congr_right fun _ => eq_comm) (and_congr_right fun _ => eq_comm))
  · obtain ⟨es, no⟩ := to.no e
    rw [es]
    exact ⟨me, fun f d z => no f d ((sat f).mp z)⟩
theorem say_yes (me : Mean n st F) (hi : i < st.hd.length) {a : Int} (m : a ∈ (st.frO (st.hdO i)).map fun z => (st.ldO i).getD z.toNat 0) : Mean n (st.setFr (st.hdO i) ((st.frO (st.hdO i)).filter fun z => decide ((st.ldO i).getD z.toNat 0 ∈ [a]))) (F ++ [⟨saidK, i, a, tn⟩]) := by
  refine me.put (c := ⟨saidK, i, a, tn⟩) ⟨hi, fun z => absurd rfl z⟩ (me.wf.setFr hi) rfl ?_ (fun f => ?_) fun x y hx hy => ?_
  · obtain ⟨z, mz, rfl⟩ := List.mem_map.mp m
    obtain ⟨f0, d0⟩ := me.live
    obtain ⟨f, d, q⟩ := deal_pick me.wf d0 (st.hdO i) (st.hdO i) z z mz mz (fun _ => rfl)
    exact ⟨f, (narrow_deal me.wf hi _ f).mpr ⟨d, by rw [(q i hi).1 rfl]; exact List.mem_cons_self⟩⟩
  · rw [narrow_deal me.wf hi, List.mem_singleton]
    refine and_congr_right fun _ => ?_
    exact ⟨fun h => ⟨fun _ => h, fun z => absurd rfl z⟩, fun h => h.1 rfl⟩
  · rw [conn_said rfl]
    exact me.conn x y hx hy
theorem say_no (me : Mean n st F) (hi : i < st.hd.length) {a : Int} (m : a ∉ (st.frO (st.hdO i)).map fun z => (st.ldO i).getD z.toNat 0) (f : Nat → Int) (d : Deal st f) : ¬ SatC f ⟨saidK, i, a, tn⟩ := by
  obtain ⟨s, h⟩ := d
  intro z
  have e : f i = a := z.1 rfl
  refine m (List.mem_map.mpr ⟨s (st.hdO i), (h i hi).1, ?_⟩)
  rw [← e, (h i hi).2]
  rfl
end
theorem JAt.bar {H H' : Hp} {C td : Addr} {n : Nat} {l : JL} {st : JS} {kvs : List (Key × V)} (a : JAt H C n l st) (hk : H td = some (.dK kvs)) (nt : td ∉ l.fp) (br : Bar td H H') : JAt H' C n l st := by
  have nf : ∀ {c : Addr}, c ∈ l.fp → c ≠ td := fun {c} hc z => nt (by rw [← z]; exact hc)
  have f1 : l.J ≠ td := nf (by simp [JL.fp])
  have f2 : l.ha ≠ td := nf (by simp [JL.fp])
  have f3 : l.la ≠ td := nf (by simp [JL.fp])
  have f4 : l.md ≠ td := nf (by simp [JL.fp])
  have f5 : l.fd ≠ td := nf (by simp [JL.fp])
  obtain ⟨dx, ho⟩ := a.obj
  exact ⟨⟨dx, br _ _ ho f1⟩, br _ _ a.heads f2, br _ _ a.leads f3, L2.Paired.mapP a.lead fun _ _ h => br _ _ h (ne_kind h hk (fun z => by cases z)), br _ _ a.mems f4, L2.Paired.mapP a.mem fun _ _ h => br _ _ h (ne_kind h hk (fun z => by cases z)), br _ _ a.frees f5, L2.Paired.mapP a.free fun _ _ h => br _ _ h (ne_kind h hk (fun z => by cases z)), a.nd, a.out⟩
theorem JSt.put {H0 H H' : Hp} {C td fa : Addr} {l0 l : JL} {n b : Nat} {st : JS} {F : List Fc} {kvs : List (Key × V)} {k : Str} {v : V} (h : JSt H0 H C l0 l n b st F td fa) (hk : H td = some (.dK kvs)) (br : Bar td H H') (e : H' td = some (.dK (putK kvs (.inr k) v))) (n1 : ∀ c ∈ F, c.k ≠ saidK → c.k ≠ k) (n2 : k ≠ "sibling") : JSt H0 H' C l0 l n (b + 1) st F td fa := by
  obtain ⟨kvs', hk', lk⟩ := h.dl
  obtain rfl : kvs' = kvs := by rw [hk'] at hk; injection hk with hk; injection hk
  refine ⟨h.ja.bar hk h.ntd.2 br, h.fat.put hk br e n1 n2, h.eJ, fun c o ec nc => br _ _ (h.out c o ec nc) (ne_of_none ec h.ntd.1), h.new, h.ntd, h.nfa, h.keys, ⟨_, e, ?_⟩, by have := h.fl; omega⟩
  have := length_putK kvs' (.inr k) v
  omega
inductive IspJoined (C : Addr) (vs : List V) (H : Hp) (Q : VK) : Prop
  | mk (l : JL) (n : Nat) (cl bp : Addr) (cs : List Int) (ts : List Addr) (h0_ : vs = [.ref l.J, .ref cl, .int (n : Int), .ref bp]) (h1_ : JAt H C n l ⟨[], [], [], []⟩) (h2_ : H cl = some (.lst (cs.map V.int))) (h3_ : cl ∉ l.fp) (h4_ : cs.length ≤ 63) (h5_ : 0 < n) (h6_ : n ≤ 8) (h7_ : BaseAt H bp n ts) (h8_ : bp ∉ l.fp) (h9_ : ∀ (rp : Addr) (l' : JL) (st : JS) (F : List Fc) (td fa : Addr) (H' : Hp), H' rp = some (.tup [.bl true, .ref td, .ref fa, .int (st.hd.length : Int)]) → JSt H H' C l l' n 200 st F td fa → Mean n st F → st.hd.length ≤ 63 → F.length ≤ 63 → Q (.ref rp) H') : IspJoined C vs H Q
def spJoined (C : Addr) : Sp := fun vs H Q _ => IspJoined C vs H Q
def sgJ (l : JL) (cl bp td fa : Addr) (n m : Nat) (o8 o9 o10 o11 o12 o13 o14 o15 : Option V) : St := [some (.ref l.J), some (.ref cl), some (.int (n : Int)), some (.ref bp), some (.ref td), some (.ref fa), some (.int (m : Int)), some (.bl true), o8, o9, o10, o11, o12, o13, o14, o15]
inductive IJInv (H : Hp) (C : Addr) (l : JL) (n : Nat) (cl bp td : Addr) (b m f : Nat) (σ : St) (H6 : Hp) : Prop
  | mk (l' : JL) (st : JS) (F : List Fc) (fa : Addr) (o8 o9 o10 o11 o12 o13 o14 o15 : Option V) (h0_ : JSt H H6 C l l' n b st F td fa) (h1_ : Mean n st F) (h2_ : st.hd.length ≤ m) (h3_ : F.length ≤ f) (h4_ : σ = sgJ l cl bp td fa n st.hd.length o8 o9 o10 o11 o12 o13 o14 o15) : IJInv H C l n cl bp td b m f σ H6
def JInv (H : Hp) (C : Addr) (l : JL) (n : Nat) (cl bp td : Addr) (b m f : Nat) (σ : St) (H6 : Hp) : Prop := IJInv H C l n cl bp td b m f σ H6
def sgM (l : JL) (n m : Nat) (cl bp td fa dl : Addr) (z i oth : Int) (k : Str) (o13 o14 o15 : Option V) : St := [some (.ref l.J), some (.ref cl), some (.int (n : Int)), some (.ref bp), some (.ref td), some (.ref fa), some (.int (m : Int)), some (.bl true), some (.int z), some (.ref dl), some (.int i), some (.int oth), some (.str k), o13, o14, o15]
inductive IJMid (H : Hp) (C : Addr) (l : JL) (n b m : Nat) (F : List Fc) (cl bp td fa dl : Addr) (z : Int) (i : Nat) (o14 o15 : Option V) (σ : St) (H10 : Hp) : Prop
  | mk (c : Fc) (bb : Bool) (l2 : JL) (st2 : JS) (h0_ : JSt H H10 C l l2 n b st2 F td fa) (h1_ : st2.hd.length = m) (h2_ : c.one = i) (h3_ : FOk n m c) (h4_ : THas H10 td c) (h5_ : (c.k ≠ saidK → c.k = tieK F.length)) (h6_ : (bb = true → Mean n st2 (F ++ [c]))) (h7_ : (bb = false → Mean n st2 F ∧ ∀ f, Deal st2 f → ¬ SatC f c)) (h8_ : σ = sgM l n m cl bp td fa dl z i c.oth c.k (some (.bl bb)) o14 o15) : IJMid H C l n b m F cl bp td fa dl z i o14 o15 σ H10
def JMid (H : Hp) (C : Addr) (l : JL) (n b m : Nat) (F : List Fc) (cl bp td fa dl : Addr) (z : Int) (i : Nat) (o14 o15 : Option V) (σ : St) (H10 : Hp) : Prop := IJMid H C l n b m F cl bp td fa dl z i o14 o15 σ H10
inductive IJTurn (H : Hp) (C : Addr) (l l' : JL) (n b : Nat) (st : JS) (F : List Fc) (cl bp td fa dl : Addr) (z : Int) (i j2 : Nat) (o13 o14 o15 : Option V) (σ : St) (H10 : Hp) : Prop
  | mk (u : Addr) (tn : List Int) (kvs' : List (Key × V)) (h0_ : JSt H H10 C l l' n b st F td fa) (h1_ : H10 td = some (.dK kvs')) (h2_ : valV kvs' (.inr (tieK F.length)) = some (.ref u)) (h3_ : tupA H10 u tn) (h4_ : full tn = true) (h5_ : tn.length = n) (h6_ : σ = sgM l n st.hd.length cl bp td fa dl z i j2 (tieK F.length) o13 o14 o15) : IJTurn H C l l' n b st F cl bp td fa dl z i j2 o13 o14 o15 σ H10
def JTurn (H : Hp) (C : Addr) (l l' : JL) (n b : Nat) (st : JS) (F : List Fc) (cl bp td fa dl : Addr) (z : Int) (i j2 : Nat) (o13 o14 o15 : Option V) (σ : St) (H10 : Hp) : Prop := IJTurn H C l l' n b st F cl bp td fa dl z i j2 o13 o14 o15 σ H10
inductive IJLast (H : Hp) (C : Addr) (l l2 : JL) (n b m : Nat) (st2 : JS) (cl bp td dl fc rh : Addr) (z : Int) (c : Fc) (bb : Bool) (fmax : Nat) (σ : St) (H17 : Hp) : Prop
  | mk (F2 : List Fc) (fa3 : Addr) (h0_ : JSt H H17 C l l2 n b st2 F2 td fa3) (h1_ : Mean n st2 F2) (h2_ : F2.length ≤ fmax) (h3_ : σ = sgM l n m cl bp td fa3 dl z (c.one : Int) c.oth c.k (some (.bl bb)) (some (.ref fc)) (some (.ref rh))) : IJLast H C l l2 n b m st2 cl bp td dl fc rh z c bb fmax σ H17
def JLast (H : Hp) (C : Addr) (l l2 : JL) (n b m : Nat) (st2 : JS) (cl bp td dl fc rh : Addr) (z : Int) (c : Fc) (bb : Bool) (fmax : Nat) (σ : St) (H17 : Hp) : Prop := IJLast H C l l2 n b m st2 cl bp td dl fc rh z c bb fmax σ H17
theorem BaseAt.out {H H' : Hp} {p : Addr} {n : Nat} {ts : List Addr} {fp : List Addr} (h : BaseAt H p n ts) (o : Out fp H H') (n1 : p ∉ fp) (nt : ∀ b xs, H b = some (.tup xs) → b ∉ fp) : BaseAt H' p n ts := by
  obtain ⟨t0, e0, h0⟩ := h.zero
  exact ⟨o _ _ h.at_ n1, h.four, ⟨t0, e0, o _ _ h0 (nt _ _ h0)⟩, fun t mt => by obtain ⟨r, h1, h2⟩ := h.all t mt; exact ⟨r, o _ _ h1 (nt _ _ h1), h2⟩⟩
theorem or_if {t u : TT} {a b : TS} {D : Ends} {σ : St} {H : Hp} (c1 c2 : Bool) (h1 : ∀ Q : Bool → Hp → Prop, Q c1 H → t σ H Q) (h2 : ∀ Q : Bool → Hp → Prop, Q c2 H → u σ H Q) (ha : (c1 || c2) = true → a D σ H) (hb : (c1 || c2) = false → b D σ H) : tIfS (tOr t u) a b D σ H := by
  refine h1 _ ?_
  cases c1 with
  | true => exact iteT (iteT (ha rfl))
  | false =>
    refine iteF (h2 _ ?_)
    cases c2 with
    | true => exact iteT (ha rfl)
    | false => exact iteF (hb rfl)
section
variable {P : Program} {w : World} {K : PySem.W.Frag} {mg : Str → Option Value} {base : Heap} {f C : Addr} {fd : FuncData}
theorem sc_law_joined : FnScope ["_law_made", "_law_cells", "_law_size", "_law_base_here", "_law_turns", "_law_facts", "_law_many", "_law_good_here", "_law_cell_here", "_law_drawn", "_law_one", "_law_other", "_law_kind", "_law_told", "_law_fact", "_law_room_here"] ["_law_made", "_law_cells", "_law_size", "_law_base_here"] (defScope s_law_joined) := ⟨rfl, rfl, rfl, by decide +kernel, rfl, by decide +kernel, by decide +kernel⟩
theorem ok_joined (F : Fun K "_law_joined" "_law_joined" s_law_joined f fd) (h_law_draws : HasFn P w K mg base 1 "_law_draws" ["_law_cell_here", "_law_parts"] (spDraws K)) (h_law_turn : HasFn P w K mg base 1 "_law_turn" ["_law_code", "_law_size"] spTurn)
    (h_law_same : HasFn P w K mg base 4 "_law_same" ["_law_found", "_law_due"] (spSame 4)) (h_law_room : HasFn P w K mg base 3 "_law_room" ["_law_facts", "_law_turns", "_law_name"] spRoom)
    (h_Joins_add : HasMt P w K mg base 2 "add" C ["self"] (spAdd C)) (h_Joins_tie : HasMt P w K mg base 5 "tie" C ["self", "one", "other", "turn"] (spTie C)) (h_Joins_say : HasMt P w K mg base 3 "say" C ["self", "one", "section"] (spSay C)) (h_Joins_open_at : HasMt P w K mg base 2 "open_at" C ["self", "one"] (spOpenAt C)) (bl : Bl mg) :
    FnOk P w K mg base CX0 6 f fd ["_law_made", "_law_cells", "_law_size", "_law_base_here"] (spJoined C) := by
  refine F.ok sc_law_joined (fun vs H Q E h => ?_) (fun cdv A outer s H vs Q E hr h => ?_)
  · obtain ⟨l, n, cl, bp, cs, ts, rfl, _⟩ := h
    rfl
  obtain ⟨l, n, cl, bp, cs, ts, rfl, ja0, hcl, ncl, c60, n0, n8, ba, nbp, q⟩ := h
  have hu := hr.units0
  refine ⟨_, (pss_cons (ps_set (i := 4) sc_law_joined.nd rfl (Or.inl rfl) (pe_disp (pps_cons pe_str (pe_ix (ix_listK (K := K) rfl) (pv 3) pe_int (fun _ _ => rfl)) pps_nil) rfl rfl (fun z => nomatch z) (Nat.le_of_ble_eq_true rfl))) (pss_cons (ps_set (i := 5) sc_law_joined.nd rfl (Or.inl rfl) (pe_lstN pa_nil)) (pss_cons (ps_set (i := 6) sc_law_joined.nd rfl (Or.inl rfl) pe_int) (pss_cons (ps_set (i := 7) sc_law_joined.nd rfl (Or.inl rfl) pe_bl) (pss_cons (ps_for PassesOwn.never rfl (pi_listK (K := K) rfl (pv 1)) (pg_name (i := 8) sc_law_joined.nd rfl (Or.inl rfl)) (pss_cons (ps_set (i := 9) sc_law_joined.nd rfl (Or.inl rfl) (pe_fn h_law_draws hr (by omega) rfl (pa_cons (pv 8) (pa_cons (pe_lstN (pa_cons pe_int (pa_cons pe_int (pa_cons pe_int (pa_cons pe_int (pa_cons pe_int (pa_cons pe_int pa_nil))))))) pa_nil)))) (pss_cons (ps_if (PW.pt (pw_or (pt_cmpR op_lt (pv 6) pe_int (nomark _)) (pw_or1 (pt_cmpR op_lt (pe_ix (ix_listK (K := K) rfl) (pv 9) pe_int (fun _ _ => rfl)) pe_int (nomark _))))) (pss_cons (ps_set (i := 7) sc_law_joined.nd rfl (Or.inl rfl) (pe_and (pv 7) (pe_one (pe_fn h_law_same hr (by omega) rfl (pa_cons (pe_mt0 h_Joins_add hr (by omega) (pv 0)) (pa_cons (pv 6) pa_nil)))))) (pss_cons (ps_aug (i := 6) sc_law_joined.nd rfl (Or.inl rfl) pe_int ip_add) (pss_one ps_continue))) pss_nil) (pss_cons (ps_set (i := 10) sc_law_joined.nd rfl (Or.inl rfl) (pe_op op_mod (pe_ix (ix_listK (K := K) rfl) (pv 9) pe_int (fun _ _ => rfl)) (pv 6))) (pss_cons (ps_set (i := 11) sc_law_joined.nd rfl (Or.inl rfl) (pe_op op_mod (pe_ix (ix_listK (K := K) rfl) (pv 9) pe_int (fun _ _ => rfl)) (pv 6))) (pss_cons (ps_set (i := 12) sc_law_joined.nd rfl (Or.inl rfl) (pe_op op_add_str pe_str (pe_callTy call_str_int rfl bl.n_str bt_str (pa_cons (pe_callB (lenK (K := K) rfl) rfl bl.n_len bt_len (pa_cons (pv 5) pa_nil)) pa_nil)))) (pss_cons (ps_if (pt_cmpR op_lt (pe_ix (ix_listK (K := K) rfl) (pv 9) pe_int (fun _ _ => rfl)) pe_int (nomark _)) (pss_cons (ps_dputN (hu_of hr) (pv 4) (pv 12) (pe_ix (ix_listK (K := K) rfl) (pv 3) (pe_ix (ix_listK (K := K) rfl) (pv 9) pe_int (fun _ _ => rfl)) (fun _ _ => rfl))) (pss_cons (ps_if (pt_cmpR op_eq (pe_ix (ix_listK (K := K) rfl) (pv 9) pe_int (fun _ _ => rfl)) pe_int (nomark _)) (pss_one (ps_dputN (hu_of hr) (pv 4) (pv 12) (pe_fn h_law_turn hr (by omega) rfl (pa_cons (pe_ix (ix_listK (K := K) rfl) (pv 9) pe_int (fun _ _ => rfl)) (pa_cons (pv 2) pa_nil))))) pss_nil) (pss_one (ps_set (i := 13) sc_law_joined.nd rfl (Or.inl rfl) (pe_mt h_Joins_tie hr (by omega) (pv 0) (pa_cons (pv 10) (pa_cons (pv 11) (pa_cons (pe_dget (hu_of hr) (pv 4) (pv 12) (fun _ _ => rfl)) pa_nil)))))))) (pss_cons (ps_set (i := 12) sc_law_joined.nd rfl (Or.inl rfl) pe_str) (pss_cons (ps_set (i := 11) sc_law_joined.nd rfl (Or.inl rfl) (pe_op op_mod (pe_ix (ix_listK (K := K) rfl) (pv 9) pe_int (fun _ _ => rfl)) (pv 2))) (pss_one (ps_set (i := 13) sc_law_joined.nd rfl (Or.inl rfl) (pe_mt h_Joins_say hr (by omega) (pv 0) (pa_cons (pv 10) (pa_cons (pv 11) pa_nil)))))))) (pss_cons (ps_set (i := 14) sc_law_joined.nd rfl (Or.inl rfl) (pe_tupN (pa_cons (pe_callB (lenK (K := K) rfl) rfl bl.n_len bt_len (pa_cons (pv 5) pa_nil)) (pa_cons (pv 12) (pa_cons (pv 10) (pa_cons (pv 11) pa_nil)))))) (pss_cons (ps_set (i := 15) sc_law_joined.nd rfl (Or.inl rfl) (pe_fn h_law_room hr (by omega) rfl (pa_cons (pe_op op_catN (pv 5) (pe_lstN (pa_cons (pv 14) pa_nil))) (pa_cons (pv 4) (pa_cons (pv 10) pa_nil))))) (pss_cons (ps_set (i := 7) sc_law_joined.nd rfl (Or.inl rfl) (pe_and (pv 7) (pe_one (pe_fn h_law_same hr (by omega) rfl (pa_cons (pv 13) (pa_cons (pe_cmpR (op_eqEK (K := K) rfl (op_neE hu)) (pv 15) (pe_lstN pa_nil) (nomark _)) pa_nil)))))) (pss_cons (ps_if (pt_cmpR (op_eqEK (K := K) rfl (op_neE hu)) (pv 15) (pe_lstN pa_nil) (nomark _)) (pss_one (ps_set (i := 5) sc_law_joined.nd rfl (Or.inl rfl) (pe_op op_catN (pv 5) (pe_lstN (pa_cons (pv 14) pa_nil))))) pss_nil) (pss_one (ps_set (i := 7) sc_law_joined.nd rfl (Or.inl rfl) (pe_and (pv 7) (pe_one (pe_fn h_law_same hr (by omega) rfl (pa_cons (pe_mt h_Joins_open_at hr (by omega) (pv 0) (pa_cons (pv 10) pa_nil)) (pa_cons (pe_fn h_law_room hr (by omega) rfl (pa_cons (pv 5) (pa_cons (pv 4) (pa_cons (pv 10) pa_nil)))) pa_nil)))))))))))))))))) (pss_one (ps_ret (pe_tupN (pa_cons (pv 7) (pa_cons (pv 4) (pa_cons (pv 5) (pa_cons (pv 6) pa_nil)))))))))))), ?_⟩
  have sz : (10000 : Nat) ≤ sizeLine := by rw [sizeLine_eq]; omega
  obtain ⟨t0, et0, ht0⟩ := ba.zero
  have at0 : atI (ts.map V.ref) 0 = some (.ref t0) := atI_nat (j := 0) (by rw [List.getElem?_map, et0]; rfl)
  refine setT ?_
  refine fun td ntd => ⟨_, rfl, bp, _, _, _, rfl, rfl, SqL.of (by rw [upd_ne (ne_of_none ba.at_ ntd)]; exact ba.at_), at0, upd_same, [(.inr "sibling", .ref t0)], rfl, (by show 1 ≤ 15; omega), ?_⟩
  obtain ⟨H1, eH1⟩ : ∃ H1, H1 = upd (upd H td (.dK [])) td (.dK (mergeK [] [(.inr "sibling", .ref t0)])) := ⟨_, rfl⟩
  have g1 : Same H H1 := fun b o e => by rw [eH1, upd_ne (ne_of_none e ntd), upd_ne (ne_of_none e ntd)]; exact e
  have h1 : H1 td = some (.dK [(.inr "sibling", .ref t0)]) := by rw [eH1, upd_same]; rfl
  rw [← eH1]
  refine setT ?_
  refine ⟨by show 0 ≤ sizeLine; exact Nat.zero_le _, fun fa H2 nfa g2 hfa => ?_⟩
  refine setC (setC ?_)
  have g12 := g1.trans g2
  have j0 : JSt H H2 C l l n 1 ⟨[], [], [], []⟩ [] td fa := by
    refine ⟨ja0.same g12, ⟨⟨[], hfa, .nil⟩, _, g2 _ _ h1, fun c mc => (nomatch mc), t0, rfl, g12 _ _ ht0⟩, rfl, Out.of g12, fun c hc => .inl hc, ⟨ntd, ja0.ne ntd⟩, ⟨.inr (g1.free nfa), ja0.ne (g1.free nfa)⟩, fun c mc => (nomatch mc), ⟨_, g2 _ _ h1, Nat.le_refl _⟩, Nat.zero_le _⟩
  refine seq_mid (JInv H C l n cl bp td 200 63 63) (fun nx0 hn0 => ?_) ?_
  · refine ⟨_, rfl, cl, rfl, ⟨_, SqL.of (g12 _ _ hcl)⟩, for_list (K := K) (a := cl) (xs := cs.map V.int) (fun j => JInv H C l n cl bp td (2 * j + 1) j j)
      ⟨l, _, [], fa, none, none, none, none, none, none, none, none, j0, mean0, Nat.zero_le _, Nat.zero_le _, rfl⟩
      (fun j σ H6 _ ⟨_, _, _, _, _, _, _, _, _, _, _, _, js, _, _, _, _⟩ => SqL.of (js.out _ _ hcl ncl)) ?_ ?_⟩
    · rintro j v σ H6 hj ⟨l', st, F, fa, o8, o9, o10, o11, o12, o13, o14, o15, js, me, mj, fj, rfl⟩
      obtain ⟨z, rfl, hz⟩ := get_int hj
      have jl : j < cs.length := (List.getElem?_eq_some_iff.mp hz).1
      refine nameE (hideD fun D' hnx hrt hct => ?_)
      refine setK fun kk hk => ?_
      refine ⟨_, rfl, by show 6 ≤ sizeLine; omega, fun pl H7 npl g7 hpl => ⟨z, pl, [16, 61, 59, 8, 4, 40320], rfl, SqL.of hpl, by decide, by decide, fun dl ds H8 ndl g8 hdl bd => ?_⟩⟩
      obtain ⟨d0, d1, d2, d3, d4, d5, rfl, ⟨a0, a0'⟩, ⟨a1, a1'⟩, ⟨a2, a2'⟩, ⟨a3, a3'⟩, ⟨a4, a4'⟩, ⟨a5, a5'⟩⟩ := paired6 bd
      have js8 := js.same (g7.trans g8)
      have wf := me.wf
      have lm := wf.memLen
      have lf := wf.frLen
      obtain ⟨dx, ho⟩ := js8.ja.obj
      have nm : st.hd.length ∉ st.mem.map (·.1) := fun z => Nat.lt_irrefl _ (wf.lm _ z)
      have nf : st.hd.length ∉ st.fr.map (·.1) := fun z => Nat.lt_irrefl _ (wf.lf _ z)
      refine hk _ _ ?_
      refine if_mid (fun σ H9 => σ = [some (.ref l.J), some (.ref cl), some (.int (n : Int)), some (.ref bp), some (.ref td), some (.ref fa), some (.int (st.hd.length : Int)), some (.bl true), some (.int z), some (.ref dl), o10, o11, o12, o13, o14, o15] ∧ H9 = H8 ∧ 2 ≤ st.hd.length) (fun nx1 hn1 => ?_) ?_
      · refine or_if (decide ((st.hd.length : Int) < 2)) (decide (d0 < 5)) (fun Q' q' => ⟨_, rfl, _, _, rfl, rfl, _, rfl, q'⟩) (fun Q' q' => ⟨_, rfl, dl, _, _, .int d0, rfl, rfl, SqL.of hdl, rfl, _, _, rfl, rfl, _, rfl, q'⟩) (fun cc => ?_) (fun cc => nextE (hn1 _ _ ⟨rfl, rfl, ?_⟩))
        · refine setK fun k2' hk2 => ?_
          refine ⟨_, rfl, _, rfl, iteT ?_⟩
          refine ⟨_, rfl, l'.J, dx, _, by rw [js.eJ], ho, rfl, l', st, n, by rw [js.eJ]; rfl, js8.ja, by omega, by omega, lm, lf, wf.ll, nm, nf, fun l2 H9 k1 ob k2 ja9 => ?_⟩
          refine ⟨_, rfl, .int (st.hd.length : Int), .int (st.hd.length : Int), .int (st.hd.length : Int), 3, rfl, rfl, rfl, rfl, fun H10 g10 => ?_⟩
          have js9 := (js8.step ob k1 k2 ja9).same g10
          refine hk2 _ _ ?_
          refine ⟨_, rfl, _, _, rfl, rfl, hct _ _ ?_⟩
          refine ⟨l2, st.more n, F, fa, some (.int z), some (.ref dl), o10, o11, o12, o13, o14, o15, js9.more (by omega), me.more n0, by rw [more_len]; omega, by omega, ?_⟩
          rw [more_len]
          rfl
        · have : ¬ ((st.hd.length : Int) < 2) := fun z => by rw [decide_eq_true z] at cc; cases cc
          omega
      rintro _ H8 ⟨rfl, rfl, m2⟩
      have mpos : (0 : Int) < (st.hd.length : Int) := by omega
      obtain ⟨i, ei, im⟩ : ∃ i : Nat, d1 % (st.hd.length : Int) = (i : Int) ∧ i < st.hd.length := ⟨(d1 % (st.hd.length : Int)).toNat, (Int.toNat_of_nonneg (Int.emod_nonneg _ (by omega))).symm, by have := Int.emod_lt_of_pos d1 mpos; have := Int.emod_nonneg d1 (show (st.hd.length : Int) ≠ 0 by omega); omega⟩
      obtain ⟨j2, ej2, jm⟩ : ∃ i : Nat, d2 % (st.hd.length : Int) = (i : Int) ∧ i < st.hd.length := ⟨(d2 % (st.hd.length : Int)).toNat, (Int.toNat_of_nonneg (Int.emod_nonneg _ (by omega))).symm, by have := Int.emod_lt_of_pos d2 mpos; have := Int.emod_nonneg d2 (show (st.hd.length : Int) ≠ 0 by omega); omega⟩
      obtain ⟨as, hfa8, pas⟩ := js8.fat.facts
      have al : (as.map V.ref).length = F.length := by rw [List.length_map]; exact paired_len pas
      obtain ⟨tk1, tk2, tk3⟩ := tieK_ne F.length (List.mem_range.mpr (by omega))
      refine setK fun kk hk => ?_
      refine ⟨_, rfl, dl, _, _, .int d1, rfl, rfl, SqL.of hdl, rfl, _, rfl, _, _, rfl, rfl, mpos, ?_⟩
      dsimp only
      rw [ei]
      refine hk _ _ ?_
      refine setK fun kk hk => ?_
      refine ⟨_, rfl, dl, _, _, .int d2, rfl, rfl, SqL.of hdl, rfl, _, rfl, _, _, rfl, rfl, mpos, ?_⟩
      dsimp only
      rw [ej2]
      refine hk _ _ ?_
      refine setK fun kk hk => ?_
      refine ⟨_, rfl, fa, _, rfl, .inl (SqL.of hfa8), ?_⟩
      rw [al]
      refine ⟨_, rfl, Nat.lt_of_le_of_lt (Nat.log2_le_self _) (by rw [Int.natAbs_natCast]; omega), _, _, rfl, rfl, by omega, ?_⟩
      refine hk _ _ ?_
      refine if_mid (JMid H C l n (2 * j + 3) st.hd.length F cl bp td fa dl z i o14 o15) (fun nx2 hn2 => ?_) ?_
      · refine ⟨_, rfl, dl, _, _, .int d0, rfl, rfl, SqL.of hdl, rfl, _, _, rfl, rfl, _, rfl, ite2 (fun cc => ?_) (fun cc => ?_)⟩
        · obtain ⟨kvs, hkv, lkv⟩ := js8.dl
          have ba8 : BaseAt H8 bp n ts := ba.out js8.out nbp (fun b xs hb => ja0.notup hb)
          have ed4 : d4 = ((d4.toNat : Nat) : Int) := (Int.toNat_of_nonneg a4).symm
          have l4 : d4.toNat < ts.length := by rw [ba.four]; omega
          obtain ⟨t4, et4⟩ : ∃ t4, ts[d4.toNat]? = some t4 := ⟨_, List.getElem?_eq_getElem l4⟩
          obtain ⟨r4, hr4, fr4, lr4⟩ := ba8.all t4 (List.mem_of_getElem? et4)
          have at4 : atI (ts.map V.ref) d4 = some (.ref t4) := by rw [ed4]; exact atI_nat (by rw [List.getElem?_map, et4]; rfl)
          have kne : ∀ c ∈ F, c.k ≠ saidK → c.k ≠ tieK F.length := fun c mc nk z => by
            obtain ⟨q', ql, qe⟩ := js.keys c mc nk
            have := tieK_inj (show q' < 64 by omega) (show F.length < 64 by omega) (qe.symm.trans z)
            omega
          refine ⟨_, rfl, _, rfl, dl, _, _, .int d4, rfl, rfl, SqL.of hdl, rfl, bp, _, _, _, rfl, rfl, SqL.of ba8.at_, at4, _, rfl, _, rfl, td, kvs, .inr (tieK F.length), rfl, hkv, rfl, by omega, fun H9 b9 e9 => ?_⟩
          have js9 := js8.put hkv b9 e9 kne tk2
          have hdl9 := b9 _ _ hdl (ne_kind hdl hkv (fun z => by cases z))
          have hr49 := b9 _ _ (show H8 t4 = some (.tup (r4.map V.int)) from hr4) (ne_kind hr4 hkv (fun z => by cases z))
          dsimp only
          refine if_mid (JTurn H C l l' n (2 * j + 3) st F cl bp td fa dl z i j2 o13 o14 o15) (fun nx3 hn3 => ?_) ?_
          · refine ⟨_, rfl, dl, _, _, .int d3, rfl, rfl, SqL.of hdl9, rfl, rfl, _, rfl, ite2 (fun c3 => ?_) (fun c3 => nextE ?_)⟩
            · refine ⟨_, rfl, dl, _, _, .int d5, rfl, rfl, SqL.of hdl9, rfl, _, rfl, d5, n, rfl, by omega, fun t5 r5 H10 n5 g10 h5 p5 => ?_⟩
              obtain ⟨f5, l5⟩ := perm_full p5
              have lp := length_putK kvs (.inr (tieK F.length)) (.ref t4)
              refine ⟨_, rfl, _, rfl, td, _, .inr (tieK F.length), rfl, g10 _ _ e9, rfl, by omega, fun H11 b11 e11 => ?_⟩
              exact hn3 _ _ ⟨t5, r5, _, ((js9.same g10).put (g10 _ _ e9) b11 e11 kne tk2).more (by omega), e11, by rw [valV_put, if_pos rfl], b11 _ _ h5 (ne_kind h5 (g10 _ _ e9) (fun z => by cases z)), f5, l5, rfl⟩
            · exact hn3 _ _ ⟨_, r4, _, js9.more (by omega), e9, by rw [valV_put, if_pos rfl], hr49, fr4, lr4, rfl⟩
          · rintro _ H10 ⟨u, tn, kvs', js10, hk10, vk, hu10, ft, tl, rfl⟩
            obtain ⟨dx10, ho10⟩ := js10.ja.obj
            refine ⟨_, rfl, l'.J, dx10, _, by rw [js.eJ], ho10, rfl, _, rfl, _, rfl, _, rfl, _, rfl, td, .ref u, rfl, dget_s hk10 vk, l', st, n, i, j2, tn, u, by rw [js.eJ]; rfl, js10.ja, wf, me.live, n8, by omega, im, jm, hu10, ft, tl, fun b l2 st2 H11 k1 k2 ob ja11 to => ?_⟩
            have ok : FOk n st.hd.length ⟨tieK F.length, i, (j2 : Int), tn⟩ := ⟨im, fun _ => ⟨⟨by show (0 : Int) ≤ (j2 : Int); omega, by show ((j2 : Int)).toNat < _; omega⟩, ft, tl⟩⟩
            obtain ⟨m1, m2'⟩ := tie_mean me to tk1 ok
            exact hn2 _ _ ⟨⟨tieK F.length, i, (j2 : Int), tn⟩, b, l2, st2, js10.step ob k1 (fun c hc => .inl (k2 c hc)) ja11, to.len, rfl, ok, fun _ => ⟨kvs', u, ob _ _ hk10 js10.ntd.2, vk, ob _ _ hu10 (js10.ja.notup hu10)⟩, fun _ => rfl, m1, m2', rfl⟩
        · refine setC ?_
          have spos : (0 : Int) < (n : Int) := by omega
          have a0 := Int.emod_nonneg d3 (show (n : Int) ≠ 0 by omega)
          have a1 := Int.emod_lt_of_pos d3 spos
          refine setK fun kk hk => ?_
          refine ⟨_, rfl, dl, _, _, .int d3, rfl, rfl, SqL.of hdl, rfl, _, rfl, _, _, rfl, rfl, spos, ?_⟩
          refine hk _ _ ?_
          refine ⟨_, rfl, l'.J, dx, _, by rw [js.eJ], ho, rfl, _, rfl, _, rfl, l', st, n, i, _, _, _, d3 % (n : Int), by rw [js.eJ]; rfl, js8.ja, wf.one n8 im, by omega, fun hm l2 H9 k1 k2 ob ja9 => ?_, fun hm H9 g9 => ?_⟩
          · refine hn2 _ _ ⟨⟨saidK, i, d3 % (n : Int), []⟩, true, l2, _, (js8.step ob k1 (fun c hc => .inl (by rw [← k2]; exact hc)) ja9).more (by omega), rfl, rfl, ⟨im, fun z => absurd rfl z⟩, fun z => absurd rfl z, fun z => absurd rfl z, fun _ => say_yes me im hm, (fun z => nomatch z), rfl⟩
          · refine hn2 _ _ ⟨⟨saidK, i, d3 % (n : Int), []⟩, false, l', st, (js8.same g9).more (by omega), rfl, rfl, ⟨im, fun z => absurd rfl z⟩, fun z => absurd rfl z, fun z => absurd rfl z, (fun z => nomatch z), fun _ => ⟨me, fun f d => say_no me im hm f d⟩, rfl⟩
      rintro _ H10 ⟨c, b, l2, st2, js10, len2, eone, fok, th, ck, bt, bf, rfl⟩
      subst eone
      obtain ⟨as10, hfa10, pas10⟩ := js10.fat.facts
      have al10 : (as10.map V.ref).length = F.length := by rw [List.length_map]; exact paired_len pas10
      have i2 : c.one < st2.hd.length := by rw [len2]; exact im
      refine setK fun kk hk => ?_
      refine ⟨_, rfl, fa, _, rfl, .inl (SqL.of hfa10), ?_⟩
      refine ⟨_, rfl, _, rfl, _, rfl, by show 4 ≤ sizeLine; omega, fun fc H11 nfc g11 hfc => ?_⟩
      refine hk _ _ ?_
      refine setK fun kk hk => ?_
      refine ⟨_, rfl, _, rfl, by show 1 ≤ sizeLine; omega, fun ls H12 nls g12 hls => ⟨fa, ls, _, _, rfl, rfl, g12 _ _ (g11 _ _ hfa10), hls, by rw [al10]; show F.length + 1 ≤ sizeLine; omega, fun fa2 H13 nfa2 g13 hfa2 => ?_⟩⟩
      have gA := (g11.trans g12).trans g13
      have js13 := js10.same gA
      have th13 : THas H13 td c := fun nk => by obtain ⟨kvs, u, h1, h2, h3⟩ := th nk; exact ⟨kvs, u, gA _ _ h1, h2, gA _ _ h3⟩
      have fat2 : FAt H13 fa2 td n (F ++ [c]) := js13.fat.snoc (gA _ _ hfa10) (g13 _ _ (g12 _ _ hfc)) hfa2 th13
      have fokA : ∀ c' ∈ F ++ [c], FOk n st.hd.length c' := fun c' m' => by
        rcases List.mem_append.mp m' with m' | m'
        · exact me.fok c' m'
        · rw [List.mem_singleton] at m'; rw [m']; exact fok
      refine ⟨_, rfl, _, rfl, fa2, td, n, st.hd.length, F ++ [c], c.one, rfl, fat2, fokA, n8, by omega, by rw [List.length_append]; show F.length + 1 ≤ 64; omega, im, fun rh H14 nrh g14 hrh => ?_⟩
      have js14 := js13.same g14
      have fat14 := fat2.same g14
      have nfa20 : fa2 ∈ l.fp ∨ H fa2 = none := by
        by_cases z : fa2 ∈ l.fp
        · exact .inl z
        · refine .inr ?_
          cases e : H fa2 with
          | none => rfl
          | some o => rw [(js10.same (g11.trans g12)).out fa2 o e z] at nfa2; cases nfa2
      have nfa21 : fa2 ∉ l2.fp := (js10.same (g11.trans g12)).ja.ne nfa2
      have bl_eq : b = !(roomL (F ++ [c]) n c.one).isEmpty := by
        cases b with
        | true =>
          have := (bt rfl).yes i2
          cases e : roomL (F ++ [c]) n c.one with
          | nil => exact absurd e this
          | cons _ _ => rfl
        | false => rw [(bf rfl).1.no (by rw [len2]; exact fok) (bf rfl).2]; rfl
      refine hk _ _ ?_
      refine setK fun kk hk => ?_
      refine ⟨_, rfl, _, rfl, iteT ?_⟩
      refine ⟨_, rfl, _, rfl, by show 0 ≤ sizeLine; omega, fun le H15 nle g15 hle => ⟨rh, le, _, rfl, rfl, SqL.of (g15 _ _ hrh), SqL.of (xs := []) hle, ?_⟩⟩
      refine ⟨.bl b, .bl _, .bl b, 3, rfl, rfl, rfl, ?_, fun H16 g16 => ?_⟩
      · show V.bl _ = V.bl b
        rw [if_pos rfl, List.isEmpty_map, ← bl_eq]
      have js16 := (js14.same g15).same g16
      have fat16 := (fat14.same g15).same g16
      have hrh16 := g16 _ _ (g15 _ _ hrh)
      have g1016 := ((gA.trans g14).trans g15).trans g16
      refine hk _ _ ?_
      refine if_mid (JLast H C l l2 n (2 * j + 3) st.hd.length st2 cl bp td dl fc rh z c b (j + 1)) (fun nx4 hn4 => ?_) ?_
      · refine ⟨_, rfl, by show 0 ≤ sizeLine; omega, fun le2 H17 nle2 g17 hle2 => ⟨rh, le2, _, rfl, rfl, SqL.of (g17 _ _ hrh16), SqL.of (xs := []) hle2, _, rfl, ?_⟩⟩
        rw [if_pos rfl, List.isEmpty_map, ← bl_eq]
        refine ite2 (fun c4 => ?_) (fun c4 => nextE ?_)
        · have g1017 := g1016.trans g17
          refine ⟨_, rfl, _, rfl, by show 1 ≤ sizeLine; omega, fun ls2 H18 nls2 g18 hls2 => ⟨fa, ls2, _, _, rfl, rfl, g18 _ _ (g1017 _ _ hfa10), hls2, by rw [al10]; show F.length + 1 ≤ sizeLine; omega, fun fa3 H19 nfa3 g19 hfa3 => ?_⟩⟩
          have js18 := (js16.same g17).same g18
          have js19 := js18.same g19
          have gB := (g1017.trans g18).trans g19
          have th19 : THas H19 td c := fun nk => by obtain ⟨kvs, u, h1, h2, h3⟩ := th nk; exact ⟨kvs, u, gB _ _ h1, h2, gB _ _ h3⟩
          have hfc19 := ((((((g12.trans g13).trans g14).trans g15).trans g16).trans g17).trans g18).trans g19 _ _ hfc
          have fat19 : FAt H19 fa3 td n (F ++ [c]) := js19.fat.snoc (gB _ _ hfa10) hfc19 hfa3 th19
          refine hn4 _ _ ⟨F ++ [c], fa3, ⟨js19.ja, fat19, js19.eJ, js19.out, js19.new, js19.ntd, ⟨?_, js18.ja.ne nfa3⟩, fun c' m' nk => ?_, js19.dl, ?_⟩, bt c4, by rw [List.length_append]; show F.length + 1 ≤ j + 1; omega, rfl⟩
          · by_cases z : fa3 ∈ l.fp
            · exact .inl z
            · refine .inr ?_
              cases e : H fa3 with
              | none => rfl
              | some o => rw [js18.out fa3 o e z] at nfa3; cases nfa3
          · rw [List.length_append]
            rcases List.mem_append.mp m' with m' | m'
            · obtain ⟨q', ql, qe⟩ := js.keys c' m' nk
              exact ⟨q', by show q' < F.length + 1; omega, qe⟩
            · rw [List.mem_singleton] at m'
              subst m'
              exact ⟨F.length, by show F.length < F.length + 1; omega, ck nk⟩
          · rw [List.length_append]; show F.length + 1 ≤ 2 * j + 3; omega
        · have bfl : b = false := by
            cases b with
            | true => exact absurd rfl c4
            | false => rfl
          exact hn4 _ _ ⟨F, fa, js16.same g17, (bf bfl).1, by omega, rfl⟩
      rintro _ H17 ⟨F2, fa3, js17, me2, fl2, rfl⟩
      obtain ⟨dx17, ho17⟩ := js17.ja.obj
      have one := me2.wf.one n8 i2
      refine ⟨_, rfl, _, rfl, iteT ?_⟩
      refine ⟨_, rfl, l2.J, dx17, _, by rw [js17.eJ], ho17, rfl, _, rfl, l2, st2, n, c.one, _, _, _, by rw [js17.eJ]; rfl, js17.ja, one.hd, one.ld, one.fr, one.inb, one.few, fun p ns H18 np g18 pm so hp => ?_⟩
      refine ⟨_, rfl, _, rfl, _, rfl, fa3, td, n, st2.hd.length, F2, c.one, rfl, js17.fat.same g18, me2.fok, n8, by omega, by omega, i2, fun p2 H19 np2 g19 hp2 => ?_⟩
      have en := me2.opn i2 pm so
      have nl : ns.length ≤ 1000 := by have := pm.length_eq; rw [List.length_map] at this; have := one.few; omega
      refine ⟨.ref p, .ref p2, .lst (ns.map Dt.int), 3, rfl, rfl, at_lint (g19 _ _ hp) nl, at_lint (by rw [en]; exact hp2) nl, fun H20 g20 => ?_⟩
      exact hnx _ _ ⟨l2, st2, F2, fa3, _, _, _, _, _, _, _, _, (((js17.same g18).same g19).same g20).more (by omega), me2, by omega, fl2, by rw [len2]; rfl⟩
    · rintro σ H6 ⟨l', st, F, fa, o8, o9, o10, o11, o12, o13, o14, o15, js, me, mj, fj, rfl⟩
      rw [List.length_map] at js mj fj
      exact hn0 _ _ ⟨l', st, F, fa, o8, o9, o10, o11, o12, o13, o14, o15, js.more (by omega), me, by omega, by omega, rfl⟩
  rintro σ H6 ⟨l', st, F, fa, o8, o9, o10, o11, o12, o13, o14, o15, js, me, mj, fj, rfl⟩
  refine ⟨_, rfl, _, rfl, _, rfl, _, rfl, by show 4 ≤ sizeLine; omega, fun rp H7 nrp g7 hrp => ?_⟩
  exact q rp l' st F td fa H7 hrp (js.same g7) me mj fj
end
inductive IspGood (vs : List V) (H : Hp) (Q : VK) : Prop
  | mk (fa td : Addr) (n m : Nat) (F : List Fc) (x : Nat) (a : Int) (h0_ : vs = [.ref fa, .ref td, .int (x : Int), .int a]) (h1_ : FAt H fa td n F) (h2_ : (∀ c ∈ F, FOk n m c)) (h3_ : n ≤ 8) (h4_ : m ≤ 100) (h5_ : F.length ≤ 64) (h6_ : x < m) (h7_ : (0 ≤ a ∧ a < (n : Int))) (h8_ : (∃ g, Closed n F g ∧ g x = some a)) (h9_ : ∀ (p : Addr) (g : List (Nat × Int)) (H' : Hp), Same H H' → H' p = some (.dK (gK g)) → BF F n m x a g → Closed n F (fun k => g.lookup k) → Q (.ref p) H') : IspGood vs H Q
def spGood : Sp := fun vs H Q _ => IspGood vs H Q
section
variable {P : Program} {w : World} {K : PySem.W.Frag} {mg : Str → Option Value} {base : Heap} {f : Addr} {fd : FuncData}
theorem sc_law_good : FnScope ["_law_facts", "_law_turns", "_law_name", "_law_section"] ["_law_facts", "_law_turns", "_law_name", "_law_section"] (defScope s_law_good) := ⟨rfl, rfl, rfl, by decide +kernel, rfl, by decide +kernel, by decide +kernel⟩
theorem ok_good (F : Fun K "_law_good" "_law_good" s_law_good f fd) (h_law_nets : HasFn P w K mg base 2 "_law_nets" ["_law_facts", "_law_turns"] spNets) (h_law_carried : HasFn P w K mg base 1 "_law_carried" ["_law_nets_here", "_law_facts", "_law_name", "_law_section"] spCarried) (bl : Bl mg) : FnOk P w K mg base CX0 3 f fd ["_law_facts", "_law_turns", "_law_name", "_law_section"] spGood := by
  refine F.ok sc_law_good (fun vs H Q E h => ?_) (fun cdv A outer s H vs Q E hr h => ?_)
  · obtain ⟨fa, td, n, m, F, x, a, rfl, _⟩ := h
    rfl
  obtain ⟨fa, td, n, m, F, x, a, rfl, fat, fok, n8, m100, l64, hx, ain, yes, q⟩ := h
  refine ⟨_, (pss_one (ps_ret (pe_fn h_law_carried hr (by omega) rfl (pa_cons (pe_fn h_law_nets hr (by omega) rfl (pa_cons (pv 0) (pa_cons (pv 1) pa_nil))) (pa_cons (pv 0) (pa_cons (pv 2) (pa_cons (pv 3) pa_nil))))))), ?_⟩
  refine ⟨_, rfl, _, rfl, fa, td, n, m, F, rfl, fat, fok, n8, l64, fun d kvs L H1 g1 nets ed => ?_⟩
  exact ⟨_, rfl, _, rfl, _, rfl, H, d, fa, td, kvs, L, n, m, F, x, a, rfl, nets, ed, fat.same g1, fok, n8, m100, l64, hx, ain, fun no => absurd yes no, fun p g H2 g2 hp bf cl => q p g H2 (g1.trans g2) hp bf cl⟩
end
def mulL : List Int → Int
  | [] => 1
  | a :: r => a * mulL r
theorem mulL_snoc (a : Int) : ∀ xs : List Int, mulL (xs ++ [a]) = mulL xs * a
  | [] => by show a * 1 = 1 * a; rw [Int.mul_comm]
  | x :: xs => by show x * mulL (xs ++ [a]) = x * mulL xs * a; rw [mulL_snoc a xs, Int.mul_assoc]
theorem mulL_perm {xs ys : List Int} (h : xs.Perm ys) : mulL xs = mulL ys := by
  induction h with
  | nil => rfl
  | cons x _ ih => show x * mulL _ = x * mulL _; rw [ih]
  | swap x y l => show y * (x * mulL l) = x * (y * mulL l); rw [← Int.mul_assoc, ← Int.mul_assoc, Int.mul_comm y x]
  | trans _ _ h1 h2 => exact h1.trans h2
def frLens (hs : List Int) (ps : List (Nat × List Int)) : List Int := (ps.filter fun p => !decide ((p.1 : Int) ∈ hs)).map fun p => (p.2.length : Int)
theorem dictN_get {H : Hp} : ∀ {as : List Addr} {ps : List (Nat × List Int)} {i : Nat} {k : Key} {y : V}, Paired (fun a (p : Nat × List Int) => H a = some (.lst (p.2.map V.int))) as ps → (dictN (ps.map (·.1)) as)[i]? = some (k, y) → ∃ q a, ps[i]? = some q ∧ k = .inl (q.1 : Int) ∧ y = .ref a ∧ H a = some (.lst (q.2.map V.int))
  | _, _, i, k, y, .nil, h => by
    have h' : ([] : List (Key × V))[i]? = some (k, y) := h
    simp at h'
  | a :: as, p :: ps, 0, k, y, .cons e t, h => by
    have h' : some (Sum.inl (p.1 : Int), V.ref a) = some (k, y) := h
    cases h'
    exact ⟨p, a, rfl, rfl, rfl, e⟩
  | a :: as, p :: ps, i + 1, k, y, .cons e t, h => by
    have h' : (dictN (ps.map (·.1)) as)[i]? = some (k, y) := h
    obtain ⟨q, b, h1, h2⟩ := dictN_get t h'
    exact ⟨q, b, h1, h2⟩
inductive IspDealtB (C : Addr) (vs : List V) (H : Hp) (Q : VK) : Prop
  | mk (l : JL) (st : JS) (n : Nat) (hl : Addr) (hs : List Int) (e : vs = [.ref l.J, .ref hl]) (ja : JAt H C n l st) (hh : H hl = some (.lst (hs.map V.int))) (few : ∀ p ∈ st.fr, p.2.length ≤ 1000) (q : ∀ H', Same H H' → Q (.int (mulL (frLens hs st.fr))) H') : IspDealtB C vs H Q
def spDealtB (C : Addr) : Sp := fun vs H Q _ => IspDealtB C vs H Q
inductive IspDealt (C : Addr) (vs : List V) (H : Hp) (Q : VK) : Prop
  | mk (l : JL) (st : JS) (n : Nat) (e : vs = [.ref l.J]) (ja : JAt H C n l st) (few : ∀ p ∈ st.fr, p.2.length ≤ 1000) (q : ∀ H', Same H H' → Q (.int (mulL (st.fr.map fun p => (p.2.length : Int)))) H') : IspDealt C vs H Q
def spDealt (C : Addr) : Sp := fun vs H Q _ => IspDealt C vs H Q
section
variable {P : Program} {w : World} {K : PySem.W.Frag} {mg : Str → Option Value} {base : Heap} {f C : Addr} {fd : FuncData}
theorem sc_Joins_dealt_beside : FnScope ["self", "heads", "many", "head", "sections"] ["self", "heads"] (defScope s_Joins_dealt_beside) := ⟨rfl, rfl, rfl, by decide +kernel, rfl, by decide +kernel, by decide +kernel⟩
theorem ok_dealt_beside (F : Fun K "dealt_beside" "Joins.dealt_beside" s_Joins_dealt_beside f fd) (jc : JoinsC K C) (bl : Bl mg) : FnOk P w K mg base CX0 1 f fd ["self", "heads"] (spDealtB C) := by
  refine F.ok sc_Joins_dealt_beside (fun vs H Q E h => ?_) (fun cdv A outer s H vs Q E hr h => ?_)
  · obtain ⟨l, st, n, hl, hs, rfl, _⟩ := h
    rfl
  obtain ⟨l, st, n, hl, hs, rfl, ja, hh, few, q⟩ := h
  refine ⟨_, (pss_cons (ps_set (i := 2) sc_Joins_dealt_beside.nd rfl (Or.inl rfl) pe_int) (pss_cons (ps_forItems (H0 := H) rfl PassesOwn.never rfl (pi_items (H0 := H) rfl (pe_fldK (K := K) rfl (pv 0) rfl)) (pg_tupK (K := K) (n := 2) rfl rfl (pgs_cons (pg_name (i := 3) sc_Joins_dealt_beside.nd rfl (Or.inl rfl)) (pgs_cons (pg_name (i := 4) sc_Joins_dealt_beside.nd rfl (Or.inl rfl)) pgs_nil))) (pss_one (ps_if (pt_cmpR (notInK (K := K) rfl) (pv 3) (pv 1) (by with_unfolding_all rfl)) (pss_one (ps_aug (i := 2) sc_Joins_dealt_beside.nd rfl (Or.inl rfl) (pe_callB (lenK (K := K) rfl) rfl bl.n_len bt_len (pa_cons (pv 4) pa_nil)) ip_mul)) pss_nil))) (pss_one (ps_ret (pv 2))))), ?_⟩
  obtain ⟨dx, ho⟩ := ja.obj
  refine setC ?_
  have pl := paired_len ja.free
  have dl : (dictN (st.fr.map (·.1)) l.fas).length = st.fr.length := by unfold dictN; rw [List.length_map, List.length_zip, List.length_map]; omega
  refine seq_mid (fun σ H6 => Same H H6 ∧ ∃ o3 o4 : Option V, σ = [some (.ref l.J), some (.ref hl), some (.int (mulL (frLens hs st.fr))), o3, o4]) (fun nx0 hn0 => ?_) ?_
  · refine for_items (d := l.fd) (kvs := dictN (st.fr.map (·.1)) l.fas) (fun Q' q' => ⟨_, rfl, l.J, C, dx, _, _, rfl, ho, jc.cls, jc.n_free, rfl, q'⟩) ja.frees (fun j σ => ∃ o3 o4 : Option V, σ = [some (.ref l.J), some (.ref hl), some (.int (mulL (frLens hs (st.fr.take j)))), o3, o4]) ⟨none, none, rfl⟩ ?_ ?_
    · rintro j k y σ H' a N rt bk hk ⟨o3, o4, rfl⟩ kp ha hN
      obtain ⟨p, fa, ep, rfl, rfl, hfa⟩ := dictN_get ja.free hk
      have tke : st.fr.take (j + 1) = st.fr.take j ++ [p] := by rw [List.take_add_one, ep]; rfl
      have hfa' := kp _ _ hfa (ne_kind hfa ja.frees (fun z => by cases z))
      have hh' := kp _ _ hh (ne_kind hh ja.frees (fun z => by cases z))
      refine ⟨a, _, rfl, SqT.of ha, rfl, _, _, rfl, nameE ⟨_, _, rfl, nameE ⟨rfl, ?_⟩⟩⟩
      refine ⟨_, rfl, _, rfl, hl, _, rfl, .inl (SqL.of hh'), rfl, flat_int hs, _, rfl, ?_⟩
      rw [if_pos rfl, show kV (Sum.inl (p.1 : Int)) = V.int (p.1 : Int) from rfl, inV_int]
      refine ite2 (fun c => ?_) (fun c => nextE (hN _ ⟨some (.int (p.1 : Int)), some (.ref fa), ?_⟩))
      · refine ⟨_, rfl, _, rfl, fa, _, rfl, .inl (SqL.of hfa'), _, _, rfl, rfl, .inr ?_, hN _ ⟨some (.int (p.1 : Int)), some (.ref fa), ?_⟩⟩
        · have := few p (List.mem_of_getElem? ep)
          rw [List.length_map]
          omega
        have e : frLens hs (st.fr.take (j + 1)) = frLens hs (st.fr.take j) ++ [(p.2.length : Int)] := by
          unfold frLens
          rw [tke, List.filter_append, List.map_append]
          congr 1
          rw [List.filter_cons, if_pos c]; rfl
        rw [e, mulL_snoc, List.length_map]
        rfl
      · have e : frLens hs (st.fr.take (j + 1)) = frLens hs (st.fr.take j) := by
          unfold frLens
          rw [tke, List.filter_append, List.map_append, List.filter_cons, if_neg c]
          simp
        rw [e]
        rfl
    · rintro σ H' ⟨o3, o4, rfl⟩ g
      rw [dl, List.take_length]
      exact hn0 _ _ ⟨g, o3, o4, rfl⟩
  rintro σ H6 ⟨g, o3, o4, rfl⟩
  exact ⟨_, rfl, q H6 g⟩
theorem sc_Joins_dealt : FnScope ["self"] ["self"] (defScope s_Joins_dealt) := ⟨rfl, rfl, rfl, by decide +kernel, rfl, by decide +kernel, by decide +kernel⟩
theorem ok_dealt (F : Fun K "dealt" "Joins.dealt" s_Joins_dealt f fd) (h_Joins_dealt_beside : HasMt P w K mg base 1 "dealt_beside" C ["self", "heads"] (spDealtB C)) (bl : Bl mg) : FnOk P w K mg base CX0 2 f fd ["self"] (spDealt C) := by
  refine F.ok sc_Joins_dealt (fun vs H Q E h => ?_) (fun cdv A outer s H vs Q E hr h => ?_)
  · obtain ⟨l, st, n, rfl, _⟩ := h
    rfl
  obtain ⟨l, st, n, rfl, ja, few, q⟩ := h
  refine ⟨_, (pss_one (ps_ret (pe_mt h_Joins_dealt_beside hr (by omega) (pv 0) (pa_cons (pe_lstN pa_nil) pa_nil)))), ?_⟩
  obtain ⟨dx, ho⟩ := ja.obj
  refine ⟨_, rfl, l.J, dx, _, rfl, ho, rfl, by show 0 ≤ sizeLine; exact Nat.zero_le _, fun hl H1 nhl g1 hh => ?_⟩
  refine ⟨l, st, n, hl, [], rfl, ja.same g1, hh, few, fun H2 g2 => ?_⟩
  have e : frLens [] st.fr = st.fr.map fun p => (p.2.length : Int) := by
    unfold frLens
    rw [List.filter_eq_self.mpr fun p _ => by simp]
  rw [e]
  exact q H2 (g1.trans g2)
end
open Classical in
noncomputable def reps (st : JS) : List Nat := (List.range st.hd.length).filter fun i => decide (∀ j, j < i → st.hdO j ≠ st.hdO i)
open Classical in
theorem reps_mem {st : JS} {i : Nat} : i ∈ reps st ↔ i < st.hd.length ∧ ∀ j, j < i → st.hdO j ≠ st.hdO i := by
  unfold reps
  rw [List.mem_filter, List.mem_range, decide_eq_true_iff]
theorem least_of {P : Nat → Prop} : ∀ {m : Nat}, P m → ∃ i, i ≤ m ∧ P i ∧ ∀ j, j < i → ¬ P j := fun {m} h => by
  induction m using Nat.strongRecOn with
  | ind m ih =>
    by_cases z : ∃ j, j < m ∧ P j
    · obtain ⟨j, jm, pj⟩ := z
      obtain ⟨i, a, b, c⟩ := ih j jm pj
      exact ⟨i, by omega, b, c⟩
    · exact ⟨m, Nat.le_refl _, h, fun j hj pj => z ⟨j, hj, pj⟩⟩
open Classical in
theorem fr_perm {n : Nat} {st : JS} (wf : WF n st) : (st.fr.map fun p => (p.2.length : Int)).Perm ((reps st).map fun i => ((st.frO (st.hdO i)).length : Int)) := by
  have h1 : ((reps st).map st.hdO).Perm (st.fr.map (·.1)) := by
    refine (List.perm_ext_iff_of_nodup ?_ wf.nf).mpr fun k => ?_
    · rw [List.nodup_iff_pairwise_ne, List.pairwise_map]
      have nd : (reps st).Pairwise (· < ·) := List.Pairwise.filter _ List.pairwise_lt_range
      refine (List.Pairwise.and_mem.mp nd).imp ?_
      rintro a b ⟨_, mb, lt⟩
      exact (reps_mem.mp mb).2 a lt
    · rw [List.mem_map]
      constructor
      · rintro ⟨i, mi, rfl⟩
        exact lookup_key (wf.frGet (reps_mem.mp mi).1).1
      · intro mk
        obtain ⟨i, hi, e⟩ := wf.hf k mk
        obtain ⟨r, ri, pr, lst⟩ := least_of (P := fun j => st.hdO j = k) (m := i) e
        exact ⟨r, reps_mem.mpr ⟨by omega, fun j hj z => lst j hj (z.trans pr)⟩, pr⟩
  have h2 := h1.map fun k => ((st.frO k).length : Int)
  rw [List.map_map, List.map_map] at h2
  have h3 : st.fr.map ((fun k => ((st.frO k).length : Int)) ∘ (·.1)) = st.fr.map fun p => (p.2.length : Int) := List.map_congr_left fun p hp => by
    show ((st.frO p.1).length : Int) = _
    have e : st.frO p.1 = p.2 := by unfold JS.frO; rw [mem_lookup (v := p.2) wf.nf hp]; rfl
    rw [e]
  rw [h3] at h2
  exact h2.symm
open Classical in
theorem WF.frFew {n : Nat} {st : JS} (wf : WF n st) (n8 : n ≤ 8) : ∀ p ∈ st.fr, p.2.length ≤ 1000 := fun p hp => by
  obtain ⟨i, hi, e⟩ := wf.hf p.1 (List.mem_map.mpr ⟨p, hp, rfl⟩)
  obtain ⟨e1, a, b⟩ := wf.frGet hi
  have e2 : st.frO (st.hdO i) = p.2 := by unfold JS.frO; rw [e, mem_lookup (v := p.2) wf.nf hp]; rfl
  rw [e2] at a b
  have := nodup_in_len a b
  omega
inductive IspDealtW (C : Addr) (vs : List V) (H : Hp) (Q : VK) : Prop
  | mk (l : JL) (st : JS) (n i j : Nat) (tn : List Int) (tu : Addr) (e : vs = [.ref l.J, .int (i : Int), .int (j : Int), .ref tu]) (ja : JAt H C n l st) (wf : WF n st) (n8 : n ≤ 8) (hi : i < st.hd.length) (hj : j < st.hd.length) (hu : H tu = some (.tup (tn.map V.int))) (tl : tn.length = n) (q : ∀ (ns : List Int) (H' : Hp), Same H H' → ns.Perm (((st.prs i j).filter fun q => decide (tn.getD q.1.toNat 0 = q.2)).map (·.1)) → ns.Pairwise (· < ·) → Q (.int ((ns.length : Int) * mulL (frLens [(st.hdO i : Int), (st.hdO j : Int)] st.fr))) H') : IspDealtW C vs H Q
def spDealtW (C : Addr) : Sp := fun vs H Q _ => IspDealtW C vs H Q
section
variable {P : Program} {w : World} {K : PySem.W.Frag} {mg : Str → Option Value} {base : Heap} {f C : Addr} {fd : FuncData}
theorem sc_Joins_dealt_with : FnScope ["self", "one", "other", "turn"] ["self", "one", "other", "turn"] (defScope s_Joins_dealt_with) := ⟨rfl, rfl, rfl, by decide +kernel, rfl, by decide +kernel, by decide +kernel⟩
theorem ok_dealt_with (F : Fun K "dealt_with" "Joins.dealt_with" s_Joins_dealt_with f fd) (jc : JoinsC K C) (h_Joins_left : HasMt P w K mg base 4 "left" C ["self", "one", "other", "turn"] (spLeft C)) (h_Joins_dealt_beside : HasMt P w K mg base 1 "dealt_beside" C ["self", "heads"] (spDealtB C)) (bl : Bl mg) : FnOk P w K mg base CX0 5 f fd ["self", "one", "other", "turn"] (spDealtW C) := by
  refine F.ok sc_Joins_dealt_with (fun vs H Q E h => ?_) (fun cdv A outer s H vs Q E hr h => ?_)
  · obtain ⟨l, st, n, i, j, tn, tu, rfl, _⟩ := h
    rfl
  obtain ⟨l, st, n, i, j, tn, tu, rfl, ja, wf, n8, hi, hj, hu, tl, q⟩ := h
  refine ⟨_, (pss_one (ps_ret (pe_op op_mul (pe_callB (lenK (K := K) rfl) rfl bl.n_len bt_len (pa_cons (pe_mt h_Joins_left hr (by omega) (pv 0) (pa_cons (pv 1) (pa_cons (pv 2) (pa_cons (pv 3) pa_nil)))) pa_nil)) (pe_mt h_Joins_dealt_beside hr (by omega) (pv 0) (pa_cons (pe_lstN (pa_cons (pe_ix (ix_listK (K := K) rfl) (pe_fldK (K := K) rfl (pv 0) rfl) (pv 1) (fun _ _ => rfl)) (pa_cons (pe_ix (ix_listK (K := K) rfl) (pe_fldK (K := K) rfl (pv 0) rfl) (pv 2) (fun _ _ => rfl)) pa_nil))) pa_nil))))), ?_⟩
  obtain ⟨dx, ho⟩ := ja.obj
  have pf := prs_few wf n8 hi hj
  have sz : (10000 : Nat) ≤ sizeLine := by rw [sizeLine_eq]; omega
  refine ⟨_, rfl, l.J, dx, _, rfl, ho, rfl, _, rfl, _, rfl, _, rfl, l, st, n, i, j, _, _, _, _, _, _, tn, tu, rfl, ja, wf.one n8 hi, wf.one n8 hj, hu, fun p hp => by rw [tl]; exact prs_in wf hi (x := p.1) (y := p.2) hp, Nat.le_trans pf (by omega), fun p ns H1 np g1 hp pm pw => ?_⟩
  refine ⟨p, _, rfl, .inl (SqL.of hp), ?_⟩
  rw [List.length_map]
  have nl : ns.length ≤ 64 := by
    have h1 := pm.length_eq
    rw [List.length_map] at h1
    have h2 := List.length_filter_le (fun q : Int × Int => decide (tn.getD q.1.toNat 0 = q.2)) (st.prs i j)
    have h3 : ((st.prs i j).filter fun q : Int × Int => decide (tn.getD q.1.toNat 0 = q.2)).length = ns.length := h1.symm
    omega
  refine ⟨_, rfl, l.J, dx, _, rfl, g1 _ _ ho, rfl, _, rfl, l.J, C, dx, _, _, rfl, g1 _ _ ho, jc.cls, jc.n_heads, rfl, _, rfl, l.ha, _, _, _, rfl, rfl, SqL.of (g1 _ _ ja.heads), nsV_get (hdO_get hi), ?_⟩
  refine ⟨_, rfl, l.J, C, dx, _, _, rfl, g1 _ _ ho, jc.cls, jc.n_heads, rfl, _, rfl, l.ha, _, _, _, rfl, rfl, SqL.of (g1 _ _ ja.heads), nsV_get (hdO_get hj), by show 2 ≤ sizeLine; omega, fun hl H2 nhl g2 hh => ?_⟩
  refine ⟨l, st, n, hl, [(st.hdO i : Int), (st.hdO j : Int)], rfl, (ja.same g1).same g2, hh, wf.frFew n8, fun H3 g3 => ?_⟩
  exact ⟨_, _, rfl, rfl, .inl ⟨by omega, by omega⟩, q ns H3 ((g1.trans g2).trans g3) pm pw⟩
end
open Classical in
noncomputable def repsU (F : List Fc) (j : Nat) : List Nat := (List.range j).filter fun i => decide (∀ k, k < i → ¬ Conn F k i)
open Classical in
theorem repsU_yes {F : List Fc} {j : Nat} (h : ∀ k, k < j → ¬ Conn F k j) : repsU F (j + 1) = repsU F j ++ [j] := by
  unfold repsU
  rw [List.range_succ, List.filter_append, List.filter_cons, if_pos (decide_eq_true h)]
  rfl
open Classical in
theorem repsU_no {F : List Fc} {j : Nat} (h : ¬ ∀ k, k < j → ¬ Conn F k j) : repsU F (j + 1) = repsU F j := by
  unfold repsU
  rw [List.range_succ, List.filter_append, List.filter_cons, if_neg (by rw [decide_eq_false h]; exact Bool.false_ne_true)]
  simp
open Classical in
theorem repsU_mem {F : List Fc} {m i : Nat} : i ∈ repsU F m ↔ i < m ∧ ∀ k, k < i → ¬ Conn F k i := by
  unfold repsU
  rw [List.mem_filter, List.mem_range, decide_eq_true_iff]
theorem mulL_zero : ∀ {xs : List Int}, (0 : Int) ∈ xs → mulL xs = 0
  | x :: xs, h => by
    show x * mulL xs = 0
    rcases List.mem_cons.mp h with rfl | h
    · exact Int.zero_mul _
    · rw [mulL_zero h]; exact Int.mul_zero _
noncomputable def cntL (F : List Fc) (n j : Nat) : Int := mulL ((repsU F j).map fun i => ((roomL F n i).length : Int))
inductive IspDealtL (vs : List V) (H : Hp) (Q : VK) : Prop
  | mk (fa td nl : Addr) (n m : Nat) (F : List Fc) (e : vs = [.ref fa, .ref td, .ref nl]) (fat : FAt H fa td n F) (fok : ∀ c ∈ F, FOk n m c) (n8 : n ≤ 8) (m100 : m ≤ 100) (l64 : F.length ≤ 64) (hn : H nl = some (.lst (nsV (List.range m)))) (q : ∀ H', Same H H' → Q (.int (cntL F n m)) H') : IspDealtL vs H Q
def spDealtL : Sp := fun vs H Q _ => IspDealtL vs H Q
def sgD (fa td nl sd : Addr) (v : Int) (o5 o6 o7 : Option V) : St := [some (.ref fa), some (.ref td), some (.ref nl), some (.int v), some (.ref sd), o5, o6, o7]
inductive DInv (H : Hp) (F : List Fc) (n : Nat) (fa td nl sd : Addr) (j : Nat) (σ : St) (H6 : Hp) : Prop
  | mk (kvs : List (Key × V)) (o5 o6 o7 : Option V) (g : Same H H6) (hs : H6 sd = some (.dK kvs)) (len : kvs.length ≤ 100 * j) (seen : ∀ x : Nat, valV kvs (.inl (x : Int)) ≠ none ↔ ∃ r, r < j ∧ Conn F r x) (e : σ = sgD fa td nl sd (cntL F n j) o5 o6 o7) : DInv H F n fa td nl sd j σ H6
inductive DKey (H9 : Hp) (F : List Fc) (n : Nat) (fa td nl sd d : Addr) (j b : Nat) (ks : List Nat) (o5 o6 : Option V) (σ : St) (H6 : Hp) : Prop
  | mk (kvs : List (Key × V)) (o7 : Option V) (g : ∀ c o, H9 c = some o → c ≠ d → c ≠ sd → H6 c = some o) (hs : H6 sd = some (.dK kvs)) (len : kvs.length ≤ b) (seen : ∀ x : Nat, valV kvs (.inl (x : Int)) ≠ none ↔ (∃ r, r < j ∧ Conn F r x) ∨ x ∈ ks) (e : σ = sgD fa td nl sd (cntL F n j) o5 o6 o7) : DKey H9 F n fa td nl sd d j b ks o5 o6 σ H6
section
variable {P : Program} {w : World} {K : PySem.W.Frag} {mg : Str → Option Value} {base : Heap} {f : Addr} {fd : FuncData}
theorem sc_law_dealt : FnScope ["_law_facts", "_law_turns", "_law_names", "_law_found", "_law_seen", "_law_name", "_law_room_here", "_law_one"] ["_law_facts", "_law_turns", "_law_names"] (defScope s_law_dealt) := ⟨rfl, rfl, rfl, by decide +kernel, rfl, by decide +kernel, by decide +kernel⟩
theorem ok_dealtL (F : Fun K "_law_dealt" "_law_dealt" s_law_dealt f fd) (h_law_room : HasFn P w K mg base 3 "_law_room" ["_law_facts", "_law_turns", "_law_name"] spRoom) (h_law_good : HasFn P w K mg base 3 "_law_good" ["_law_facts", "_law_turns", "_law_name", "_law_section"] spGood) (bl : Bl mg) : FnOk P w K mg base CX0 4 f fd ["_law_facts", "_law_turns", "_law_names"] spDealtL := by
  refine F.ok sc_law_dealt (fun vs H Q E h => ?_) (fun cdv A outer s H vs Q E hr h => ?_)
  · obtain ⟨fa, td, nl, n, m, F, rfl, _⟩ := h
    rfl
  obtain ⟨fa, td, nl, n, m, F, rfl, fat, fok, n8, m100, l64, hn, q⟩ := h
  have hu := hr.units0
  refine ⟨_, (pss_cons (ps_set (i := 3) sc_law_dealt.nd rfl (Or.inl rfl) pe_int) (pss_cons (ps_set (i := 4) sc_law_dealt.nd rfl (Or.inl rfl) pe_dnewKN) (pss_cons (ps_for PassesOwn.never rfl (pi_listK (K := K) rfl (pv 2)) (pg_name (i := 5) sc_law_dealt.nd rfl (Or.inl rfl)) (pss_one (ps_if (pt_cmp (pc_dnotin (hu_of hr) (pv 5) (pv 4)) (by with_unfolding_all rfl)) (pss_cons (ps_set (i := 6) sc_law_dealt.nd rfl (Or.inl rfl) (pe_fn h_law_room hr (by omega) rfl (pa_cons (pv 0) (pa_cons (pv 1) (pa_cons (pv 5) pa_nil))))) (pss_cons (ps_if (pt_cmpR (op_eqEK (K := K) rfl (op_eqE hu)) (pv 6) (pe_lstN pa_nil) (nomark _)) (pss_one (ps_ret pe_int)) pss_nil) (pss_cons (ps_forKeys (H0 := H) rfl PassesOwn.never rfl (pi_keys (H0 := H) rfl (pe_fn h_law_good hr (by omega) rfl (pa_cons (pv 0) (pa_cons (pv 1) (pa_cons (pv 5) (pa_cons (pe_ix (ix_listK (K := K) rfl) (pv 6) pe_int (fun _ _ => rfl)) pa_nil)))))) (pg_name (i := 7) sc_law_dealt.nd rfl (Or.inl rfl)) (pss_one (ps_dputN (hu_of hr) (pv 4) (pv 7) pe_bl))) (pss_one (ps_set (i := 3) sc_law_dealt.nd rfl (Or.inl rfl) (pe_op op_mul (pv 3) (pe_callB (lenK (K := K) rfl) rfl bl.n_len bt_len (pa_cons (pv 6) pa_nil)))))))) pss_nil))) (pss_one (ps_ret (pv 3)))))), ?_⟩
  have sz : (100000 : Nat) ≤ sizeLine := by rw [sizeLine_eq]; omega
  refine setC ?_
  refine setT ?_
  refine fun sd H1 nsd g1 hsd => ?_
  refine seq_mid (DInv H F n fa td nl sd m) (fun nx0 hn0 => ?_) ?_
  · refine ⟨_, rfl, nl, rfl, ⟨_, SqL.of (g1 _ _ hn)⟩, for_list (K := K) (a := nl) (xs := nsV (List.range m)) (DInv H F n fa td nl sd)
      ⟨[], none, none, none, g1, hsd, Nat.le_refl _, fun x => ⟨fun z => absurd rfl z, fun ⟨r, h, _⟩ => absurd h (Nat.not_lt_zero _)⟩, rfl⟩ (fun j σ H6 _ ⟨_, _, _, _, g, _, _, _, _⟩ => SqL.of (g _ _ hn)) ?_ (fun σ H6 h => hn0 _ _ (by rw [List.length_map, List.length_range] at h; exact h))⟩
    rintro j v σ H6 hj ⟨kvs, o5, o6, o7, g6, hs6, len6, seen, rfl⟩
    rw [List.getElem?_map] at hj
    have jm : j < m := by
      have : (List.range m)[j]? ≠ none := fun z => by rw [z] at hj; cases hj
      rcases Nat.lt_or_ge j m with h | h
      · exact h
      · exact absurd (List.getElem?_eq_none (by rw [List.length_range]; exact h)) this
    rw [List.getElem?_range jm] at hj
    obtain rfl : V.int (j : Int) = v := Option.some.inj hj
    refine nameE ?_
    refine ⟨_, rfl, _, rfl, sd, _, rfl, dget_i hs6 rfl, _, rfl, ?_⟩
    cases ev : valV kvs (.inl (j : Int)) with
    | some y =>
      refine iteF (nextE ?_)
      obtain ⟨r, rj, cr⟩ := (seen j).mp (by rw [ev]; exact fun z => nomatch z)
      have en : cntL F n (j + 1) = cntL F n j := by unfold cntL; rw [repsU_no (fun h => h r rj cr)]
      refine ⟨kvs, _, _, _, g6, hs6, by omega, fun x => ?_, by rw [en]; rfl⟩
      rw [seen]
      constructor
      · rintro ⟨r', h1, h2⟩
        exact ⟨r', by omega, h2⟩
      · rintro ⟨r', h1, h2⟩
        by_cases z : r' = j
        · exact ⟨r, rj, cr.trans (by rw [← z]; exact h2)⟩
        · exact ⟨r', by omega, h2⟩
    | none =>
      refine iteT ?_
      have rep : ∀ k, k < j → ¬ Conn F k j := fun k hk c => (seen j).mpr ⟨k, hk, c⟩ ev
      refine setT ?_
      refine ⟨_, rfl, _, rfl, _, rfl, fa, td, n, m, F, j, rfl, fat.same g6, fok, n8, m100, l64, jm, fun rl H7 nrl g7 hrl => ?_⟩
      refine if_mid (fun σ H8 => σ = sgD fa td nl sd (cntL F n j) (some (.int (j : Int))) (some (.ref rl)) o7 ∧ Same H7 H8 ∧ roomL F n j ≠ []) (fun nx1 hn1 => ?_) ?_
      · refine ⟨_, rfl, by show 0 ≤ sizeLine; omega, fun le H8 nle g8 hle => ⟨rl, le, _, rfl, rfl, SqL.of (g8 _ _ hrl), SqL.of (xs := []) hle, _, rfl, ?_⟩⟩
        rw [if_neg Bool.false_ne_true, List.isEmpty_map]
        refine ite2 (fun cc => ?_) (fun cc => nextE (hn1 _ _ ⟨rfl, g8, fun z => cc (by rw [z]; rfl)⟩))
        have er : roomL F n j = [] := by
          cases e : roomL F n j with
          | nil => rfl
          | cons _ _ => rw [e] at cc; cases cc
        have ez : cntL F n m = 0 := mulL_zero (List.mem_map.mpr ⟨j, repsU_mem.mpr ⟨jm, rep⟩, by rw [er]; rfl⟩)
        have := q H8 ((g6.trans g7).trans g8)
        rw [ez] at this
        exact this
      rintro _ H8 ⟨rfl, g8, rne⟩
      have gg8 := (g6.trans g7).trans g8
      obtain ⟨u, R, eR⟩ : ∃ u R, roomL F n j = u :: R := by
        cases e : roomL F n j with
        | nil => exact absurd e rne
        | cons u R => exact ⟨u, R, rfl⟩
      obtain ⟨uin, yes⟩ := roomL_mem.mp (show u ∈ roomL F n j by rw [eR]; exact List.mem_cons_self)
      have hrl8 := g8 _ _ hrl
      have hs8 := g8 _ _ (g7 _ _ hs6)
      refine seq_mid (fun σ H9 => Same H H9 ∧ H9 rl = some (.lst ((roomL F n j).map V.int)) ∧ ∃ (kvs : List (Key × V)) (o7 : Option V), H9 sd = some (.dK kvs) ∧ kvs.length ≤ 100 * (j + 1) ∧ (∀ x : Nat, valV kvs (.inl (x : Int)) ≠ none ↔ ∃ r, r < j + 1 ∧ Conn F r x) ∧ σ = sgD fa td nl sd (cntL F n j) (some (.int (j : Int))) (some (.ref rl)) o7) (fun nx2 hn2 => ?_) ?_
      · refine for_keysG (fun d H9 kv => ∃ gl : List (Nat × Int), Same H8 H9 ∧ H9 d = some (.dK kv) ∧ kv = gK gl ∧ BF F n m j u gl ∧ Closed n F (fun k => gl.lookup k)) (fun R hR => ?_) ?_
        · refine ⟨_, rfl, _, rfl, _, rfl, _, rfl, rl, _, _, .int u, rfl, rfl, SqL.of (by rw [eR] at hrl8; exact hrl8), atI_nat (j := 0) rfl, fa, td, n, m, F, j, u, rfl, fat.same gg8, fok, n8, m100, l64, jm, uin, yes, fun dp gl H9 g9 hdp bf cl => ?_⟩
          exact hR dp H9 (gK gl) ⟨gl, g9, hdp, rfl, bf, cl⟩
        · rintro d H9 kv ⟨gl, g9, hd, rfl, bf, cl⟩
          have gll := bf.len
          have hs9 := g9 _ _ hs8
          have gg9 := gg8.trans g9
          have nsd9 : sd ≠ d := fun z => by
            rw [z, hd] at hs9
            have e : gK gl = kvs := by injection hs9 with h; injection h
            rw [← e, gK_val, bf.hd] at ev
            cases ev
          refine ⟨hd, fun i => DKey H9 F n fa td nl sd d j (100 * j + i) ((gl.take i).map (·.1)) (some (.int (j : Int))) (some (.ref rl)), fun od => ?_, ?_, ?_⟩
          · exact ⟨kvs, o7, fun c o e n1 _ => by rw [upd_ne n1]; exact e, by rw [upd_ne nsd9]; exact hs9, by omega, fun x => by rw [seen]; simp, rfl⟩
          · rintro od i k y σ' H' N rt bk hk ⟨kv', q7, gk, hsk, lenk, seenk, rfl⟩ fz hN
            rw [List.getElem?_map] at hk
            obtain ⟨⟨k0, v0⟩, ek⟩ : ∃ p, gl[i]? = some p := by
              cases e : gl[i]? with
              | none => rw [e] at hk; cases hk
              | some p => exact ⟨p, rfl⟩
            rw [ek] at hk
            cases hk
            have il : i < gl.length := (List.getElem?_eq_some_iff.mp ek).1
            have tke : gl.take (i + 1) = gl.take i ++ [(k0, v0)] := by rw [List.take_add_one, ek]; rfl
            refine nameE ?_
            refine ⟨_, rfl, _, rfl, sd, kv', .inl (k0 : Int), rfl, hsk, rfl, by omega, fun H2 b2 e2 => ?_⟩
            refine hN _ _ ⟨_, _, fun c o e n1 n2 => b2 _ _ (gk c o e n1 n2) n2, e2, ?_, fun x => ?_, rfl⟩ (b2 _ _ fz (fun z => nsd9 z.symm))
            · have := length_putK kv' (.inl (k0 : Int)) (.bl true)
              omega
            · rw [valV_put, tke, List.map_append, List.mem_append]
              by_cases z : x = k0
              · rw [if_pos (by rw [z])]
                exact ⟨fun _ => .inr (.inr (by rw [z]; exact List.mem_cons_self)), fun _ z => nomatch z⟩
              · rw [if_neg (fun w => z (by have := Sum.inl.inj w; omega)), seenk]
                constructor
                · rintro (h | h)
                  · exact .inl h
                  · exact .inr (.inl h)
                · rintro (h | h | h)
                  · exact .inl h
                  · exact .inr h
                  · exact absurd (by simpa using h) z
          · rintro od σ' H' ⟨kv', q7, gk, hsk, lenk, seenk, rfl⟩ fz
            rw [List.length_map] at lenk seenk
            rw [List.take_length] at seenk
            have kp : ∀ c o, H9 c = some o → c ≠ sd → upd H' d (.dK (gK gl)) c = some o := fun c o e n2 => by
              by_cases z : c = d
              · subst z; rw [upd_same]; rw [hd] at e; exact e
              · rw [upd_ne z]; exact gk c o e z n2
            have nrl : rl ≠ sd := ne_kind (g9 _ _ hrl8) hs9 (fun z => by cases z)
            refine hn2 _ _ ⟨fun c o e => kp c o (gg9 _ _ e) (ne_of_none e nsd), kp _ _ (g9 _ _ hrl8) nrl, kv', q7, by rw [upd_ne nsd9]; exact hsk, by omega, fun x => ?_, rfl⟩
            rw [seenk]
            have key := bf.key cl x
            have mem : x ∈ gl.map (·.1) ↔ ∃ v, gl.lookup x = some v := ⟨fun h => by
              cases e : gl.lookup x with
              | none => exact absurd h (lookup_none_key e)
              | some v => exact ⟨v, rfl⟩, fun ⟨v, h⟩ => lookup_key h⟩
            rw [mem, key]
            constructor
            · rintro (⟨r, h1, h2⟩ | h)
              · exact ⟨r, by omega, h2⟩
              · exact ⟨j, by omega, h⟩
            · rintro ⟨r, h1, h2⟩
              by_cases z : r = j
              · exact .inr (by rw [← z]; exact h2)
              · exact .inl ⟨r, by omega, h2⟩
      rintro _ H9 ⟨g9, hrl9, kvs9, p7, hs9, len9, seen9, rfl⟩
      refine ⟨_, rfl, _, rfl, rl, _, rfl, .inl (SqL.of hrl9), _, _, rfl, rfl, .inr ?_, ?_⟩
      · rw [List.length_map]
        have rl8 : (roomL F n j).length ≤ 8 := by
          have := nodup_in_len (n := n) (roomL_pw F n j).2 fun a ha => (roomL_mem.mp ha).1
          omega
        omega
      · have en : cntL F n (j + 1) = cntL F n j * ((roomL F n j).length : Int) := by unfold cntL; rw [repsU_yes rep, List.map_append]; exact mulL_snoc _ _
        refine ⟨kvs9, some (.int (j : Int)), some (.ref rl), p7, g9, hs9, len9, seen9, ?_⟩
        rw [en, List.length_map]
        rfl
  rintro _ H6 ⟨kvs, o5, o6, o7, g6, hs6, len6, seen, rfl⟩
  exact ⟨_, rfl, q H6 g6⟩
end
open Classical in
theorem open_perm {n : Nat} {st : JS} {F : List Fc} (me : Mean n st F) {i : Nat} (im : i < st.hd.length) : ((st.frO (st.hdO i)).map fun z => (st.ldO i).getD z.toNat 0).Perm (roomL F n i) := by
  refine (List.perm_ext_iff_of_nodup (me.wf.dist im) (roomL_pw F n i).2).mpr fun a => ?_
  rw [me.room im, List.mem_map]
  constructor
  · rintro ⟨z, mz, rfl⟩
    obtain ⟨f0, d0⟩ := me.live
    obtain ⟨f, d, q⟩ := deal_pick me.wf d0 (st.hdO i) (st.hdO i) z z mz mz (fun _ => rfl)
    exact ⟨f, d, (q i im).1 rfl⟩
  · rintro ⟨f, ⟨s, h⟩, rfl⟩
    exact ⟨s (st.hdO i), (h i im).1, (h i im).2.symm⟩
open Classical in
theorem cnt_deal {n : Nat} {st : JS} {F : List Fc} (me : Mean n st F) : mulL (st.fr.map fun p => (p.2.length : Int)) = cntL F n st.hd.length := by
  rw [mulL_perm (fr_perm me.wf)]
  unfold cntL
  have er : reps st = repsU F st.hd.length := by
    unfold reps repsU
    refine List.filter_congr fun i hi => ?_
    have im := List.mem_range.mp hi
    rw [Bool.eq_iff_iff, decide_eq_true_iff, decide_eq_true_iff]
    exact ⟨fun h j hj c => h j hj ((me.conn j i (by omega) im).mpr c), fun h j hj z => h j hj ((me.conn j i (by omega) im).mp z)⟩
  rw [er]
  congr 1
  refine List.map_congr_left fun i hi => ?_
  have l := (open_perm me (repsU_mem.mp hi).1).length_eq
  rw [List.length_map] at l
  rw [l]
theorem room_conn {n : Nat} {F : List Fc} {x y : Nat} (c : Conn F x y) (h : roomL F n y = []) : roomL F n x = [] := by
  refine List.eq_nil_iff_forall_not_mem.mpr fun a ha => ?_
  obtain ⟨_, g, cl, hg⟩ := roomL_mem.mp ha
  have : ∃ b, g y = some b := by
    clear h
    induction c with
    | refl => exact ⟨a, hg⟩
    | step _ e ih =>
      obtain ⟨b, hb⟩ := ih
      exact ⟨_, cl.1 _ _ _ b e hb⟩
  obtain ⟨b, hb⟩ := this
  have mb : b ∈ roomL F n y := roomL_mem.mpr ⟨cl.2.2 y b hb, g, cl, hb⟩
  rw [h] at mb
  cases mb
theorem cnt_zero {n m : Nat} {F : List Fc} {i : Nat} (im : i < m) (h : roomL F n i = []) : cntL F n m = 0 := by
  obtain ⟨r, ri, pr, lst⟩ := least_of (P := fun j => Conn F j i) (m := i) .refl
  refine mulL_zero (List.mem_map.mpr ⟨r, repsU_mem.mpr ⟨by omega, fun k hk c => lst k hk (c.trans pr)⟩, ?_⟩)
  rw [room_conn pr h]
  rfl
theorem mul_setF {k : Nat} {v w : List Int} : ∀ {ps : List (Nat × List Int)}, (ps.map (·.1)).Nodup → ps.lookup k = some w → mulL ((setF k v ps).map fun p => (p.2.length : Int)) = (v.length : Int) * mulL ((ps.filter fun p => !decide (p.1 = k)).map fun p => (p.2.length : Int))
  | p :: ps, nd, h => by
    obtain ⟨n1, n2⟩ := List.nodup_cons.mp (show (p.1 :: ps.map (·.1)).Nodup from nd)
    have e0 : setF k v (p :: ps) = (if p.1 = k then (p.1, v) else p) :: setF k v ps := rfl
    rw [e0, List.filter_cons]
    by_cases e : p.1 = k
    · rw [if_pos e, if_neg (by rw [decide_eq_true e]; exact Bool.false_ne_true)]
      have es : setF k v ps = ps := by
        unfold setF
        refine (List.map_congr_left fun q hq => ?_).trans (List.map_id _)
        rw [if_neg (fun z => n1 (by rw [e, ← z]; exact List.mem_map.mpr ⟨q, hq, rfl⟩))]
        rfl
      have ef : ps.filter (fun p => !decide (p.1 = k)) = ps := List.filter_eq_self.mpr fun q hq => by
        rw [decide_eq_false (fun z => n1 (by rw [e, ← z]; exact List.mem_map.mpr ⟨q, hq, rfl⟩))]; rfl
      rw [es, ef]
      rfl
    · rw [if_neg e, if_pos (by rw [decide_eq_false e]; rfl)]
      rw [List.lookup_cons, beq_eq_false_iff_ne.mpr (fun z => e z.symm)] at h
      show (p.2.length : Int) * mulL ((setF k v ps).map _) = (v.length : Int) * ((p.2.length : Int) * mulL _)
      rw [mul_setF n2 h, ← Int.mul_assoc, ← Int.mul_assoc, Int.mul_comm (p.2.length : Int)]
theorem Mean.prs' {n : Nat} {st : JS} {F : List Fc} (me : Mean n st F) {x y : Nat} (hx : x < st.hd.length) (hy : y < st.hd.length) {u v : Int} : (u, v) ∈ st.prs x y ↔ ∃ f, Deal st f ∧ f x = u ∧ f y = v := by
  constructor
  · exact deal_prs me.wf hx hy me.live
  · rintro ⟨f, d, rfl, rfl⟩
    exact prs_deal me.wf hx hy d
section
variable {n i j : Nat} {st st1 : JS} {F : List Fc} {tn ns : List Int} {k : Str}
theorem tie_core (me : Mean n st F) (hi : i < st.hd.length) (hj : j < st.hd.length) (hk : k ≠ saidK) (ok : FOk n st.hd.length ⟨k, i, (j : Int), tn⟩) (ms : ∀ x, x ∈ ns ↔ (x, ap tn x) ∈ st.prs i j) (pw : ns.Pairwise (· < ·)) (nne : ns ≠ [])
    (wf1 : WF n st1) (len1 : st1.hd.length = st.hd.length) (iff1 : ∀ f, Deal st1 f ∧ f i ∈ ns ↔ Deal st f ∧ f j = ap tn (f i)) (hdj : HdJoin st st1 i j) (h1 : st1.hdO i = st.hdO i) (h2 : st1.ldO i = st.ldO i) (h3 : st1.frO (st.hdO i) = st.frO (st.hdO i))
    (h4 : (st1.fr.filter fun p => !decide (p.1 = st.hdO i)).map (fun p => (p.2.length : Int)) = frLens [(st.hdO i : Int), (st.hdO j : Int)] st.fr) : (ns.length : Int) * mulL (frLens [(st.hdO i : Int), (st.hdO j : Int)] st.fr) = cntL (F ++ [⟨k, i, (j : Int), tn⟩]) n st.hd.length := by
  have hi1 : i < st1.hd.length := by rw [len1]; exact hi
  have to : TieOut n st (st1.setFr (st1.hdO i) ((st1.frO (st1.hdO i)).filter fun z => decide ((st1.ldO i).getD z.toNat 0 ∈ ns))) true i j tn := by
    refine ⟨wf1.setFr hi1, len1, fun _ => ⟨?_, fun f => (narrow_deal wf1 hi1 ns f).trans (iff1 f)⟩, (fun z => nomatch z), fun _ => hdj⟩
    obtain ⟨x, mx⟩ : ∃ x, x ∈ ns := by
      cases ns with
      | nil => exact absurd rfl nne
      | cons a r => exact ⟨a, List.mem_cons_self⟩
    obtain ⟨f, d, e1, e2⟩ := deal_prs me.wf hi hj me.live ((ms x).mp mx)
    exact ⟨f, (narrow_deal wf1 hi1 ns f).mpr ((iff1 f).mpr ⟨d, by rw [e2, e1]⟩)⟩
  have me' := (tie_mean me to hk ok).1 rfl
  have cd := cnt_deal me'
  rw [to.len] at cd
  rw [← cd]
  show _ = mulL ((setF (st1.hdO i) _ st1.fr).map _)
  rw [mul_setF wf1.nf (wf1.frGet hi1).1, h1, h4]
  congr 1
  have pf : (((st1.frO (st.hdO i)).filter fun z => decide ((st1.ldO i).getD z.toNat 0 ∈ ns)).map fun z => (st.ldO i).getD z.toNat 0).Perm ns := by
    have nd1 : (((st1.frO (st.hdO i)).filter fun z => decide ((st1.ldO i).getD z.toNat 0 ∈ ns)).map fun z => (st.ldO i).getD z.toNat 0).Nodup := by
      rw [h3]
      exact (List.filter_sublist.map _).nodup (me.wf.dist hi)
    have nd2 : ns.Nodup := by rw [List.nodup_iff_pairwise_ne]; exact pw.imp fun h => by omega
    refine (List.perm_ext_iff_of_nodup nd1 nd2).mpr fun a => ?_
    rw [List.mem_map, h2, h3]
    constructor
    · rintro ⟨z, mz, rfl⟩
      exact of_decide_eq_true (List.mem_filter.mp mz).2
    · intro ma
      have mp := (ms a).mp ma
      have ex : ∃ z ∈ st.frO (st.hdO i), ap (st.ldO i) z = a := by
        by_cases e : st.hdO i = st.hdO j
        · unfold JS.prs prsOf at mp
          rw [if_pos e] at mp
          obtain ⟨z, mz, ez⟩ := List.mem_map.mp mp
          exact ⟨z, mz, congrArg (·.1) ez⟩
        · exact (prs_apart e mp).1
      obtain ⟨z, mz, rfl⟩ := ex
      exact ⟨z, List.mem_filter.mpr ⟨mz, decide_eq_true ma⟩, rfl⟩
  have l := pf.length_eq
  rw [List.length_map] at l
  rw [← l]
theorem tie_cnt (me : Mean n st F) (hi : i < st.hd.length) (hj : j < st.hd.length) (m4 : st.hd.length ≤ 400) (ft : full tn = true) (tl : tn.length = n) (hk : k ≠ saidK) (pm : ns.Perm (((st.prs i j).filter fun q => decide (tn.getD q.1.toNat 0 = q.2)).map (·.1))) (pw : ns.Pairwise (· < ·)) :
    (ns.length : Int) * mulL (frLens [(st.hdO i : Int), (st.hdO j : Int)] st.fr) = cntL (F ++ [⟨k, i, (j : Int), tn⟩]) n st.hd.length ∧ ns = roomL (F ++ [⟨k, i, (j : Int), tn⟩]) n i := by
  have ms := left_mem pm
  have ok : FOk n st.hd.length ⟨k, i, (j : Int), tn⟩ := ⟨hi, fun _ => ⟨⟨by show (0 : Int) ≤ (j : Int); omega, by show ((j : Int)).toNat < _; omega⟩, ft, tl⟩⟩
  have sat : ∀ f, SatC f ⟨k, i, (j : Int), tn⟩ ↔ f j = ap tn (f i) := fun f => ⟨fun h => by have := h.2 hk; rwa [show ((⟨k, i, (j : Int), tn⟩ : Fc).oth.toNat) = j from Int.toNat_natCast j] at this, fun h => ⟨fun z => absurd z hk, fun _ => by rw [show ((⟨k, i, (j : Int), tn⟩ : Fc).oth.toNat) = j from Int.toNat_natCast j]; exact h⟩⟩
  have okA : ∀ c' ∈ F ++ [⟨k, i, (j : Int), tn⟩], FOk n st.hd.length c' := fun c' m' => by
    rcases List.mem_append.mp m' with m' | m'
    · exact me.fok c' m'
    · rw [List.mem_singleton] at m'; rw [m']; exact ok
  have room : ns = roomL (F ++ [⟨k, i, (j : Int), tn⟩]) n i := by
    refine List.Perm.eq_of_pairwise (le := (· ≤ ·)) (fun a b _ _ h1 h2 => by omega) (pw.imp fun h => by omega) (roomL_pw _ n i).1 ((List.perm_ext_iff_of_nodup (by rw [List.nodup_iff_pairwise_ne]; exact pw.imp fun h => by omega) (roomL_pw _ n i).2).mpr fun a => ?_)
    rw [ms, me.prs' hi hj, roomL_mem]
    constructor
    · rintro ⟨f, d, rfl, e⟩
      obtain ⟨inr, s1⟩ := (me.iff f).mp d
      refine ⟨inr i hi, room_of_deal okA hi inr fun c' m' => ?_⟩
      rcases List.mem_append.mp m' with m' | m'
      · exact s1 c' m'
      · rw [List.mem_singleton] at m'; rw [m']; exact (sat f).mpr e
    · rintro ⟨_, g, cl, hg⟩
      obtain ⟨f0, d0⟩ := me.live
      obtain ⟨i0, s0⟩ := (me.iff f0).mp d0
      obtain ⟨f, i1, s1, e⟩ := deal_of_room okA i0 (fun c' m' => by
        rcases List.mem_append.mp m' with m' | m'
        · exact .inr (s0 c' m')
        · rw [List.mem_singleton] at m'; rw [m']; exact .inl rfl) cl hg
      refine ⟨f, (me.iff f).mpr ⟨i1, fun c' m' => s1 c' (List.mem_append_left _ m')⟩, e, ?_⟩
      have := (sat f).mp (s1 _ (List.mem_append_right _ List.mem_cons_self))
      rw [this, e]
  refine ⟨?_, room⟩
  by_cases nne : ns = []
  · rw [cnt_zero hi (by rw [← room]; exact nne), nne]
    exact Int.zero_mul _
  by_cases e : st.hdO i = st.hdO j
  · refine tie_core me hi hj hk ok ms pw nne me.wf rfl (tie_same me.wf hi hj e ms) (hdj_same e) rfl rfl rfl ?_
    unfold frLens
    congr 1
    refine List.filter_congr fun p _ => ?_
    rw [← e]
    congr 1
    rw [Bool.eq_iff_iff, decide_eq_true_iff, decide_eq_true_iff]
    simp only [List.mem_cons, List.not_mem_nil, or_false, or_self]
    omega
  · obtain ⟨ma, mb, two, ⟨nda, ima⟩, ndb, imb⟩ := me.wf.two hi hj m4 e
    obtain ⟨fi, li⟩ := me.wf.ful hi
    obtain ⟨fj, lj⟩ := me.wf.ful hj
    have wfm := me.wf.mv hj hi (fun z => e z.symm) ndb imb nda ima two.mA (toh := aft (inv (st.ldO j)) (aft tn (st.ldO i))) (full_aft (inv_full fj) (full_aft ft fi (by omega)) (by rw [inv_length, aft_len]; omega)) (by rw [aft_len, aft_len]; exact li)
    refine tie_core me hi hj hk ok ms pw nne wfm (mv_len _ _ _) (tie_mvB me.wf hi hj e ndb imb ft tl ms) ((hdj_mv me.wf imb _ (fun z => e z.symm)).symm) ?_ ?_ (mv_frO _ _ _ e) ?_
    · rw [mv_hdO (mb := ma) me.wf imb _ hi, if_neg e]
    · rw [mv_ldO (mb := ma) me.wf ndb imb _ _ hi, if_neg e]
    · show ((drp (st.hdO j) st.fr).filter _).map _ = _
      unfold drp frLens
      rw [List.filter_filter]
      congr 1
      refine List.filter_congr fun p _ => ?_
      rw [Bool.eq_iff_iff]
      simp only [Bool.and_eq_true, Bool.not_eq_true', decide_eq_false_iff_not, decide_eq_true_iff, List.mem_cons, List.not_mem_nil, or_false, not_or]
      omega
end
def spLaw (K : PySem.W.Frag) : Sp := fun vs H Q _ => ∃ (a : Addr) (ns : List Int), vs = [.ref a] ∧ SqL K H a (ns.map V.int) ∧ ns.length ≤ 63 ∧ ∀ H', Q (.bl true) H'
def sgN (s1 bp x td fa dl : Addr) (n m : Nat) (cnt : Int) (o10 o11 o12 o13 o14 o15 : Option V) : St := [some (.ref s1), some (.int (n : Int)), some (.ref bp), some (.ref x), some (.bl true), some (.ref td), some (.ref fa), some (.int (m : Int)), some (.int cnt), some (.ref dl), o10, o11, o12, o13, o14, o15]
abbrev askK : Str := "asked"
structure NSt (H : Hp) (C : Addr) (n b : Nat) (l3 : JL) (st : JS) (F : List Fc) (fa td bp dl : Addr) (ts : List Addr) (ds : List Int) (kvs : List (Key × V)) : Prop where
  htd : H td = some (.dK kvs)
  len : kvs.length ≤ b
  fat : FAt H fa td n F
  ja : JAt H C n l3 st
  ba : BaseAt H bp n ts
  hdl : H dl = some (.lst (ds.map V.int))
section
variable {H H' : Hp} {C : Addr} {n b : Nat} {l3 : JL} {st : JS} {F : List Fc} {fa td bp dl : Addr} {ts : List Addr} {ds : List Int} {kvs : List (Key × V)}
theorem NSt.same (g : Same H H') (h : NSt H C n b l3 st F fa td bp dl ts ds kvs) : NSt H' C n b l3 st F fa td bp dl ts ds kvs :=
  ⟨g _ _ h.htd, h.len, h.fat.same g, h.ja.same g, h.ba.out (fp := []) (Out.of g) (fun z => nomatch z) (fun _ _ _ z => nomatch z), g _ _ h.hdl⟩
theorem NSt.put (h : NSt H C n b l3 st F fa td bp dl ts ds kvs) {v : V} (nt : td ∉ l3.fp) (keys : ∀ c ∈ F, c.k ≠ saidK → c.k ≠ askK) (br : Bar td H H') (e : H' td = some (.dK (putK kvs (.inr askK) v))) : NSt H' C n (b + 1) l3 st F fa td bp dl ts ds (putK kvs (.inr askK) v) := by
  have nb : bp ∉ [td] := fun z => by rw [List.mem_singleton] at z; exact ne_kind h.ba.at_ h.htd (fun z => by cases z) z
  refine ⟨e, by have := length_putK kvs (.inr askK) v; have := h.len; omega, h.fat.put h.htd br e keys (by decide +kernel), h.ja.bar h.htd nt br, h.ba.out (fp := [td]) (fun b o q n => br _ _ q (fun z => n (by rw [z]; exact List.mem_cons_self))) nb (fun b xs hb z => by rw [List.mem_singleton] at z; exact ne_kind hb h.htd (fun z => by cases z) z), br _ _ h.hdl (ne_kind h.hdl h.htd (fun z => by cases z))⟩
end
theorem tieK_ask : ∀ k ∈ List.range 64, tieK k ≠ askK := by decide +kernel
inductive NInv (C : Addr) (n : Nat) (l3 : JL) (st : JS) (F : List Fc) (fa td bp dl s1 x : Addr) (ts : List Addr) (ds : List Int) (cnt : Int) (k : Nat) (σ : St) (H6 : Hp) : Prop
  | mk (kvs : List (Key × V)) (o10 o11 o12 o13 o14 o15 : Option V) (ns : NSt H6 C n (210 + 2 * k) l3 st F fa td bp dl ts ds kvs) (e : σ = sgN s1 bp x td fa dl n st.hd.length cnt o10 o11 o12 o13 o14 o15) : NInv C n l3 st F fa td bp dl s1 x ts ds cnt k σ H6
inductive NTurn (C : Addr) (n b : Nat) (l3 : JL) (st : JS) (F : List Fc) (fa td bp dl s1 x : Addr) (ts : List Addr) (ds : List Int) (cnt : Int) (o10 o11 o12 o13 o14 o15 : Option V) (σ : St) (H6 : Hp) : Prop
  | mk (kvs : List (Key × V)) (u : Addr) (tn : List Int) (ns : NSt H6 C n b l3 st F fa td bp dl ts ds kvs) (vu : valV kvs (.inr askK) = some (.ref u)) (hu : tupA H6 u tn) (ft : full tn = true) (tl : tn.length = n) (e : σ = sgN s1 bp x td fa dl n st.hd.length cnt o10 o11 o12 o13 o14 o15) : NTurn C n b l3 st F fa td bp dl s1 x ts ds cnt o10 o11 o12 o13 o14 o15 σ H6
section
variable {P : Program} {w : World} {K : PySem.W.Frag} {mg : Str → Option Value} {base : Heap} {f C : Addr} {fd : FuncData}
theorem sc_law : FnScope ["_law_script", "_law_size", "_law_base_here", "_law_made", "_law_good_here", "_law_turns", "_law_facts", "_law_many", "_law_count", "_law_drawn", "_law_k", "_law_one", "_law_other", "_law_rows", "_law_k2", "_law_told"] ["_law_script"] (defScope s_law) := ⟨rfl, rfl, rfl, by decide +kernel, rfl, by decide +kernel, by decide +kernel⟩
theorem ok_law (F : Fun K "law" "law" s_law f fd) (h_law_cell : HasFn P w K mg base 1 "_law_cell" ["_law_script", "_law_k"] (spCell K)) (h_law_draws : HasFn P w K mg base 1 "_law_draws" ["_law_cell_here", "_law_parts"] (spDraws K)) (h_law_turn : HasFn P w K mg base 1 "_law_turn" ["_law_code", "_law_size"] spTurn) (h_law_base : HasFn P w K mg base 3 "_law_base" ["_law_script", "_law_size"] (spBase K)) (h_law_joined : HasFn P w K mg base 6 "_law_joined" ["_law_made", "_law_cells", "_law_size", "_law_base_here"] (spJoined C))
    (h_law_same : HasFn P w K mg base 4 "_law_same" ["_law_found", "_law_due"] (spSame 4)) (h_law_room : HasFn P w K mg base 3 "_law_room" ["_law_facts", "_law_turns", "_law_name"] spRoom) (h_law_dealt : HasFn P w K mg base 4 "_law_dealt" ["_law_facts", "_law_turns", "_law_names"] spDealtL) (h_Joins : HasMk P w K mg base 1 "Joins" C ["self", "size"] (spJInit C))
    (h_Joins_left : HasMt P w K mg base 4 "left" C ["self", "one", "other", "turn"] (spLeft C)) (h_Joins_dealt : HasMt P w K mg base 2 "dealt" C ["self"] (spDealt C)) (h_Joins_dealt_with : HasMt P w K mg base 5 "dealt_with" C ["self", "one", "other", "turn"] (spDealtW C)) (bl : Bl mg) :
    FnOk P w K mg base (CXe P w) 7 f fd ["_law_script"] (spLaw K) := by
  refine F.okX sc_law (fun vs H Q E h => ?_) (fun cdv A outer s H vs Q E hr h => ?_)
  · obtain ⟨a, ns, rfl, _⟩ := h
    rfl
  obtain ⟨a, ns, rfl, hs, hlen, q⟩ := h
  have hu := hr.units0
  refine ⟨_, (pss_cons (ps_set (i := 0) sc_law.nd rfl (Or.inl rfl) (pe_slice (sl_listN (K := K) rfl) (pv 0) po_none (po_some pe_int))) (pss_cons (ps_set (i := 1) sc_law.nd rfl (Or.inl rfl) (pe_op op_add pe_int (pe_op op_mod (pe_fn h_law_cell hr (by omega) rfl (pa_cons (pv 0) (pa_cons pe_int pa_nil))) pe_int))) (pss_cons (ps_set (i := 2) sc_law.nd rfl (Or.inl rfl) (pe_fn h_law_base hr (by omega) rfl (pa_cons (pv 0) (pa_cons (pv 1) pa_nil)))) (pss_cons (ps_set (i := 3) sc_law.nd rfl (Or.inl rfl) (pe_mk h_Joins hr (by omega) rfl (pa_cons (pv 1) pa_nil))) (pss_cons (ps_if (pt_cmpR op_ne (pe_mt0 h_Joins_dealt hr (by omega) (pv 3)) pe_int (nomark _)) (pss_one (ps_ret pe_bl)) pss_nil) (pss_cons (ps_asg (pe_fn h_law_joined hr (by omega) rfl (pa_cons (pv 3) (pa_cons (pe_slice (sl_listN (K := K) rfl) (pv 0) (po_some pe_int) po_none) (pa_cons (pv 1) (pa_cons (pv 2) pa_nil))))) (pg_tupK (K := K) (n := 4) rfl rfl (pgs_cons (pg_name (i := 4) sc_law.nd rfl (Or.inl rfl)) (pgs_cons (pg_name (i := 5) sc_law.nd rfl (Or.inl rfl)) (pgs_cons (pg_name (i := 6) sc_law.nd rfl (Or.inl rfl)) (pgs_cons (pg_name (i := 7) sc_law.nd rfl (Or.inl rfl)) pgs_nil)))))) (pss_cons (ps_set (i := 8) sc_law.nd rfl (Or.inl rfl) (pe_fn h_law_dealt hr (by omega) rfl (pa_cons (pv 6) (pa_cons (pv 5) (pa_cons (pe_callTy (call_list_rngN rfl) rfl bl.n_list bt_list (pa_cons (pe_callTy call_range1N rfl bl.n_range bt_range (pa_cons (pv 7) pa_nil)) pa_nil)) pa_nil))))) (pss_cons (ps_if (PW.pt (pw_or (pt_not (pt_val (pv 4))) (pw_or1 (pt_not (pt_val (pe_fn h_law_same hr (by omega) rfl (pa_cons (pe_mt0 h_Joins_dealt hr (by omega) (pv 3)) (pa_cons (pv 8) pa_nil)))))))) (pss_one (ps_ret pe_bl)) pss_nil) (pss_cons (ps_set (i := 9) sc_law.nd rfl (Or.inl rfl) (pe_fn h_law_draws hr (by omega) rfl (pa_cons (pe_op op_add (pe_fn h_law_cell hr (by omega) rfl (pa_cons (pv 0) (pa_cons pe_int pa_nil))) pe_int) (pa_cons (pe_lstN (pa_cons pe_int (pa_cons pe_int (pa_cons pe_int (pa_cons pe_int (pa_cons pe_int pa_nil)))))) pa_nil)))) (pss_cons (ps_for ownF rfl (pi_range1 rfl bl.n_range (pa_cons (pe_callB (call_min2 rfl) rfl bl.n_min bt_min (pa_cons (pv 7) (pa_cons pe_int pa_nil))) pa_nil)) (pg_name (i := 10) sc_law.nd rfl (Or.inl rfl)) (pss_cons (ps_set (i := 11) sc_law.nd rfl (Or.inl rfl) (pe_op op_mod (pe_op op_add (pe_ix (ix_listK (K := K) rfl) (pv 9) pe_int (fun _ _ => rfl)) (pv 10)) (pv 7))) (pss_cons (ps_set (i := 12) sc_law.nd rfl (Or.inl rfl) (pe_op op_mod (pe_op op_add (pe_ix (ix_listK (K := K) rfl) (pv 9) pe_int (fun _ _ => rfl)) (pe_op op_mul (pv 10) (pe_ix (ix_listK (K := K) rfl) (pv 9) pe_int (fun _ _ => rfl)))) (pv 7))) (pss_cons (ps_dputN (hu_of hr) (pv 5) pe_str (pe_ix (ix_listK (K := K) rfl) (pv 2) (pe_op op_mod (pe_op op_add (pe_ix (ix_listK (K := K) rfl) (pv 9) pe_int (fun _ _ => rfl)) (pv 10)) pe_int) (fun _ _ => rfl))) (pss_cons (ps_if (pt_cmpR op_eq (pv 10) pe_int (nomark _)) (pss_one (ps_dputN (hu_of hr) (pv 5) pe_str (pe_fn h_law_turn hr (by omega) rfl (pa_cons (pe_ix (ix_listK (K := K) rfl) (pv 9) pe_int (fun _ _ => rfl)) (pa_cons (pv 1) pa_nil))))) pss_nil) (pss_cons (ps_set (i := 13) sc_law.nd rfl (Or.inl rfl) (pe_op op_catN (pv 6) (pe_lstN (pa_cons (pe_tupN (pa_cons (pe_callB (lenK (K := K) rfl) rfl bl.n_len bt_len (pa_cons (pv 6) pa_nil)) (pa_cons pe_str (pa_cons (pv 11) (pa_cons (pv 12) pa_nil))))) pa_nil)))) (pss_cons (ps_for ownF rfl (pi_range1 rfl bl.n_range (pa_cons pe_int pa_nil)) (pg_name (i := 14) sc_law.nd rfl (Or.inl rfl)) (pss_cons (ps_set (i := 15) sc_law.nd rfl (Or.inl rfl) (pe_mt h_Joins_left hr (by omega) (pv 3) (pa_cons (pv 11) (pa_cons (pv 12) (pa_cons (pe_dget (hu_of hr) (pv 5) pe_str (fun _ _ => rfl)) pa_nil))))) (pss_cons (ps_if (pt_not (pt_val (pe_fn h_law_same hr (by omega) rfl (pa_cons (pv 15) (pa_cons (pe_fn h_law_room hr (by omega) rfl (pa_cons (pv 13) (pa_cons (pv 5) (pa_cons (pv 11) pa_nil)))) pa_nil))))) (pss_one (ps_ret pe_bl)) pss_nil) (pss_one (ps_expr (pe_bmK (K := K) rfl (pe_bm PySem.F.plainAttrs_list PySem.F.slot_list_append PySem.F.type_list_append mt_appendN (pv 15) (pa_cons pe_int pa_nil)))))))) (pss_one (ps_if (pt_not (pt_val (pe_fn h_law_same hr (by omega) rfl (pa_cons (pe_mt h_Joins_dealt_with hr (by omega) (pv 3) (pa_cons (pv 11) (pa_cons (pv 12) (pa_cons (pe_dget (hu_of hr) (pv 5) pe_str (fun _ _ => rfl)) pa_nil)))) (pa_cons (pe_fn h_law_dealt hr (by omega) rfl (pa_cons (pv 13) (pa_cons (pv 5) (pa_cons (pe_callTy (call_list_rngN rfl) rfl bl.n_list bt_list (pa_cons (pe_callTy call_range1N rfl bl.n_range bt_range (pa_cons (pv 7) pa_nil)) pa_nil)) pa_nil)))) pa_nil))))) (pss_one (ps_ret pe_bl)) pss_nil))))))))) (pss_one (ps_ret (pe_fn h_law_same hr (by omega) rfl (pa_cons (pe_mt0 h_Joins_dealt hr (by omega) (pv 3)) (pa_cons (pv 8) pa_nil))))))))))))))), ?_⟩
  have sz : (10000 : Nat) ≤ sizeLine := by rw [sizeLine_eq]; omega
  obtain ⟨ms, em⟩ := cut_ints ns none (some 63)
  have lms : ms.length ≤ ns.length := by
    have := cutV_length (ns.map V.int) none (some 63)
    rw [em, List.length_map, List.length_map] at this
    exact this
  refine setT ?_
  refine ⟨_, rfl, _, rfl, a, _, rfl, hs, fun s1 H0 n1 g0 hs0 => ?_⟩
  rw [em] at hs0
  refine setT ?_
  refine ⟨_, rfl, s1, ms, 0, rfl, SqL.of hs0, Int.le_refl 0, fun c0 => ⟨_, _, rfl, rfl, (by show (0 : Int) < 8; decide), _, _, rfl, rfl, ?_⟩⟩
  dsimp only
  have m0 := Int.emod_nonneg c0 (show (8 : Int) ≠ 0 by decide)
  have m1 := Int.emod_lt_of_pos c0 (show (0 : Int) < 8 by decide)
  obtain ⟨n, en⟩ : ∃ n : Nat, 1 + c0 % 8 = (n : Int) := ⟨(1 + c0 % 8).toNat, by omega⟩
  rw [en]
  refine setT ?_
  refine ⟨_, rfl, _, rfl, s1, ms, n, rfl, hs0, by omega, by omega, fun bp ts H1 nbp g1 ba => ?_⟩
  refine setT ?_
  refine ⟨_, rfl, fun x dx nx ndx nd => ?_⟩
  have nx' : upd H1 dx (.own x) x = none := by rw [upd_ne (fun z => nd z.symm)]; exact nx
  have gc1 : Same H1 (upd (upd H1 dx (.own x)) x (.ins C dx [])) := (same_new ndx _).trans (same_new nx' _)
  refine ⟨x, dx, n, rfl, upd_same, fun l1 H2 eJ1 em1 fr1 b2 ja1 => ⟨rfl, ?_⟩⟩
  have f1 : ∀ b ∈ l1.fp, H1 b = none := fun b hb => by
    by_cases z : b = x
    · rw [z]; exact nx
    · exact gc1.free (fr1 b hb z)
  have g2 : Same H1 H2 := fun b o e => b2 _ _ (gc1 _ _ e) (ne_of_none e nx)
  obtain ⟨dx1, ho1⟩ := ja1.obj
  refine seqK fun kk hk => ?_
  refine ⟨_, rfl, l1.J, dx1, _, by rw [eJ1], ho1, rfl, l1, ⟨[], [], [], []⟩, n, by rw [eJ1]; rfl, ja1, (fun p hp => by cases hp), fun H2' gt => ?_⟩
  refine ⟨rfl, _, rfl, ?_⟩
  rw [show (mulL (List.map (fun p : Nat × List Int => (p.2.length : Int)) [])) = 1 from rfl, decide_eq_true rfl]
  refine iteF (nextE (hk _ _ ?_))
  clear hk kk
  obtain ⟨ms3, em3⟩ := cut_ints ms (some 3) none
  have lm3 : ms3.length ≤ ms.length := by
    have := cutV_length (ms.map V.int) (some 3) none
    rw [em3, List.length_map, List.length_map] at this
    exact this
  refine ⟨_, rfl, _, rfl, _, rfl, s1, _, rfl, SqL.of (gt _ _ (g2 _ _ (g1 _ _ hs0))), fun s4 H4 n4 g4 hs4 => ?_⟩
  rw [em3] at hs4
  have ja14 := (ja1.same gt).same g4
  have ba4 : BaseAt H4 bp n ts := ba.out (fp := []) (Out.of ((g2.trans gt).trans g4)) (fun z => nomatch z) (fun _ _ _ z => nomatch z)
  refine ⟨_, rfl, _, rfl, l1, n, s4, bp, ms3, ts, by rw [eJ1]; rfl, ja14, hs4, (ja1.same gt).ne n4, by omega, by omega, by omega, ba4, (fun z => by have := f1 _ z; rw [ba.at_] at this; cases this), fun rp l3 st F td fa H5 hrp js me mj fj => ?_⟩
  refine ⟨rp, _, rfl, SqT.of hrp, rfl, _, _, rfl, nameE ⟨_, _, rfl, nameE ⟨_, _, rfl, nameE ⟨_, _, rfl, nameE ⟨rfl, ?_⟩⟩⟩⟩⟩
  have e3J : l3.J = x := js.eJ.trans eJ1
  have s1fp : s1 ∉ l1.fp := fun z => by have := f1 _ z; rw [g1 _ _ hs0] at this; cases this
  have hs5 : H5 s1 = some (.lst (ms.map V.int)) := js.out _ _ (g4 _ _ (gt _ _ (g2 _ _ (g1 _ _ hs0)))) s1fp
  dsimp only
  have n8 : n ≤ 8 := by omega
  have hnl_of : ∀ {H6 : Hp} {nl : Addr}, H6 nl = some (.lst ((upto st.hd.length).map V.int)) → H6 nl = some (.lst (nsV (List.range st.hd.length))) := fun {H6 nl} h => by rw [h, upto, List.map_map]; rfl
  have tdl : td ∉ l3.fp := js.ntd.2
  have keys : ∀ c ∈ F, c.k ≠ saidK → c.k ≠ askK := fun c mc nk z => by
    obtain ⟨q', ql, qe⟩ := js.keys c mc nk
    exact tieK_ask q' (List.mem_range.mpr (by omega)) (qe.symm.trans z)
  refine seqK fun kk hk => ?_
  refine ⟨_, rfl, _, rfl, _, rfl, (st.hd.length : Int), rfl, fun r H6 nr g6 er => ⟨r, st.hd.length, rfl, er, by omega, fun nl H7 nnl g7 hnl => ⟨fa, td, nl, n, st.hd.length, F, rfl, (js.fat.same g6).same g7, me.fok, n8, by omega, by omega, hnl_of hnl, fun H8 g8 => ?_⟩⟩⟩
  have g58 := (g6.trans g7).trans g8
  refine hk _ _ ?_
  clear hk kk
  obtain ⟨dx3, ho3⟩ := js.ja.obj
  refine seqK fun kk hk => ?_
  refine ⟨_, rfl, _, rfl, iteF ?_⟩
  refine ⟨_, rfl, l3.J, dx3, _, by rw [e3J], g58 _ _ ho3, rfl, l3, st, n, by rw [e3J]; rfl, js.ja.same g58, me.wf.frFew n8, fun H9 g9 => ?_⟩
  refine ⟨_, rfl, .int _, .int _, .int (cntL F n st.hd.length), 3, rfl, rfl, by rw [cnt_deal me]; rfl, rfl, fun H10 g10 => ⟨_, rfl, iteF (nextE (hk _ _ ?_))⟩⟩
  clear hk kk
  have g510 := (g58.trans g9).trans g10
  refine seqK fun kk hk => ?_
  refine ⟨_, rfl, s1, ms, 2, rfl, SqL.of (g510 _ _ hs5), by omega, fun c1 => ⟨_, _, rfl, rfl, by show 5 ≤ sizeLine; omega, fun pl H11 npl g11 hpl => ⟨c1 + 1, pl, [4, 40320, 61, 59, 3], rfl, SqL.of hpl, by decide, by decide, fun dl ds H12 ndl g12 hdl bd => ?_⟩⟩⟩
  obtain ⟨e0, e1, e2, e3, e4, rfl, ⟨b0, b0'⟩, ⟨b1, b1'⟩, ⟨b2', b2''⟩, ⟨b3, b3'⟩, ⟨b4, b4'⟩⟩ := paired5 bd
  refine hk _ _ ?_
  clear hk kk
  have g512 := (g510.trans g11).trans g12
  have ba5 : BaseAt H5 bp n ts := ba4.out js.out (fun z => by have := f1 _ z; rw [ba.at_] at this; cases this) (fun b xs hb => ja14.notup hb)
  obtain ⟨kv0, hkv0, lkv0⟩ := js.dl
  have ns0 : NSt H12 C n 200 l3 st F fa td bp dl ts [e0, e1, e2, e3, e4] kv0 := ⟨g512 _ _ hkv0, lkv0, js.fat.same g512, js.ja.same g512, ba5.out (fp := []) (Out.of g512) (fun z => nomatch z) (fun _ _ _ z => nomatch z), hdl⟩
  refine seq_mid (NInv C n l3 st F fa td bp dl s1 x ts [e0, e1, e2, e3, e4] (cntL F n st.hd.length) 5) (fun nx0 hn0 => ?_) ?_
  · refine ⟨_, rfl, _, _, rfl, ?_⟩
    have mk : ∃ k5 : Nat, (if (5 : Int) < (st.hd.length : Int) then (5 : Int) else (st.hd.length : Int)) = (k5 : Int) ∧ k5 ≤ 5 ∧ k5 ≤ st.hd.length := by
      by_cases z : (5 : Int) < (st.hd.length : Int)
      · exact ⟨5, by rw [if_pos z]; rfl, by omega, by omega⟩
      · exact ⟨st.hd.length, by rw [if_neg z], by omega, by omega⟩
    obtain ⟨k5, ek5, l5, lm5⟩ := mk
    rw [ek5]
    have k5n : ((k5 : Int)).toNat = k5 := Int.toNat_natCast _
    refine ⟨(k5 : Int), rfl, by omega, by omega, for_range (lo := 0) (n := ((k5 : Int)).toNat) (NInv C n l3 st F fa td bp dl s1 x ts [e0, e1, e2, e3, e4] (cntL F n st.hd.length))
      ⟨kv0, none, none, none, none, none, none, ⟨ns0.htd, by have := ns0.len; omega, ns0.fat, ns0.ja, ns0.ba, ns0.hdl⟩, rfl⟩ ?_ (fun σ H6 ⟨kvs, p10, p11, p12, p13, p14, p15, h, e⟩ => hn0 _ _ ⟨kvs, p10, p11, p12, p13, p14, p15, ⟨h.htd, by have := h.len; omega, h.fat, h.ja, h.ba, h.hdl⟩, e⟩)⟩
    rintro k σ H6 hkl ⟨kvs, o10, o11, o12, o13, o14, o15, ns6, rfl⟩
    rw [Int.zero_add]
    rw [k5n] at hkl
    have mpos : (0 : Int) < (st.hd.length : Int) := by omega
    refine nameE (hideD fun D' hnx hrt hct => ?_)
    obtain ⟨i, ei, im⟩ : ∃ i : Nat, (e2 + (k : Int)) % (st.hd.length : Int) = (i : Int) ∧ i < st.hd.length := ⟨((e2 + (k : Int)) % (st.hd.length : Int)).toNat, (Int.toNat_of_nonneg (Int.emod_nonneg _ (by omega))).symm, by have := Int.emod_lt_of_pos (e2 + (k : Int)) mpos; have := Int.emod_nonneg (e2 + (k : Int)) (show (st.hd.length : Int) ≠ 0 by omega); omega⟩
    obtain ⟨j2, ej2, jm⟩ : ∃ i : Nat, (e3 + (k : Int) * e4) % (st.hd.length : Int) = (i : Int) ∧ i < st.hd.length := ⟨((e3 + (k : Int) * e4) % (st.hd.length : Int)).toNat, (Int.toNat_of_nonneg (Int.emod_nonneg _ (by omega))).symm, by have := Int.emod_lt_of_pos (e3 + (k : Int) * e4) mpos; have := Int.emod_nonneg (e3 + (k : Int) * e4) (show (st.hd.length : Int) ≠ 0 by omega); omega⟩
    refine seqK fun kk hk => ?_
    refine ⟨_, rfl, dl, _, _, .int e2, rfl, rfl, SqL.of ns6.hdl, rfl, _, rfl, _, _, rfl, rfl, _, rfl, _, _, rfl, rfl, mpos, ?_⟩
    dsimp only
    rw [ei]
    refine hk _ _ ?_
    clear hk kk
    refine seqK fun kk hk => ?_
    refine ⟨_, rfl, dl, _, _, .int e3, rfl, rfl, SqL.of ns6.hdl, rfl, _, rfl, _, rfl, dl, _, _, .int e4, rfl, rfl, SqL.of ns6.hdl, rfl, _, _, rfl, rfl, .inl ⟨by omega, by omega⟩, _, _, rfl, rfl, _, rfl, _, _, rfl, rfl, mpos, ?_⟩
    dsimp only
    rw [ej2]
    refine hk _ _ ?_
    clear hk kk
    have q4a := Int.emod_nonneg (e0 + (k : Int)) (show (4 : Int) ≠ 0 by decide)
    have q4b := Int.emod_lt_of_pos (e0 + (k : Int)) (show (0 : Int) < 4 by decide)
    have l4 : ((e0 + (k : Int)) % 4).toNat < ts.length := by rw [ns6.ba.four]; omega
    obtain ⟨t4, et4⟩ : ∃ t4, ts[((e0 + (k : Int)) % 4).toNat]? = some t4 := ⟨_, List.getElem?_eq_getElem l4⟩
    obtain ⟨r4, hr4, fr4, lr4⟩ := ns6.ba.all t4 (List.mem_of_getElem? et4)
    have at4 : atI (ts.map V.ref) ((e0 + (k : Int)) % 4) = some (.ref t4) := by
      have ed : (e0 + (k : Int)) % 4 = ((((e0 + (k : Int)) % 4).toNat : Nat) : Int) := (Int.toNat_of_nonneg q4a).symm
      rw [ed]; exact atI_nat (by rw [List.getElem?_map, et4]; rfl)
    have nl6 := ns6.len
    refine seqK fun kk hk => ?_
    refine ⟨_, rfl, _, rfl, dl, _, _, .int e0, rfl, rfl, SqL.of ns6.hdl, rfl, _, rfl, _, _, rfl, rfl, _, _, rfl, rfl, (by show (0 : Int) < 4; decide), bp, _, _, .ref t4, rfl, rfl, SqL.of ns6.ba.at_, at4, _, rfl, td, kvs, .inr askK, rfl, ns6.htd, rfl, by omega, fun H7 b7 e7 => ?_⟩
    have ns7 := ns6.put tdl keys b7 e7
    have hr47 := b7 _ _ (show H6 t4 = some (.tup (r4.map V.int)) from hr4) (ne_kind hr4 ns6.htd (fun z => by cases z))
    refine hk _ _ ?_
    clear hk kk
    refine if_mid (NTurn C n (210 + 2 * k + 2) l3 st F fa td bp dl s1 x ts [e0, e1, e2, e3, e4] (cntL F n st.hd.length) (some (.int (k : Int))) (some (.int (i : Int))) (some (.int (j2 : Int))) o13 o14 o15) (fun nx1 hn1 => ?_) ?_
    · refine ⟨_, rfl, rfl, _, rfl, ite2 (fun cc => ?_) (fun cc => nextE (hn1 _ _ ⟨_, t4, r4, ⟨ns7.htd, by have := ns7.len; omega, ns7.fat, ns7.ja, ns7.ba, ns7.hdl⟩, by rw [valV_put, if_pos rfl], hr47, fr4, lr4, rfl⟩))⟩
      refine ⟨_, rfl, dl, _, _, .int e1, rfl, rfl, SqL.of ns7.hdl, rfl, _, rfl, e1, n, rfl, by omega, fun t5 r5 H8 n5 g8 h5 p5 => ?_⟩
      obtain ⟨f5, l5'⟩ := perm_full p5
      have ns8 := ns7.same g8
      have nl8 := ns8.len
      refine ⟨_, rfl, td, _, .inr askK, rfl, ns8.htd, rfl, by omega, fun H9 b9 e9 => ?_⟩
      exact hn1 _ _ ⟨_, t5, r5, ns8.put tdl keys b9 e9, by rw [valV_put, if_pos rfl], b9 _ _ h5 (ne_kind h5 ns8.htd (fun z => by cases z)), f5, l5', rfl⟩
    rintro _ H8 ⟨kv8, u, tn, ns8, vu, hu8, ft, tl, rfl⟩
    obtain ⟨as8, hfa8, pas8⟩ := ns8.fat.facts
    have al8 : (as8.map V.ref).length = F.length := by rw [List.length_map]; exact paired_len pas8
    have ok : FOk n st.hd.length ⟨askK, i, (j2 : Int), tn⟩ := ⟨im, fun _ => ⟨⟨by show (0 : Int) ≤ (j2 : Int); omega, by show ((j2 : Int)).toNat < _; omega⟩, ft, tl⟩⟩
    have okA : ∀ c' ∈ F ++ [⟨askK, i, (j2 : Int), tn⟩], FOk n st.hd.length c' := fun c' m' => by
      rcases List.mem_append.mp m' with m' | m'
      · exact me.fok c' m'
      · rw [List.mem_singleton] at m'; rw [m']; exact ok
    have fl' : (F ++ [(⟨askK, i, (j2 : Int), tn⟩ : Fc)]).length ≤ 64 := by rw [List.length_append]; show F.length + 1 ≤ 64; omega
    have nsk : askK ≠ saidK := by decide +kernel
    refine seqK fun kk hk => ?_
    refine ⟨_, rfl, _, rfl, fa, _, rfl, .inl (SqL.of hfa8), ?_⟩
    refine ⟨_, rfl, _, rfl, by show 4 ≤ sizeLine; omega, fun fc H9 nfc g9 hfc => ⟨by show 1 ≤ sizeLine; omega, fun ls H10 nls g10 hls => ⟨fa, ls, _, _, rfl, rfl, g10 _ _ (g9 _ _ hfa8), hls, by rw [al8]; show F.length + 1 ≤ sizeLine; omega, fun ra H11 nra g11 hra => ?_⟩⟩⟩
    have gA := (g9.trans g10).trans g11
    have ns11 := ns8.same gA
    have hu11 := gA _ _ hu8
    have fatR : FAt H11 ra td n (F ++ [⟨askK, i, (j2 : Int), tn⟩]) := ns11.fat.snoc (c := ⟨askK, i, (j2 : Int), tn⟩) (gA _ _ hfa8) (g11 _ _ (g10 _ _ hfc)) hra fun _ => ⟨kv8, u, ns11.htd, vu, hu11⟩
    refine hk _ _ ?_
    clear hk kk
    obtain ⟨dx8, ho8⟩ := ns11.ja.obj
    have oi := me.wf.one n8 im
    have oj := me.wf.one n8 jm
    have pf := prs_few me.wf n8 im jm
    refine seq_mid (fun σ H12 => Same H11 H12 ∧ ∃ p14 p15 : Option V, σ = sgN s1 bp x td fa dl n st.hd.length (cntL F n st.hd.length) (some (.int (k : Int))) (some (.int (i : Int))) (some (.int (j2 : Int))) (some (.ref ra)) p14 p15) (fun nx2 hn2 => ?_) ?_
    · refine ⟨2, rfl, by decide, by decide, for_range (lo := 0) (n := (2 : Int).toNat) (fun _ σ H12 => Same H11 H12 ∧ ∃ p14 p15 : Option V, σ = sgN s1 bp x td fa dl n st.hd.length (cntL F n st.hd.length) (some (.int (k : Int))) (some (.int (i : Int))) (some (.int (j2 : Int))) (some (.ref ra)) p14 p15) ⟨Same.refl _, _, _, rfl⟩ ?_ (fun σ H12 h => hn2 _ _ h)⟩
      rintro k2 σ H12 _ ⟨g12', p14, p15, rfl⟩
      refine nameE ?_
      refine seqK fun kk hk => ?_
      refine ⟨_, rfl, l3.J, dx8, _, by rw [e3J], g12' _ _ ho8, rfl, _, rfl, _, rfl, _, rfl, td, .ref u, rfl, dget_s (g12' _ _ ns11.htd) vu, ?_⟩
      refine ⟨l3, st, n, i, j2, _, _, _, _, _, _, tn, u, by rw [e3J]; rfl, ns11.ja.same g12', oi, oj, g12' _ _ hu11, fun p hp => by rw [tl]; exact prs_in me.wf im (x := p.1) (y := p.2) hp, Nat.le_trans pf (by omega), fun p ns H13 np g13 hp pm pw => hk _ _ ?_⟩
      clear hk kk
      have rm := (tie_cnt (k := askK) me im jm (by omega) ft tl nsk pm pw).2
      have gg13 := g12'.trans g13
      have nlen : ns.length ≤ 1000 := by
        have := nodup_in_len (n := n) (roomL_pw (F ++ [⟨askK, i, (j2 : Int), tn⟩]) n i).2 fun a ha => (roomL_mem.mp ha).1
        rw [← rm] at this
        omega
      refine seqK fun kk hk => ?_
      refine ⟨_, rfl, _, rfl, _, rfl, _, rfl, ra, td, n, st.hd.length, F ++ [⟨askK, i, (j2 : Int), tn⟩], i, rfl, fatR.same gg13, okA, n8, by omega, fl', im, fun p2 H14 np2 g14 hp2 => ?_⟩
      refine ⟨.ref p, .ref p2, .lst (ns.map Dt.int), 3, rfl, rfl, at_lint (g14 _ _ hp) nlen, at_lint (by rw [rm]; exact hp2) nlen, fun H15 g15 => ⟨_, rfl, iteF (nextE (hk _ _ ?_))⟩⟩
      have hp15 := g15 _ _ (g14 _ _ hp)
      refine ⟨_, rfl, .inl ⟨rfl, _, SqL.of hp15⟩, p, _, _, rfl, rfl, hp15, by rw [List.length_map]; omega, fun H16 b16 e16 => ?_⟩
      exact ⟨fun b o e => b16 _ _ (g15 _ _ (g14 _ _ (g13 _ _ (g12' _ _ e)))) (ne_of_none (g12' _ _ e) np), _, _, rfl⟩
    rintro _ H12 ⟨g12', p14, p15, rfl⟩
    have ns12 := ns11.same g12'
    refine ⟨_, rfl, l3.J, dx8, _, by rw [e3J], g12' _ _ ho8, rfl, _, rfl, _, rfl, _, rfl, td, .ref u, rfl, dget_s ns12.htd vu, ?_⟩
    refine ⟨l3, st, n, i, j2, tn, u, by rw [e3J]; rfl, ns12.ja, me.wf, n8, im, jm, g12' _ _ hu11, tl, fun ns H13 g13 pm pw => ?_⟩
    have ct := (tie_cnt (k := askK) me im jm (by omega) ft tl nsk pm pw).1
    refine ⟨_, rfl, _, rfl, _, rfl, (st.hd.length : Int), rfl, fun r' H14 nr' g14 er' => ⟨r', st.hd.length, rfl, er', by omega, fun nl' H15 nnl' g15 hnl' => ?_⟩⟩
    have gg15 := ((g12'.trans g13).trans g14).trans g15
    refine ⟨ra, td, nl', n, st.hd.length, F ++ [⟨askK, i, (j2 : Int), tn⟩], rfl, fatR.same gg15, okA, n8, by omega, fl', hnl_of hnl', fun H16 g16 => ?_⟩
    refine ⟨.int _, .int _, .int (cntL (F ++ [(⟨askK, i, (j2 : Int), tn⟩ : Fc)]) n st.hd.length), 3, rfl, rfl, by rw [ct]; rfl, rfl, fun H17 g17 => ⟨_, rfl, iteF (nextE (hnx _ _ ?_))⟩⟩
    exact ⟨kv8, _, _, _, _, _, _, ns11.same ((gg15.trans g16).trans g17), rfl⟩
  rintro _ H6 ⟨kvs, o10, o11, o12, o13, o14, o15, ns6, rfl⟩
  obtain ⟨dx6, ho6⟩ := ns6.ja.obj
  refine ⟨_, rfl, l3.J, dx6, _, by rw [e3J], ho6, rfl, l3, st, n, by rw [e3J]; rfl, ns6.ja, me.wf.frFew n8, fun H9 g9 => ?_⟩
  exact ⟨_, rfl, .int _, .int _, .int (cntL F n st.hd.length), 3, rfl, rfl, by rw [cnt_deal me]; rfl, rfl, fun H10 g10 => q H10⟩
end
theorem us0 {C : List Value → Prop} (us : List Value) (hl : us.length = 0) (z : C []) : C us := by
  have e := List.eq_nil_of_length_eq_zero hl
  rw [e]
  exact z
theorem usS {C : List Value → Prop} {n : Nat} (us : List Value) (hl : us.length = n + 1) (z : ∀ a r, r.length = n → C (a :: r)) : C us := by
  cases us with
  | nil => cases hl
  | cons a r => exact z a r (Nat.succ.inj hl)
theorem us1 {C : List Value → Prop} (us : List Value) (hl : us.length = 1) (z : ∀ a, C [a]) : C us := usS us hl fun a r h => us0 (C := fun r => C (a :: r)) r h (z a)
theorem us2 {C : List Value → Prop} (us : List Value) (hl : us.length = 2) (z : ∀ a b, C [a, b]) : C us := usS us hl fun a r h => us1 (C := fun r => C (a :: r)) r h (z a)
theorem us3 {C : List Value → Prop} (us : List Value) (hl : us.length = 3) (z : ∀ a b c, C [a, b, c]) : C us := usS us hl fun a r h => us2 (C := fun r => C (a :: r)) r h (z a)
theorem us4 {C : List Value → Prop} (us : List Value) (hl : us.length = 4) (z : ∀ a b c d, C [a, b, c, d]) : C us := usS us hl fun a r h => us3 (C := fun r => C (a :: r)) r h (z a)
theorem all_mk {l : PySem.W.OpenLaw} {w : World} {K : PySem.W.Frag} {h : Heap} {mg : Str → Option Value} {fa : Addr}
    {f1 : Addr} {od1 an1 : Option Addr} {sl1 : Array (Option Value)} {oc1 kV1 dc1 pm1 cd1 ct1 : Value}
    {f2 : Addr} {od2 an2 : Option Addr} {sl2 : Array (Option Value)} {oc2 kV2 dc2 pm2 cd2 ct2 : Value}
    {f3 : Addr} {od3 an3 : Option Addr} {sl3 : Array (Option Value)} {oc3 kV3 dc3 pm3 cd3 ct3 : Value}
    {f4 : Addr} {od4 an4 : Option Addr} {sl4 : Array (Option Value)} {oc4 kV4 dc4 pm4 cd4 ct4 : Value}
    {f5 : Addr} {od5 an5 : Option Addr} {sl5 : Array (Option Value)} {oc5 kV5 dc5 pm5 cd5 ct5 : Value}
    {f6 : Addr} {od6 an6 : Option Addr} {sl6 : Array (Option Value)} {oc6 kV6 dc6 pm6 cd6 ct6 : Value}
    {f7 : Addr} {od7 an7 : Option Addr} {sl7 : Array (Option Value)} {oc7 kV7 dc7 pm7 cd7 ct7 : Value}
    {f8 : Addr} {od8 an8 : Option Addr} {sl8 : Array (Option Value)} {oc8 kV8 dc8 pm8 cd8 ct8 : Value}
    {f9 : Addr} {od9 an9 : Option Addr} {sl9 : Array (Option Value)} {oc9 kV9 dc9 pm9 cd9 ct9 : Value}
    {f10 : Addr} {od10 an10 : Option Addr} {sl10 : Array (Option Value)} {oc10 kV10 dc10 pm10 cd10 ct10 : Value}
    {f11 : Addr} {od11 an11 : Option Addr} {sl11 : Array (Option Value)} {oc11 kV11 dc11 pm11 cd11 ct11 : Value}
    {f12 : Addr} {od12 an12 : Option Addr} {sl12 : Array (Option Value)} {oc12 kV12 dc12 pm12 cd12 ct12 : Value}
    {f13 : Addr} {od13 an13 : Option Addr} {sl13 : Array (Option Value)} {oc13 kV13 dc13 pm13 cd13 ct13 : Value}
    {f14 : Addr} {od14 an14 : Option Addr} {sl14 : Array (Option Value)} {oc14 kV14 dc14 pm14 cd14 ct14 : Value}
    {f15 : Addr} {od15 an15 : Option Addr} {sl15 : Array (Option Value)} {oc15 kV15 dc15 pm15 cd15 ct15 : Value}
    {f16 : Addr} {od16 an16 : Option Addr} {sl16 : Array (Option Value)} {oc16 kV16 dc16 pm16 cd16 ct16 : Value}
    {f17 : Addr} {od17 an17 : Option Addr} {sl17 : Array (Option Value)} {oc17 kV17 dc17 pm17 cd17 ct17 : Value}
    {c_Joins : Addr}
    {f_Joins_init : Addr} {od_Joins_init an_Joins_init : Option Addr} {sl_Joins_init : Array (Option Value)} {oc_Joins_init kV_Joins_init dc_Joins_init pm_Joins_init cd_Joins_init ct_Joins_init : Value}
    {f_Joins_add : Addr} {od_Joins_add an_Joins_add : Option Addr} {sl_Joins_add : Array (Option Value)} {oc_Joins_add kV_Joins_add dc_Joins_add pm_Joins_add cd_Joins_add ct_Joins_add : Value}
    {f_Joins_tie : Addr} {od_Joins_tie an_Joins_tie : Option Addr} {sl_Joins_tie : Array (Option Value)} {oc_Joins_tie kV_Joins_tie dc_Joins_tie pm_Joins_tie cd_Joins_tie ct_Joins_tie : Value}
    {f_Joins_say : Addr} {od_Joins_say an_Joins_say : Option Addr} {sl_Joins_say : Array (Option Value)} {oc_Joins_say kV_Joins_say dc_Joins_say pm_Joins_say cd_Joins_say ct_Joins_say : Value}
    {f_Joins_open_at : Addr} {od_Joins_open_at an_Joins_open_at : Option Addr} {sl_Joins_open_at : Array (Option Value)} {oc_Joins_open_at kV_Joins_open_at dc_Joins_open_at pm_Joins_open_at cd_Joins_open_at ct_Joins_open_at : Value}
    {f_Joins_left : Addr} {od_Joins_left an_Joins_left : Option Addr} {sl_Joins_left : Array (Option Value)} {oc_Joins_left kV_Joins_left dc_Joins_left pm_Joins_left cd_Joins_left ct_Joins_left : Value}
    {f_Joins_together : Addr} {od_Joins_together an_Joins_together : Option Addr} {sl_Joins_together : Array (Option Value)} {oc_Joins_together kV_Joins_together dc_Joins_together pm_Joins_together cd_Joins_together ct_Joins_together : Value}
    {f_Joins_pairs : Addr} {od_Joins_pairs an_Joins_pairs : Option Addr} {sl_Joins_pairs : Array (Option Value)} {oc_Joins_pairs kV_Joins_pairs dc_Joins_pairs pm_Joins_pairs cd_Joins_pairs ct_Joins_pairs : Value}
    {f_Joins_narrow : Addr} {od_Joins_narrow an_Joins_narrow : Option Addr} {sl_Joins_narrow : Array (Option Value)} {oc_Joins_narrow kV_Joins_narrow dc_Joins_narrow pm_Joins_narrow cd_Joins_narrow ct_Joins_narrow : Value}
    {f_Joins_bring_together : Addr} {od_Joins_bring_together an_Joins_bring_together : Option Addr} {sl_Joins_bring_together : Array (Option Value)} {oc_Joins_bring_together kV_Joins_bring_together dc_Joins_bring_together pm_Joins_bring_together cd_Joins_bring_together ct_Joins_bring_together : Value}
    {f_Joins_move : Addr} {od_Joins_move an_Joins_move : Option Addr} {sl_Joins_move : Array (Option Value)} {oc_Joins_move kV_Joins_move dc_Joins_move pm_Joins_move cd_Joins_move ct_Joins_move : Value}
    {f_Joins_dealt : Addr} {od_Joins_dealt an_Joins_dealt : Option Addr} {sl_Joins_dealt : Array (Option Value)} {oc_Joins_dealt kV_Joins_dealt dc_Joins_dealt pm_Joins_dealt cd_Joins_dealt ct_Joins_dealt : Value}
    {f_Joins_dealt_with : Addr} {od_Joins_dealt_with an_Joins_dealt_with : Option Addr} {sl_Joins_dealt_with : Array (Option Value)} {oc_Joins_dealt_with kV_Joins_dealt_with dc_Joins_dealt_with pm_Joins_dealt_with cd_Joins_dealt_with ct_Joins_dealt_with : Value}
    {f_Joins_dealt_beside : Addr} {od_Joins_dealt_beside an_Joins_dealt_beside : Option Addr} {sl_Joins_dealt_beside : Array (Option Value)} {oc_Joins_dealt_beside kV_Joins_dealt_beside dc_Joins_dealt_beside pm_Joins_dealt_beside cd_Joins_dealt_beside ct_Joins_dealt_beside : Value}
    (X : K.In h) (G : h.Ns mainGlobals mg) (hfa : mg "law" = some (.ref fa))
    (a1 : PySem.W.nsIn K mainGlobals "still" = some (some (.ref f1)))
    (l1 : K.lookup f1 = some ⟨oc1, od1, .func (PySem.W.fnOf "still" "still" (defArgs s_still) (defBody s_still) (defScope s_still) .none kV1 dc1 pm1 an1 cd1 ct1), sl1⟩)
    (c1 : PySem.W.codeIn K cd1 "still" = true)
    (k1 : PySem.W.keepIn K (.ref f1) = true)
    (a2 : PySem.W.nsIn K mainGlobals "followed" = some (some (.ref f2)))
    (l2 : K.lookup f2 = some ⟨oc2, od2, .func (PySem.W.fnOf "followed" "followed" (defArgs s_followed) (defBody s_followed) (defScope s_followed) .none kV2 dc2 pm2 an2 cd2 ct2), sl2⟩)
    (c2 : PySem.W.codeIn K cd2 "followed" = true)
    (k2 : PySem.W.keepIn K (.ref f2) = true)
    (a3 : PySem.W.nsIn K mainGlobals "turned_back" = some (some (.ref f3)))
    (l3 : K.lookup f3 = some ⟨oc3, od3, .func (PySem.W.fnOf "turned_back" "turned_back" (defArgs s_turned_back) (defBody s_turned_back) (defScope s_turned_back) .none kV3 dc3 pm3 an3 cd3 ct3), sl3⟩)
    (c3 : PySem.W.codeIn K cd3 "turned_back" = true)
    (k3 : PySem.W.keepIn K (.ref f3) = true)
    (a4 : PySem.W.nsIn K mainGlobals "_law_cell" = some (some (.ref f4)))
    (l4 : K.lookup f4 = some ⟨oc4, od4, .func (PySem.W.fnOf "_law_cell" "_law_cell" (defArgs s_law_cell) (defBody s_law_cell) (defScope s_law_cell) .none kV4 dc4 pm4 an4 cd4 ct4), sl4⟩)
    (c4 : PySem.W.codeIn K cd4 "_law_cell" = true)
    (k4 : PySem.W.keepIn K (.ref f4) = true)
    (a5 : PySem.W.nsIn K mainGlobals "_law_draws" = some (some (.ref f5)))
    (l5 : K.lookup f5 = some ⟨oc5, od5, .func (PySem.W.fnOf "_law_draws" "_law_draws" (defArgs s_law_draws) (defBody s_law_draws) (defScope s_law_draws) .none kV5 dc5 pm5 an5 cd5 ct5), sl5⟩)
    (c5 : PySem.W.codeIn K cd5 "_law_draws" = true)
    (k5 : PySem.W.keepIn K (.ref f5) = true)
    (a6 : PySem.W.nsIn K mainGlobals "_law_turn" = some (some (.ref f6)))
    (l6 : K.lookup f6 = some ⟨oc6, od6, .func (PySem.W.fnOf "_law_turn" "_law_turn" (defArgs s_law_turn) (defBody s_law_turn) (defScope s_law_turn) .none kV6 dc6 pm6 an6 cd6 ct6), sl6⟩)
    (c6 : PySem.W.codeIn K cd6 "_law_turn" = true)
    (k6 : PySem.W.keepIn K (.ref f6) = true)
    (a7 : PySem.W.nsIn K mainGlobals "_law_row" = some (some (.ref f7)))
    (l7 : K.lookup f7 = some ⟨oc7, od7, .func (PySem.W.fnOf "_law_row" "_law_row" (defArgs s_law_row) (defBody s_law_row) (defScope s_law_row) .none kV7 dc7 pm7 an7 cd7 ct7), sl7⟩)
    (c7 : PySem.W.codeIn K cd7 "_law_row" = true)
    (k7 : PySem.W.keepIn K (.ref f7) = true)
    (a8 : PySem.W.nsIn K mainGlobals "_law_inverse" = some (some (.ref f8)))
    (l8 : K.lookup f8 = some ⟨oc8, od8, .func (PySem.W.fnOf "_law_inverse" "_law_inverse" (defArgs s_law_inverse) (defBody s_law_inverse) (defScope s_law_inverse) .none kV8 dc8 pm8 an8 cd8 ct8), sl8⟩)
    (c8 : PySem.W.codeIn K cd8 "_law_inverse" = true)
    (k8 : PySem.W.keepIn K (.ref f8) = true)
    (a9 : PySem.W.nsIn K mainGlobals "_law_same" = some (some (.ref f9)))
    (l9 : K.lookup f9 = some ⟨oc9, od9, .func (PySem.W.fnOf "_law_same" "_law_same" (defArgs s_law_same) (defBody s_law_same) (defScope s_law_same) .none kV9 dc9 pm9 an9 cd9 ct9), sl9⟩)
    (c9 : PySem.W.codeIn K cd9 "_law_same" = true)
    (k9 : PySem.W.keepIn K (.ref f9) = true)
    (a10 : PySem.W.nsIn K mainGlobals "_law_nets" = some (some (.ref f10)))
    (l10 : K.lookup f10 = some ⟨oc10, od10, .func (PySem.W.fnOf "_law_nets" "_law_nets" (defArgs s_law_nets) (defBody s_law_nets) (defScope s_law_nets) .none kV10 dc10 pm10 an10 cd10 ct10), sl10⟩)
    (c10 : PySem.W.codeIn K cd10 "_law_nets" = true)
    (k10 : PySem.W.keepIn K (.ref f10) = true)
    (a11 : PySem.W.nsIn K mainGlobals "_law_carried" = some (some (.ref f11)))
    (l11 : K.lookup f11 = some ⟨oc11, od11, .func (PySem.W.fnOf "_law_carried" "_law_carried" (defArgs s_law_carried) (defBody s_law_carried) (defScope s_law_carried) .none kV11 dc11 pm11 an11 cd11 ct11), sl11⟩)
    (c11 : PySem.W.codeIn K cd11 "_law_carried" = true)
    (k11 : PySem.W.keepIn K (.ref f11) = true)
    (a12 : PySem.W.nsIn K mainGlobals "_law_room" = some (some (.ref f12)))
    (l12 : K.lookup f12 = some ⟨oc12, od12, .func (PySem.W.fnOf "_law_room" "_law_room" (defArgs s_law_room) (defBody s_law_room) (defScope s_law_room) .none kV12 dc12 pm12 an12 cd12 ct12), sl12⟩)
    (c12 : PySem.W.codeIn K cd12 "_law_room" = true)
    (k12 : PySem.W.keepIn K (.ref f12) = true)
    (a13 : PySem.W.nsIn K mainGlobals "_law_good" = some (some (.ref f13)))
    (l13 : K.lookup f13 = some ⟨oc13, od13, .func (PySem.W.fnOf "_law_good" "_law_good" (defArgs s_law_good) (defBody s_law_good) (defScope s_law_good) .none kV13 dc13 pm13 an13 cd13 ct13), sl13⟩)
    (c13 : PySem.W.codeIn K cd13 "_law_good" = true)
    (k13 : PySem.W.keepIn K (.ref f13) = true)
    (a14 : PySem.W.nsIn K mainGlobals "_law_base" = some (some (.ref f14)))
    (l14 : K.lookup f14 = some ⟨oc14, od14, .func (PySem.W.fnOf "_law_base" "_law_base" (defArgs s_law_base) (defBody s_law_base) (defScope s_law_base) .none kV14 dc14 pm14 an14 cd14 ct14), sl14⟩)
    (c14 : PySem.W.codeIn K cd14 "_law_base" = true)
    (k14 : PySem.W.keepIn K (.ref f14) = true)
    (a15 : PySem.W.nsIn K mainGlobals "_law_joined" = some (some (.ref f15)))
    (l15 : K.lookup f15 = some ⟨oc15, od15, .func (PySem.W.fnOf "_law_joined" "_law_joined" (defArgs s_law_joined) (defBody s_law_joined) (defScope s_law_joined) .none kV15 dc15 pm15 an15 cd15 ct15), sl15⟩)
    (c15 : PySem.W.codeIn K cd15 "_law_joined" = true)
    (k15 : PySem.W.keepIn K (.ref f15) = true)
    (a16 : PySem.W.nsIn K mainGlobals "_law_dealt" = some (some (.ref f16)))
    (l16 : K.lookup f16 = some ⟨oc16, od16, .func (PySem.W.fnOf "_law_dealt" "_law_dealt" (defArgs s_law_dealt) (defBody s_law_dealt) (defScope s_law_dealt) .none kV16 dc16 pm16 an16 cd16 ct16), sl16⟩)
    (c16 : PySem.W.codeIn K cd16 "_law_dealt" = true)
    (k16 : PySem.W.keepIn K (.ref f16) = true)
    (a17 : PySem.W.nsIn K mainGlobals "law" = some (some (.ref f17)))
    (l17 : K.lookup f17 = some ⟨oc17, od17, .func (PySem.W.fnOf "law" "law" (defArgs s_law) (defBody s_law) (defScope s_law) .none kV17 dc17 pm17 an17 cd17 ct17), sl17⟩)
    (c17 : PySem.W.codeIn K cd17 "law" = true)
    (k17 : PySem.W.keepIn K (.ref f17) = true)
    (z_len : PySem.W.nsIn K mainGlobals "len" = some none)
    (z_abs : PySem.W.nsIn K mainGlobals "abs" = some none)
    (z_list : PySem.W.nsIn K mainGlobals "list" = some none)
    (z_range : PySem.W.nsIn K mainGlobals "range" = some none)
    (z_tuple : PySem.W.nsIn K mainGlobals "tuple" = some none)
    (z_any : PySem.W.nsIn K mainGlobals "any" = some none)
    (z_all : PySem.W.nsIn K mainGlobals "all" = some none)
    (z_isinstance : PySem.W.nsIn K mainGlobals "isinstance" = some none)
    (z_bool : PySem.W.nsIn K mainGlobals "bool" = some none)
    (z_int : PySem.W.nsIn K mainGlobals "int" = some none)
    (z_str : PySem.W.nsIn K mainGlobals "str" = some none)
    (z_sorted : PySem.W.nsIn K mainGlobals "sorted" = some none)
    (z_min : PySem.W.nsIn K mainGlobals "min" = some none)
    (z_max : PySem.W.nsIn K mainGlobals "max" = some none)
    (z_sum : PySem.W.nsIn K mainGlobals "sum" = some none)
    (z_dict : PySem.W.nsIn K mainGlobals "dict" = some none)
    (z_reversed : PySem.W.nsIn K mainGlobals "reversed" = some none)
    (z_ValueError : PySem.W.nsIn K mainGlobals "ValueError" = some none)
    (ca_Joins : PySem.W.nsIn K mainGlobals "Joins" = some (some (.ref c_Joins)))
    (cb_Joins : PySem.W.makesIn K c_Joins = true)
    (cc_Joins : PySem.W.keepIn K (.ref c_Joins) = true)
    (cd_Joins_ : PySem.W.plainGet K c_Joins Str.empty = true)
    (ce_Joins : PySem.W.hasDictIn K c_Joins = true)
    (cf_Joins_ : PySem.W.plainOver K c_Joins = true)
    (cg_Joins : PySem.W.findIn K (.ref c_Joins) "__setattr__" = some (some (.builtin "object.__setattr__")))
    (nf_Joins_size : PySem.W.findIn K (.ref c_Joins) "size" = some none)
    (nf_Joins_heads : PySem.W.findIn K (.ref c_Joins) "heads" = some none)
    (nf_Joins_leads : PySem.W.findIn K (.ref c_Joins) "leads" = some none)
    (nf_Joins_members : PySem.W.findIn K (.ref c_Joins) "members" = some none)
    (nf_Joins_free : PySem.W.findIn K (.ref c_Joins) "free" = some none)
    (fa_Joins_init : PySem.W.findIn K (.ref c_Joins) "__init__" = some (some (.ref f_Joins_init)))
    (fb_Joins_init : PySem.W.isFn K (.ref f_Joins_init) = true)
    (fl_Joins_init : K.lookup f_Joins_init = some ⟨oc_Joins_init, od_Joins_init, .func (PySem.W.fnOf "__init__" "Joins.__init__" (defArgs s_Joins_init) (defBody s_Joins_init) (defScope s_Joins_init) .none kV_Joins_init dc_Joins_init pm_Joins_init an_Joins_init cd_Joins_init ct_Joins_init), sl_Joins_init⟩)
    (fc_Joins_init : PySem.W.codeIn K cd_Joins_init "Joins.__init__" = true)
    (fk_Joins_init : PySem.W.keepIn K (.ref f_Joins_init) = true)
    (fa_Joins_add : PySem.W.findIn K (.ref c_Joins) "add" = some (some (.ref f_Joins_add)))
    (fb_Joins_add : PySem.W.isFn K (.ref f_Joins_add) = true)
    (fl_Joins_add : K.lookup f_Joins_add = some ⟨oc_Joins_add, od_Joins_add, .func (PySem.W.fnOf "add" "Joins.add" (defArgs s_Joins_add) (defBody s_Joins_add) (defScope s_Joins_add) .none kV_Joins_add dc_Joins_add pm_Joins_add an_Joins_add cd_Joins_add ct_Joins_add), sl_Joins_add⟩)
    (fc_Joins_add : PySem.W.codeIn K cd_Joins_add "Joins.add" = true)
    (fk_Joins_add : PySem.W.keepIn K (.ref f_Joins_add) = true)
    (fa_Joins_tie : PySem.W.findIn K (.ref c_Joins) "tie" = some (some (.ref f_Joins_tie)))
    (fb_Joins_tie : PySem.W.isFn K (.ref f_Joins_tie) = true)
    (fl_Joins_tie : K.lookup f_Joins_tie = some ⟨oc_Joins_tie, od_Joins_tie, .func (PySem.W.fnOf "tie" "Joins.tie" (defArgs s_Joins_tie) (defBody s_Joins_tie) (defScope s_Joins_tie) .none kV_Joins_tie dc_Joins_tie pm_Joins_tie an_Joins_tie cd_Joins_tie ct_Joins_tie), sl_Joins_tie⟩)
    (fc_Joins_tie : PySem.W.codeIn K cd_Joins_tie "Joins.tie" = true)
    (fk_Joins_tie : PySem.W.keepIn K (.ref f_Joins_tie) = true)
    (fa_Joins_say : PySem.W.findIn K (.ref c_Joins) "say" = some (some (.ref f_Joins_say)))
    (fb_Joins_say : PySem.W.isFn K (.ref f_Joins_say) = true)
    (fl_Joins_say : K.lookup f_Joins_say = some ⟨oc_Joins_say, od_Joins_say, .func (PySem.W.fnOf "say" "Joins.say" (defArgs s_Joins_say) (defBody s_Joins_say) (defScope s_Joins_say) .none kV_Joins_say dc_Joins_say pm_Joins_say an_Joins_say cd_Joins_say ct_Joins_say), sl_Joins_say⟩)
    (fc_Joins_say : PySem.W.codeIn K cd_Joins_say "Joins.say" = true)
    (fk_Joins_say : PySem.W.keepIn K (.ref f_Joins_say) = true)
    (fa_Joins_open_at : PySem.W.findIn K (.ref c_Joins) "open_at" = some (some (.ref f_Joins_open_at)))
    (fb_Joins_open_at : PySem.W.isFn K (.ref f_Joins_open_at) = true)
    (fl_Joins_open_at : K.lookup f_Joins_open_at = some ⟨oc_Joins_open_at, od_Joins_open_at, .func (PySem.W.fnOf "open_at" "Joins.open_at" (defArgs s_Joins_open_at) (defBody s_Joins_open_at) (defScope s_Joins_open_at) .none kV_Joins_open_at dc_Joins_open_at pm_Joins_open_at an_Joins_open_at cd_Joins_open_at ct_Joins_open_at), sl_Joins_open_at⟩)
    (fc_Joins_open_at : PySem.W.codeIn K cd_Joins_open_at "Joins.open_at" = true)
    (fk_Joins_open_at : PySem.W.keepIn K (.ref f_Joins_open_at) = true)
    (fa_Joins_left : PySem.W.findIn K (.ref c_Joins) "left" = some (some (.ref f_Joins_left)))
    (fb_Joins_left : PySem.W.isFn K (.ref f_Joins_left) = true)
    (fl_Joins_left : K.lookup f_Joins_left = some ⟨oc_Joins_left, od_Joins_left, .func (PySem.W.fnOf "left" "Joins.left" (defArgs s_Joins_left) (defBody s_Joins_left) (defScope s_Joins_left) .none kV_Joins_left dc_Joins_left pm_Joins_left an_Joins_left cd_Joins_left ct_Joins_left), sl_Joins_left⟩)
    (fc_Joins_left : PySem.W.codeIn K cd_Joins_left "Joins.left" = true)
    (fk_Joins_left : PySem.W.keepIn K (.ref f_Joins_left) = true)
    (fa_Joins_together : PySem.W.findIn K (.ref c_Joins) "together" = some (some (.ref f_Joins_together)))
    (fb_Joins_together : PySem.W.isFn K (.ref f_Joins_together) = true)
    (fl_Joins_together : K.lookup f_Joins_together = some ⟨oc_Joins_together, od_Joins_together, .func (PySem.W.fnOf "together" "Joins.together" (defArgs s_Joins_together) (defBody s_Joins_together) (defScope s_Joins_together) .none kV_Joins_together dc_Joins_together pm_Joins_together an_Joins_together cd_Joins_together ct_Joins_together), sl_Joins_together⟩)
    (fc_Joins_together : PySem.W.codeIn K cd_Joins_together "Joins.together" = true)
    (fk_Joins_together : PySem.W.keepIn K (.ref f_Joins_together) = true)
    (fa_Joins_pairs : PySem.W.findIn K (.ref c_Joins) "pairs" = some (some (.ref f_Joins_pairs)))
    (fb_Joins_pairs : PySem.W.isFn K (.ref f_Joins_pairs) = true)
    (fl_Joins_pairs : K.lookup f_Joins_pairs = some ⟨oc_Joins_pairs, od_Joins_pairs, .func (PySem.W.fnOf "pairs" "Joins.pairs" (defArgs s_Joins_pairs) (defBody s_Joins_pairs) (defScope s_Joins_pairs) .none kV_Joins_pairs dc_Joins_pairs pm_Joins_pairs an_Joins_pairs cd_Joins_pairs ct_Joins_pairs), sl_Joins_pairs⟩)
    (fc_Joins_pairs : PySem.W.codeIn K cd_Joins_pairs "Joins.pairs" = true)
    (fk_Joins_pairs : PySem.W.keepIn K (.ref f_Joins_pairs) = true)
    (fa_Joins_narrow : PySem.W.findIn K (.ref c_Joins) "narrow" = some (some (.ref f_Joins_narrow)))
    (fb_Joins_narrow : PySem.W.isFn K (.ref f_Joins_narrow) = true)
    (fl_Joins_narrow : K.lookup f_Joins_narrow = some ⟨oc_Joins_narrow, od_Joins_narrow, .func (PySem.W.fnOf "narrow" "Joins.narrow" (defArgs s_Joins_narrow) (defBody s_Joins_narrow) (defScope s_Joins_narrow) .none kV_Joins_narrow dc_Joins_narrow pm_Joins_narrow an_Joins_narrow cd_Joins_narrow ct_Joins_narrow), sl_Joins_narrow⟩)
    (fc_Joins_narrow : PySem.W.codeIn K cd_Joins_narrow "Joins.narrow" = true)
    (fk_Joins_narrow : PySem.W.keepIn K (.ref f_Joins_narrow) = true)
    (fa_Joins_bring_together : PySem.W.findIn K (.ref c_Joins) "bring_together" = some (some (.ref f_Joins_bring_together)))
    (fb_Joins_bring_together : PySem.W.isFn K (.ref f_Joins_bring_together) = true)
    (fl_Joins_bring_together : K.lookup f_Joins_bring_together = some ⟨oc_Joins_bring_together, od_Joins_bring_together, .func (PySem.W.fnOf "bring_together" "Joins.bring_together" (defArgs s_Joins_bring_together) (defBody s_Joins_bring_together) (defScope s_Joins_bring_together) .none kV_Joins_bring_together dc_Joins_bring_together pm_Joins_bring_together an_Joins_bring_together cd_Joins_bring_together ct_Joins_bring_together), sl_Joins_bring_together⟩)
    (fc_Joins_bring_together : PySem.W.codeIn K cd_Joins_bring_together "Joins.bring_together" = true)
    (fk_Joins_bring_together : PySem.W.keepIn K (.ref f_Joins_bring_together) = true)
    (fa_Joins_move : PySem.W.findIn K (.ref c_Joins) "move" = some (some (.ref f_Joins_move)))
    (fb_Joins_move : PySem.W.isFn K (.ref f_Joins_move) = true)
    (fl_Joins_move : K.lookup f_Joins_move = some ⟨oc_Joins_move, od_Joins_move, .func (PySem.W.fnOf "move" "Joins.move" (defArgs s_Joins_move) (defBody s_Joins_move) (defScope s_Joins_move) .none kV_Joins_move dc_Joins_move pm_Joins_move an_Joins_move cd_Joins_move ct_Joins_move), sl_Joins_move⟩)
    (fc_Joins_move : PySem.W.codeIn K cd_Joins_move "Joins.move" = true)
    (fk_Joins_move : PySem.W.keepIn K (.ref f_Joins_move) = true)
    (fa_Joins_dealt : PySem.W.findIn K (.ref c_Joins) "dealt" = some (some (.ref f_Joins_dealt)))
    (fb_Joins_dealt : PySem.W.isFn K (.ref f_Joins_dealt) = true)
    (fl_Joins_dealt : K.lookup f_Joins_dealt = some ⟨oc_Joins_dealt, od_Joins_dealt, .func (PySem.W.fnOf "dealt" "Joins.dealt" (defArgs s_Joins_dealt) (defBody s_Joins_dealt) (defScope s_Joins_dealt) .none kV_Joins_dealt dc_Joins_dealt pm_Joins_dealt an_Joins_dealt cd_Joins_dealt ct_Joins_dealt), sl_Joins_dealt⟩)
    (fc_Joins_dealt : PySem.W.codeIn K cd_Joins_dealt "Joins.dealt" = true)
    (fk_Joins_dealt : PySem.W.keepIn K (.ref f_Joins_dealt) = true)
    (fa_Joins_dealt_with : PySem.W.findIn K (.ref c_Joins) "dealt_with" = some (some (.ref f_Joins_dealt_with)))
    (fb_Joins_dealt_with : PySem.W.isFn K (.ref f_Joins_dealt_with) = true)
    (fl_Joins_dealt_with : K.lookup f_Joins_dealt_with = some ⟨oc_Joins_dealt_with, od_Joins_dealt_with, .func (PySem.W.fnOf "dealt_with" "Joins.dealt_with" (defArgs s_Joins_dealt_with) (defBody s_Joins_dealt_with) (defScope s_Joins_dealt_with) .none kV_Joins_dealt_with dc_Joins_dealt_with pm_Joins_dealt_with an_Joins_dealt_with cd_Joins_dealt_with ct_Joins_dealt_with), sl_Joins_dealt_with⟩)
    (fc_Joins_dealt_with : PySem.W.codeIn K cd_Joins_dealt_with "Joins.dealt_with" = true)
    (fk_Joins_dealt_with : PySem.W.keepIn K (.ref f_Joins_dealt_with) = true)
    (fa_Joins_dealt_beside : PySem.W.findIn K (.ref c_Joins) "dealt_beside" = some (some (.ref f_Joins_dealt_beside)))
    (fb_Joins_dealt_beside : PySem.W.isFn K (.ref f_Joins_dealt_beside) = true)
    (fl_Joins_dealt_beside : K.lookup f_Joins_dealt_beside = some ⟨oc_Joins_dealt_beside, od_Joins_dealt_beside, .func (PySem.W.fnOf "dealt_beside" "Joins.dealt_beside" (defArgs s_Joins_dealt_beside) (defBody s_Joins_dealt_beside) (defScope s_Joins_dealt_beside) .none kV_Joins_dealt_beside dc_Joins_dealt_beside pm_Joins_dealt_beside an_Joins_dealt_beside cd_Joins_dealt_beside ct_Joins_dealt_beside), sl_Joins_dealt_beside⟩)
    (fc_Joins_dealt_beside : PySem.W.codeIn K cd_Joins_dealt_beside "Joins.dealt_beside" = true)
    (fk_Joins_dealt_beside : PySem.W.keepIn K (.ref f_Joins_dealt_beside) = true)
    : ∃ fd : FuncData, (∀ (s : Shared) (v : Value), BindsTo s fd ⟨[v], []⟩ [("_law_script", v)]) ∧ ∀ base : Heap, K.In base → base.Ns mainGlobals mg → FnOk l.prog w K mg base (CXe l.prog w) 7 fa fd ["_law_script"] (spLaw K) := by
  have e := hfa.symm.trans (PySem.W.mg_of X G a17)
  cases e
  have F1 := fun_mk (st := s_still) l1 c1 k1
  have b1 := F1.binds (ps := ["size"]) fun _ _ _ _ _ _ us hl => us1 (C := fun us => bindArgs _ ⟨us, []⟩ = pure (List.zip _ us)) us hl fun _ => rfl
  have m1 := PySem.W.mg_of X G a1
  have F2 := fun_mk (st := s_followed) l2 c2 k2
  have b2 := F2.binds (ps := ["first", "then"]) fun _ _ _ _ _ _ us hl => us2 (C := fun us => bindArgs _ ⟨us, []⟩ = pure (List.zip _ us)) us hl fun _ _ => rfl
  have m2 := PySem.W.mg_of X G a2
  have F3 := fun_mk (st := s_turned_back) l3 c3 k3
  have b3 := F3.binds (ps := ["turn"]) fun _ _ _ _ _ _ us hl => us1 (C := fun us => bindArgs _ ⟨us, []⟩ = pure (List.zip _ us)) us hl fun _ => rfl
  have m3 := PySem.W.mg_of X G a3
  have F4 := fun_mk (st := s_law_cell) l4 c4 k4
  have b4 := F4.binds (ps := ["_law_script", "_law_k"]) fun _ _ _ _ _ _ us hl => us2 (C := fun us => bindArgs _ ⟨us, []⟩ = pure (List.zip _ us)) us hl fun _ _ => rfl
  have m4 := PySem.W.mg_of X G a4
  have F5 := fun_mk (st := s_law_draws) l5 c5 k5
  have b5 := F5.binds (ps := ["_law_cell_here", "_law_parts"]) fun _ _ _ _ _ _ us hl => us2 (C := fun us => bindArgs _ ⟨us, []⟩ = pure (List.zip _ us)) us hl fun _ _ => rfl
  have m5 := PySem.W.mg_of X G a5
  have F6 := fun_mk (st := s_law_turn) l6 c6 k6
  have b6 := F6.binds (ps := ["_law_code", "_law_size"]) fun _ _ _ _ _ _ us hl => us2 (C := fun us => bindArgs _ ⟨us, []⟩ = pure (List.zip _ us)) us hl fun _ _ => rfl
  have m6 := PySem.W.mg_of X G a6
  have F7 := fun_mk (st := s_law_row) l7 c7 k7
  have b7 := F7.binds (ps := ["_law_cell_here", "_law_size"]) fun _ _ _ _ _ _ us hl => us2 (C := fun us => bindArgs _ ⟨us, []⟩ = pure (List.zip _ us)) us hl fun _ _ => rfl
  have m7 := PySem.W.mg_of X G a7
  have F8 := fun_mk (st := s_law_inverse) l8 c8 k8
  have b8 := F8.binds (ps := ["_law_turn_here"]) fun _ _ _ _ _ _ us hl => us1 (C := fun us => bindArgs _ ⟨us, []⟩ = pure (List.zip _ us)) us hl fun _ => rfl
  have m8 := PySem.W.mg_of X G a8
  have F9 := fun_mk (st := s_law_same) l9 c9 k9
  have b9 := F9.binds (ps := ["_law_found", "_law_due"]) fun _ _ _ _ _ _ us hl => us2 (C := fun us => bindArgs _ ⟨us, []⟩ = pure (List.zip _ us)) us hl fun _ _ => rfl
  have m9 := PySem.W.mg_of X G a9
  have F10 := fun_mk (st := s_law_nets) l10 c10 k10
  have b10 := F10.binds (ps := ["_law_facts", "_law_turns"]) fun _ _ _ _ _ _ us hl => us2 (C := fun us => bindArgs _ ⟨us, []⟩ = pure (List.zip _ us)) us hl fun _ _ => rfl
  have m10 := PySem.W.mg_of X G a10
  have F11 := fun_mk (st := s_law_carried) l11 c11 k11
  have b11 := F11.binds (ps := ["_law_nets_here", "_law_facts", "_law_name", "_law_section"]) fun _ _ _ _ _ _ us hl => us4 (C := fun us => bindArgs _ ⟨us, []⟩ = pure (List.zip _ us)) us hl fun _ _ _ _ => rfl
  have m11 := PySem.W.mg_of X G a11
  have F12 := fun_mk (st := s_law_room) l12 c12 k12
  have b12 := F12.binds (ps := ["_law_facts", "_law_turns", "_law_name"]) fun _ _ _ _ _ _ us hl => us3 (C := fun us => bindArgs _ ⟨us, []⟩ = pure (List.zip _ us)) us hl fun _ _ _ => rfl
  have m12 := PySem.W.mg_of X G a12
  have F13 := fun_mk (st := s_law_good) l13 c13 k13
  have b13 := F13.binds (ps := ["_law_facts", "_law_turns", "_law_name", "_law_section"]) fun _ _ _ _ _ _ us hl => us4 (C := fun us => bindArgs _ ⟨us, []⟩ = pure (List.zip _ us)) us hl fun _ _ _ _ => rfl
  have m13 := PySem.W.mg_of X G a13
  have F14 := fun_mk (st := s_law_base) l14 c14 k14
  have b14 := F14.binds (ps := ["_law_script", "_law_size"]) fun _ _ _ _ _ _ us hl => us2 (C := fun us => bindArgs _ ⟨us, []⟩ = pure (List.zip _ us)) us hl fun _ _ => rfl
  have m14 := PySem.W.mg_of X G a14
  have F15 := fun_mk (st := s_law_joined) l15 c15 k15
  have b15 := F15.binds (ps := ["_law_made", "_law_cells", "_law_size", "_law_base_here"]) fun _ _ _ _ _ _ us hl => us4 (C := fun us => bindArgs _ ⟨us, []⟩ = pure (List.zip _ us)) us hl fun _ _ _ _ => rfl
  have m15 := PySem.W.mg_of X G a15
  have F16 := fun_mk (st := s_law_dealt) l16 c16 k16
  have b16 := F16.binds (ps := ["_law_facts", "_law_turns", "_law_names"]) fun _ _ _ _ _ _ us hl => us3 (C := fun us => bindArgs _ ⟨us, []⟩ = pure (List.zip _ us)) us hl fun _ _ _ => rfl
  have m16 := PySem.W.mg_of X G a16
  have F17 := fun_mk (st := s_law) l17 c17 k17
  have bl : Bl mg := ⟨PySem.W.mg_none_of X G z_len, PySem.W.mg_none_of X G z_abs, PySem.W.mg_none_of X G z_list, PySem.W.mg_none_of X G z_range, PySem.W.mg_none_of X G z_tuple, PySem.W.mg_none_of X G z_any, PySem.W.mg_none_of X G z_all, PySem.W.mg_none_of X G z_isinstance, PySem.W.mg_none_of X G z_bool, PySem.W.mg_none_of X G z_int, PySem.W.mg_none_of X G z_str, PySem.W.mg_none_of X G z_sorted, PySem.W.mg_none_of X G z_min, PySem.W.mg_none_of X G z_max, PySem.W.mg_none_of X G z_sum, PySem.W.mg_none_of X G z_dict, PySem.W.mg_none_of X G z_reversed, PySem.W.mg_none_of X G z_ValueError⟩
  have m_Joins := PySem.W.mg_of X G ca_Joins
  have k_Joins : Cls K c_Joins := ⟨cd_Joins_, ce_Joins, cf_Joins_, cg_Joins⟩
  have F_Joins_init := fun_mk (st := s_Joins_init) fl_Joins_init fc_Joins_init fk_Joins_init
  have b_Joins_init := F_Joins_init.binds (ps := ["self", "size"]) fun _ _ _ _ _ _ us hl => us2 (C := fun us => bindArgs _ ⟨us, []⟩ = pure (List.zip _ us)) us hl fun _ _ => rfl
  have mk_Joins : Mk K c_Joins f_Joins_init := ⟨cb_Joins, fa_Joins_init, fb_Joins_init, cc_Joins⟩
  have F_Joins_add := fun_mk (st := s_Joins_add) fl_Joins_add fc_Joins_add fk_Joins_add
  have b_Joins_add := F_Joins_add.binds (ps := ["self"]) fun _ _ _ _ _ _ us hl => us1 (C := fun us => bindArgs _ ⟨us, []⟩ = pure (List.zip _ us)) us hl fun _ => rfl
  have mt_Joins_add : Meth K c_Joins "add" f_Joins_add := ⟨fa_Joins_add, fb_Joins_add, fk_Joins_add⟩
  have F_Joins_tie := fun_mk (st := s_Joins_tie) fl_Joins_tie fc_Joins_tie fk_Joins_tie
  have b_Joins_tie := F_Joins_tie.binds (ps := ["self", "one", "other", "turn"]) fun _ _ _ _ _ _ us hl => us4 (C := fun us => bindArgs _ ⟨us, []⟩ = pure (List.zip _ us)) us hl fun _ _ _ _ => rfl
  have mt_Joins_tie : Meth K c_Joins "tie" f_Joins_tie := ⟨fa_Joins_tie, fb_Joins_tie, fk_Joins_tie⟩
  have F_Joins_say := fun_mk (st := s_Joins_say) fl_Joins_say fc_Joins_say fk_Joins_say
  have b_Joins_say := F_Joins_say.binds (ps := ["self", "one", "section"]) fun _ _ _ _ _ _ us hl => us3 (C := fun us => bindArgs _ ⟨us, []⟩ = pure (List.zip _ us)) us hl fun _ _ _ => rfl
  have mt_Joins_say : Meth K c_Joins "say" f_Joins_say := ⟨fa_Joins_say, fb_Joins_say, fk_Joins_say⟩
  have F_Joins_open_at := fun_mk (st := s_Joins_open_at) fl_Joins_open_at fc_Joins_open_at fk_Joins_open_at
  have b_Joins_open_at := F_Joins_open_at.binds (ps := ["self", "one"]) fun _ _ _ _ _ _ us hl => us2 (C := fun us => bindArgs _ ⟨us, []⟩ = pure (List.zip _ us)) us hl fun _ _ => rfl
  have mt_Joins_open_at : Meth K c_Joins "open_at" f_Joins_open_at := ⟨fa_Joins_open_at, fb_Joins_open_at, fk_Joins_open_at⟩
  have F_Joins_left := fun_mk (st := s_Joins_left) fl_Joins_left fc_Joins_left fk_Joins_left
  have b_Joins_left := F_Joins_left.binds (ps := ["self", "one", "other", "turn"]) fun _ _ _ _ _ _ us hl => us4 (C := fun us => bindArgs _ ⟨us, []⟩ = pure (List.zip _ us)) us hl fun _ _ _ _ => rfl
  have mt_Joins_left : Meth K c_Joins "left" f_Joins_left := ⟨fa_Joins_left, fb_Joins_left, fk_Joins_left⟩
  have F_Joins_together := fun_mk (st := s_Joins_together) fl_Joins_together fc_Joins_together fk_Joins_together
  have b_Joins_together := F_Joins_together.binds (ps := ["self", "one", "other"]) fun _ _ _ _ _ _ us hl => us3 (C := fun us => bindArgs _ ⟨us, []⟩ = pure (List.zip _ us)) us hl fun _ _ _ => rfl
  have mt_Joins_together : Meth K c_Joins "together" f_Joins_together := ⟨fa_Joins_together, fb_Joins_together, fk_Joins_together⟩
  have F_Joins_pairs := fun_mk (st := s_Joins_pairs) fl_Joins_pairs fc_Joins_pairs fk_Joins_pairs
  have b_Joins_pairs := F_Joins_pairs.binds (ps := ["self", "one", "other"]) fun _ _ _ _ _ _ us hl => us3 (C := fun us => bindArgs _ ⟨us, []⟩ = pure (List.zip _ us)) us hl fun _ _ _ => rfl
  have mt_Joins_pairs : Meth K c_Joins "pairs" f_Joins_pairs := ⟨fa_Joins_pairs, fb_Joins_pairs, fk_Joins_pairs⟩
  have F_Joins_narrow := fun_mk (st := s_Joins_narrow) fl_Joins_narrow fc_Joins_narrow fk_Joins_narrow
  have b_Joins_narrow := F_Joins_narrow.binds (ps := ["self", "one", "sections"]) fun _ _ _ _ _ _ us hl => us3 (C := fun us => bindArgs _ ⟨us, []⟩ = pure (List.zip _ us)) us hl fun _ _ _ => rfl
  have mt_Joins_narrow : Meth K c_Joins "narrow" f_Joins_narrow := ⟨fa_Joins_narrow, fb_Joins_narrow, fk_Joins_narrow⟩
  have F_Joins_bring_together := fun_mk (st := s_Joins_bring_together) fl_Joins_bring_together fc_Joins_bring_together fk_Joins_bring_together
  have b_Joins_bring_together := F_Joins_bring_together.binds (ps := ["self", "one", "other", "turn"]) fun _ _ _ _ _ _ us hl => us4 (C := fun us => bindArgs _ ⟨us, []⟩ = pure (List.zip _ us)) us hl fun _ _ _ _ => rfl
  have mt_Joins_bring_together : Meth K c_Joins "bring_together" f_Joins_bring_together := ⟨fa_Joins_bring_together, fb_Joins_bring_together, fk_Joins_bring_together⟩
  have F_Joins_move := fun_mk (st := s_Joins_move) fl_Joins_move fc_Joins_move fk_Joins_move
  have b_Joins_move := F_Joins_move.binds (ps := ["self", "mover", "stayer", "turn"]) fun _ _ _ _ _ _ us hl => us4 (C := fun us => bindArgs _ ⟨us, []⟩ = pure (List.zip _ us)) us hl fun _ _ _ _ => rfl
  have mt_Joins_move : Meth K c_Joins "move" f_Joins_move := ⟨fa_Joins_move, fb_Joins_move, fk_Joins_move⟩
  have F_Joins_dealt := fun_mk (st := s_Joins_dealt) fl_Joins_dealt fc_Joins_dealt fk_Joins_dealt
  have b_Joins_dealt := F_Joins_dealt.binds (ps := ["self"]) fun _ _ _ _ _ _ us hl => us1 (C := fun us => bindArgs _ ⟨us, []⟩ = pure (List.zip _ us)) us hl fun _ => rfl
  have mt_Joins_dealt : Meth K c_Joins "dealt" f_Joins_dealt := ⟨fa_Joins_dealt, fb_Joins_dealt, fk_Joins_dealt⟩
  have F_Joins_dealt_with := fun_mk (st := s_Joins_dealt_with) fl_Joins_dealt_with fc_Joins_dealt_with fk_Joins_dealt_with
  have b_Joins_dealt_with := F_Joins_dealt_with.binds (ps := ["self", "one", "other", "turn"]) fun _ _ _ _ _ _ us hl => us4 (C := fun us => bindArgs _ ⟨us, []⟩ = pure (List.zip _ us)) us hl fun _ _ _ _ => rfl
  have mt_Joins_dealt_with : Meth K c_Joins "dealt_with" f_Joins_dealt_with := ⟨fa_Joins_dealt_with, fb_Joins_dealt_with, fk_Joins_dealt_with⟩
  have F_Joins_dealt_beside := fun_mk (st := s_Joins_dealt_beside) fl_Joins_dealt_beside fc_Joins_dealt_beside fk_Joins_dealt_beside
  have b_Joins_dealt_beside := F_Joins_dealt_beside.binds (ps := ["self", "heads"]) fun _ _ _ _ _ _ us hl => us2 (C := fun us => bindArgs _ ⟨us, []⟩ = pure (List.zip _ us)) us hl fun _ _ => rfl
  have mt_Joins_dealt_beside : Meth K c_Joins "dealt_beside" f_Joins_dealt_beside := ⟨fa_Joins_dealt_beside, fb_Joins_dealt_beside, fk_Joins_dealt_beside⟩
  refine ⟨PySem.W.fnOf "law" "law" (defArgs s_law) (defBody s_law) (defScope s_law) .none kV17 dc17 pm17 an17 cd17 ct17, fun s v => .of_eq rfl, fun base _ _ => ?_⟩
  have h_still : HasFn l.prog w K mg base 1 "still" ["size"] spStill := ⟨_, _, ok_still F1 bl, b1, k1, m1⟩
  have h_followed : HasFn l.prog w K mg base 1 "followed" ["first", "then"] (spFol K) := ⟨_, _, ok_followed F2 bl, b2, k2, m2⟩
  have h_turned_back : HasFn l.prog w K mg base 1 "turned_back" ["turn"] spTb := ⟨_, _, ok_turned_back F3 bl, b3, k3, m3⟩
  have jc : JoinsC K c_Joins := ⟨k_Joins, nf_Joins_size, nf_Joins_heads, nf_Joins_leads, nf_Joins_members, nf_Joins_free⟩
  have h_Joins : HasMk l.prog w K mg base 1 "Joins" c_Joins ["self", "size"] (spJInit c_Joins) := ⟨_, _, mk_Joins, ok_jinit F_Joins_init jc bl, b_Joins_init, m_Joins⟩
  have h_Joins_together : HasMt l.prog w K mg base 1 "together" c_Joins ["self", "one", "other"] (spTogether c_Joins) := ⟨_, _, k_Joins, mt_Joins_together, ok_together F_Joins_together jc bl, b_Joins_together⟩
  have h_Joins_open_at : HasMt l.prog w K mg base 2 "open_at" c_Joins ["self", "one"] (spOpenAt c_Joins) := ⟨_, _, k_Joins, mt_Joins_open_at, ok_open_at F_Joins_open_at jc bl, b_Joins_open_at⟩
  have h_Joins_add : HasMt l.prog w K mg base 2 "add" c_Joins ["self"] (spAdd c_Joins) := ⟨_, _, k_Joins, mt_Joins_add, ok_add F_Joins_add jc h_still bl, b_Joins_add⟩
  have h_Joins_narrow : HasMt l.prog w K mg base 2 "narrow" c_Joins ["self", "one", "sections"] (spNarrow K c_Joins) := ⟨_, _, k_Joins, mt_Joins_narrow, ok_narrow F_Joins_narrow jc bl, b_Joins_narrow⟩
  have h_Joins_say : HasMt l.prog w K mg base 3 "say" c_Joins ["self", "one", "section"] (spSay c_Joins) := ⟨_, _, k_Joins, mt_Joins_say, ok_say F_Joins_say h_Joins_open_at h_Joins_narrow bl, b_Joins_say⟩
  have h_Joins_move : HasMt l.prog w K mg base 2 "move" c_Joins ["self", "mover", "stayer", "turn"] (spMove c_Joins) := ⟨_, _, k_Joins, mt_Joins_move, ok_move F_Joins_move jc h_followed h_turned_back bl, b_Joins_move⟩
  have h_Joins_bring_together : HasMt l.prog w K mg base 3 "bring_together" c_Joins ["self", "one", "other", "turn"] (spBring c_Joins) := ⟨_, _, k_Joins, mt_Joins_bring_together, ok_bring F_Joins_bring_together jc h_turned_back h_Joins_move bl, b_Joins_bring_together⟩
  have h_Joins_pairs : HasMt l.prog w K mg base 3 "pairs" c_Joins ["self", "one", "other"] (spPairs c_Joins) := ⟨_, _, k_Joins, mt_Joins_pairs, ok_pairs F_Joins_pairs jc h_Joins_together h_Joins_open_at bl, b_Joins_pairs⟩
  have h_Joins_left : HasMt l.prog w K mg base 4 "left" c_Joins ["self", "one", "other", "turn"] (spLeft c_Joins) := ⟨_, _, k_Joins, mt_Joins_left, ok_left F_Joins_left h_Joins_pairs bl, b_Joins_left⟩
  have h_Joins_tie : HasMt l.prog w K mg base 5 "tie" c_Joins ["self", "one", "other", "turn"] (spTie c_Joins) := ⟨_, _, k_Joins, mt_Joins_tie, ok_tie F_Joins_tie jc h_Joins_left h_Joins_together h_Joins_bring_together h_Joins_narrow bl, b_Joins_tie⟩
  have h_law_cell : HasFn l.prog w K mg base 1 "_law_cell" ["_law_script", "_law_k"] (spCell K) := ⟨_, _, ok_cell F4 bl.n_len, b4, k4, m4⟩
  have h_law_draws : HasFn l.prog w K mg base 1 "_law_draws" ["_law_cell_here", "_law_parts"] (spDraws K) := ⟨_, _, ok_draws F5 bl.n_abs, b5, k5, m5⟩
  have h_law_turn : HasFn l.prog w K mg base 1 "_law_turn" ["_law_code", "_law_size"] spTurn := ⟨_, _, ok_turn F6 bl.n_list bl.n_range bl.n_tuple, b6, k6, m6⟩
  have h_law_same : HasFn l.prog w K mg base 4 "_law_same" ["_law_found", "_law_due"] (spSame 4) := ⟨_, _, ok_same F9 b9 k9 m9 bl 4, b9, k9, m9⟩
  have h_law_row : HasFn l.prog w K mg base 2 "_law_row" ["_law_cell_here", "_law_size"] spRow := ⟨_, _, ok_law_row F7 h_law_draws h_law_turn bl, b7, k7, m7⟩
  have h_law_inverse : HasFn l.prog w K mg base 1 "_law_inverse" ["_law_turn_here"] spInv := ⟨_, _, ok_inverse F8 bl, b8, k8, m8⟩
  have h_law_nets : HasFn l.prog w K mg base 2 "_law_nets" ["_law_facts", "_law_turns"] spNets := ⟨_, _, ok_nets F10 h_law_inverse bl, b10, k10, m10⟩
  have h_law_carried : HasFn l.prog w K mg base 1 "_law_carried" ["_law_nets_here", "_law_facts", "_law_name", "_law_section"] spCarried := ⟨_, _, ok_carried F11 bl, b11, k11, m11⟩
  have h_law_room : HasFn l.prog w K mg base 3 "_law_room" ["_law_facts", "_law_turns", "_law_name"] spRoom := ⟨_, _, ok_room F12 h_law_nets h_law_carried bl, b12, k12, m12⟩
  have h_law_base : HasFn l.prog w K mg base 3 "_law_base" ["_law_script", "_law_size"] (spBase K) := ⟨_, _, ok_base F14 h_law_cell h_law_row h_law_inverse bl, b14, k14, m14⟩
  have h_law_joined : HasFn l.prog w K mg base 6 "_law_joined" ["_law_made", "_law_cells", "_law_size", "_law_base_here"] (spJoined c_Joins) := ⟨_, _, ok_joined F15 h_law_draws h_law_turn h_law_same h_law_room h_Joins_add h_Joins_tie h_Joins_say h_Joins_open_at bl, b15, k15, m15⟩
  have h_Joins_dealt_beside : HasMt l.prog w K mg base 1 "dealt_beside" c_Joins ["self", "heads"] (spDealtB c_Joins) := ⟨_, _, k_Joins, mt_Joins_dealt_beside, ok_dealt_beside F_Joins_dealt_beside jc bl, b_Joins_dealt_beside⟩
  have h_Joins_dealt : HasMt l.prog w K mg base 2 "dealt" c_Joins ["self"] (spDealt c_Joins) := ⟨_, _, k_Joins, mt_Joins_dealt, ok_dealt F_Joins_dealt h_Joins_dealt_beside bl, b_Joins_dealt⟩
  have h_Joins_dealt_with : HasMt l.prog w K mg base 5 "dealt_with" c_Joins ["self", "one", "other", "turn"] (spDealtW c_Joins) := ⟨_, _, k_Joins, mt_Joins_dealt_with, ok_dealt_with F_Joins_dealt_with jc h_Joins_left h_Joins_dealt_beside bl, b_Joins_dealt_with⟩
  have h_law_good : HasFn l.prog w K mg base 3 "_law_good" ["_law_facts", "_law_turns", "_law_name", "_law_section"] spGood := ⟨_, _, ok_good F13 h_law_nets h_law_carried bl, b13, k13, m13⟩
  have h_law_dealt : HasFn l.prog w K mg base 4 "_law_dealt" ["_law_facts", "_law_turns", "_law_names"] spDealtL := ⟨_, _, ok_dealtL F16 h_law_room h_law_good bl, b16, k16, m16⟩
  exact ok_law F17 h_law_cell h_law_draws h_law_turn h_law_base h_law_joined h_law_same h_law_room h_law_dealt h_Joins h_Joins_left h_Joins_dealt h_Joins_dealt_with bl
theorem walk {l : PySem.W.OpenLaw} {q : Program} {loose : List Str} {XP : (Str → Option Value) → Heap → Prop} {YP : World → Heap → Prop} {d : DefRec} {K : Params → PySem.W.Frag} (hn : l.most = some 63) (hdf : d.params.defaults = [])
    (hY : ∀ (w : World) (h : Heap), YP w h → (K w.params).In h)
    (F : ∀ (w : World) (mg : Str → Option Value) (fa : Addr) (h : Heap), (K w.params).In h → h.Ns mainGlobals mg → mg d.name = some (.ref fa) →
      ∃ fd : FuncData, (∀ (s : Shared) (u : Value), BindsTo s fd ⟨[u], []⟩ [("_law_script", u)]) ∧ ∀ base : Heap, (K w.params).In base → base.Ns mainGlobals mg → FnOk l.prog w (K w.params) mg base (CXe l.prog w) 7 fa fd ["_law_script"] (spLaw (K w.params))) :
    PySem.W.WalkO q loose XP YP l.row.toRowW d [] (fun f vs => PySem.call f vs) :=
  L2.walk_of (n := 63) (k := 7) (x := "_law_script") (CX := fun w => CXe l.prog w) (sp := fun w => spLaw (K w.params)) hn (by decide) hdf ⟨rfl, by decide, by decide, rfl⟩ hY F (fun _ _ a ns hl _ hS => ⟨a, ns, rfl, hS, hl, fun _ => rfl⟩) fun _ _ _ _ _ h => by obtain ⟨_, _, _, _, _, _, _, _, _, _, _, _, _, _, z⟩ := h; exact z
end K19
open PySem PySem.W PyProof.Rows
set_option maxRecDepth 100000 in
set_option maxHeartbeats 0 in
theorem PySem.Challenge.cw_kinhearth_k19_dealings_counted_holds : PySem.Challenge.rw_kinhearth_k19_dealings_counted.Holds := by
  w_on; o_law; k_head; (case hw => w_witness2)
  k_fill
  refine K19.walk (l := PySem.Challenge.rw_kinhearth_k19_dealings_counted) rfl rfl (fun w h Y => PySem.W.kIn_of Y) ?F
  case F =>
    intro w mg fa h KX G hmg
    refine' K19.all_mk KX G hmg ?a1 ?l1 ?c1 ?k1 ?a2 ?l2 ?c2 ?k2 ?a3 ?l3 ?c3 ?k3 ?a4 ?l4 ?c4 ?k4 ?a5 ?l5 ?c5 ?k5 ?a6 ?l6 ?c6 ?k6 ?a7 ?l7 ?c7 ?k7 ?a8 ?l8 ?c8 ?k8 ?a9 ?l9 ?c9 ?k9 ?a10 ?l10 ?c10 ?k10 ?a11 ?l11 ?c11 ?k11 ?a12 ?l12 ?c12 ?k12 ?a13 ?l13 ?c13 ?k13 ?a14 ?l14 ?c14 ?k14 ?a15 ?l15 ?c15 ?k15 ?a16 ?l16 ?c16 ?k16 ?a17 ?l17 ?c17 ?k17 ?z_len ?z_abs ?z_list ?z_range ?z_tuple ?z_any ?z_all ?z_isinstance ?z_bool ?z_int ?z_str ?z_sorted ?z_min ?z_max ?z_sum ?z_dict ?z_reversed ?z_ValueError ?ca_Joins ?cb_Joins ?cc_Joins ?cd_Joins_ ?ce_Joins ?cf_Joins_ ?cg_Joins ?nf_Joins_size ?nf_Joins_heads ?nf_Joins_leads ?nf_Joins_members ?nf_Joins_free ?fa_Joins_init ?fb_Joins_init ?fl_Joins_init ?fc_Joins_init ?fk_Joins_init ?fa_Joins_add ?fb_Joins_add ?fl_Joins_add ?fc_Joins_add ?fk_Joins_add ?fa_Joins_tie ?fb_Joins_tie ?fl_Joins_tie ?fc_Joins_tie ?fk_Joins_tie ?fa_Joins_say ?fb_Joins_say ?fl_Joins_say ?fc_Joins_say ?fk_Joins_say ?fa_Joins_open_at ?fb_Joins_open_at ?fl_Joins_open_at ?fc_Joins_open_at ?fk_Joins_open_at ?fa_Joins_left ?fb_Joins_left ?fl_Joins_left ?fc_Joins_left ?fk_Joins_left ?fa_Joins_together ?fb_Joins_together ?fl_Joins_together ?fc_Joins_together ?fk_Joins_together ?fa_Joins_pairs ?fb_Joins_pairs ?fl_Joins_pairs ?fc_Joins_pairs ?fk_Joins_pairs ?fa_Joins_narrow ?fb_Joins_narrow ?fl_Joins_narrow ?fc_Joins_narrow ?fk_Joins_narrow ?fa_Joins_bring_together ?fb_Joins_bring_together ?fl_Joins_bring_together ?fc_Joins_bring_together ?fk_Joins_bring_together ?fa_Joins_move ?fb_Joins_move ?fl_Joins_move ?fc_Joins_move ?fk_Joins_move ?fa_Joins_dealt ?fb_Joins_dealt ?fl_Joins_dealt ?fc_Joins_dealt ?fk_Joins_dealt ?fa_Joins_dealt_with ?fb_Joins_dealt_with ?fl_Joins_dealt_with ?fc_Joins_dealt_with ?fk_Joins_dealt_with ?fa_Joins_dealt_beside ?fb_Joins_dealt_beside ?fl_Joins_dealt_beside ?fc_Joins_dealt_beside ?fk_Joins_dealt_beside
    (case a1 => k_is)
    (case l1 => k_is)
    (case c1 => k_is)
    (case k1 => k_is)
    (case a2 => k_is)
    (case l2 => k_is)
    (case c2 => k_is)
    (case k2 => k_is)
    (case a3 => k_is)
    (case l3 => k_is)
    (case c3 => k_is)
    (case k3 => k_is)
    (case a4 => k_is)
    (case l4 => k_is)
    (case c4 => k_is)
    (case k4 => k_is)
    (case a5 => k_is)
    (case l5 => k_is)
    (case c5 => k_is)
    (case k5 => k_is)
    (case a6 => k_is)
    (case l6 => k_is)
    (case c6 => k_is)
    (case k6 => k_is)
    (case a7 => k_is)
    (case l7 => k_is)
    (case c7 => k_is)
    (case k7 => k_is)
    (case a8 => k_is)
    (case l8 => k_is)
    (case c8 => k_is)
    (case k8 => k_is)
    (case a9 => k_is)
    (case l9 => k_is)
    (case c9 => k_is)
    (case k9 => k_is)
    (case a10 => k_is)
    (case l10 => k_is)
    (case c10 => k_is)
    (case k10 => k_is)
    (case a11 => k_is)
    (case l11 => k_is)
    (case c11 => k_is)
    (case k11 => k_is)
    (case a12 => k_is)
    (case l12 => k_is)
    (case c12 => k_is)
    (case k12 => k_is)
    (case a13 => k_is)
    (case l13 => k_is)
    (case c13 => k_is)
    (case k13 => k_is)
    (case a14 => k_is)
    (case l14 => k_is)
    (case c14 => k_is)
    (case k14 => k_is)
    (case a15 => k_is)
    (case l15 => k_is)
    (case c15 => k_is)
    (case k15 => k_is)
    (case a16 => k_is)
    (case l16 => k_is)
    (case c16 => k_is)
    (case k16 => k_is)
    (case a17 => k_is)
    (case l17 => k_is)
    (case c17 => k_is)
    (case k17 => k_is)
    (case z_len => k_is)
    (case z_abs => k_is)
    (case z_list => k_is)
    (case z_range => k_is)
    (case z_tuple => k_is)
    (case z_any => k_is)
    (case z_all => k_is)
    (case z_isinstance => k_is)
    (case z_bool => k_is)
    (case z_int => k_is)
    (case z_str => k_is)
    (case z_sorted => k_is)
    (case z_min => k_is)
    (case z_max => k_is)
    (case z_sum => k_is)
    (case z_dict => k_is)
    (case z_reversed => k_is)
    (case z_ValueError => k_is)
    (case ca_Joins => k_is)
    (case cb_Joins => k_is)
    (case cc_Joins => k_is)
    (case cd_Joins_ => k_is)
    (case ce_Joins => k_is)
    (case cf_Joins_ => k_is)
    (case cg_Joins => k_is)
    (case nf_Joins_size => k_is)
    (case nf_Joins_heads => k_is)
    (case nf_Joins_leads => k_is)
    (case nf_Joins_members => k_is)
    (case nf_Joins_free => k_is)
    (case fa_Joins_init => k_is)
    (case fb_Joins_init => k_is)
    (case fl_Joins_init => k_is)
    (case fc_Joins_init => k_is)
    (case fk_Joins_init => k_is)
    (case fa_Joins_add => k_is)
    (case fb_Joins_add => k_is)
    (case fl_Joins_add => k_is)
    (case fc_Joins_add => k_is)
    (case fk_Joins_add => k_is)
    (case fa_Joins_tie => k_is)
    (case fb_Joins_tie => k_is)
    (case fl_Joins_tie => k_is)
    (case fc_Joins_tie => k_is)
    (case fk_Joins_tie => k_is)
    (case fa_Joins_say => k_is)
    (case fb_Joins_say => k_is)
    (case fl_Joins_say => k_is)
    (case fc_Joins_say => k_is)
    (case fk_Joins_say => k_is)
    (case fa_Joins_open_at => k_is)
    (case fb_Joins_open_at => k_is)
    (case fl_Joins_open_at => k_is)
    (case fc_Joins_open_at => k_is)
    (case fk_Joins_open_at => k_is)
    (case fa_Joins_left => k_is)
    (case fb_Joins_left => k_is)
    (case fl_Joins_left => k_is)
    (case fc_Joins_left => k_is)
    (case fk_Joins_left => k_is)
    (case fa_Joins_together => k_is)
    (case fb_Joins_together => k_is)
    (case fl_Joins_together => k_is)
    (case fc_Joins_together => k_is)
    (case fk_Joins_together => k_is)
    (case fa_Joins_pairs => k_is)
    (case fb_Joins_pairs => k_is)
    (case fl_Joins_pairs => k_is)
    (case fc_Joins_pairs => k_is)
    (case fk_Joins_pairs => k_is)
    (case fa_Joins_narrow => k_is)
    (case fb_Joins_narrow => k_is)
    (case fl_Joins_narrow => k_is)
    (case fc_Joins_narrow => k_is)
    (case fk_Joins_narrow => k_is)
    (case fa_Joins_bring_together => k_is)
    (case fb_Joins_bring_together => k_is)
    (case fl_Joins_bring_together => k_is)
    (case fc_Joins_bring_together => k_is)
    (case fk_Joins_bring_together => k_is)
    (case fa_Joins_move => k_is)
    (case fb_Joins_move => k_is)
    (case fl_Joins_move => k_is)
    (case fc_Joins_move => k_is)
    (case fk_Joins_move => k_is)
    (case fa_Joins_dealt => k_is)
    (case fb_Joins_dealt => k_is)
    (case fl_Joins_dealt => k_is)
    (case fc_Joins_dealt => k_is)
    (case fk_Joins_dealt => k_is)
    (case fa_Joins_dealt_with => k_is)
    (case fb_Joins_dealt_with => k_is)
    (case fl_Joins_dealt_with => k_is)
    (case fc_Joins_dealt_with => k_is)
    (case fk_Joins_dealt_with => k_is)
    (case fa_Joins_dealt_beside => k_is)
    (case fb_Joins_dealt_beside => k_is)
    (case fl_Joins_dealt_beside => k_is)
    (case fc_Joins_dealt_beside => k_is)
    (case fk_Joins_dealt_beside => k_is)
